/-
 More of the theory.
-/
import Derived.Test.YtjlokngooekbcaaGreatP21cT
set_option linter.unusedVariables false
set_option linter.unusedSimpArgs false
set_option linter.unusedSectionVars false
namespace Go.Sh
theorem a58(x:Hp)(h:Int):(C2 x h).Roots=x.Roots∧(C2 x h).a8=x.a8∧(C2 x h).T=x.T∧(C2 x h).Q=x.Q:=by
 rw[b2w];exact⟨rfl,rfl,rfl,rfl⟩
theorem a3y{x:Hp}(hR:SR x.S)(h:Int):SR (C2 x h).S:=(F7 hR h λc=>D5).sr
section
variable{x:Hp}(hx:M3 x)(hS:∀k∈lv x.S,(ob x.S k).Strong≤9223372036854775807)
include hx hS
theorem b04{h:Int}(hh:h=0∨h∈lv x.S):h≤9223372036854775807:=by
 rcases hh with q | q
 ·omega
 ·have:=G8 hx.sh.sr q;omega
theorem c3O(k:Int){h:Int}(hh:h≤9223372036854775807):a0x x k h=some (if k<0∨5<k then (x,6) else if h=0∨h∈lv x.S then (F6 x k.toNat h,0) else (x,3)):=by
 have hR:=hx.sh.sr;have r6:=hx.sh.r6;unfold a0x;by_cases hk:k<0∨5<k
 ·rw[if_pos hk,if_pos (by rw[r6];simp;omega)]
 ·rw[if_neg hk,if_neg (by rw[r6];simp;omega),a2A hR hh,d6X]
  by_cases hn:h=0∨h∈lv x.S
  ·rw[if_pos hn,decide_eq_true hn,if_neg (by simp)]
   obtain⟨n,rfl⟩:∃n:Nat,k=n:=⟨k.toNat,by omega⟩
   have hn6:n<6:=by omega
   have hnl:n<x.Roots.length:=by omega
   have old:x.Roots[n]≤9223372036854775807:=b04 hx hS (hx.sh.rt _ (List.getElem_mem hnl));have e1:=a58 x h;have hn2:n<(C2 x h).Roots.length:=by rw[e1.1];exact hnl
   rw[o7 hnl,d6X];unfold E7 O9 L9;rw[a56 hR hh hS,d6X];dsimp only;rw[K4 (by omega) (by rw[e1.1];omega),d6X,o7 hn2,d6X,d6X]
   have hrel:=a2F (x:=wR (C2 x h) (x.Roots.set n h)) (a3y hR h) old;rw[Int.toNat_natCast,e1.1,show C4 ⟨(C2 x h).S,x.Roots.set n h,(C2 x h).a8,(C2 x h).T,(C2 x h).Q⟩ x.Roots[n]=_ from hrel];unfold F6;rw[List.getD_eq_getElem?_getD,List.getElem?_eq_getElem hnl];rfl
  ·rw[if_neg hn,decide_eq_false hn,if_pos (by simp)]
theorem c18(k:Int){h:Int}(hh:h≤9223372036854775807):X4 (hO x) k h=some (if k<0∨5<k then (hO x,6) else if h=0∨h∈lv x.S then (hO (F6 x k.toNat h),0) else (hO x,3)):=by
 have hR:=hx.sh.sr;have r6:=hx.sh.r6;unfold X4;by_cases hk:k<0∨5<k
 ·rw[if_pos hk,if_pos (by simp;omega)]
 ·rw[if_neg hk,if_neg (by simp;omega),b07 hR hh,d6X]
  by_cases hn:h=0∨h∈lv x.S
  ·rw[if_pos hn,decide_eq_true hn,if_neg (by simp)]
   obtain⟨n,rfl⟩:∃n:Nat,k=n:=⟨k.toNat,by omega⟩
   have hnl:n<x.Roots.length:=by omega
   have hnl':n<(hO x).Roots.length:=hnl;have old:x.Roots[n]≤9223372036854775807:=b04 hx hS (hx.sh.rt _ (List.getElem_mem hnl));have e1:=a58 x h;have r6':(hO x).Roots.length=6:=r6;rw[o7 hnl',d6X,a8y hR hh hS,d6X,K4 (by omega) (by rw[r6'];omega),d6X,o7 hnl',d6X]
   have hrel:=a36 (x:=wR (C2 x h) (x.Roots.set n h)) (a3y hR h) old;rw[Int.toNat_natCast];rw[show F0 ⟨(hO (C2 x h)).S,(hO x).Roots.set n h,(hO (C2 x h)).a8,(hO (C2 x h)).T,(hO (C2 x h)).Q⟩ (hO x).Roots[n]=_ from hrel];unfold F6;rw[List.getD_eq_getElem?_getD,List.getElem?_eq_getElem hnl];rfl
  ·rw[if_neg hn,decide_eq_false hn,if_pos (by simp)]
omit hx hS in
theorem d4o {l:List Int} {n:Nat} (hn:n<l.length):b2H l n=some (l[n],0)∧b4W l n=some (l[n],0):=by
 constructor
 ·unfold b2H a7k;rw[d6X,if_neg (by simp;omega),o7 hn,d6X]
 ·unfold b4W;rw[if_neg (by simp;omega),o7 hn,d6X]
omit hx hS in
theorem d0P {l:List Int} {k:Int} (hk:¬(0≤k∧k<l.length)):b2H l k=some (0,5)∧b4W l k=some (0,5):=by
 constructor
 ·unfold b2H a7k;rw[d6X,if_pos (by simp;omega)]
 ·unfold b4W;rw[if_pos (by simp;omega)]
theorem b2K(h k:Int)(hh:h≤9223372036854775807):(∃e,e≠0∧a0p x.S h k=some (0,e)∧a34 (sO x.S) h k=some (0,e)) ∨
  (h∈lv x.S∧∃n:Nat,k=n∧∃hn:n<(ob x.S h).Fields.length,a0p x.S h k=some ((ob x.S h).Fields[n],0)∧a34 (sO x.S) h k=some ((ob x.S h).Fields[n],0)):=by
 have hR:=hx.sh.sr;obtain⟨e,h1,h2⟩:=R6 (u4.2 hR) hh;have hg:E5 (sO x.S) h=some (oo (ob x.S h),e):=by
  rw[a5G x.S (by have:=hR.len;omega) hh,h1]
  rfl
 unfold a0p a34;rw[h1,d6X,hg,d6X];by_cases q:h∈lv x.S
 ·have:=h2.2 q;subst this;rw[if_neg (by simp),if_neg (by simp),show (oo (ob x.S h),(0:Int)).1.Fields=(ob x.S h).Fields from rfl]
  by_cases hk:0≤k∧k<(ob x.S h).Fields.length
  ·right;obtain⟨n,rfl⟩:∃n:Nat,k=n:=⟨k.toNat,by omega⟩
   have hn:n<(ob x.S h).Fields.length:=by omega
   refine⟨q,n,rfl,hn,?_,?_⟩
   ·rw[(d4o hn).1];rfl
   ·rw[(d4o hn).2];rfl
  ·left;refine⟨5,by decide,?_,?_⟩
   ·rw[(d0P hk).1];rfl
   ·rw[(d0P hk).2];rfl
 ·left;have he:(e != 0)=true:=by simpa using λc=>q (h2.1 c)
  refine⟨e,by simpa using he,?_,?_⟩
  ·simp only[he,if_true]
  ·simp only[he,if_true]
theorem c7u{s:a7}(hR:SR s){h:Int}(hh:h∈lv s){n:Nat}(hn:n<(ob s h).Fields.length)(v:Int) :
  a9i s h n v=some (seO s h (flg (ob s h) ((ob s h).Fields.set n v)),0)∧b77 (sO s) h n v=some (sO (seO s h (flg (ob s h) ((ob s h).Fields.set n v))),0):=by
 have ok:=J5 hR hh;have hf:=ok.fl;have hle:=G8 hR hh;have ho:OkO s (flg (ob s h) ((ob s h).Fields.set n v)):=⟨ok.s1,ok.s2,ok.st,ok.wk,ok.p1,ok.p2,by simpa using hf⟩
 have h1:=b1C (o:=flg (ob s h) ((ob s h).Fields.set n v)) hR hh rfl ho;have h2:=b1D (o:=flg (ob s h) ((ob s h).Fields.set n v)) hR hh rfl ho;constructor
 ·unfold a9i;rw[b4K (u4.2 hR) hh,d6X,if_neg (by simp)]
  unfold b5o a7k;dsimp only;rw[d6X,if_neg (by simp;omega),a7z (by omega) (by omega),d6X]
  have e:cpy (List.replicate (ob s h).Fields.length (0:Int)) (ob s h).Fields=some (ob s h).Fields:=by
   unfold cpy;rw[if_pos (by simp)]
   simp
  rw[e,d6X,o7 hn,d6X,d6X,if_neg (by simp),Int.toNat_natCast]
  dsimp only;rw[show J8 s h ⟨(ob s h).Serial,(ob s h).Strong,(ob s h).Weak,(ob s h).Prog,(ob s h).Started,(ob s h).Fields.set n v⟩=_ from h1];rfl
 ·unfold b77;rw[a5G s (by have:=hR.len;omega) (by omega),b4K (u4.2 hR) hh,Option.map_some,d6X,if_neg (by simp)]
  unfold b96;have hn':n<(oo (ob s h)).Fields.length:=hn;have hf':(oo (ob s h)).Fields.length≤4:=hf;dsimp only;rw[if_neg (by simp;omega),K4 (by omega) (by omega),d6X,o7 hn',d6X,d6X,if_neg (by simp),Int.toNat_natCast]
  dsimp only;rw[show O1 (sO s) h ⟨(oo (ob s h)).Serial,(oo (ob s h)).Strong,(oo (ob s h)).Weak,(oo (ob s h)).Prog,(oo (ob s h)).Started,(oo (ob s h)).Fields.set n v⟩=_ from h2];rfl
theorem c6q(h k v:Int)(hh:h≤9223372036854775807)(hv:v≤9223372036854775807) :
  (∃e,e≠0∧a2x x h k v=some (x,e)∧a5Z (hO x) h k v=some (hO x,e)) ∨
  (h∈lv x.S∧(v=0∨v∈lv x.S)∧∃n:Nat,k=n∧n<(ob x.S h).Fields.length∧a2x x h k v=some (a1f x h n v,0)∧a5Z (hO x) h k v=some (hO (a1f x h n v),0)):=by
 have hR:=hx.sh.sr;unfold a2x a5Z;rcases b2K hx hS h k hh with ⟨e,he,f1,f2⟩ | ⟨hl,n,rfl,hn,f1,f2⟩
 ·left;have he':(e != 0)=true:=by simpa using he
  refine⟨e,he,?_,?_⟩;·rw[f1,d6X,if_pos he']
  ·rw[show (hO x).S=sO x.S from rfl,f2,d6X,if_pos he']
 ·rw[f1,d6X,if_neg (by simp),show (hO x).S=sO x.S from rfl,f2,d6X,if_neg (by simp),a2A hR hv,d6X,b07 hR hv,d6X]
  by_cases hn2:v=0∨v∈lv x.S
  ·right;refine⟨hl,hn2,n,rfl,hn,?_⟩;rw[decide_eq_true hn2,if_neg (by simp),if_neg (by simp)]
   have kin:=F7 hR v (f:=U4) λc=>D5;have hR1:SR (C2 x v).S:=kin.sr;have hl1:h∈lv (C2 x v).S:=by rw[show lv (C2 x v).S=lv x.S from kin.lv];exact hl
   have hof:(ob (C2 x v).S h).Fields=(ob x.S h).Fields:=by
    obtain⟨m,e⟩:=kin.ob h hh;show (ob (stO x v U4).S h).Fields=_;rw[e]
   have hn1:n<(ob (C2 x v).S h).Fields.length:=by rw[hof];exact hn
   have old:(ob x.S h).Fields[n]≤9223372036854775807:=b04 hx hS (hx.sh.fl h hl _ (List.getElem_mem hn));have ok:=J5 hR1 hl1;have sr2:SR (seO (C2 x v).S h (flg (ob (C2 x v).S h) ((ob (C2 x v).S h).Fields.set n v))):=a0T (o:=flg (ob (C2 x v).S h) ((ob (C2 x v).S h).Fields.set n v)) hR1 hl1 rfl ⟨ok.s1,ok.s2,ok.st,ok.wk,ok.p1,ok.p2,by simpa using ok.fl⟩
   obtain⟨p1,p2⟩:=c7u hx hS hR1 hl1 hn1 v;have hd:(ob x.S h).Fields.getD n 0=(ob x.S h).Fields[n]:=by
    rw[List.getD_eq_getElem?_getD,List.getElem?_eq_getElem hn];rfl
   constructor
   ·unfold H7 a0O;rw[a56 hR hv hS,d6X];dsimp only;rw[p1,d6X,d6X];have hrel:=a2F (x:=wS (C2 x v) (seO (C2 x v).S h (flg (ob (C2 x v).S h) ((ob (C2 x v).S h).Fields.set n v)))) sr2 old;rw[show C4 ⟨seO (C2 x v).S h (flg (ob (C2 x v).S h) ((ob (C2 x v).S h).Fields.set n v)),(C2 x v).Roots,(C2 x v).a8,(C2 x v).T,(C2 x v).Q⟩ (ob x.S h).Fields[n]=_ from hrel];unfold a1f;rw[hd,hof];rfl
   ·rw[a8y hR hv hS,d6X,show (hO (C2 x v)).S=sO (C2 x v).S from rfl,p2,d6X];have hrel:=a36 (x:=wS (C2 x v) (seO (C2 x v).S h (flg (ob (C2 x v).S h) ((ob (C2 x v).S h).Fields.set n v)))) sr2 old;dsimp only;rw[show F0 ⟨sO (seO (C2 x v).S h (flg (ob (C2 x v).S h) ((ob (C2 x v).S h).Fields.set n v))),(hO (C2 x v)).Roots,(hO (C2 x v)).a8,(hO (C2 x v)).T,(hO (C2 x v)).Q⟩ (ob x.S h).Fields[n]=_ from hrel];unfold a1f;rw[hd,hof];rfl
  ·left;refine⟨3,by decide,?_,?_⟩
   ·rw[decide_eq_false hn2,if_pos (by simp)]
   ·rw[decide_eq_false hn2,if_pos (by simp)]
theorem c96(k v:Int)(hk:k≤9223372036854775807)(hv:v≤9223372036854775807) :
  (∃e,e≠0∧a31 x k v=some (x,e)∧a8o (hO x) k v=some (hO x,e)) ∨
  (k∈lv x.S∧(v=0∨v∈lv x.S)∧∃r,U0 x.T k v=some r∧r.2.2=0∧a31 x k v=some (a5Q x v r.1 r.2.1,0)∧a8o (hO x) k v=some (hO (a5Q x v r.1 r.2.1),0)):=by
 have hR:=hx.sh.sr;unfold a31 a8o;by_cases k0:k=0
 ·left;subst k0;exact⟨2,by decide,by simp,by simp⟩
 ·rw[if_neg (by simpa using k0),if_neg (by simpa using k0),a2A hR hk,d6X,b3B hR hk,d6X,a2A hR hv,b07 hR hv]
  have hkk:(k=0∨k∈lv x.S)↔k∈lv x.S:=by simp[k0]
  by_cases hl:k∈lv x.S∧(v=0∨v∈lv x.S)
  ·obtain⟨hl,hn⟩:=hl;rw[decide_eq_true (hkk.2 hl),decide_eq_true hl,decide_eq_true hn];simp only[Bool.not_true,beq_self_eq_true,Q6,d6X,Bool.or_self,Bool.false_eq_true,if_false];obtain⟨r,r1,r2,r3,r4,r5⟩:=c48 hx.sh.hr k v;rw[r1,d6X,show (hO x).T=x.T.map L3 from rfl,r4,d6X];by_cases h0:r.2.2=0
   ·right;refine⟨hl,hn,r,rfl,h0,?_⟩;have e1:(r.2.2 != 0)=false:=by simpa using h0
    have old:r.2.1≤9223372036854775807:=by
     rcases r5 with ⟨_,rfl⟩ | ⟨_,_,⟨i,hi,rfl⟩ | ⟨_,rfl⟩⟩ | ⟨_,_,⟨i,hi,rfl⟩ | ⟨d,_,_,_,_,rfl⟩ | ⟨_,_,rfl⟩⟩;·simp
     ·exact b04 hx hS (.inr (hx.sh.pr k _ ⟨i,hi,rfl⟩).2)
     ·simp
     ·exact b04 hx hS (.inr (hx.sh.pr k _ ⟨i,hi,rfl⟩).2)
     ·simp
     ·simp
    constructor
    ·rw[e1];simp only[Bool.false_eq_true,if_false];unfold I7 W1;rw[a56 hR hv hS,d6X,d6X];dsimp only;have hrel:=a2F (x:=wT (C2 x v) r.1) (a3y hR v) old;rw[show C4 ⟨(C2 x v).S,(C2 x v).Roots,(C2 x v).a8,r.1,(C2 x v).Q⟩ r.2.1=_ from hrel];rfl
    ·dsimp only;rw[e1];simp only[Bool.false_eq_true,if_false];rw[a8y hR hv hS,d6X];have hrel:=a36 (x:=wT (C2 x v) r.1) (a3y hR v) old;rw[show F0 ⟨(hO (C2 x v)).S,(hO (C2 x v)).Roots,(hO (C2 x v)).a8,r.1.map L3,(hO (C2 x v)).Q⟩ r.2.1=_ from hrel];rfl
   ·left;have e1:(r.2.2 != 0)=true:=by simpa using h0
    refine⟨r.2.2,h0,by rw[if_pos e1],by dsimp only;rw[if_pos e1]⟩
  ·left;refine⟨3,by decide,?_,?_⟩
   ·by_cases hl2:k∈lv x.S
    ·have:¬(v=0∨v∈lv x.S):=λq=>hl ⟨hl2,q⟩;rw[decide_eq_true (hkk.2 hl2),decide_eq_false this];rfl
    ·rw[decide_eq_false λq=>hl2 (hkk.1 q)];rfl
   ·by_cases hl2:k∈lv x.S
    ·have:¬(v=0∨v∈lv x.S):=λq=>hl ⟨hl2,q⟩;rw[decide_eq_true hl2,decide_eq_false this];rfl
    ·rw[decide_eq_false hl2];rfl
end
theorem c29{s:a7}(hR:SR s){h:Int}{i:Nat}(q:X6 s h i):N3 s.S h=some ((gvA s i).S,0):=by
 have hi:=q.1;have hc:=hR.cell i hi;have l9:=hR.l9;unfold N3 gvA;rw[a6w hR q,d6X,if_neg (by simp),b9F hi,d6X]
 by_cases g:(ce s i).Gen=s.S.Last
 ·rw[if_pos (by simpa using g),if_pos g,a6l rfl hi hR.len]
  rfl
 ·rw[if_neg (by simpa using g),if_neg g,a6l rfl hi hR.len,D9 (by omega) (by omega)]
  rfl
theorem d00{s:a7}{i:Nat}(hi:i<s.S.a8.length):ix (sO s).a8 (i:Int)=some (cO (ce s i)):=by
 rw[c3R,b9F hi];rfl
theorem c3S(s:a7)(i:Nat)(c:b7):sO (G4 s i c)=⟨(sO s).a8.set i (cO c),s.S.Last,s.Serial⟩:=by
 unfold sO G4;rw[List.map_set]
theorem b5n(t:l7)(p:C1)(hl:t.a8.length≤1000)(hp:p.a8.length=t.a8.length):a1l t p=some ⟨(List.range t.a8.length).map λk=>⟨(p.a8.getD k ⟨0,0,0⟩).State,(p.a8.getD k ⟨0,0,0⟩).Gen,(t.a8.getD k ⟨0,0,oo z0⟩).Val⟩,t.Last,t.Serial⟩:=by
 unfold a1l;simp only[jn];rw[c6N (b:=80) t.a8.length (λk=>⟨(p.a8.getD k ⟨0,0,0⟩).State,(p.a8.getD k ⟨0,0,0⟩).Gen,(t.a8.getD k ⟨0,0,oo z0⟩).Val⟩) (by omega) (by omega) (λk acc hk=>?_) (λacc=>by simp)]
 ·rfl
 ·have hk2:k<p.a8.length:=by omega
  simp only[Int.ofNat_lt,hk,decide_true,if_true,o7 hk,o7 hk2,d6X];rw[List.getD_eq_getElem?_getD,List.getElem?_eq_getElem hk2,List.getD_eq_getElem?_getD,List.getElem?_eq_getElem hk];rfl
theorem c6y{s:a7}(hR:SR s){h:Int}{i:Nat}(q:X6 s h i):b1h (sO s) h=some (sO (gvA s i)):=by
 have hi:=q.1;have hc:=hR.cell i hi;have l9:=hR.l9;have hlen:=hR.len;have hr:=q.rng hR;have hH:Hnd h:=((a95 hR).2 q).2.1;have hsl:(h-1) % 32=i:=((a95 hR).2 q).2.2.1;have L3:i<(pl (sO s)).a8.length:=by rw[a1k,B7];exact hi
 have key:∀st g,(st:Int)=st→a1l (sO s) ⟨(pl (sO s)).a8.set i ⟨st,g,0⟩,(pl (sO s)).Last⟩=some ⟨(sO s).a8.set i ⟨st,g,oo (ce s i).Val⟩,s.S.Last,s.Serial⟩:=λst g _=>by
  rw[b5n _ _ (by rw[B7];omega) (by simp[a1k])]
  congr 1;congr 1;refine List.ext_getElem (by simp) λk h1 h2=>?_
  have hk:k<s.S.a8.length:=by simpa[B7] using h1
  have hk2:k<(sO s).a8.length:=by rw[B7];exact hk
  have hk3:k<(pl (sO s)).a8.length:=by rw[a1k];exact hk2
  simp only[List.getElem_map,List.getElem_range,List.getElem_set];have e1:(sO s).a8.getD k ⟨0,0,oo z0⟩=cO (ce s k):=by
   rw[List.getD_eq_getElem?_getD,List.getElem?_eq_getElem hk2,D2 hk];simp[sO]
  have e2:((pl (sO s)).a8.set i ⟨st,g,0⟩).getD k ⟨0,0,0⟩=if k=i then ⟨st,g,0⟩ else plc k (cO (ce s k)):=by
   rw[a5H L3];split;·rfl
   ·rw[List.getD_eq_getElem?_getD,List.getElem?_eq_getElem hk3,D2 hk];simp[pl,sO]
  rw[e1,e2];by_cases e:k=i
  ·subst e;rw[if_pos rfl,if_pos rfl];rfl
  ·rw[if_neg e,if_neg (Ne.symm e)];rw[D2 hk];simp[sO,plc,cO]
 have fin:∀st g,(a3h ⟨(sO s).a8.set i ⟨st,g,oo (ce s i).Val⟩,s.S.Last,s.Serial⟩ (i:Int) ⟨0,0,0,0,false,[]⟩)=some (sO (G4 s i ⟨st,g,z0⟩)):=λst g=>by
  unfold a3h;have hi2:i<((sO s).a8.set i ⟨st,g,oo (ce s i).Val⟩).length:=by simp[B7];exact hi
  rw[K4 (by omega) (by simp[B7];omega),d6X,o7 hi2,d6X,c3S]
  simp[cO,oo,List.set_set]
 unfold b1h b94 gvA;rw[a48 _ (by rw[B7];omega),d6X,b16 s (by omega),a6w hR q,d6X,if_neg (by simp)]
 rw[b9W (by rw[B7];exact hi),d6X]
 have hgen:(plc i ((sO s).a8[i]'(by rw[B7];exact hi))).Gen=(ce s i).Gen:=by
  rw[D2 hi];simp[plc,sO,cO]
 have hlast:(pl (sO s)).Last=s.S.Last:=rfl;have w3:∀c:A9,a03 (pl (sO s)) (i:Int) c=some ⟨(pl (sO s)).a8.set i c,(pl (sO s)).Last⟩:=λc=>by
  unfold a03;rw[K4 (by omega) (by rw[a1k,B7];omega),d6X,o7 L3,d6X,Int.toNat_natCast]
 rw[hgen,hlast,a8h,if_pos hH,hsl];by_cases g:(ce s i).Gen=s.S.Last
 ·rw[if_pos (by simp[g]),if_pos g,w3,d6X,d6X,if_neg (by simp),key _ _ rfl,d6X,d6X,fin]
  rfl
 ·rw[if_neg (by simp;omega),if_neg g,w3,d6X,d6X,if_neg (by simp),key _ _ rfl,d6X,d6X,D9 (by omega) (by omega),fin]
  rfl
section
variable{x:Hp}(hR:SR x.S)
include hR
theorem b6u{h d:Int}(hh:h≤9223372036854775807)(hw:X6 x.S h (D0 h) → -1000≤(ce x.S (D0 h)).Val.Weak+d∧(ce x.S (D0 h)).Val.Weak+d≤1000):a1v x h d=some (mkd x h d):=by
 unfold a1v mkd;by_cases q:X6 x.S h (D0 h)
 ·have:=hw q;rw[if_pos q,a6w hR q,d6X];simp only[beq_self_eq_true,if_true];rw[b9F q.1,d6X,D9 (by omega) (by omega),b8w hR q,d6X]
  rfl
 ·have hno:∀i,¬X6 x.S h i:=λi hi=>q (by rw[hi.D0 hR];exact hi)
  rw[if_neg q,a9V hR hh hno,d6X];have:((if h=0 then 2 else 3:Int)==0)=false:=by simpa using a24 h
  simp only[this,Bool.false_eq_true,if_false]
theorem c0C{h:Int}(hh:h≤9223372036854775807)(hw:X6 x.S h (D0 h)→1≤(ce x.S (D0 h)).Val.Weak∧(ce x.S (D0 h)).Val.Weak≤1000):a2T x h=some (a8K x h):=by
 unfold a2T;rw[b6u hR hh (λq=>by have:=hw q;omega),d6X]
 unfold mkd a8K;by_cases q:X6 x.S h (D0 h)
 ·have hw:=hw q;rw[if_pos q,if_pos q];have sr1:=b4M hR q.1 q.2.1 (d:=-1) (by omega)
  have q1:X6 (mkA x.S (D0 h) (-1)) h (D0 h):=(b3v q.1 _).2 q;dsimp only;rw[a6w sr1 q1,d6X,if_neg (by simp),b9F q1.1,d6X,a3u hR q.1 q.2.1,if_pos rfl]
  dsimp only;by_cases c:(ce x.S (D0 h)).State=2∧(ce x.S (D0 h)).Val.Weak=1
  ·rw[if_pos c,if_pos (by simp[c.1,c.2]),c29 sr1 q1,d6X]
   rfl
  ·rw[if_neg c,if_neg (by simp only[Bool.and_eq_true,beq_iff_eq];omega)]
 ·have hno:∀i,¬X6 x.S h i:=λi hi=>q (by rw[hi.D0 hR];exact hi)
  rw[if_neg q,if_neg q,a9V hR hh hno,d6X];have:((if h=0 then 2 else 3:Int) != 0)=true:=by simpa using a24 h
  simp only[this,if_true]
theorem c5g{h:Int}(hh:h≤9223372036854775807)(hw:X6 x.S h (D0 h)→1≤(ce x.S (D0 h)).Val.Weak∧(ce x.S (D0 h)).Val.Weak≤1000):a1y (hO x) h=some (hO (a8K x h)):=by
 have hl:=hR.len;unfold a1y;rw[show (hO x).S=sO x.S from rfl,a48 _ (by rw[B7];omega),d6X,b16 x.S hh]
 unfold a8K;by_cases q:X6 x.S h (D0 h)
 ·have hw:=hw q;have hr:=q.rng hR;rw[if_pos q,a6w hR q,d6X,if_neg (by simp),d00 q.1,d6X]
  have sr1:=b4M hR q.1 q.2.1 (d:=-1) (by omega)
  have q1:X6 (mkA x.S (D0 h) (-1)) h (D0 h):=(b3v q.1 _).2 q;have hs:O1 (sO x.S) h (oo (wkg (ce x.S (D0 h)).Val ((ce x.S (D0 h)).Val.Weak + -1)))=some (sO (mkA x.S (D0 h) (-1)),0):=by
   rw[c7W x.S hl hh,b8w hR q];rfl
  have hw64:u6 ((cO (ce x.S (D0 h))).Val.Weak-1)=(ce x.S (D0 h)).Val.Weak + -1:=by
   show u6 ((ce x.S (D0 h)).Val.Weak-1)=_;rw[D9 (by omega) (by omega)]
   omega
  rw[hw64];rw[show O1 (sO x.S) h ⟨(cO (ce x.S (D0 h))).Val.Serial,(cO (ce x.S (D0 h))).Val.Strong,(ce x.S (D0 h)).Val.Weak + -1,(cO (ce x.S (D0 h))).Val.Prog,(cO (ce x.S (D0 h))).Val.Started,(cO (ce x.S (D0 h))).Val.Fields⟩=_ from hs,d6X,d00 q1.1,d6X,a3u hR q.1 q.2.1,if_pos rfl];by_cases c:(ce x.S (D0 h)).State=2∧(ce x.S (D0 h)).Val.Weak=1
  ·rw[if_pos c,if_pos (by simp[cO,c.1,c.2]),c6y sr1 q1,d6X]
   rfl
  ·rw[if_neg c,if_neg (by simp only[cO,Bool.and_eq_true,beq_iff_eq,decide_eq_true_eq];omega)]
   rfl
 ·have hno:∀i,¬X6 x.S h i:=λi hi=>q (by rw[hi.D0 hR];exact hi)
  rw[if_neg q,a9V hR hh hno,d6X];have:((if h=0 then 2 else 3:Int) != 0)=true:=by simpa using a24 h
  simp only[this,if_true]
end
theorem c79{l:List c9}(hl:l.length≤1000){n:Nat}(hn:n<l.length)(h call:Int):b1O l n h call=some (l.set n (wcl h call),l[n].Target,0):=by
 unfold b1O a6k a0q;simp only[d6X];rw[if_neg (by simp;omega),a7z (by omega) (by omega),d6X]
 have e:cpy (List.replicate l.length (⟨0,false,0⟩:c9)) l=some l:=by
  unfold cpy;rw[if_pos (by simp)]
  simp
 rw[e,d6X,d6X,o7 hn,d6X,d6X,Int.toNat_natCast]
theorem c2s{l:List c9}(hl:l.length≤1000){n:Nat}(hn:n<l.length)(h call:Int):b79 (l.map wcR) n h call=some ((l.set n (wcl h call)).map wcR,l[n].Target,0):=by
 unfold b79;have hn':n<(l.map wcR).length:=by simpa using hn
 rw[if_neg (by simp;omega),K4 (by omega) (by simp;omega),d6X,o7 hn',d6X,d6X,Int.toNat_natCast,List.map_set]
 simp[wcR]
theorem d2L(l:List c9)(h:Int):nmg l h≤l.length:=List.countP_le_length
theorem d0H{x:Hp}(hx:M3 x)(k h call:Int)(hh:h≤9223372036854775807)(hc : -1≤call∧call≤5) :
  (∃e,e≠0∧a0y x k h call=some (x,e)∧a4r (hO x) k h call=some (hO x,e)) ∨
  ((h=0∨h∈lv x.S)∧∃n:Nat,k=n∧n<6∧wts x.Q n=false∧a0y x k h call=some (a2o x n h call,0)∧a4r (hO x) k h call=some (hO (a2o x n h call),0)):=by
 have hR:=hx.sh.sr;have c6:=hx.sh.c6;have q30:=hx.sh.q30;unfold a0y a4r;by_cases hk:k<0∨5<k
 ·left;have e1:((decide (k<0))||(decide (k≥(x.a8.length:Int))))=true:=by rw[c6];simp;omega
  have e2:((decide (k<0))||(decide (k > 5)))=true:=by simp;omega
  refine⟨7,by decide,?_,?_⟩
  ·rw[e1];rfl
  ·rw[e2];rfl
 ·obtain⟨n,rfl⟩:∃n:Nat,k=n:=⟨k.toNat,by omega⟩
  have hn6:n<6:=by omega
  have e1:((decide ((n:Int)<0))||(decide ((n:Int)≥(x.a8.length:Int))))=false:=by rw[c6];simp;omega
  have e2:((decide ((n:Int)<0))||(decide ((n:Int) > 5)))=false:=by simp;omega
  rw[e1,e2];simp only[beq_self_eq_true,Q6,Bool.false_or];have hwq:a4C x.Q n=some (wts x.Q n):=d0x (by omega)
  have hwr:a5Y (hO x).Q n=some (wts x.Q n):=d0e (by omega)
  rw[hwq,d6X,hwr,d6X,a2A hR hh,d6X,b07 hR hh,d6X];by_cases hw:wts x.Q n=true
  ·left;rw[if_pos hw,if_pos hw];exact⟨7,by decide,rfl,rfl⟩
  ·have hw:wts x.Q n=false:=by simpa using hw
   rw[hw,if_neg (show ¬(false=true) by decide),if_neg (show ¬(false=true) by decide)]
   by_cases hl:h=0∨h∈lv x.S
   ·right;refine⟨hl,n,rfl,hn6,hw,?_⟩;have hnl:n<x.a8.length:=by omega
    rw[decide_eq_true hl,if_neg (by simp),if_neg (by simp),c79 (by omega) hnl,d6X,show (hO x).a8=x.a8.map wcR from rfl,c2s (by omega) hnl,d6X]
    have htg:tgt x n=x.a8[n].Target:=by
     unfold tgt;rw[List.getD_eq_getElem?_getD,List.getElem?_eq_getElem hnl];rfl
    have wkb:∀i,i<x.S.S.a8.length→Th (ce x.S i)→0≤(ce x.S i).Val.Weak∧(ce x.S i).Val.Weak≤6:=λi hi ht=>by
     have:=(hx.wk i hi ht).1;have:=d2L x.a8 (1+(i:Int)+32*(ce x.S i).Gen);omega
    have mk1:∃s2,mkd (wC x (x.a8.set n (wcl h call))) h 1=wS (wC x (x.a8.set n (wcl h call))) s2∧SR s2∧(∀k i,X6 s2 k i↔X6 x.S k i)∧(∀i,i<x.S.S.a8.length→Th (ce x.S i)→(ce x.S i).Val.Weak≤(ce s2 i).Val.Weak∧(ce s2 i).Val.Weak≤(ce x.S i).Val.Weak+1) ∧
      (h≠0→E5 (sO x.S) h=some (oo (ce x.S (D0 h)).Val,0)∧O1 (sO x.S) h (oo (wkg (ce x.S (D0 h)).Val ((ce x.S (D0 h)).Val.Weak+1)))=some (sO s2,0))∧(h=0→s2=x.S):=by
     unfold mkd;by_cases h0:h=0
     ·have hno:¬X6 x.S h (D0 h):=λq=>by have:=q.rng hR;omega
      rw[if_neg hno];exact⟨x.S,rfl,hR,λ_ _=>Iff.rfl,λi _ _=>by omega,λq=>absurd h0 q,λ_=>rfl⟩
     ·have hll:=hl.resolve_left h0;have hp:=z6 hR hll;have hb:=wkb _ hp.1 (.inl hp.2.1);rw[if_pos hp.d];have kn:=a6N hR hp.1 (.inl hp.2.1) (d:=1) (by omega)
      refine⟨_,rfl,kn.sr,kn.ad,λi hi ht=>?_,λ_=>⟨?_,?_⟩,λq=>absurd q h0⟩
      ·rw[a3u hR hp.1 (.inl hp.2.1)];split;·rename_i e;subst e;dsimp only;omega
       ·omega
      ·rw[a5G x.S (by have:=hR.len;omega) hh,d1L hR hp]
       rfl
      ·rw[c7W x.S hR.len hh,b8w hR hp.d];rfl
    obtain⟨s2,m1,m2,m3,m4,m5,m6⟩:=mk1;have hold:tgt x n≤9223372036854775807:=by
     by_cases q:tgt x n=0
     ·omega
     ·obtain⟨p,hp⟩:=(hx.sh.cl n hnl).2.2.2.1 (by rw[←htg];exact q)
      have:=hp.rng hR;rw[htg];omega
    have hun:X6 s2 (tgt x n) (D0 (tgt x n))→1≤(ce s2 (D0 (tgt x n))).Val.Weak∧(ce s2 (D0 (tgt x n))).Val.Weak≤1000:=λq=>by
     have q':=(m3 _ _).1 q;have r:=q'.rng hR;have:=(hx.wk _ q'.1 q'.2.1).1;have hp:0<nmg x.a8 x.a8[n].Target:=b09 hnl (by rw[←htg];omega)
     rw[←htg,q'.2.2] at hp;have:=m4 _ q'.1 q'.2.1;have:=wkb _ q'.1 q'.2.1;omega
    have u1:=c0C (x:=wS (wC x (x.a8.set n (wcl h call))) s2) m2 hold hun;have u2:=c5g (x:=wS (wC x (x.a8.set n (wcl h call))) s2) m2 hold hun;have hwb:X6 x.S h (D0 h) → -1000≤(ce x.S (D0 h)).Val.Weak+1∧(ce x.S (D0 h)).Val.Weak+1≤1000:=λq=>by
     have:=wkb _ q.1 q.2.1;omega
    have mm:=b6u (x:=wC x (x.a8.set n (wcl h call))) (d:=1) hR hh hwb;constructor
    ·dsimp only;rw[show a1v ⟨x.S,x.Roots,x.a8.set n (wcl h call),x.T,x.Q⟩ h 1=_ from mm,d6X,m1,←htg,u1,d6X];unfold a2o;rw[m1]
    ·unfold a2o;rw[m1];dsimp only;by_cases h0:h=0
     ·rw[if_neg (by simpa using h0),←htg]
      rw[m6 h0] at u2 ⊢;rw[show a1y ⟨(hO x).S,(hO x).Roots,(x.a8.set n (wcl h call)).map wcR,(hO x).T,(hO x).Q⟩ (tgt x n)=_ from u2,d6X]
     ·obtain⟨g1,g2⟩:=m5 h0;have hp:=z6 hR (hl.resolve_left h0);have hb:=wkb _ hp.1 (.inl hp.2.1);rw[if_pos (by simpa using h0),show (hO x).S=sO x.S from rfl,g1,d6X]
      have e:u6 ((oo (ce x.S (D0 h)).Val).Weak+1)=(ce x.S (D0 h)).Val.Weak+1:=by
       show u6 ((ce x.S (D0 h)).Val.Weak+1)=_;rw[D9 (by omega) (by omega)]
      dsimp only;rw[e];rw[show O1 (sO x.S) h ⟨(oo (ce x.S (D0 h)).Val).Serial,(oo (ce x.S (D0 h)).Val).Strong,(ce x.S (D0 h)).Val.Weak+1,(oo (ce x.S (D0 h)).Val).Prog,(oo (ce x.S (D0 h)).Val).Started,(oo (ce x.S (D0 h)).Val).Fields⟩=_ from g2,d6X,←htg];dsimp only;rw[show a1y ⟨sO s2,(hO x).Roots,(x.a8.set n (wcl h call)).map wcR,(hO x).T,(hO x).Q⟩ (tgt x n)=_ from u2,d6X]
   ·left;rw[decide_eq_false hl];refine⟨3,by decide,?_,?_⟩ <;> rw[if_pos (by rfl)]
end Go.Sh
namespace Go.Sh
section
variable{x:Hp}(hx:M3 x)(hS:∀k∈lv x.S,(ob x.S k).Strong≤9223372036854775807)
include hx hS
end
end Go.Sh
namespace Go.Sh
theorem c27{α:Type}{l:List α}{i:Nat}(h:i<l.length)(d:α):l.getD i d=l[i]:=by
 rw[List.getD_eq_getElem?_getD,List.getElem?_eq_getElem h];rfl
def TkS(a b:g9):Prop:=a.Kind=b.Kind∧a.At=b.At
instance(a b:g9):Decidable (TkS a b):=by unfold TkS;infer_instance
section
variable{x:Hp}(hR:SR x.S)
include hR
omit hR in
theorem c6l:d0M x.S x.T (otr x)↔a1p x []:=by
 constructor
 ·intro h k hk hlt;have:=h k hk hlt;unfold rst inr at this;rw[if_pos hk] at this;rw[P9];unfold nms;omega
 ·intro h k hk hlt;have:=h k hk hlt;rw[P9] at this;unfold nms at this;unfold rst inr;rw[if_pos hk];omega
end
end Go.Sh
namespace Go.Sh
section
variable{x:Hp}(hx:M3 x)(hB:HB x)
include hx hB
end
end Go.Sh
namespace Go.Sh
theorem d3E{l:List o6}(h:l.length≤100000):b1m l l=some true:=by
 unfold b1m;rw[if_neg (by simp)]
 simp only[jn];refine U5 l.length (λ_=>True) (by omega) trivial (λk hk _=>.inl ⟨?_,trivial⟩) (λ_=>⟨.inr (),by simp,rfl⟩)
 rw[if_pos (by simpa using hk),o7 hk,d6X,d6X,if_neg (by simp),l6 (by omega)]
def SL(x:Hp):Prop:=∀k∈lv x.S,(ob x.S k).Strong≤9223372036854775807
theorem SB.sl{x:Hp}(hR:SR x.S)(h:SB x.S):SL x:=λk hk=>c5e hR h k hk
theorem c6C{x:Hp}(hx:M3 x)(hS:SL x):HB x:=by
 have hR:=hx.sh.sr;have bd:∀v,v=0∨v∈lv x.S→v≤9223372036854775807:=λv q=>by
  rcases q with q | q
  ·omega
  ·have:=G8 hR q;omega
 refine⟨d5v.2 λi hi=>?_,d4G.2 λi hi v hv=>?_,λv hv=>bd v (hx.sh.rt v hv),λc hc=>?_,λp hp=>?_,λt ht=>?_⟩
 ·by_cases t:Th (ce x.S i)
  ·rcases t with t | t
   ·have q:At x.S (1+(i:Int)+32*(ce x.S i).Gen) i:=⟨hi,t,rfl⟩;have:=hS _ ((a28 hR).2 ⟨i,q⟩);rwa [O8 hR q] at this
   ·have:=((hx.wk i hi (.inr t)).2 t).2.2;omega
  ·have:=(hR.no i hi t).2.1;simp only[oo] at this;omega
 ·by_cases t:Th (ce x.S i)
  ·rcases t with t | t
   ·have q:At x.S (1+(i:Int)+32*(ce x.S i).Gen) i:=⟨hi,t,rfl⟩;have hm:=(a28 hR).2 ⟨i,q⟩;exact bd v (hx.sh.fl _ hm v (by rw[O8 hR q];exact hv))
   ·rw[((hx.wk i hi (.inr t)).2 t).2.1] at hv;cases hv
  ·have:=(hR.no i hi t).2.2.2.2.2;simp only[oo] at this;rw[List.eq_nil_of_length_eq_zero this] at hv;cases hv
 ·obtain⟨i,hi,rfl⟩:=List.getElem_of_mem hc;by_cases e:x.a8[i].Target=0
  ·omega
  ·obtain⟨p,hp⟩:=(hx.sh.cl i hi).2.2.2.1 e;have:=hp.rng hR;omega
 ·obtain⟨i,hi,rfl⟩:=List.getElem_of_mem hp;have e:pt x.T i=x.T[i]:=by
   unfold pt;rw[List.getD_eq_getElem?_getD,List.getElem?_eq_getElem hi];rfl
  by_cases s1:(pt x.T i).State=1
  ·obtain⟨a,b⟩:=hx.sh.pr (pt x.T i).Key (pt x.T i).Val ⟨i,⟨hi,s1,rfl⟩,rfl⟩;rw[e] at a b;exact⟨bd _ (.inr a),bd _ (.inr b)⟩
  ·obtain⟨a,b⟩:=(hx.sh.hr.st i hi).2 s1;rw[e] at a b;omega
 ·obtain⟨_,_,q | q⟩:=hx.sh.tk t ht;·exact bd _ (.inr q.2.1)
  ·omega
theorem d1i{s:a7}(hR:SR s):Sm s:=by
 refine⟨by have:=hR.len;omega,λi hi=>?_⟩
 by_cases t:Th (ce s i)
 ·have:=(hR.ok i hi t).fl;rw[D2 hi] at this;omega
 ·have:=(hR.no i hi t).2.2.2.2.2;simp only[oo] at this;rw[D2 hi] at this;omega
theorem d3F{x:Hp}(h:HpS x):a8p (hO x) (hO x)=some true:=by
 have sm:=d1i h.sr;have h1:=h.r6;have h2:=h.c6;have h3:=h.hr.l8;have h4:=h.q30;unfold a8p;rw[show (hO x).S=sO x.S from rfl,c35 _ (by rw[B7];have:=sm.1;omega) (λi hi=>by
  have:=sm.2 i (by rw[B7] at hi;exact hi)
  simp only[sO,List.getElem_map,cO,oo];omega),d6X]
 simp only[beq_self_eq_true,Q6,Bool.true_and];rw[show (hO x).Roots=x.Roots from rfl,b4E (by omega),d6X]
 simp only[beq_self_eq_true,Q6,Bool.true_and];rw[d3E (by simp[hO];omega),d6X]
 simp only[beq_self_eq_true,Q6,Bool.true_and];rw[c47 (by simp[hO];omega),d6X]
 simp only[beq_self_eq_true,Q6,Bool.true_and];rw[show (hO x).Q=tqR x.Q from rfl,d3m (by omega),d6X]
theorem c9B(c:Int):U4 c≤12:=by unfold U4;split <;> (try split) <;> omega
theorem c9j{c:Int}(h:c≤9223372036854775807):a5E c≤9223372036854775807:=by unfold a5E;split <;> (try split) <;> omega
theorem SL.of{x y:Hp}(h:SL x)(hl:lv y.S=lv x.S)(hs:∀k∈lv x.S,(ob y.S k).Strong=(ob x.S k).Strong):SL y:=λk hk=>by
 rw[hl] at hk;rw[hs k hk];exact h k hk
theorem SL.st{x:Hp}(h:SL x)(hR:SR x.S)(v:Int){f:Int→Int}(hf:∀c,0≤c→0≤f c)(hb:∀c,c≤9223372036854775807→f c≤9223372036854775807):SL (stO x v f):=λk hk=>by
 rw[(F7 hR v hf).lv] at hk;rw[b2C hR v hf hk];split;·exact hb _ (h k hk)
 ·exact h k hk
theorem SL.C2{x:Hp}(h:SL x)(hR:SR x.S)(v:Int):SL (C2 x v):=h.st hR v (λc=>D5) λc _=>by have:=c9B c;omega
theorem SL.rls{x:Hp}(h:SL x)(hR:SR x.S)(v:Int):SL (Q2 x v):=h.st hR v (λc=>N8) λc hc=>c9j hc
theorem c16{x:Hp}(hR:SR x.S)(v:Int):SR (Q2 x v).S:=(F7 hR v λc=>N8).sr
theorem a4y{x:Hp}(hR:SR x.S)(h:SL x)(r:Nat)(v:Int):SL (F6 x r v):=by
 unfold F6;exact SL.rls (x:=wR (C2 x v) (x.Roots.set r v)) (h.C2 hR v) (a3y hR v) _
theorem c4u{x:Hp}(hR:SR x.S)(hS:SL x){h:Int}(hh:h∈lv x.S)(k:Nat)(v:Int):SL (a1f x h k v):=by
 have kin:=F7 hR v (f:=U4) λc=>D5;have hR1:SR (C2 x v).S:=kin.sr;have hl1:h∈lv (C2 x v).S:=by rw[show lv (C2 x v).S=lv x.S from kin.lv];exact hh
 have hof:(ob (C2 x v).S h).Fields=(ob x.S h).Fields:=by
  obtain⟨m,e⟩:=kin.ob h (by have:=G8 hR hh;omega)
  show (ob (stO x v U4).S h).Fields=_;rw[e]
 have ok:=J5 hR1 hl1;have ho:OkO (C2 x v).S (flg (ob (C2 x v).S h) ((ob x.S h).Fields.set k v)):=⟨ok.s1,ok.s2,ok.st,ok.wk,ok.p1,ok.p2,by have:=ok.fl;rw[hof] at this;simpa using this⟩
 have sr2:=a0T (o:=flg (ob (C2 x v).S h) ((ob x.S h).Fields.set k v)) hR1 hl1 rfl ho;unfold a1f;refine SL.rls (x:=wS (C2 x v) (seO (C2 x v).S h (flg (ob (C2 x v).S h) ((ob x.S h).Fields.set k v)))) ?_ sr2 _;refine (hS.C2 hR v).of (a3z hR1 hl1 rfl ho) λj hj=>?_;dsimp only;rw[a2H (o:=flg (ob (C2 x v).S h) ((ob x.S h).Fields.set k v)) hR1 hl1 rfl ho (by have:=G8 hR1 hj;omega)]
 split;·rename_i e;rw[e]
 ·rfl
theorem c7m{x:Hp}(hR:SR x.S)(hS:SL x)(v:Int)(t:Tb)(old:Int):SL (a5Q x v t old):=by
 unfold a5Q;exact SL.rls (x:=wT (C2 x v) t) (hS.C2 hR v) (a3y hR v) _
theorem d2I{x:Hp}(hR:SR x.S)(hS:SL x)(h:Int){d:Int}(hd:X6 x.S h (D0 h)→0≤(ce x.S (D0 h)).Val.Weak+d):SL (mkd x h d):=by
 unfold mkd;split
 ·rename_i q;exact hS.of (a6N hR q.1 q.2.1 (hd q)).lv λk hk=>a6O hR q.1 q.2.1 (hd q) hk
 ·exact hS
theorem c33{x:Hp}(hR:SR x.S)(hS:SL x)(h:Int)(hd:X6 x.S h (D0 h)→1≤(ce x.S (D0 h)).Val.Weak):SL (a8K x h):=by
 unfold a8K;split
 ·rename_i q;have hd:=hd q;have kn:=a6N (d:=-1) hR q.1 q.2.1 (by omega)
  have s1:SL (wS x (mkA x.S (D0 h) (-1))):=hS.of kn.lv λk hk=>a6O hR q.1 q.2.1 (by omega) hk
  split
  ·rename_i c;have hi1:D0 h<(mkA x.S (D0 h) (-1)).S.a8.length:=by rw[kn.len];exact q.1
   have hce:ce (mkA x.S (D0 h) (-1)) (D0 h)=⟨(ce x.S (D0 h)).State,(ce x.S (D0 h)).Gen,wkg (ce x.S (D0 h)).Val ((ce x.S (D0 h)).Val.Weak + -1)⟩:=by
    rw[a3u hR q.1 q.2.1,if_pos rfl]
   have h2:(ce (mkA x.S (D0 h) (-1)) (D0 h)).State=2:=by rw[hce];exact c.1
   exact s1.of (b7C kn.sr hi1 h2) λk hk=>by
    dsimp only;rw[b7D kn.sr hi1 h2 hk]
  ·exact s1
 ·exact hS
theorem c77{x:Hp}(hx:M3 x)(hS:SL x){n:Nat}(hn:n<6)(h call:Int):SL (a2o x n h call):=by
 have hR:=hx.sh.sr;have hnl:n<x.a8.length:=by have:=hx.sh.c6;omega
 have ok:∀k i,X6 x.S k i→0≤(ce x.S i).Val.Weak:=λk i q=>(hR.ok i q.1 q.2.1).wk;have tw:∀i,X6 x.S (tgt x n) i→1≤(ce x.S i).Val.Weak:=λi q=>by
  have htg:tgt x n=x.a8[n].Target:=by
   unfold tgt;rw[List.getD_eq_getElem?_getD,List.getElem?_eq_getElem hnl];rfl
  have r:=q.rng hR;have p:=b09 hnl (by rw[←htg];omega)
  rw[←htg,q.2.2] at p;have:=(hx.wk i q.1 q.2.1).1;omega
 unfold a2o;have s1:SL (mkd (wC x (x.a8.set n (wcl h call))) h 1):=d2I (x:=wC x (x.a8.set n (wcl h call))) hR hS h λq=>by
  have:=ok _ _ q;dsimp only;omega
 by_cases q:X6 x.S h (D0 h)
 ·have e:mkd (wC x (x.a8.set n (wcl h call))) h 1=wS (wC x (x.a8.set n (wcl h call))) (mkA x.S (D0 h) 1):=by
   unfold mkd;rw[if_pos q]
  have hd:=ok _ _ q;have kn:=a6N (d:=1) hR q.1 q.2.1 (by omega)
  rw[e] at s1 ⊢;refine c33 kn.sr s1 _ λq2=>?_;dsimp only at q2 ⊢;have q3:=(kn.ad _ _).1 q2;have:=tw _ q3;rw[a3u hR q.1 q.2.1];split
  ·rename_i e2;rw[e2] at this;show 1≤(ce x.S (D0 h)).Val.Weak+1;omega
  ·exact this
 ·have e:mkd (wC x (x.a8.set n (wcl h call))) h 1=wC x (x.a8.set n (wcl h call)):=by
   unfold mkd;rw[if_neg q]
  rw[e] at s1 ⊢;exact c33 (x:=wC x (x.a8.set n (wcl h call))) hR s1 _ λq2=>tw _ q2
section
variable{x:Hp}(hx:M3 x)(hS:SL x)
include hx hS
end
end Go.Sh
namespace Go.Sh
end Go.Sh
namespace Go.Sh
end Go.Sh
namespace Go.Sh
def b82(x:Hp):Prop:=Sm x.S∧x.Roots.length≤20∧x.a8.length≤20∧x.T.length≤20∧x.Q.L.length≤60
instance(x:Hp):Decidable (b82 x):=by unfold b82;infer_instance
theorem HpS.d6m{x:Hp}(h:HpS x):b82 x:=by
 have h1:=h.r6;have h2:=h.c6;have h3:=h.hr.l8;have h4:=h.q30;exact⟨d1i h.sr,by omega,by omega,by omega,by omega⟩
end Go.Sh
namespace Go.Sh
def b4D:Hp:=⟨⟨⟨[],0⟩,0⟩,[],[],[],⟨[],0⟩⟩
theorem b5j(x:Hp)(h:Int)(f:Int→Int):(stO x h f).Roots=x.Roots∧(stO x h f).a8=x.a8∧(stO x h f).T=x.T∧(stO x h f).Q=x.Q:=by
 unfold stO;split <;> exact⟨rfl,rfl,rfl,rfl⟩
theorem a4x(x:Hp)(r:Nat)(h:Int):(F6 x r h).Roots=x.Roots.set r h∧(F6 x r h).a8=x.a8∧(F6 x r h).T=x.T∧(F6 x r h).Q=x.Q:=by
 obtain⟨a,b,c,d⟩:=b5j (wR (C2 x h) (x.Roots.set r h)) (x.Roots.getD r 0) a5E;obtain⟨a',b',c',d'⟩:=b5j x h U4;exact⟨a,b.trans b',c.trans c',d.trans d'⟩
section
variable{x:Hp}(hB:HB x)
include hB
end
end Go.Sh
namespace Go.Sh
abbrev ded(o:m7):m7:=⟨o.Serial,0,o.Weak,o.Prog,o.Started,[]⟩
def gnC(s:a7)(i:Nat):b7:=
 if (ce s i).Val.Weak=0 then (if (ce s i).Gen=s.S.Last then ⟨3,(ce s i).Gen,z0⟩ else ⟨0,(ce s i).Gen+1,z0⟩) else ⟨2,(ce s i).Gen,ded (ce s i).Val⟩
def gnA(s:a7)(d:Int):a7:=G4 s (D0 d) (gnC s (D0 d))
def gnL(s:a7)(ds:List Int):a7:=ds.foldl gnA s
theorem d2m(s:a7)(i:Nat):(gnC s i).State≠1:=by
 unfold gnC;split;·split <;> simp
 ·simp
theorem c1I{s:a7}(hR:SR s){a b:Int}(ha:a∈lv s)(hb:b∈lv s)(h:a≠b):D0 a≠D0 b:=λe=>by
 have h1:=z6 hR ha;have h2:=z6 hR hb;rw[e] at h1;exact h (h1.2.2.trans h2.2.2.symm)
section
variable{s:a7}(hR:SR s){d:Int}(hd:d∈lv s)
include hR hd
theorem c1r:SR (gnA s d):=by
 have q:=z6 hR hd;have hc:=hR.cell _ q.1;have ho:=hR.ok _ q.1 (.inl q.2.1);have no:c0S (oo z0):=⟨rfl,rfl,rfl,rfl,rfl,rfl⟩;unfold gnA gnC;split
 ·split;·exact hR.G4 q.1 ⟨by simp,by simp,hc.2.2.1,hc.2.2.2⟩ (λ_=>no) (λq=>absurd q (by unfold Th;simp))
  ·refine hR.G4 q.1 ⟨by simp,by simp,?_,?_⟩ (λ_=>no) (λq=>absurd q (by unfold Th;simp))
   ·show 0≤(ce s (D0 d)).Gen+1;omega
   ·show (ce s (D0 d)).Gen+1≤s.S.Last;omega
 ·exact hR.G4 q.1 ⟨by simp,by simp,hc.2.2.1,hc.2.2.2⟩ (λq=>absurd (.inr rfl) q) (λ_=>⟨⟨ho.s1,ho.s2,Int.le_refl _,ho.wk,ho.p1,ho.p2,Nat.zero_le _⟩,.inl q.2.1,rfl⟩)
theorem c6z(j:Nat):ce (gnA s d) j=if j=D0 d then gnC s (D0 d) else ce s j:=K5 (z6 hR hd).1 _ j
theorem d2k:lv (gnA s d)=(lv s).filter λh=>decide (h≠d):=by
 have hS:=c1r hR hd;unfold gnA at hS ⊢;have hc:=d2m s (D0 d);rw[c3m hR (z6 hR hd).1 hc hS];refine List.filter_congr λh hh=>decide_eq_decide.2 ⟨λq e=>q (by rw[e]),λq=>c1I hR hh hd q⟩
theorem d2l{k:Int}(hk:k∈lv s)(hne:k≠d):ob (gnA s d) k=ob s k:=by
 have hS:=c1r hR hd;unfold gnA at hS ⊢;exact c3t hR (z6 hR hd).1 hS hk (c1I hR hk hd hne)
end
structure Gn (s s':a7) (ds:List Int):Prop where
 sr:SR s'
 len:s'.S.a8.length=s.S.a8.length
 last:s'.S.Last=s.S.Last
 ser:s'.Serial=s.Serial
 lv:lv s'=(lv s).filter λh=>decide (h∉ds)
 ob:∀k∈Sh.lv s,k∉ds→ob s' k=ob s k
 ce:∀j,ce s' j=if j∈ds.map D0 then gnC s j else ce s j
theorem a1T:∀(ds:List Int) {s:a7} (hR:SR s),ds.Nodup→(∀d∈ds,d∈lv s)→Gn s (gnL s ds) ds
 | [],s,hR,_,_=>⟨hR,rfl,rfl,rfl,(List.filter_eq_self.2 (λa _=>by simp)).symm,λ_ _ _=>rfl,λj=>by simp[gnL]⟩
 | d::ds,s,hR,hn,hm=>by
  rw[List.nodup_cons] at hn;have hd:=hm d (List.mem_cons_self ..);have hlv:=d2k hR hd;have hm':∀e∈ds,e∈lv (gnA s d):=λe he=>by
   rw[hlv,List.mem_filter,decide_eq_true_iff];exact⟨hm e (List.mem_cons_of_mem _ he),λq=>hn.1 (q▸he)⟩
  have ih:=a1T ds (c1r hR hd) hn.2 hm';refine⟨ih.sr,ih.len.trans (X5 ..),ih.last,ih.ser,?_,λk hk hne=>?_,λj=>?_⟩
  ·show lv (gnL (gnA s d) ds)=_;rw[ih.lv,hlv,List.filter_filter];refine List.filter_congr λh hh=>?_;rw[Bool.eq_iff_iff];simp only[Bool.and_eq_true,decide_eq_true_iff,List.mem_cons,not_or];exact⟨λq=>⟨q.2,q.1⟩,λq=>⟨q.2,q.1⟩⟩
  ·show ob (gnL (gnA s d) ds) k=_;rw[List.mem_cons,not_or] at hne;rw[ih.ob k (by rw[hlv,List.mem_filter,decide_eq_true_iff];exact⟨hk,hne.1⟩) hne.2,d2l hR hd hk hne.1]
  ·show ce (gnL (gnA s d) ds) j=_;have hg:∀e∈ds,D0 e≠D0 d:=λe he=>c1I hR (hm e (List.mem_cons_of_mem _ he)) hd λq=>hn.1 (q▸he);rw[ih.ce];by_cases h1:j∈ds.map D0
   ·obtain⟨e,he,rfl⟩:=List.mem_map.1 h1;rw[if_pos h1,if_pos (by rw[List.map_cons];exact List.mem_cons_of_mem _ h1)]
    unfold gnC;rw[c6z hR hd,if_neg (hg e he)];rfl
   ·rw[if_neg h1,c6z hR hd,List.map_cons];by_cases h2:j=D0 d
    ·subst h2;rw[if_pos rfl,if_pos (List.mem_cons_self ..)]
    ·rw[if_neg h2,if_neg];rw[List.mem_cons];exact λq=>q.elim h2 h1
theorem b6S{α:Type}(p:α→Bool)(f:α→Nat):∀l:List α,(l.map f).sum=((l.filter p).map f).sum+((l.filter λx => !p x).map f).sum
 | []=>rfl
 | x::l=>by
  rw[List.map_cons,List.sum_cons,b6S p f l,List.filter_cons,List.filter_cons];cases p x <;> simp <;> omega
theorem c0A(f:Int→List Int)(y:Int):∀l:List Int,Z3 (l.flatMap f) y=(l.map λx=>Z3 (f x) y).sum
 | []=>P9 y
 | x::l=>by rw[List.flatMap_cons,K0,c0A f y l,List.map_cons,List.sum_cons]
theorem Gn.inn{s s':a7}{ds:List Int}(hR:SR s)(hn:ds.Nodup)(hm:∀d∈ds,d∈Sh.lv s)(g:Gn s s' ds)(y:Int):inn s' y+Z3 (ds.flatMap (outs s)) y=inn s y:=by
 unfold Sh.inn;rw[g.lv,b6S (λh=>decide (h∉ds)) (λx=>Z3 (outs s x) y) (Sh.lv s),c0A];have h1:((Sh.lv s).filter λh=>decide (h∉ds)).map (λx=>Z3 (outs s' x) y)=((Sh.lv s).filter λh=>decide (h∉ds)).map λx=>Z3 (outs s x) y:=List.map_congr_left λx hx=>by
  rw[List.mem_filter,decide_eq_true_iff] at hx;unfold Sh.outs;rw[g.ob x hx.1 hx.2]
 have h2:((Sh.lv s).filter λx => !decide (x∉ds)).Perm ds:=by
  rw[List.perm_ext_iff_of_nodup ((b05 (u4.2 hR)).filter _) hn];intro a;rw[List.mem_filter];simp only[decide_not,Bool.not_not,decide_eq_true_iff];exact⟨λq=>q.2,λq=>⟨hm a q,q⟩⟩
 rw[h1,(h2.map λx=>Z3 (outs s x) y).sum_nat]
theorem b9Q{L:List g9}(hd:L.Pairwise λa b=>¬(a.Kind=b.Kind∧a.At=b.At))(k:Int):((L.filter (·.Kind==k)).map (·.At)).Nodup:=by
 unfold List.Nodup;rw[List.pairwise_map];refine (hd.filter _).imp_of_mem λ{a b} ha hb h e=>?_;rw[List.mem_filter,beq_iff_eq] at ha hb;exact h ⟨ha.2.trans hb.2.symm,e⟩
theorem b5k{L:List g9}{m:List Int}(hd:L.Pairwise λa b=>¬(a.Kind=b.Kind∧a.At=b.At))(h:∀t∈L,(t.Kind=1∧t.At∈m)∨(t.Kind=2∧0≤t.At∧t.At≤5)):L.length≤m.length+6:=by
 have h1:L.length=(L.filter (·.Kind==1)).length+(L.filter (·.Kind==2)).length:=by
  rw[b0H (λt:g9=>t.Kind==1) L];congr 2;refine List.filter_congr λt ht=>?_;rcases h t ht with q | q
  ·simp[q.1]
  ·simp[q.1]
 have h2:=a4p (b9Q hd 1) (m:=m) λa ha=>by
  obtain⟨t,ht,rfl⟩:=List.mem_map.1 ha;rw[List.mem_filter,beq_iff_eq] at ht;rcases h t ht.1 with q | q
  ·exact q.2
  ·omega
 have h3:=a4p (b9Q hd 2) (m:=[0,1,2,3,4,5]) λa ha=>by
  obtain⟨t,ht,rfl⟩:=List.mem_map.1 ha;rw[List.mem_filter,beq_iff_eq] at ht;rcases h t ht.1 with q | q
  ·omega
  ·simp only[List.mem_cons,List.not_mem_nil,or_false];omega
 rw[List.length_map] at h2 h3;simp only[List.length_cons,List.length_nil] at h3;omega
theorem a5h{q:TQ}{w:Int}:wts q w=true↔∃t∈q.L,t.Kind=2∧t.At=w:=by
 unfold wts;rw[List.any_eq_true];simp
theorem b08{q:TQ}{h:Int}:h∈b4z q↔∃t∈q.L,t.Kind=1∧t.At=h:=by
 unfold b4z;rw[List.mem_map];simp only[List.mem_filter,beq_iff_eq];exact⟨λ⟨t,⟨a,b⟩,c⟩=>⟨t,a,b,c⟩,λ⟨t,a,b,c⟩=>⟨t,⟨a,b⟩,c⟩⟩
abbrev cz:c9:=⟨0,false,0⟩
def a27(ds:List Int)(c:c9):Bool:=c.Intact&&c.Target != 0&&decide (c.Target∈ds)
def a7G(ds:List Int)(c:c9):c9:=if a27 ds c then ⟨c.Target,false,c.Call⟩ else c
def clr(l:List c9)(ds:List Int):List c9:=l.map (a7G ds)
def cls(l:List c9)(ds:List Int):List Nat:=(List.range l.length).filter λw=>a27 ds (l.getD w cz)&&decide (0≤(l.getD w cz).Call)
def clt(l:List c9)(ds:List Int):List g9:=(cls l ds).map λ(w:Nat)=>⟨2,(w:Int),(l.getD w cz).Call⟩
theorem b7f(ds:List Int)(c:c9):(a7G ds c).Target=c.Target∧(a7G ds c).Call=c.Call∧((a7G ds c).Intact=true↔c.Intact=true∧a27 ds c=false):=by
 unfold a7G;cases h:a27 ds c
 ·rw[if_neg (by simp)]
  simp
 ·rw[if_pos rfl];simp
theorem c9N(l:List c9)(ds:List Int)(h:Int):nmg (clr l ds) h=nmg l h:=by
 unfold nmg clr;rw[List.countP_map];congr 1;funext c
 simp only[Function.comp_apply,(b7f ds c).1]
theorem a3P{l:List c9}{ds:List Int}{t:g9}:t∈clt l ds↔∃w,∃hw:w<l.length,t=⟨2,(w:Int),l[w].Call⟩∧a27 ds l[w]=true∧0≤l[w].Call:=by
 unfold clt cls;rw[List.mem_map];constructor
 ·rintro⟨w,hw,rfl⟩;rw[List.mem_filter,List.mem_range] at hw;obtain⟨h1,h2⟩:=hw;have e:l.getD w cz=l[w]:=by rw[List.getD_eq_getElem?_getD,List.getElem?_eq_getElem h1];rfl
  rw[e] at h2 ⊢;rw[Bool.and_eq_true,decide_eq_true_iff] at h2;exact⟨w,h1,rfl,h2.1,h2.2⟩
 ·rintro⟨w,hw,rfl,h2,h3⟩;have e:l.getD w cz=l[w]:=by rw[List.getD_eq_getElem?_getD,List.getElem?_eq_getElem hw];rfl
  refine⟨w,?_,by rw[e]⟩
  rw[List.mem_filter,List.mem_range,e,Bool.and_eq_true,decide_eq_true_iff];exact⟨hw,h2,h3⟩
theorem b6b(l:List c9)(ds:List Int):(clt l ds).Pairwise λa b=>¬(a.Kind=b.Kind∧a.At=b.At):=by
 unfold clt cls;rw[List.pairwise_map];refine (List.Pairwise.filter _ (List.nodup_range (n:=l.length))).imp λ{a b} h=>?_;rintro⟨_,e⟩;dsimp only at e;omega
end Go.Sh
namespace Go.Sh
def a3K(x:Hp)(ds:List Int)(t:Tb):Hp:=⟨gnL x.S ds,x.Roots,clr x.a8 ds,t,⟨x.Q.L++clt x.a8 ds,x.Q.Cap⟩⟩
theorem b4A(q:TQ)(l:List g9)(c:Int)(h:∀t∈l,t.Kind≠1):b4z ⟨q.L++l,c⟩=b4z q:=by
 unfold b4z;dsimp only;rw[List.filter_append];have:l.filter (λt=>t.Kind==1) = []:=by
  rw[List.filter_eq_nil_iff];intro t ht;simpa using h t ht
 rw[this,List.append_nil]
theorem c4k{x:Hp}(hx:M3 x){ds:List Int}(hn:ds.Nodup)(hm:∀d∈ds,d∈lv x.S)
  (ho:∀d∈ds,d∉otr x)(hf:∀h∈lv x.S,h∉ds→∀v∈(ob x.S h).Fields,v∉ds)(hp:∀k v,Has x.T k v→k∉ds→v∉ds)
  {t:Tb}{vals:List Int}(ht:HR t)(h1:∀k v,Has t k v↔k∉ds∧Has x.T k v)(h2:∀y,own t y+Z3 vals y=own x.T y) :
  HpS (a3K x ds t)∧Wk (a3K x ds t)∧a1p (a3K x ds t) (ds.flatMap (outs x.S)++vals):=by
 have hS:=hx.sh;have hR:=hS.sr;have g:=a1T ds hR hn hm;have hlv:∀h,h∈lv (gnL x.S ds)↔h∈lv x.S∧h∉ds:=λh=>by rw[g.lv,List.mem_filter,decide_eq_true_iff]
 have hlen:(lv x.S).length≤24:=F3 (u4.2 hR);have hcl:∀w (hw:w<x.a8.length),a27 ds x.a8[w]=true→x.a8[w].Intact=true:=λw hw q=>by
  unfold a27 at q;rw[Bool.and_eq_true,Bool.and_eq_true] at q;exact q.1.1
 have htd:(x.Q.L++clt x.a8 ds).Pairwise λa b=>¬(a.Kind=b.Kind∧a.At=b.At):=by
  rw[List.pairwise_append];refine⟨hS.td,b6b ..,λa ha b hb q=>?_⟩;obtain⟨w,hw,rfl,hh,_⟩:=a3P.1 hb;have:=((hS.cl w hw).2.2.2.2 (hcl w hw hh)).2;rw[Bool.eq_false_iff] at this;exact this (a5h.2 ⟨a,ha,q.1,q.2⟩)
 have htk:∀t∈x.Q.L++clt x.a8 ds,0≤t.Prog∧t.Prog≤5∧((t.Kind=1∧t.At∈lv (gnL x.S ds)∧(ob (gnL x.S ds) t.At).Started=true)∨(t.Kind=2∧0≤t.At∧t.At≤5)):=λt htt=>by
  rcases List.mem_append.1 htt with q | q
  ·obtain⟨a,b,c⟩:=hS.tk t q;refine⟨a,b,?_⟩;rcases c with ⟨c1,c2,c3⟩ | c
   ·have hnd:t.At∉ds:=λhd=>ho _ hd (List.mem_append.2 (.inr (b08.2 ⟨t,q,c1,rfl⟩)));exact .inl ⟨c1,(hlv _).2 ⟨c2,hnd⟩,by rw[g.ob _ c2 hnd];exact c3⟩
   ·exact .inr c
  ·obtain⟨w,hw,rfl,hh,hc⟩:=a3P.1 q;have c6:=hS.c6;have:=(hS.cl w hw).2.1;exact⟨hc,this,.inr ⟨rfl,by dsimp only;omega,by dsimp only;omega⟩⟩
 have hq30:(x.Q.L++clt x.a8 ds).length≤30:=by
  have:=b5k (m:=lv x.S) htd λt htt=>by
   rcases (htk t htt).2.2 with q | q
   ·exact .inl ⟨q.1,((hlv _).1 q.2.1).1⟩
   ·exact .inr q
  omega
 have hwts:∀i:Nat,wts x.Q i=false→(∀hi:i<x.a8.length,a27 ds x.a8[i]=false)→wts ⟨x.Q.L++clt x.a8 ds,x.Q.Cap⟩ i=false:=λi q1 q2=>by
  rw[Bool.eq_false_iff] at q1 ⊢;intro q;obtain⟨t,ht,a,b⟩:=a5h.1 q;rcases List.mem_append.1 ht with c | c
  ·exact q1 (a5h.2 ⟨t,c,a,b⟩)
  ·obtain⟨w,hw,rfl,hh,_⟩:=a3P.1 c;dsimp only at b;have:w=i:=by omega
   subst this;rw[q2 hw] at hh;cases hh
 refine⟨⟨g.sr,ht,hS.r6,?_,hS.cap,hq30,htk,htd,λh hh=>?_,λh hh v hv=>?_,λk v hkv=>?_,λi hi=>?_⟩,λi hi hti=>?_,λh hh hlt=>?_⟩
 ·unfold a3K clr;rw[List.length_map];exact hS.c6
 ·rcases hS.rt h hh with q | q
  ·exact .inl q
  ·have h0:h≠0:=λe=>a8d hR (e▸q);exact .inr ((hlv h).2 ⟨q,λhd=>ho h hd (List.mem_append.2 (.inl (a6R.2 ⟨hh,h0⟩)))⟩)
 ·obtain⟨a,b⟩:=(hlv h).1 hh;have hv':v∈(ob x.S h).Fields:=by
   have e:=g.ob h a b;unfold a3K at hv;rwa [e] at hv
  rcases hS.fl h a v hv' with q | q
  ·exact .inl q
  ·exact .inr ((hlv v).2 ⟨q,hf h a b v hv'⟩)
 ·obtain⟨a,b⟩:=(h1 k v).1 hkv;obtain⟨c,d⟩:=hS.pr k v b;exact⟨(hlv k).2 ⟨c,a⟩,(hlv v).2 ⟨d,hp k v b a⟩⟩
 ·have hi':i<x.a8.length:=by
   unfold a3K clr at hi;simpa using hi
  have e:(a3K x ds t).a8[i]=a7G ds x.a8[i]:=List.getElem_map _;obtain⟨a1,a2,a3,a4,a5⟩:=hS.cl i hi';obtain⟨b1,b2,b3⟩:=b7f ds x.a8[i];rw[e,b1,b2];refine⟨a1,a2,λq=>?_,λq=>?_,λq=>?_⟩
  ·rw[Bool.eq_false_iff];intro q2;rw[a3 q] at b3;exact absurd (b3.1 q2).1 (by decide)
  ·obtain⟨p,hp1,hp2,hp3⟩:=a4 q;refine⟨p,by show p<(gnL x.S ds).S.a8.length;rw[g.len];exact hp1,?_⟩
   show Th (ce (gnL x.S ds) p)∧_=1+(p:Int)+32*(ce (gnL x.S ds) p).Gen;rw[g.ce];split
   ·have hw:=(hx.wk p hp1 hp2).1;have:=b09 hi' q;rw[hp3] at this;unfold gnC;rw[if_neg (by omega)]
    exact⟨.inr rfl,hp3⟩
   ·exact⟨hp2,hp3⟩
  ·obtain⟨c1,c2⟩:=b3.1 q;obtain⟨d1,d2⟩:=a5 c1;have h0:x.a8[i].Target≠0:=λe=>a8d hR (e▸d1);refine⟨(hlv _).2 ⟨d1,λhd=>?_⟩,hwts i d2 λ_=>c2⟩;have:a27 ds x.a8[i]=true:=by
    unfold a27;simp[c1,h0,hd]
   rw[this] at c2;cases c2
 ·have hi':i<x.S.S.a8.length:=by
   have:=g.len;have hi:i<(gnL x.S ds).S.a8.length:=hi;omega
  show (ce (gnL x.S ds) i).Val.Weak=(nmg (clr x.a8 ds) (1+(i:Int)+32*(ce (gnL x.S ds) i).Gen):Int)∧((ce (gnL x.S ds) i).State=2→_);have hti':Th (ce (gnL x.S ds) i):=hti;show _∧((ce (gnL x.S ds) i).State=2→1≤(ce (gnL x.S ds) i).Val.Weak∧(ce (gnL x.S ds) i).Val.Fields = []∧(ce (gnL x.S ds) i).Val.Strong=0);rw[c9N];rw[g.ce] at hti' ⊢;split
  ·rename_i q;rw[if_pos q] at hti';obtain⟨d,hd,rfl⟩:=List.mem_map.1 q;have hp:=z6 hR (hm d hd);have hw:=(hx.wk _ hi' (.inl hp.2.1)).1;unfold gnC at hti' ⊢;split at hti'
   ·exfalso;unfold Th at hti';split at hti' <;> simp at hti'
   ·rename_i q2;rw[if_neg q2];have:=(hR.ok _ hi' (.inl hp.2.1)).wk;exact⟨hw,λ_=>⟨by dsimp only;omega,rfl,rfl⟩⟩
  ·rename_i q;rw[if_neg q] at hti';exact hx.wk i hi' hti'
 ·obtain⟨a,b⟩:=(hlv h).1 hh;have e:=g.ob h a b;have e':ob (a3K x ds t).S h=ob x.S h:=e;rw[e'] at hlt ⊢;have hf:=hx.fair h a hlt;rw[P9] at hf;rw[hf];have i1:=g.inn hR hn hm h;have i2:=h2 h;have i3:b4z ⟨x.Q.L++clt x.a8 ds,x.Q.Cap⟩=b4z x.Q:=b4A _ _ _ λt ht=>by
   obtain⟨w,_,rfl,_⟩:=a3P.1 ht;simp
  unfold nms otr a3K;dsimp only;rw[i3,K0 (ds.flatMap (outs x.S)),K0];omega
theorem b48:∀(l:List Int) {x:Hp},HpS x→Wk x→a1p x l→M3 (l.foldl Q2 x)
 | [],x,h1,h2,h3=>⟨h1,h2,h3⟩
 | v::l,x,h1,h2,h3=>b48 l (h1.st v λc=>N8) (h2.st h1.sr v λc=>N8) (b1y h1.sr h3)
abbrev srt(o:m7):m7:=⟨o.Serial,o.Strong,o.Weak,o.Prog,true,o.Fields⟩
abbrev qtk(x:Hp)(h:Int):g9:=⟨1,h,(ob x.S h).Prog⟩
noncomputable def quH(x:Hp)(h:Int):Hp:=C2 ⟨seO x.S h (srt (ob x.S h)),x.Roots,x.a8,x.T,⟨x.Q.L ++ [qtk x h],x.Q.Cap⟩⟩ h
theorem b2k{x:Hp}(hx:M3 x){h:Int}(hh:h∈lv x.S)(hp:0≤(ob x.S h).Prog)(hs:(ob x.S h).Started=false):M3 (quH x h):=by
 have hS:=hx.sh;have hR:=hS.sr;have oko:=J5 hR hh;have ho:OkO x.S (srt (ob x.S h)):=⟨oko.s1,oko.s2,oko.st,oko.wk,oko.p1,oko.p2,oko.fl⟩;have r1:=a0T (o:=srt (ob x.S h)) hR hh rfl ho;have l1:=a3z (o:=srt (ob x.S h)) hR hh rfl ho;have o1:∀j,j∈lv x.S→ob (seO x.S h (srt (ob x.S h))) j=if j=h then srt (ob x.S h) else ob x.S j:=λj hj=>by
  have:=G8 hR hj;exact a2H (o:=srt (ob x.S h)) hR hh rfl ho (by omega)
 have hlen:(lv x.S).length≤24:=F3 (u4.2 hR);have s1:HpS (wS x (seO x.S h (srt (ob x.S h)))):=hS.of r1 l1 (λk i q=>(c2f (o:=srt (ob x.S h)) hR hh rfl ho).2 q) (λk hk q=>by
  rw[o1 k hk];split;·rfl
  ·exact q) λk hk v hv=>by
  rw[o1 k hk] at hv;split at hv;·rename_i e;subst e;exact hS.fl k hk v hv
  ·exact hS.fl k hk v hv
 have w1:Wk (wS x (seO x.S h (srt (ob x.S h)))):=λi hi ht=>by
  have L3:=z6 hR hh;have hc:=b8v (o:=srt (ob x.S h)) hR hh rfl ho i;dsimp only at hi ht ⊢;rw[hc] at ht ⊢;have hi':i<x.S.S.a8.length:=by unfold seO at hi;rwa [M2] at hi
  split at ht
  ·rename_i e;subst e;rw[if_pos rfl];dsimp only;have:=hx.wk _ hi' (.inl L3.2.1);rw[O8 hR L3];exact⟨this.1,λq=>absurd q (by rw[L3.2.1];decide)⟩
  ·rename_i e;rw[if_neg e];exact hx.wk i hi' ht
 have htd:(x.Q.L ++ [qtk x h]).Pairwise λa b=>¬(a.Kind=b.Kind∧a.At=b.At):=by
  rw[List.pairwise_append];refine⟨hS.td,by simp,λa ha b hb q=>?_⟩
  rw[List.mem_singleton] at hb;subst hb;dsimp only at q;rcases (hS.tk a ha).2.2 with c | c
  ·rw[q.2,hs] at c;exact absurd c.2.2 (by decide)
  ·omega
 have htk:∀t∈x.Q.L ++ [qtk x h],0≤t.Prog∧t.Prog≤5∧((t.Kind=1∧t.At∈lv (seO x.S h (srt (ob x.S h)))∧(ob (seO x.S h (srt (ob x.S h))) t.At).Started=true)∨(t.Kind=2∧0≤t.At∧t.At≤5)):=λt ht=>by
  rcases List.mem_append.1 ht with q | q
  ·exact s1.tk t q
  ·rw[List.mem_singleton] at q;subst q;refine⟨hp,oko.p2,.inl ⟨rfl,by rw[l1];exact hh,?_⟩⟩
   dsimp only;rw[o1 h hh,if_pos rfl]
 have hq30:(x.Q.L ++ [qtk x h]).length≤30:=by
  have:=b5k (m:=lv x.S) htd λt ht=>by
   rcases (htk t ht).2.2 with q | q
   ·exact .inl ⟨q.1,by rw[←l1];exact q.2.1⟩
   ·exact .inr q
  omega
 have s2:HpS ⟨seO x.S h (srt (ob x.S h)),x.Roots,x.a8,x.T,⟨x.Q.L ++ [qtk x h],x.Q.Cap⟩⟩:=by
  refine⟨s1.sr,s1.hr,s1.r6,s1.c6,s1.cap,hq30,htk,htd,s1.rt,s1.fl,s1.pr,λi hi=>?_⟩;obtain⟨a,b,c,d,e⟩:=s1.cl i hi;refine⟨a,b,c,d,λq=>⟨(e q).1,?_⟩⟩;have:=(e q).2;rw[Bool.eq_false_iff] at this ⊢;intro q2;obtain⟨t,ht,k1,k2⟩:=a5h.1 q2;rcases List.mem_append.1 ht with q3 | q3
  ·exact this (a5h.2 ⟨t,q3,k1,k2⟩)
  ·rw[List.mem_singleton] at q3;subst q3;dsimp only at k1;omega
 have w2:Wk ⟨seO x.S h (srt (ob x.S h)),x.Roots,x.a8,x.T,⟨x.Q.L ++ [qtk x h],x.Q.Cap⟩⟩:=w1;refine⟨s2.st h λc=>D5,w2.st s2.sr h λc=>D5,λk hk hlt=>?_⟩;have hk':k∈lv x.S:=by
  have:lv (quH x h).S=lv x.S:=(F7 s2.sr h λc=>D5).lv.trans l1;rw[←this];exact hk
 have hst:(ob (quH x h).S k).Strong=if k=h then U4 (ob x.S k).Strong else (ob x.S k).Strong:=by
  have:=b2C (x:=⟨seO x.S h (srt (ob x.S h)),x.Roots,x.a8,x.T,⟨x.Q.L ++ [qtk x h],x.Q.Cap⟩⟩) s2.sr h (f:=U4) (λc=>D5) (k:=k) (by rw[←l1] at hk';exact hk')
  refine Eq.trans this ?_;dsimp only;rw[o1 k hk'];by_cases e:k=h
  ·subst e;rw[if_pos rfl,if_pos rfl,if_pos rfl]
  ·rw[if_neg e,if_neg e,if_neg e]
 have hnm:nms (quH x h) k=nms x k+if k=h then 1 else 0:=by
  have:=b3P (x:=⟨seO x.S h (srt (ob x.S h)),x.Roots,x.a8,x.T,⟨x.Q.L ++ [qtk x h],x.Q.Cap⟩⟩) s2.sr h (f:=U4) (λc=>D5) k;refine Eq.trans this ?_;have hi:=c3d (o:=srt (ob x.S h)) hR hh rfl ho k;dsimp only at hi;have h0:k≠0:=λe=>a8d hR (e▸hk');unfold nms otr b4z;dsimp only;rw[List.filter_append,List.map_append,K0,K0,K0];have:Z3 (List.map (·.At) (List.filter (λt:g9=>t.Kind==1) [qtk x h])) k=if k=h then 1 else 0:=by
   show Z3 [h] k=_;rw[G1,P9];by_cases e:k=h
   ·rw[if_pos ⟨e.symm,h0⟩,if_pos e]
   ·rw[if_neg (λq=>e q.1.symm),if_neg e]
  rw[this];omega
 rw[hst] at hlt ⊢;rw[hnm,P9];have hpos:=(J5 hR hk').st;by_cases e:k=h
 ·rw[if_pos e] at hlt ⊢;rw[if_pos e];have:=hx.fair k hk' (by unfold U4 at hlt;split at hlt <;> omega)
  rw[P9] at this;unfold U4 at hlt ⊢;split at hlt;·omega
  ·rename_i q;rw[if_neg q,if_neg (by omega)]
   omega
 ·rw[if_neg e] at hlt ⊢;rw[if_neg e];have:=hx.fair k hk' hlt;rw[P9] at this;exact this
end Go.Sh
namespace Go.Sh
noncomputable def zr(x:Hp):List Int:=(lv x.S).filter λh=>(ob x.S h).Strong==0
theorem a1o{x:Hp}{h:Int}:h∈zr x↔h∈lv x.S∧(ob x.S h).Strong=0:=by
 unfold zr;rw[List.mem_filter,beq_iff_eq]
theorem b8W{x:Hp}(hx:M3 x){z:Int}(hz:z∈zr x):nms x z=0:=by
 obtain⟨a,b⟩:=a1o.1 hz;have:=hx.fair z a (by omega)
 rw[P9] at this;omega
theorem c0B{l:List Int}{h:Int}(h0:h≠0)(e:Z3 l h=0):h∉l:=λq=>by
 have:=a2c.2 ⟨h0,q⟩;omega
theorem c6M{α:Type}(f:α→Nat):∀ {l:List α} {a:α},a∈l→f a≤(l.map f).sum
 | b::l,a,h=>by
  rw[List.map_cons,List.sum_cons];rcases List.mem_cons.1 h with e | e
  ·subst e;omega
  ·have:=c6M f e;omega
theorem b7J{s:a7}{a y:Int}(ha:a∈lv s):Z3 (outs s a) y≤inn s y:=c6M (λx=>Z3 (outs s x) y) ha
theorem b7X{t:Tb}{k v:Int}(h:Has t k v)(h0:v≠0):0<own t v:=List.countP_pos_iff.2 ⟨⟨k,v⟩,a3Q.2 h,by simp[h0]⟩
def wot(t:Tb)(ks:List Int):Tb × List Int:=(O3 t ks).getD (t,[])
theorem a4F{t:Tb}(hT:HR t)(ks:List Int)(hks:ks.length≤1000):O3 t ks=some (wot t ks)∧HR (wot t ks).1∧(wot t ks).2.length≤ks.length∧a5b (t.map L3) ks=some ((wot t ks).1.map L3,(wot t ks).2) ∧
  (∀k v,Has (wot t ks).1 k v↔k∉ks∧Has t k v)∧∀y,own (wot t ks).1 y+Z3 (wot t ks).2 y=own t y:=by
 obtain⟨a,had,h1,h2,h3,h4,h5,h6,h7,h8,h9⟩:=c0K hT ks hks;have:wot t ks=(a,had):=by unfold wot;rw[h1];rfl
 rw[this];exact⟨h1,h2,h4,h5,h6,h9⟩
noncomputable def buH(x:Hp)(ds:List Int):Hp:=(ds.flatMap (outs x.S)++(wot x.T ds).2).foldl Q2 (a3K x ds (wot x.T ds).1)
theorem a4v:∀(l:List Int) {x:Hp},SR x.S→Kin x.S (l.foldl Q2 x).S∧l.foldl Q2 x=wS x (l.foldl Q2 x).S
 | [],x,h=>⟨Kin.refl h,rfl⟩
 | v::l,x,h=>by
  have k1:=F7 h v (f:=a5E) λc=>N8;obtain⟨k2,e⟩:=a4v l (x:=Q2 x v) k1.sr;refine⟨k1.trans k2,?_⟩;show l.foldl Q2 (Q2 x v)=wS x (l.foldl Q2 (Q2 x v)).S;rw[e,d3z x v]
theorem b58{x:Hp}(hx:M3 x){ds:List Int}(hn:ds.Nodup)(hm:∀d∈ds,d∈lv x.S)
  (ho:∀d∈ds,d∉otr x)(hf:∀h∈lv x.S,h∉ds→∀v∈(ob x.S h).Fields,v∉ds)(hp:∀k v,Has x.T k v→k∉ds→v∉ds):M3 (buH x ds):=by
 have hl:ds.length≤24:=Nat.le_trans (a4p hn hm) (F3 (u4.2 hx.sh.sr));obtain⟨_,w1,_,_,w2,w3⟩:=a4F hx.sh.hr ds (by omega)
 obtain⟨a,b,c⟩:=c4k hx hn hm ho hf hp w1 w2 w3;exact b48 _ a b c
theorem b7c{x:Hp}(hR:SR x.S){ds:List Int}(hn:ds.Nodup)(hm:∀d∈ds,d∈lv x.S):lv (buH x ds).S=(lv x.S).filter λh=>decide (h∉ds):=by
 have g:=a1T ds hR hn hm;exact (a4v (ds.flatMap (outs x.S)++(wot x.T ds).2) (x:=a3K x ds (wot x.T ds).1) g.sr).1.lv.trans g.lv
theorem c07{x:Hp}(hR:SR x.S){ds:List Int}(hn:ds.Nodup)(hm:∀d∈ds,d∈lv x.S){k:Int}(hk:k∈lv x.S)(hd:k∉ds):∃n,ob (buH x ds).S k=stg (ob x.S k) n:=by
 have g:=a1T ds hR hn hm;have hr:=G8 hR hk;obtain⟨n,e⟩:=(a4v (ds.flatMap (outs x.S)++(wot x.T ds).2) (x:=a3K x ds (wot x.T ds).1) g.sr).1.ob k (by omega)
 refine⟨n,?_⟩;have e':ob (buH x ds).S k=_:=e;have g':ob (a3K x ds (wot x.T ds).1).S k=ob x.S k:=g.ob k hk hd;rw[e',g']
theorem b0z{x:Hp}(hR:SR x.S){ds:List Int}(hn:ds.Nodup)(hm:∀d∈ds,d∈lv x.S):(buH x ds).Roots=x.Roots∧(buH x ds).a8=clr x.a8 ds∧(buH x ds).T=(wot x.T ds).1∧(buH x ds).Q=⟨x.Q.L++clt x.a8 ds,x.Q.Cap⟩:=by
 have g:=a1T ds hR hn hm;have e:=(a4v (ds.flatMap (outs x.S)++(wot x.T ds).2) (x:=a3K x ds (wot x.T ds).1) g.sr).2;have e':buH x ds=wS (a3K x ds (wot x.T ds).1) (buH x ds).S:=e;rw[e'];exact⟨rfl,rfl,rfl,rfl⟩
theorem b5x{x:Hp}(hx:M3 x){z:Int}(hz:z∈zr x):M3 (buH x [z]):=by
 obtain⟨a,b⟩:=a1o.1 hz;have h0:z≠0:=λe=>a8d hx.sh.sr (e▸a);have hn:=b8W hx hz;unfold nms at hn;refine b58 hx (by simp) (by simpa using a) (λd hd=>?_) (λh hh hne v hv q=>?_) (λk v hkv _ q=>?_)
 ·rw[List.mem_singleton] at hd;subst hd;exact c0B h0 (by omega)
 ·rw[List.mem_singleton] at q;subst q;have:=b7J (y:=v) hh;have h1:=a2c.2 ⟨h0,show v∈outs x.S h from a6R.2 ⟨hv,h0⟩⟩;omega
 ·rw[List.mem_singleton] at q;subst q;have:=b7X hkv h0;omega
def due(o:m7):Bool:=decide (0≤o.Prog) && !o.Started
noncomputable def stp(x:Hp):Hp:=match zr x with
 | []=>x
 | z::_=>if due (ob x.S z) then quH x z else buH x [z]
noncomputable def stN:Nat→Hp→Hp
 | 0,x=>x
 | n+1,x=>stN n (stp x)
theorem a2b(n:Nat)(x:Hp):stN (n+1) x=stp (stN n x):=by
 induction n generalizing x with
 | zero=>rfl
 | succ n ih=>exact ih (stp x)
theorem a9j{x:Hp}(h:zr x = []):stp x=x:=by unfold stp;rw[h]
theorem a4B{x:Hp}{z:Int}{l:List Int}(h:zr x=z::l):stp x=if due (ob x.S z) then quH x z else buH x [z]:=by unfold stp;rw[h]
theorem c5d{x:Hp}(hx:M3 x):M3 (stp x):=by
 cases h:zr x with
 | nil=>rw[a9j h];exact hx
 | cons z l=>
  have hz:z∈zr x:=by rw[h];exact List.mem_cons_self ..
  rw[a4B h];split
  ·rename_i q;unfold due at q;rw[Bool.and_eq_true,decide_eq_true_iff,Bool.not_eq_true'] at q;exact b2k hx (a1o.1 hz).1 q.1 q.2
  ·exact b5x hx hz
theorem a0F{x:Hp}(hx:M3 x)(n:Nat):M3 (stN n x):=by
 induction n with
 | zero=>exact hx
 | succ n ih=>rw[a2b];exact c5d ih
section
variable{x:Hp}(hR:SR x.S){h:Int}(hh:h∈lv x.S)
include hR hh
theorem a6W:Kin (seO x.S h (srt (ob x.S h))) (quH x h).S∧(quH x h).Roots=x.Roots∧(quH x h).a8=x.a8∧(quH x h).T=x.T∧(quH x h).Q=⟨x.Q.L ++ [qtk x h],x.Q.Cap⟩:=by
 have oko:=J5 hR hh;have r1:=a0T (o:=srt (ob x.S h)) hR hh rfl ⟨oko.s1,oko.s2,oko.st,oko.wk,oko.p1,oko.p2,oko.fl⟩;refine⟨F7 (x:=⟨seO x.S h (srt (ob x.S h)),x.Roots,x.a8,x.T,⟨x.Q.L ++ [qtk x h],x.Q.Cap⟩⟩) r1 h λc=>D5,?_⟩;have e:quH x h=wS ⟨seO x.S h (srt (ob x.S h)),x.Roots,x.a8,x.T,⟨x.Q.L ++ [qtk x h],x.Q.Cap⟩⟩ (quH x h).S:=b2w _ h;rw[e];exact⟨rfl,rfl,rfl,rfl⟩
theorem b71:lv (quH x h).S=lv x.S:=by
 have oko:=J5 hR hh;exact (a6W hR hh).1.lv.trans (a3z (o:=srt (ob x.S h)) hR hh rfl ⟨oko.s1,oko.s2,oko.st,oko.wk,oko.p1,oko.p2,oko.fl⟩)
theorem b4U{k:Int}(hk:k∈lv x.S):∃n,ob (quH x h).S k=stg (if k=h then srt (ob x.S h) else ob x.S k) n:=by
 have oko:=J5 hR hh;have hr:=G8 hR hk;obtain⟨n,e⟩:=(a6W hR hh).1.ob k (by omega)
 refine⟨n,?_⟩;rw[e,a2H (o:=srt (ob x.S h)) hR hh rfl ⟨oko.s1,oko.s2,oko.st,oko.wk,oko.p1,oko.p2,oko.fl⟩ (by omega)]
end
noncomputable def mu(x:Hp):Nat:=(lv x.S).length+((lv x.S).filter λh => !(ob x.S h).Started).length
theorem d4W{x:Hp}(hR:SR x.S):mu x≤48:=by
 have h1:(lv x.S).length≤24:=F3 (u4.2 hR);have h2:((lv x.S).filter λh => !(ob x.S h).Started).length≤(lv x.S).length:=List.length_filter_le ..;unfold mu;omega
theorem d3O{x:Hp}(hx:M3 x)(h:zr x ≠ []):mu (stp x)<mu x:=by
 cases hz:zr x with
 | nil=>exact absurd hz h
 | cons z l=>
  have hzm:z∈zr x:=by rw[hz];exact List.mem_cons_self ..
  have hzl:=(a1o.1 hzm).1;have hR:=hx.sh.sr;rw[a4B hz];split
  ·rename_i q;unfold due at q;rw[Bool.and_eq_true,decide_eq_true_iff,Bool.not_eq_true'] at q;unfold mu;rw[b71 hR hzl];have:=filter_lt (p:=λh => !(ob (quH x z).S h).Started) (q:=λh => !(ob x.S h).Started) (l:=lv x.S) (λk hk hp=>by
    obtain⟨n,e⟩:=b4U hR hzl hk;rw[e] at hp;split at hp;·exact absurd hp (by simp)
    ·exact hp) z hzl (by rw[q.2];rfl) (by
    obtain⟨n,e⟩:=b4U hR hzl hzl;rw[e,if_pos rfl];rfl)
   omega
  ·unfold mu;have hn:([z]:List Int).Nodup:=by simp
   have hm:∀d ∈ [z],d∈lv x.S:=by simpa using hzl
   rw[b7c hR hn hm,List.filter_filter];have h1:((lv x.S).filter λh=>decide (h ∉ [z])).length<((lv x.S).filter λ_=>true).length:=filter_lt (λ_ _ _=>rfl) z hzl rfl (by simp)
   rw[List.filter_eq_self.2 (λ_ _=>rfl)] at h1;have h2:((lv x.S).filter λa=>(!(ob (buH x [z]).S a).Started)&&decide (a ∉ [z])).length≤((lv x.S).filter λh => !(ob x.S h).Started).length:=by
    rw[←List.countP_eq_length_filter,←List.countP_eq_length_filter];refine List.countP_mono_left λa ha hp=>?_;rw[Bool.and_eq_true,decide_eq_true_iff] at hp;obtain⟨n,e⟩:=c07 hR hn hm ha hp.2;rw[e] at hp;exact hp.1
   omega
noncomputable def a1G(x:Hp):Hp:=stN 100 x
theorem b2z{x:Hp}(hx:M3 x):∃n,n≤48∧zr (stN n x) = []∧(∀j,j<n→zr (stN j x) ≠ [])∧a1G x=stN n x:=by
 have key:∀m,(∃n,n≤m∧zr (stN n x) = [])∨mu (stN m x)+m≤mu x:=by
  intro m;induction m with
  | zero=>exact .inr (Nat.le_refl _)
  | succ m ih=>
   rcases ih with ⟨n,h1,h2⟩ | ih;·exact .inl ⟨n,by omega,h2⟩
   ·by_cases q:zr (stN m x) = []
    ·exact .inl ⟨m,by omega,q⟩
    ·have:=d3O (a0F hx m) q;rw[←a2b] at this;exact .inr (by omega)
 have h48:=d4W hx.sh.sr;have hex:∃n,n≤48∧zr (stN n x) = []:=by
  rcases key 49 with ⟨n,h1,h2⟩ | h
  ·rcases Nat.lt_or_ge n 49 with q | q
   ·exact⟨n,by omega,h2⟩
   ·rcases key 48 with h | h
    ·exact h
    ·have:mu (stN 48 x)=0:=by omega
     refine⟨48,Nat.le_refl _,?_⟩;have hl:(lv (stN 48 x).S).length=0:=by unfold mu at this;omega
     unfold zr;rw[List.eq_nil_of_length_eq_zero hl];rfl
  ·omega
 obtain⟨n,⟨hn,hz⟩,hmin⟩:=a1e hex;refine⟨n,hn,hz,λj hj q=>?_,?_⟩
 ·have:=hmin j ⟨by omega,q⟩
  omega
 ·have:∀k,stN (n+k) x=stN n x:=λk=>by
   induction k with
   | zero=>rfl
   | succ k ih=>rw[show n+(k+1)=(n+k)+1 by omega,a2b,ih,a9j hz]
  have h100:=this (100-n);rw[show n+(100-n)=100 by omega] at h100
  exact h100
theorem a2I{x:Hp}(hx:M3 x):M3 (a1G x):=a0F hx 100
theorem b6P{x:Hp}(hx:M3 x):zr (a1G x) = []:=by
 obtain⟨n,_,h,_,e⟩:=b2z hx;rw[e];exact h
theorem c0s{x:Hp}(h:zr x = []):a1G x=x:=by
 have:∀n,stN n x=x:=λn=>by
  induction n with
  | zero=>rfl
  | succ n ih=>rw[a2b,ih,a9j h]
 exact this 100
end Go.Sh
namespace Go.Sh
section
variable{x:Hp}(hR:SR x.S)
include hR
theorem a1Z{h:Int}(hh:h∈lv x.S):h≤9223372036854775807:=by have:=G8 hR hh;omega
theorem b18{h:Int}(hh:h∈lv x.S):x6 x.S h=some (ob x.S h,0):=by
 obtain⟨e,h1,h2⟩:=R6 (u4.2 hR) (a1Z hR hh);rw[h1,h2.2 hh]
theorem a71{h:Int}(hh:h∈lv x.S):E5 (sO x.S) h=some (oo (ob x.S h),0):=by
 have:=hR.len;rw[a5G x.S (by omega) (a1Z hR hh),b18 hR hh]
 rfl
theorem zero_eq:a1C x=some (zr x):=by
 have h24:(lv x.S).length≤24:=F3 (u4.2 hR);unfold a1C;simp only[jn];rw[a1Y (u4.2 hR),d6X];rw[F8 (lv x.S) (λb h=>if (ob x.S h).Strong==0 then b ++ [h] else b) id (λk b=>b.length≤k) (by omega) (Nat.le_refl _) (λk hk b hb=>?_) (λb hb=>by simp)]
 ·rw[foldl_filter];rfl
 ·simp only[Int.ofNat_lt,hk,decide_true,if_true,o7 hk,d6X,b18 hR (List.getElem_mem hk)];by_cases c:((ob x.S (lv x.S)[k]).Strong==0)=true
  ·rw[if_pos c,if_pos c,y9 (by omega) (by simp;omega),d6X,l6]
   exact⟨rfl,by simp;omega⟩
  ·rw[if_neg c,if_neg c,l6];exact⟨rfl,by omega⟩
theorem c8g:a8r (hO x)=some (zr x):=by
 have h24:(lv x.S).length≤24:=F3 (u4.2 hR);unfold a8r;simp only[jn];rw[show (hO x).S=sO x.S from rfl,a6M (u4.2 hR),d6X];rw[F8 (lv x.S) (λb h=>if (ob x.S h).Strong==0 then b ++ [h] else b) id (λk b=>b.length≤k) (by omega) (Nat.le_refl _) (λk hk b hb=>?_) (λb hb=>by simp)]
 ·rw[foldl_filter];rfl
 ·simp only[Int.ofNat_lt,hk,decide_true,if_true,o7 hk,d6X,a71 hR (List.getElem_mem hk)];by_cases c:((ob x.S (lv x.S)[k]).Strong==0)=true
  ·rw[show ((oo (ob x.S (lv x.S)[k])).Strong==0)=true from c,if_pos rfl,if_pos c,y9 (by omega) (by simp;omega),d6X,l6]
   exact⟨rfl,by simp;omega⟩
  ·rw[if_neg (show ¬((oo (ob x.S (lv x.S)[k])).Strong==0)=true from c),if_neg c,l6];exact⟨rfl,by omega⟩
end
noncomputable def quD(x:Hp)(h:Int):Hp:=if h∈lv x.S∧due (ob x.S h)=true then quH x h else x
theorem b8B{s:a7}(hR:SR s){h:Int}(hl:h∈lv s):OkO s (srt (ob s h)):=by
 have oko:=J5 hR hl;exact⟨oko.s1,oko.s2,oko.st,oko.wk,oko.p1,oko.p2,oko.fl⟩
theorem c3z(o:m7):L8 o=some (due o):=by
 unfold L8 due;congr 1
section
variable{x:Hp}(hx:M3 x)(hS:SL x){h:Int}(hh:h≤9223372036854775807)
include hx hS hh
theorem b4V(hl:h∈lv x.S)(hd:due (ob x.S h)=true):x.Q.L.length<30:=by
 have hb:0≤(ob x.S h).Prog∧(ob x.S h).Started=false:=by
  unfold due at hd;rw[Bool.and_eq_true,decide_eq_true_iff,Bool.not_eq_true'] at hd;exact hd
 have:=(b2k hx hl hb.1 hb.2).sh.q30;rw[(a6W hx.sh.sr hl).2.2.2.2] at this;simp at this;omega
theorem b6D:S0 x h=some (quD x h):=by
 have hR:=hx.sh.sr;have cap:=hx.sh.cap;obtain⟨e,h1,h2⟩:=R6 (u4.2 hR) hh;unfold S0 quD;rw[h1,d6X];by_cases hl:h∈lv x.S
 ·have e0:e=0:=h2.2 hl;subst e0;have e1:(((0:Int) != 0)==false)=true:=rfl;simp only[e1,Q6,c3z,d6X];cases hd:due (ob x.S h);·rw[if_pos (by simp),if_neg (by simp)]
  ·rw[if_neg (by simp),if_pos ⟨hl,rfl⟩]
   have hr:=b4V hx hS hh hl hd;have hok:=b8B hR hl;have l1:=a3z (o:=srt (ob x.S h)) hR hl rfl hok;have r1:=a0T (o:=srt (ob x.S h)) hR hl rfl hok;rw[b1C (o:=srt (ob x.S h)) hR hl rfl hok,d6X,d1k _ (by omega),d6X]
   have et:tad x.Q ⟨1,h,(ob x.S h).Prog⟩=(⟨x.Q.L ++ [qtk x h],x.Q.Cap⟩,0):=by
    unfold tad;rw[if_neg (by omega)]
   rw[et];dsimp only;rw[a56 r1 hh (λk hk=>?_),d6X];·rfl
   ·dsimp only at hk ⊢;rw[l1] at hk;rw[a2H (o:=srt (ob x.S h)) hR hl rfl hok (a1Z hR hk)];split;·exact hS h hl
    ·exact hS k hk
 ·have e0:e≠0:=λq=>hl (h2.1 q);have e1:(e != 0)=true:=by simpa using e0
  rw[e1];simp only[show ((true==false)=true)=False by simp,p9,if_false,d6X,Bool.true_or,if_true]
  rw[if_neg (λq=>hl q.1)]
theorem c6c:a9a (hO x) h=some (decide (h∈lv x.S)&&due (ob x.S h)):=by
 have hR:=hx.sh.sr;have hlen:=hR.len;obtain⟨e,h1,h2⟩:=R6 (u4.2 hR) hh;unfold a9a;rw[show (hO x).S=sO x.S from rfl,a5G x.S (by omega) hh,h1,Option.map_some,d6X,b3B hR hh,d6X]
 unfold due oo;rw[Bool.and_assoc]
theorem b92:a4s (hO x) h=some (hO (quD x h)):=by
 have hR:=hx.sh.sr;have cap:=hx.sh.cap;unfold a4s quD;rw[c6c hx hS hh,d6X];by_cases hl:h∈lv x.S
 ·rw[decide_eq_true hl,Bool.true_and];cases hd:due (ob x.S h);·rw[if_pos (by simp),if_neg (by simp)]
  ·rw[if_neg (by simp),if_pos ⟨hl,rfl⟩]
   have hr:=b4V hx hS hh hl hd;have hok:=b8B hR hl;have l1:=a3z (o:=srt (ob x.S h)) hR hl rfl hok;have r1:=a0T (o:=srt (ob x.S h)) hR hl rfl hok;rw[show (hO x).S=sO x.S from rfl,a71 hR hl,d6X];have es:O1 (sO x.S) h (oo (srt (ob x.S h)))=some (sO (seO x.S h (srt (ob x.S h))),0):=b1D hR hl rfl hok;have es':O1 (sO x.S) h ⟨(oo (ob x.S h)).Serial,(oo (ob x.S h)).Strong,(oo (ob x.S h)).Weak,(oo (ob x.S h)).Prog,true,(oo (ob x.S h)).Fields⟩=some (sO (seO x.S h (srt (ob x.S h))),0):=es;rw[es',d6X];have ea:a62 (hO x).Q ⟨1,h,(oo (ob x.S h)).Prog⟩=some (tqR ⟨x.Q.L ++ [qtk x h],x.Q.Cap⟩,0):=by
    have:=d1g (q:=x.Q) (qtk x h) (by omega)
    have et:tad x.Q (qtk x h)=(⟨x.Q.L ++ [qtk x h],x.Q.Cap⟩,0):=by
     unfold tad;rw[if_neg (by omega)]
    rw[et] at this;exact this
   rw[ea,d6X];have er:=a8y (x:=⟨seO x.S h (srt (ob x.S h)),x.Roots,x.a8,x.T,⟨x.Q.L ++ [qtk x h],x.Q.Cap⟩⟩) r1 hh (λk hk=>by
    dsimp only at hk ⊢;rw[l1] at hk;rw[a2H (o:=srt (ob x.S h)) hR hl rfl hok (a1Z hR hk)];split;·exact hS h hl
    ·exact hS k hk)
   have er':a1m ⟨sO (seO x.S h (srt (ob x.S h))),(hO x).Roots,(hO x).a8,(hO x).T,tqR ⟨x.Q.L ++ [qtk x h],x.Q.Cap⟩⟩ h=_:=er;dsimp only;rw[er',d6X];rfl
 ·rw[decide_eq_false hl,Bool.false_and];rw[if_pos (by simp),if_neg (λq=>hl q.1)]
end
noncomputable def lvo(x:Hp)(l:List Int):List Int:=l.foldl (λb h=>if h∈lv x.S∧h∉b then b ++ [h] else b) []
theorem b9L{x:Hp}{z:Int}(hz:z∈lv x.S):lvo x [z] = [z]:=by
 unfold lvo;simp[hz]
section
variable{x:Hp}(hR:SR x.S)
include hR
theorem b03(l:List Int)(hl:l.length≤1000)(hb:∀h∈l,h≤9223372036854775807):V1 x l=some (lvo x l):=by
 unfold V1;simp only[jn];have key:=F8 (f:=λ((s20,s21,s22):Int × (List (Int × Bool)) × (List Int))=>
   if (decide (s20<(l.length:Int))) then
     (ix l s20).bind λv32=>
     (x6 x.S v32).bind λv33=>
     if ((v33.2==0)==true) then
      if (!((B4 s21 v32).getD (false:Bool))) then
       (app 8 s22 [v32]).bind λv34=>
       some (Sum.inl (u6 (s20+1),(r7 s21 v32 true),v34))
      else
      some (.inl (u6 (s20+1),s21,s22))
     else
     some (.inl (u6 (s20+1),s21,s22))
   else
   some (.inr s22)) l (λ(b:List (Int × Bool) × List Int) h=>if h∈lv x.S∧h∉b.2 then (r7 b.1 h true,b.2 ++ [h]) else b) (λb=>b.2) (λk b=>b.2.length≤k∧∀d,(B4 b.1 d).getD false=decide (d∈b.2)) (b0:=([],[])) (by omega) ⟨Nat.le_refl _,λd=>by simp[B4]⟩ (λk hk b hb2=>?_) (λb hb2=>by simp)
 ·rw[key,d6X];congr 1;have:∀(l:List Int) (m:List (Int × Bool)) (b:List Int),(l.foldl (λ(b:List (Int × Bool) × List Int) h=>if h∈lv x.S∧h∉b.2 then (r7 b.1 h true,b.2 ++ [h]) else b) (m,b)).2=l.foldl (λb h=>if h∈lv x.S∧h∉b then b ++ [h] else b) b:=λl=>by
   induction l with
   | nil=>intro m b;rfl
   | cons h l ih=>
    intro m b;rw[List.foldl_cons,List.foldl_cons];by_cases c:h∈lv x.S∧h∉b
    ·rw[if_pos c,if_pos c,ih]
    ·rw[if_neg c,if_neg c,ih]
  exact this l [] []
 ·obtain⟨hb1,hb3⟩:=hb2;obtain⟨e,h1,h2⟩:=R6 (u4.2 hR) (hb _ (List.getElem_mem hk));simp only[Int.ofNat_lt,hk,decide_true,if_true,o7 hk,d6X,h1,hb3];by_cases hl:l[k]∈lv x.S
  ·have e0:e=0:=h2.2 hl;subst e0;by_cases hm:l[k]∈b.2
   ·rw[if_pos (by rfl),if_neg (by simp[hm]),if_neg (λq=>q.2 hm),l6]
    exact⟨rfl,by omega,hb3⟩
   ·rw[if_pos (by rfl),if_pos (by simp[hm]),if_pos ⟨hl,hm⟩,y9 (by omega) (by simp;omega),d6X,l6]
    refine⟨rfl,by simp;omega,λd=>?_⟩
    rw[a84];by_cases q:d=l[k]
    ·rw[if_pos q];simp[q]
    ·rw[if_neg q,hb3];simp[q]
  ·have e0:e≠0:=λq=>hl (h2.1 q);rw[if_neg (by simp[e0]),if_neg (λq=>hl q.1),l6]
   exact⟨rfl,by omega,hb3⟩
theorem c6d(l:List Int)(hl:l.length≤1000)(hb:∀h∈l,h≤9223372036854775807):b1s (hO x) l=some (lvo x l):=by
 unfold b1s;simp only[jn];rw[F8 l (λb h=>if h∈lv x.S∧h∉b then b ++ [h] else b) id (λk b=>b.length≤k) (by omega) (Nat.le_refl _) (λk hk b hb2=>?_) (λb hb=>by simp)]
 ·rfl
 ·simp only[Int.ofNat_lt,hk,decide_true,if_true,o7 hk,d6X,b3B hR (hb _ (List.getElem_mem hk))];by_cases hl:l[k]∈lv x.S
  ·have h0:l[k]≠0:=λe=>a8d hR (e▸hl);rw[decide_eq_true hl];simp only[beq_self_eq_true,Q6,b0Q b _ (by omega:b.length≤1000000),d6X,Bool.true_and]
   by_cases hm:l[k]∈b
   ·rw[if_neg (by simp[hm,h0]),if_neg (λq=>q.2 hm),l6]
    exact⟨rfl,by omega⟩
   ·rw[if_pos (by simp[hm]),if_pos ⟨hl,hm⟩,y9 (by omega) (by simp;omega),d6X,l6]
    exact⟨rfl,by simp;omega⟩
  ·rw[decide_eq_false hl];simp only[show ((false==true)=true)=False by simp,p9,if_false,d6X,Bool.false_and]
   rw[if_neg (by simp),if_neg (λq=>hl q.1),l6]
   exact⟨rfl,by omega⟩
end
end Go.Sh
namespace Go.Sh
theorem b4t{α β:Type}(p:α→Bool)(f:α→β):∀(xs:List α) (acc:List β),xs.foldl (λb x=>if p x then b ++ [f x] else b) acc=acc++(xs.filter p).map f
 | [],acc=>by simp
 | x::xs,acc=>by
  rw[List.foldl_cons,b4t p f xs];by_cases h:p x=true
  ·simp[h]
  ·simp[h]
theorem a09{α:Type}{l:List α}{i:Nat}(h:i<l.length)(d:α):l.getD i d=l[i]:=by
 rw[List.getD_eq_getElem?_getD,List.getElem?_eq_getElem h];rfl
theorem c4l(c:c9)(ds:List Int)(hl:ds.length≤1000):a0J c ds=some (a27 ds c):=by
 unfold a0J a27;rw[contains_eq _ _ (by omega)]
 cases (c.Intact&&c.Target != 0);·rfl
 ·simp[p9]
def pks(l:List c9)(ds:List Int):List Nat:=(List.range l.length).filter λw=>a27 ds (l.getD w cz)
theorem d3c{l:List c9}{ds:List Int}{w:Nat}(h:w∈pks l ds):w<l.length:=by
 unfold pks at h;rw[List.mem_filter,List.mem_range] at h;exact h.1
theorem c97(l:List c9)(ds:List Int):(pks l ds).length≤l.length:=by
 unfold pks;exact Nat.le_trans (List.length_filter_le ..) (by simp)
theorem d3d(l:List c9)(ds:List Int):(pks l ds).Nodup:=List.Pairwise.filter _ List.nodup_range
theorem c9g(l:List c9)(ds:List Int):cls l ds=(pks l ds).filter λw=>decide (0≤(l.getD w cz).Call):=by
 unfold cls pks;rw[List.filter_filter];refine List.filter_congr λw _=>?_;rw[Bool.and_comm]
def a6L(l:List Nat):List Int:=l.map λ(n:Nat)=>(n:Int)
theorem b7K{l:List Nat}{k:Nat}(h:k<l.length):ix (a6L l) (k:Int)=some ((l[k]:Nat):Int):=by
 unfold a6L;rw[a1a,o7 h];rfl
theorem a5L(l:List Nat):(a6L l).length=l.length:=List.length_map ..
theorem c4P(l:List c9)(ds:List Int)(hl:l.length≤1000)(hd:ds.length≤1000):I9 l ds=some (a6L (pks l ds)):=by
 unfold I9;simp only[jn];have hr:(List.range l.length).length=l.length:=by simp
 have key:=F8 (List.range l.length) (λ(b:List Int) (w:Nat)=>if a27 ds (l.getD w cz) then b ++ [(w:Int)] else b) id (λk b=>b.length≤k) (b0:=[]) (f:=λ((s17,s18):Int × (List Int))=>
   if (decide (s17<(l.length:Int))) then
     (ix l s17).bind λv26=>
     (a0J v26 ds).bind λv27=>
     if v27 then
      (app 8 s18 [s17]).bind λv28=>
      some (Sum.inl (u6 (s17+1),v28))
     else
     some (.inl (u6 (s17+1),s18))
   else
   some (.inr s18)) (by omega) (Nat.le_refl _) (λk hk b hb=>?_) (λb hb=>by simp)
 ·rw[key,b4t];rfl
 ·rw[hr] at hk;simp only[Int.ofNat_lt,hk,decide_true,if_true,o7 hk,d6X,c4l _ _ hd,List.getElem_range,a09 hk];by_cases c:a27 ds l[k]=true
  ·rw[if_pos c,if_pos c,y9 (by omega) (by simp;omega),d6X,l6]
   exact⟨rfl,by simp;omega⟩
  ·rw[if_neg c,if_neg c,l6];exact⟨rfl,by omega⟩
theorem c4p(l:List c9)(hl:l.length≤1000):a0q l=some l:=by
 unfold a0q;rw[a7z (by omega) (by omega),d6X]
 unfold cpy;rw[if_pos (by simp),d6X]
 simp
def b0B(l:List c9)(K:List Nat):List c9:=(List.range l.length).map λi=>if i∈K then ⟨(l.getD i cz).Target,false,(l.getD i cz).Call⟩ else l.getD i cz
theorem a5C(l:List c9)(K:List Nat):(b0B l K).length=l.length:=by simp[b0B]
theorem b0C{l:List c9}{K:List Nat}{i:Nat}(h:i<(b0B l K).length):(b0B l K)[i]=if i∈K then ⟨(l.getD i cz).Target,false,(l.getD i cz).Call⟩ else l.getD i cz:=by simp[b0B]
theorem c53(l:List c9):b0B l []=l:=by
 refine List.ext_getElem (a5C ..) λi h1 h2=>?_;rw[b0C,if_neg (by simp),a09 h2]
theorem c4n{l:List c9}{K:List Nat}{w:Nat}(hw:w<l.length):b0B l (K ++ [w])=(b0B l K).set w ⟨(l.getD w cz).Target,false,(l.getD w cz).Call⟩:=by
 refine List.ext_getElem (by rw[List.length_set,a5C,a5C]) λi h1 h2=>?_
 rw[b0C,List.getElem_set];by_cases e:w=i
 ·subst e;rw[if_pos rfl,if_pos (by simp)]
 ·rw[if_neg e,b0C];by_cases q:i∈K
  ·rw[if_pos (List.mem_append_left _ q),if_pos q]
  ·rw[if_neg,if_neg q];rw[List.mem_append,List.mem_singleton];exact λq2=>q2.elim q λq3=>e q3.symm
theorem c52(l:List c9)(ds:List Int):b0B l (pks l ds)=clr l ds:=by
 refine List.ext_getElem (by rw[a5C];simp[clr]) λi h1 h2=>?_
 have hi:i<l.length:=by rw[a5C] at h1;exact h1
 have ec:(clr l ds)[i]=a7G ds l[i]:=List.getElem_map _;rw[b0C,ec,a09 hi];unfold a7G;by_cases c:a27 ds l[i]=true
 ·rw[if_pos c,if_pos];unfold pks;rw[List.mem_filter,List.mem_range,a09 hi];exact⟨hi,c⟩
 ·rw[if_neg c,if_neg];unfold pks;rw[List.mem_filter,List.mem_range,a09 hi];exact λq=>c q.2
theorem J9{α:Type}{l:List α}{k:Nat}(h:k<l.length):l.take (k+1)=l.take k ++ [l[k]]:=List.take_succ_eq_append_getElem h
theorem c51(l:List c9)(ds:List Int)(hl:l.length≤1000)(hd:ds.length≤1000):a4E l ds=some (clr l ds,a6L (cls l ds)):=by
 unfold a4E;rw[c4P l ds hl hd,d6X,c4p l hl,d6X];simp only[jn,a5L];have hp:=c97 l ds;refine K9 (pks l ds).length (λk (b:List c9 × List Int)=>b.1=b0B l ((pks l ds).take k)∧b.2=a6L (((pks l ds).take k).filter λw=>decide (0≤(l.getD w cz).Call))) (by omega) ⟨by simp[c53],by simp[a6L]⟩ ?_ ?_
 ·rintro k ⟨b1,b2⟩ hk ⟨rfl,rfl⟩;left;have hw:=d3c (List.getElem_mem hk);have hnm:(pks l ds)[k]∉(pks l ds).take k:=λq=>by
   have hn:=d3d l ds;rw[←List.take_append_drop k (pks l ds),List.nodup_append] at hn;exact hn.2.2 _ q (pks l ds)[k] (by rw[List.drop_eq_getElem_cons hk];exact List.mem_cons_self ..) rfl
  have h1:(pks l ds)[k]<(b0B l ((pks l ds).take k)).length:=by rw[a5C];exact hw
  have e1:ix (b0B l ((pks l ds).take k)) (((pks l ds)[k]:Nat):Int)=some (l.getD (pks l ds)[k] cz):=by rw[o7 h1,b0C,if_neg hnm]
  have h2:(pks l ds)[k]<((b0B l ((pks l ds).take k)).set (pks l ds)[k] ⟨(l.getD (pks l ds)[k] cz).Target,false,(l.getD (pks l ds)[k] cz).Call⟩).length:=by rw[List.length_set];exact h1
  have e2:ix ((b0B l ((pks l ds).take k)).set (pks l ds)[k] ⟨(l.getD (pks l ds)[k] cz).Target,false,(l.getD (pks l ds)[k] cz).Call⟩) (((pks l ds)[k]:Nat):Int)=some ⟨(l.getD (pks l ds)[k] cz).Target,false,(l.getD (pks l ds)[k] cz).Call⟩:=by rw[o7 h2,List.getElem_set_self]
  dsimp only;simp only[Int.ofNat_lt,hk,decide_true,if_true,b7K hk,d6X,e1,Int.toNat_natCast,e2];have hle:(a6L (((pks l ds).take k).filter λw=>decide (0≤(l.getD w cz).Call))).length≤1000:=by
   rw[a5L];exact Nat.le_trans (List.length_filter_le ..) (by simp;omega)
  rw[J9 hk,c4n hw,List.filter_append];by_cases c:0≤(l.getD (pks l ds)[k] cz).Call
  ·rw[if_pos (decide_eq_true c),y9 (by omega) (by simp only[List.length_cons,List.length_nil];omega),d6X,l6]
   refine⟨_,rfl,rfl,?_⟩;rw[List.filter_cons,if_pos (decide_eq_true c)];simp[a6L]
  ·rw[if_neg (λq=>c (of_decide_eq_true q)),l6];refine⟨_,rfl,rfl,?_⟩;rw[List.filter_cons,if_neg (λq=>c (of_decide_eq_true q))];simp[a6L]
 ·rintro⟨b1,b2⟩ ⟨rfl,rfl⟩;refine⟨_,if_neg (by simp),?_⟩
  dsimp only;rw[List.take_length,c52,←c9g]
theorem d4J(c:c9)(ds:List Int)(hd:ds.length≤1000):((p9 ((wcR c).Intact==true) 0 (a1x ds (wcR c).Target)).bind λv=>some ((wcR c).Intact&&decide (v > 0)))=some (a27 ds c):=by
 unfold a27 wcR;dsimp only;cases hI:c.Intact;·rfl
 ·simp only[beq_self_eq_true,Q6];rw[b0j _ _ (by omega),d6X]
  congr 1;rw[Bool.true_and,Bool.true_and,Bool.eq_iff_iff];simp only[decide_eq_true_iff,Bool.and_eq_true,bne_iff_ne];have:=a2c (l:=ds) (h:=c.Target);constructor
  ·intro q;exact this.1 (by omega)
  ·intro q;have:=this.2 q;omega
theorem c9e(l:List c9)(ds:List Int)(hl:l.length≤1000)(hd:ds.length≤1000):b2n (l.map wcR) ds=some ((clr l ds).map wcR,a6L (cls l ds)):=by
 unfold b2n;simp only[jn,List.length_map];refine K9 l.length (λk (b:List o6 × List Int)=>b.1=((clr l ds).take k).map wcR∧b.2=a6L ((List.range k).filter λw=>a27 ds (l.getD w cz)&&decide (0≤(l.getD w cz).Call))) (by omega) ⟨by simp,by simp[a6L]⟩ ?_ ?_
 ·rintro k ⟨b1,b2⟩ hk ⟨rfl,rfl⟩;left;have hk2:k<(clr l ds).length:=by simp[clr];exact hk
  have e1:ix (l.map wcR) (k:Int)=some (wcR l[k]):=by rw[a1a,o7 hk];rfl
  have hle:(a6L ((List.range k).filter λw=>a27 ds (l.getD w cz)&&decide (0≤(l.getD w cz).Call))).length≤1000:=by
   rw[a5L];exact Nat.le_trans (List.length_filter_le ..) (by simp;omega)
  dsimp only;simp only[Int.ofNat_lt,hk,decide_true,if_true,e1,d6X];obtain⟨v,hv,hv2⟩:=a7o (d4J l[k] ds hd);rw[hv,d6X];have hv2:=Option.some.inj hv2;rw[hv2,J9 hk2,List.map_append,List.range_succ,List.filter_append];have ec:(clr l ds)[k]=a7G ds l[k]:=List.getElem_map _;have lc:(List.map wcR (List.take k (clr l ds))).length≤1000:=by simp[clr];omega
  rw[ec];unfold a7G;by_cases c:a27 ds l[k]=true
  ·rw[if_pos c,if_pos c];by_cases c2:0≤l[k].Call
   ·rw[if_pos (by simpa[wcR] using c2),y9 (by omega) (by simp only[List.length_cons,List.length_nil];omega),d6X,y9 (by omega) (by simp only[List.length_cons,List.length_nil];omega),d6X,l6]
    refine⟨_,rfl,rfl,?_⟩;simp only[List.filter_cons,List.filter_nil,a09 hk,c,c2,decide_true,Bool.and_self,if_true];simp[a6L]
   ·rw[if_neg (by simpa[wcR] using c2),y9 (by omega) (by simp only[List.length_cons,List.length_nil];omega),d6X,l6]
    refine⟨_,rfl,rfl,?_⟩;simp only[List.filter_cons,List.filter_nil,a09 hk,c,c2,decide_false,Bool.and_false,Bool.false_eq_true,if_false,List.append_nil]
  ·rw[if_neg c,if_neg c,y9 (by omega) (by simp only[List.length_cons,List.length_nil];omega),d6X,l6]
   refine⟨_,rfl,rfl,?_⟩;have c:a27 ds l[k]=false:=by simpa using c
   simp only[List.filter_cons,List.filter_nil,a09 hk,c,Bool.false_and,Bool.false_eq_true,if_false,List.append_nil]
 ·rintro⟨b1,b2⟩ ⟨rfl,rfl⟩;refine⟨_,if_neg (by simp),?_⟩
  dsimp only;rw[List.take_of_length_le (by simp[clr])]
  rfl
end Go.Sh
namespace Go.Sh
def clH(x:Hp)(ds:List Int):Hp:=⟨x.S,x.Roots,clr x.a8 ds,x.T,⟨x.Q.L++clt x.a8 ds,x.Q.Cap⟩⟩
theorem a2O(l:List c9)(ds:List Int):(clt l ds).length=(cls l ds).length:=List.length_map ..
theorem c54{l:List c9}{ds:List Int}{w:Nat}(h:w∈cls l ds):w<l.length:=by
 unfold cls at h;rw[List.mem_filter,List.mem_range] at h;exact h.1
theorem c55{l:List c9}{ds:List Int}{k:Nat}(h:k<(clt l ds).length):(clt l ds)[k]=⟨2,(((cls l ds)[k]'(by rw[←a2O];exact h):Nat):Int),(l.getD ((cls l ds)[k]'(by rw[←a2O];exact h)) cz).Call⟩:=List.getElem_map _
theorem b9o{l:List c9}{ds:List Int}{w:Nat}(h:w<l.length):ix (clr l ds) (w:Int)=some (a7G ds l[w]):=by
 unfold clr;rw[a1a,o7 h];rfl
section
variable{x:Hp}{ds:List Int}(hc:x.a8.length≤6)(hd:ds.length≤1000)(hq:(x.Q.L++clt x.a8 ds).length≤30)(hcap:x.Q.Cap=30)
include hc hd hq hcap
theorem b56{k:Nat}(hk:k<(clt x.a8 ds).length):tad ⟨x.Q.L++(clt x.a8 ds).take k,x.Q.Cap⟩ (clt x.a8 ds)[k]=(⟨x.Q.L++(clt x.a8 ds).take (k+1),x.Q.Cap⟩,0):=by
 rw[List.length_append] at hq;unfold tad;rw[if_neg (by dsimp only;rw[List.length_append,List.length_take,hcap];omega),J9 hk,List.append_assoc]
theorem c1b:a19 x ds=some (clH x ds):=by
 unfold a19;rw[c51 _ _ (by omega) hd,d6X]
 dsimp only;simp only[jn,a5L];have hq2:=hq;rw[List.length_append] at hq2;refine K9 (cls x.a8 ds).length (λk (q:TQ)=>q=⟨x.Q.L++(clt x.a8 ds).take k,x.Q.Cap⟩) (by rw[←a2O];omega) (by simp) ?_ ?_
 ·rintro k q hk rfl;left;have hw:=c54 (List.getElem_mem hk);have hk2:k<(clt x.a8 ds).length:=by rw[a2O];exact hk
  simp only[Int.ofNat_lt,hk,decide_true,if_true,b7K hk,d6X,b9o hw];have et:(⟨2,(((cls x.a8 ds)[k]:Nat):Int),(a7G ds x.a8[(cls x.a8 ds)[k]]).Call⟩:g9)=(clt x.a8 ds)[k]:=by
   rw[c55,(b7f ds _).2.1,a09 hw]
  rw[et,d1k _ (by dsimp only;rw[List.length_append,List.length_take];omega),b56 hc hd hq hcap hk2,d6X,l6 (by rw[←a2O] at hk;omega)]
  exact⟨_,rfl,rfl⟩
 ·rintro q rfl;refine⟨_,if_neg (by simp),?_⟩
  rw[←a2O,List.take_length];rfl
theorem d1I{K:w9→Option g7}:((lp (S:=Int × w9) (E:=w9) (λ((s68,s69):Int × w9)=>
   if (decide (s68<((a6L (cls x.a8 ds)).length:Int))) then
    (ix (a6L (cls x.a8 ds)) s68).bind λv72=>
    (ix ((clr x.a8 ds).map wcR) v72).bind λv73=>
    (a62 s69 (⟨2,v72,v73.Call⟩:s7)).bind λv74=>
    some (.inl (u6 (s68+1),v74.1))
   else
   some (.inr s69)) (0,tqR x.Q)).bind K)=K (tqR (clH x ds).Q):=by
 have hq2:=hq;rw[List.length_append] at hq2;have key:=a2z (f:=λ((s68,s69):Int × w9)=>
   if (decide (s68<((a6L (cls x.a8 ds)).length:Int))) then
    (ix (a6L (cls x.a8 ds)) s68).bind λv72=>
    (ix ((clr x.a8 ds).map wcR) v72).bind λv73=>
    (a62 s69 (⟨2,v72,v73.Call⟩:s7)).bind λv74=>
    some (Sum.inl (u6 (s68+1),v74.1))
   else
   some (.inr s69)) (t0:=tqR x.Q) (cls x.a8 ds).length (λk (q:w9)=>q=tqR ⟨x.Q.L++(clt x.a8 ds).take k,x.Q.Cap⟩) (λq=>q=tqR (clH x ds).Q) (by rw[←a2O];omega) (by simp) ?_ ?_
 ·obtain⟨e,h1,h2⟩:=key;rw[h1,d6X,h2]
 ·rintro k q hk rfl;left;have hw:=c54 (List.getElem_mem hk);have hk2:k<(clt x.a8 ds).length:=by rw[a2O];exact hk
  have ei:ix ((clr x.a8 ds).map wcR) (((cls x.a8 ds)[k]:Nat):Int)=some (wcR (a7G ds x.a8[(cls x.a8 ds)[k]])):=by rw[a1a,b9o hw];rfl
  simp only[a5L,Int.ofNat_lt,hk,decide_true,if_true,b7K hk,d6X,ei];have et:(⟨2,(((cls x.a8 ds)[k]:Nat):Int),(wcR (a7G ds x.a8[(cls x.a8 ds)[k]])).Call⟩:s7)=tkR (clt x.a8 ds)[k]:=by
   rw[c55,a09 hw];show (⟨2,_,(a7G ds x.a8[(cls x.a8 ds)[k]]).Call⟩:s7)=_;rw[(b7f ds _).2.1];rfl
  rw[et,d1g _ (by dsimp only;rw[List.length_append,List.length_take];omega),b56 hc hd hq hcap hk2,d6X,l6 (by rw[←a2O] at hk;omega)]
  exact⟨_,rfl,rfl⟩
 ·rintro q rfl;refine⟨_,if_neg (by rw[a5L];simp),?_⟩
  rw[←a2O,List.take_length];rfl
end
theorem b2y(s:a7)(i:Nat)(c d:b7):G4 (G4 s i c) i d=G4 s i d:=by
 unfold G4;dsimp only;rw[List.set_set]
section
variable{s:a7}(hR:SR s){d:Int}(hd:d∈lv s)
include hR hd
def k1(s:a7)(d:Int):a7:=G4 s (D0 d) ⟨1,(ce s (D0 d)).Gen,ded (ob s d)⟩
def k2(s:a7)(d:Int):a7:=G4 s (D0 d) ⟨2,(ce s (D0 d)).Gen,ded (ob s d)⟩
theorem b7l:OkO s (ded (ob s d)):=by
 have ho:=J5 hR hd;exact⟨ho.s1,ho.s2,Int.le_refl _,ho.wk,ho.p1,ho.p2,Nat.zero_le _⟩
theorem c1x:seO s d (ded (ob s d))=k1 s d:=by
 have q:=z6 hR hd;unfold seO a12 k1 G4;rw[q.2.1]
theorem d02:At (k1 s d) d (D0 d):=by
 have q:=z6 hR hd;refine⟨by unfold k1;rw[X5];exact q.1,?_,?_⟩
 ·unfold k1;rw[K5 q.1,if_pos rfl]
 ·unfold k1;rw[K5 q.1,if_pos rfl];exact q.2.2
theorem d03:SR (k1 s d):=by rw[←c1x hR hd];exact a0T (o:=ded (ob s d)) hR hd rfl (b7l hR hd)
theorem d06:SR (k2 s d):=by
 have q:=z6 hR hd;have hc:=hR.cell _ q.1;unfold k2;refine hR.G4 q.1 ⟨by simp,by simp,hc.2.2.1,hc.2.2.2⟩ (λq=>absurd (.inr rfl) q) (λ_=>⟨b7l hR hd,.inl q.2.1,?_⟩)
 show (ob s d).Serial=_;rw[O8 hR q]
theorem d04:X6 (k2 s d) d (D0 d):=by
 have q:=z6 hR hd;refine⟨by unfold k2;rw[X5];exact q.1,?_,?_⟩
 ·unfold k2;rw[K5 q.1,if_pos rfl];exact .inr rfl
 ·unfold k2;rw[K5 q.1,if_pos rfl];exact q.2.2
theorem c9E:T4 (k1 s d).S d=some ((k2 s d).S,0):=by
 have q:=z6 hR hd;have hR1:=d03 hR hd;have q1:=d02 hR hd;have hr:=G8 hR hd;have hlen:=hR1.len;have hH:Hnd d:=((a95 hR1).2 q1.d).2.1;have hsl:(d-1) % 32=(D0 d:Nat):=((a95 hR1).2 q1.d).2.2.1;have hg:(d-1) / 32=(ce s (D0 d)).Gen:=by
  have:=q.2.2;have h24:=hR.len;have:=q.1;omega
 unfold T4 D6;rw[a6w hR1 q1.d,d6X,if_neg (by simp),b9F q1.1,d6X,q1.2.1,if_neg (by simp),d6X,if_neg (by simp),a4k (by omega),d6X,if_pos hH,hsl,a5p (by omega),d6X,if_pos hH,hg,a6l rfl q1.1 hlen,d6X]
 have e:(ce (k1 s d) (D0 d)).Val=ded (ob s d):=by unfold k1;rw[K5 q.1,if_pos rfl]
 rw[e];congr 2;show (G4 (k1 s d) (D0 d) _).S=(k2 s d).S;unfold k1 k2;rw[b2y]
theorem d0X(hw:(ob s d).Weak=0):gvA (k2 s d) (D0 d)=gnA s d:=by
 have q:=z6 hR hd;have e:ce (k2 s d) (D0 d)=⟨2,(ce s (D0 d)).Gen,ded (ob s d)⟩:=by unfold k2;rw[K5 q.1,if_pos rfl]
 unfold gvA gnA gnC;rw[e];rw[O8 hR q] at hw;rw[if_pos hw];unfold k2;rw[b2y];rfl
theorem d05(hw:(ob s d).Weak≠0):k2 s d=gnA s d:=by
 have q:=z6 hR hd;unfold k2 gnA gnC;rw[O8 hR q] at hw ⊢;rw[if_neg hw]
end
theorem c4G{x:Hp}(hR:SR x.S){d:Int}(hd:d∈lv x.S):Y3 x d=some (wS x (gnA x.S d)):=by
 unfold Y3;rw[b18 hR hd,d6X];have e1:J8 x.S d (⟨(ob x.S d).Serial,0,(ob x.S d).Weak,(ob x.S d).Prog,(ob x.S d).Started,[]⟩:m7)=some (k1 x.S d,0):=by
  rw[←c1x hR hd];exact b1C (o:=ded (ob x.S d)) hR hd rfl (b7l hR hd)
 rw[e1,d6X,c9E hR hd,d6X];by_cases hw:(ob x.S d).Weak=0
 ·rw[if_pos (by simpa using hw),c29 (d06 hR hd) (d04 hR hd),d6X,d0X hR hd hw]
  rfl
 ·rw[if_neg (by simpa using hw)]
  show some (wS x (k2 x.S d))=_;rw[d05 hR hd hw]
theorem d2C{s:a7}(hR:SR s){d:Int}(hd:d∈lv s):b4X (sO (k1 s d)) d=some (sO (k2 s d)):=by
 have q:=z6 hR hd;have hR1:=d03 hR hd;have q1:=d02 hR hd;have hlen:=hR1.len;have hr:=G8 hR hd;have hi:=q1.1;have hi2:D0 d<(sO (k1 s d)).a8.length:=by rw[B7];exact hi
 have L3:D0 d<(pl (sO (k1 s d))).a8.length:=by rw[a1k];exact hi2
 have hlen2:(sO (k1 s d)).a8.length≤24:=by rw[B7];exact hlen
 unfold b4X b95 b1g;rw[a48 _ (by omega),d6X,b16 (k1 s d) (by omega),a6w hR1 q1.d,d6X,if_neg (by simp),b9W hi2,d6X]
 have hst:(plc (D0 d) (sO (k1 s d)).a8[D0 d]).State=1:=by
  have:=q1.2.1;rw[D2 hi] at this;simpa[plc,sO,cO] using this
 have hgen:(plc (D0 d) (sO (k1 s d)).a8[D0 d]).Gen=(ce s (D0 d)).Gen:=by
  have:(ce (k1 s d) (D0 d)).Gen=(ce s (D0 d)).Gen:=by unfold k1;rw[K5 q.1,if_pos rfl]
  rw[D2 hi] at this;simpa[plc,sO,cO] using this
 rw[hst,if_neg (by simp),d6X,if_neg (by simp),d6X]
 dsimp only;rw[b9W hi2,d6X];have w3:∀c:A9,a03 (pl (sO (k1 s d))) ((D0 d:Nat):Int) c=some ⟨(pl (sO (k1 s d))).a8.set (D0 d) c,(pl (sO (k1 s d))).Last⟩:=λc=>by
  unfold a03;rw[K4 (by omega) (by rw[a1k];omega),d6X,o7 L3,d6X,Int.toNat_natCast]
 rw[w3,d6X,d6X,b5n _ _ (by omega) (by simp[a1k]),d6X,hgen]
 unfold k2;rw[←b2y s (D0 d) ⟨1,(ce s (D0 d)).Gen,ded (ob s d)⟩,c3S];show some _=some (⟨(sO (k1 s d)).a8.set (D0 d) _,_,_⟩:l7);congr 1;congr 1;refine List.ext_getElem (by simp) λk h1 h2=>?_
 have hk:k<(k1 s d).S.a8.length:=by simpa[B7] using h1
 have hk2:k<(sO (k1 s d)).a8.length:=by rw[B7];exact hk
 have hk3:k<(pl (sO (k1 s d))).a8.length:=by rw[a1k];exact hk2
 simp only[List.getElem_map,List.getElem_range,List.getElem_set];rw[a5H L3,a09 hk2,a09 hk3];by_cases e:k=D0 d
 ·subst e;rw[if_pos rfl,if_pos rfl];have e2:(sO (k1 s d)).a8[D0 d].Val=oo (ded (ob s d)):=by
   have:(ce (k1 s d) (D0 d)).Val=ded (ob s d):=by unfold k1;rw[K5 q.1,if_pos rfl]
   rw[←this,D2 hi];simp[sO,cO]
  rw[e2];rfl
 ·rw[if_neg e,if_neg (Ne.symm e)];simp[sO,pl,plc,cO]
theorem d2n{x:Hp}(hR:SR x.S){d:Int}(hd:d∈lv x.S):a8s (hO x) d=some (hO (wS x (gnA x.S d))):=by
 unfold a8s;rw[show (hO x).S=sO x.S from rfl,a71 hR hd,d6X];have e1:O1 (sO x.S) d (⟨(oo (ob x.S d)).Serial,0,(oo (ob x.S d)).Weak,(oo (ob x.S d)).Prog,(oo (ob x.S d)).Started,[]⟩:C5)=some (sO (k1 x.S d),0):=by
  rw[←c1x hR hd];exact b1D (o:=ded (ob x.S d)) hR hd rfl (b7l hR hd)
 rw[e1,d6X,d2C hR hd,d6X];by_cases hw:(ob x.S d).Weak=0
 ·rw[if_pos (by simpa[oo] using hw),c6y (d06 hR hd) (d04 hR hd),d6X,d0X hR hd hw]
  rfl
 ·rw[if_neg (by simpa[oo] using hw)]
  show some (hO (wS x (k2 x.S d)))=_;rw[d05 hR hd hw]
end Go.Sh
namespace Go.Sh
theorem c3L:∀(l:List Int) {x:Hp},SR x.S→SR (l.foldl Q2 x).S
 | [],x,h=>h
 | v::l,x,h=>c3L l (x:=Q2 x v) (c16 h v)
theorem b8n:∀(l:List Int) {x:Hp},SR x.S→SL x→SL (l.foldl Q2 x)
 | [],x,_,h=>h
 | v::l,x,hR,h=>b8n l (x:=Q2 x v) (c16 hR v) (h.rls hR v)
theorem c41(l:List Int){k:Nat}(hk:k<l.length)(x:Hp):(l.take (k+1)).foldl Q2 x=Q2 ((l.take k).foldl Q2 x) l[k]:=by
 rw[J9 hk,List.foldl_append];rfl
theorem b8k{y:Hp}(hR:SR y.S)(l:List Int)(hl:l.length≤1000000)(hb:∀v∈l,v≤9223372036854775807){K:Hp→Option Hp}:((lp (S:=Int × b6) (E:=b6) (λ((s35,s36):Int × b6)=>
     if (decide (s35<(l.length:Int))) then
      (ix l s35).bind λv39=>
      (C4 s36 v39).bind λv40=>
      some (.inl (u6 (s35+1),v40))
     else
     some (.inr s36)) (0,y)).bind K)=K (l.foldl Q2 y):=by
 have key:=F8 l Q2 id (λk z=>SR z.S) (b0:=y) (f:=λ((s35,s36):Int × b6)=>
     if (decide (s35<(l.length:Int))) then
      (ix l s35).bind λv39=>
      (C4 s36 v39).bind λv40=>
      some (Sum.inl (u6 (s35+1),v40))
     else
     some (.inr s36)) (by omega) hR (λk hk z hz=>?_) (λz hz=>by simp)
 ·rw[key,d6X];rfl
 ·simp only[Int.ofNat_lt,hk,decide_true,if_true,o7 hk,d6X,a2F hz (hb _ (List.getElem_mem hk))];rw[l6];exact⟨rfl,c16 hz _⟩
theorem b46{y:Hp}(hR:SR y.S)(l:List Int)(hl:l.length≤1000000)(hb:∀v∈l,v≤9223372036854775807){K:g7→Option g7}:((lp (S:=Int × g7) (E:=g7) (λ((s45,s46):Int × g7)=>
      if (decide (s45<(l.length:Int))) then
       (ix l s45).bind λv49=>
       (F0 s46 v49).bind λv50=>
       some (.inl (u6 (s45+1),v50))
      else
      some (.inr s46)) (0,hO y)).bind K)=K (hO (l.foldl Q2 y)):=by
 have key:=a2z (f:=λ((s45,s46):Int × g7)=>
      if (decide (s45<(l.length:Int))) then
       (ix l s45).bind λv49=>
       (F0 s46 v49).bind λv50=>
       some (Sum.inl (u6 (s45+1),v50))
      else
      some (.inr s46)) (t0:=hO y) l.length (λk z=>z=hO ((l.take k).foldl Q2 y)) (λz=>z=hO (l.foldl Q2 y)) (by omega) rfl ?_ ?_
 ·obtain⟨e,h1,h2⟩:=key;rw[h1,d6X,h2]
 ·rintro k z hk rfl;left;have hz:=c3L (l.take k) hR;simp only[Int.ofNat_lt,hk,decide_true,if_true,o7 hk,d6X,a36 hz (hb _ (List.getElem_mem hk))];rw[l6,←c41 l hk];exact⟨_,rfl,rfl⟩
 ·rintro z rfl;exact⟨_,if_neg (by simp),by rw[List.take_length]⟩
theorem b9y(s:a7)(ds:List Int){k:Nat}(hk:k<ds.length):gnL s (ds.take (k+1))=gnA (gnL s (ds.take k)) ds[k]:=by
 unfold gnL;rw[J9 hk,List.foldl_append];rfl
section
variable{y:Hp}(hR:SR y.S){ds:List Int}(hn:ds.Nodup)(hm:∀d∈ds,d∈lv y.S)
include hR hn hm
theorem b4H{k:Nat}(hk:k<ds.length):SR (gnL y.S (ds.take k))∧ds[k]∈lv (gnL y.S (ds.take k)):=by
 have g:=a1T (ds.take k) hR ((List.take_sublist k ds).nodup hn) λd hd=>hm d (List.mem_of_mem_take hd);refine⟨g.sr,?_⟩;rw[g.lv,List.mem_filter,decide_eq_true_iff];refine⟨hm _ (List.getElem_mem hk),λq=>?_⟩;rw[←List.take_append_drop k ds,List.nodup_append] at hn;exact hn.2.2 _ q ds[k] (by rw[List.drop_eq_getElem_cons hk];exact List.mem_cons_self ..) rfl
theorem c4F(hl:ds.length≤1000){K:Hp→Option Hp}:((lp (S:=Int × b6) (E:=b6) (λ((s42,s43):Int × b6)=>
    if (decide (s42<(ds.length:Int))) then
     (ix ds s42).bind λv46=>
     (Y3 s43 v46).bind λv47=>
     some (.inl (u6 (s42+1),v47))
    else
    some (.inr s43)) (0,y)).bind K)=K (wS y (gnL y.S ds)):=by
 have key:=a2z (f:=λ((s42,s43):Int × b6)=>
    if (decide (s42<(ds.length:Int))) then
     (ix ds s42).bind λv46=>
     (Y3 s43 v46).bind λv47=>
     some (Sum.inl (u6 (s42+1),v47))
    else
    some (.inr s43)) (t0:=y) ds.length (λk z=>z=wS y (gnL y.S (ds.take k))) (λz=>z=wS y (gnL y.S ds)) (by omega) rfl ?_ ?_
 ·obtain⟨e,h1,h2⟩:=key;rw[h1,d6X,h2]
 ·rintro k z hk rfl;left;obtain⟨h1,h2⟩:=b4H hR hn hm hk;simp only[Int.ofNat_lt,hk,decide_true,if_true,o7 hk,d6X,c4G (x:=wS y (gnL y.S (ds.take k))) h1 h2];rw[l6,b9y _ _ hk];exact⟨_,rfl,rfl⟩
 ·rintro z rfl;exact⟨_,if_neg (by simp),by rw[List.take_length]⟩
theorem b9I(hl:ds.length≤1000){K:g7→Option g7}:((lp (S:=Int × g7) (E:=g7) (λ((s52,s53):Int × g7)=>
     if (decide (s52<(ds.length:Int))) then
      (ix ds s52).bind λv56=>
      (a8s s53 v56).bind λv57=>
      some (.inl (u6 (s52+1),v57))
     else
     some (.inr s53)) (0,hO y)).bind K)=K (hO (wS y (gnL y.S ds))):=by
 have key:=a2z (f:=λ((s52,s53):Int × g7)=>
     if (decide (s52<(ds.length:Int))) then
      (ix ds s52).bind λv56=>
      (a8s s53 v56).bind λv57=>
      some (Sum.inl (u6 (s52+1),v57))
     else
     some (.inr s53)) (t0:=hO y) ds.length (λk z=>z=hO (wS y (gnL y.S (ds.take k)))) (λz=>z=hO (wS y (gnL y.S ds))) (by omega) rfl ?_ ?_
 ·obtain⟨e,h1,h2⟩:=key;rw[h1,d6X,h2]
 ·rintro k z hk rfl;left;obtain⟨h1,h2⟩:=b4H hR hn hm hk;simp only[Int.ofNat_lt,hk,decide_true,if_true,o7 hk,d6X,d2n (x:=wS y (gnL y.S (ds.take k))) h1 h2];rw[l6,b9y _ _ hk];exact⟨_,rfl,rfl⟩
 ·rintro z rfl;exact⟨_,if_neg (by simp),by rw[List.take_length]⟩
end
section
variable{x:Hp}(hx:M3 x){ds:List Int}(hn:ds.Nodup)(hm:∀d∈ds,d∈lv x.S)
include hx hn hm
theorem b7o:ds.length≤24:=Nat.le_trans (a4p hn hm) (F3 (u4.2 hx.sh.sr))
theorem b7v{d:Int}(hd:d∈lv x.S):(ob x.S d).Fields.length≤4:=(J5 hx.sh.sr hd).fl
theorem b7U{d:Int}(hd:d∈lv x.S):(outs x.S d).length≤4:=Nat.le_trans (c64 _) (b7v hx hn hm hd)
theorem a81:∀(l:List Int),(∀d∈l,d∈lv x.S)→(l.flatMap (outs x.S)).length≤4*l.length
 | [],_=>by simp
 | d::l,h=>by
  rw[List.flatMap_cons,List.length_append,List.length_cons];have:=a81 l λe he=>h e (List.mem_cons_of_mem _ he);have:=b7U hx hn hm (h d (List.mem_cons_self ..));omega
theorem c3x:∀v∈ds.flatMap (outs x.S)++(wot x.T ds).2,v≤9223372036854775807:=λv hv=>by
 rcases List.mem_append.1 hv with q | q
 ·obtain⟨d,hd,q⟩:=List.mem_flatMap.1 q;obtain⟨q,_⟩:=a6R.1 q;rcases hx.sh.fl d (hm d hd) v q with e | e
  ·omega
  ·exact a1Z hx.sh.sr e
 ·by_cases h0:v=0
  ·omega
  ·have hl:=b7o hx hn hm;have h3:=(a4F hx.sh.hr ds (by omega)).2.2.2.2.2 v
   have h4:=a2c.2 ⟨h0,q⟩;have h5:0<own x.T v:=by omega
   obtain⟨p,hp,hq⟩:=List.countP_pos_iff.1 h5;have hq:(v != 0&&p.Val==v)=true:=hq;rw[Bool.and_eq_true,beq_iff_eq] at hq;have:=(hx.sh.pr _ _ (a3Q.1 hp)).2;rw[hq.2] at this;exact a1Z hx.sh.sr this
theorem b9T:(ds.flatMap (outs x.S)++(wot x.T ds).2).length≤200:=by
 have hl:=b7o hx hn hm;have h1:=a81 hx hn hm ds hm;have h2:=(a4F hx.sh.hr ds (by omega)).2.2.1
 rw[List.length_append];omega
theorem c2X(hq:(x.Q.L++clt x.a8 ds).length≤30){l:List Int}(h1:V1 x l=some ds):a0m x l=some (buH x ds):=by
 have hl:=b7o hx hn hm;have hR:=hx.sh.sr;obtain⟨w1,w2,w3,w4,w5,w6⟩:=a4F hx.sh.hr ds (by omega)
 have ol:=b9T hx hn hm;have fl:=a81 hx hn hm ds hm;unfold a0m;rw[h1,d6X,c1b (by have:=hx.sh.c6;omega) (by omega) hq hx.sh.cap,d6X]
 simp only[jn];have key:=F8 ds (λb d=>b++outs x.S d) id (λk b=>b.length≤4*k) (b0:=[]) (f:=λ((s49,s50):Int × (List Int))=>
   if (decide (s49<(ds.length:Int))) then
    (ix ds s49).bind λv53=>
    (x6 (clH x ds).S v53).bind λv54=>
    (a38 v54.1.Fields).bind λv55=>
    (app 8 s50 v55).bind λv56=>
    some (Sum.inl (u6 (s49+1),v56))
   else
   some (.inr s50)) (by omega) (by simp) (λk hk b hb=>?_) (λb hb=>by simp)
 ·rw[key,d6X,a2v,List.nil_append];dsimp only[id];rw[show (clH x ds).T=x.T from rfl,w1,d6X];have ol2:=ol;rw[List.length_append] at ol2;rw[y9 (by omega) (by omega),d6X]
  have k1:=c4F (y:=⟨(clH x ds).S,(clH x ds).Roots,(clH x ds).a8,(wot x.T ds).1,(clH x ds).Q⟩) hR hn hm (by omega) (K:=λe=>(lp (S:=Int × b6) (E:=b6) (λ((s35,s36):Int × b6)=>
     if (decide (s35<((ds.flatMap (outs x.S)++(wot x.T ds).2).length:Int))) then
      (ix (ds.flatMap (outs x.S)++(wot x.T ds).2) s35).bind λv39=>
      (C4 s36 v39).bind λv40=>
      some (.inl (u6 (s35+1),v40))
     else
     some (.inr s36)) (0,e)).bind λe34=>some e34)
  refine Eq.trans k1 ?_;have g:=a1T ds hR hn hm;have k2:=b8k (y:=wS (⟨(clH x ds).S,(clH x ds).Roots,(clH x ds).a8,(wot x.T ds).1,(clH x ds).Q⟩:Hp) (gnL x.S ds)) g.sr _ (by omega) (c3x hx hn hm) (K:=λe34=>some e34)
  refine Eq.trans k2 ?_;rfl
 ·have hd:=hm _ (List.getElem_mem hk);have f4:=b7v hx hn hm hd;have o4:=b7U hx hn hm hd;simp only[Int.ofNat_lt,hk,decide_true,if_true,o7 hk,d6X,show (clH x ds).S=x.S from rfl,b18 hR hd,b9P _ (by omega:(ob x.S ds[k]).Fields.length≤1000000)]
  have e:nz (ob x.S ds[k]).Fields=outs x.S ds[k]:=rfl;rw[e,y9 (by omega) (by omega),d6X,l6]
  exact⟨rfl,by rw[List.length_append];omega⟩
theorem b59(hq:(x.Q.L++clt x.a8 ds).length≤30){l:List Int}(h1:b1s (hO x) l=some ds):a8q (hO x) l=some (hO (buH x ds)):=by
 have hl:=b7o hx hn hm;have hR:=hx.sh.sr;obtain⟨w1,w2,w3,w4,w5,w6⟩:=a4F hx.sh.hr ds (by omega)
 have ol:=b9T hx hn hm;have fl:=a81 hx hn hm ds hm;have c6:=hx.sh.c6;unfold a8q;rw[h1,d6X,show (hO x).a8=x.a8.map wcR from rfl,c9e _ _ (by omega) (by omega),d6X]
 simp only[jn];rw[show (hO x).Q=tqR x.Q from rfl,d1I (by omega) (by omega) hq hx.sh.cap]
 have key:=F8 ds (λb d=>b++outs x.S d) id (λk b=>b.length≤4*k) (b0:=[]) (f:=λ((s59,s60):Int × (List Int))=>
    if (decide (s59<(ds.length:Int))) then
     (ix ds s59).bind λv63=>
     (E5 (hO x).S v63).bind λv64=>
     (a2C v64.1.Fields).bind λv65=>
     (app 8 s60 v65).bind λv66=>
     some (Sum.inl (u6 (s59+1),v66))
    else
    some (.inr s60)) (by omega) (by simp) (λk hk b hb=>?_) (λb hb=>by simp)
 ·rw[key,d6X,a2v,List.nil_append];dsimp only[id];rw[show (hO x).T=x.T.map L3 from rfl,w4,d6X];dsimp only;have ol2:=ol;rw[List.length_append] at ol2;rw[y9 (by omega) (by omega),d6X]
  have k1:=b9I (y:=⟨(clH x ds).S,(clH x ds).Roots,(clH x ds).a8,(wot x.T ds).1,(clH x ds).Q⟩) hR hn hm (by omega) (K:=λe=>(lp (S:=Int × g7) (E:=g7) (λ((s45,s46):Int × g7)=>
      if (decide (s45<((ds.flatMap (outs x.S)++(wot x.T ds).2).length:Int))) then
       (ix (ds.flatMap (outs x.S)++(wot x.T ds).2) s45).bind λv49=>
       (F0 s46 v49).bind λv50=>
       some (.inl (u6 (s45+1),v50))
      else
      some (.inr s46)) (0,e)).bind λe44=>some e44)
  refine Eq.trans k1 ?_;have g:=a1T ds hR hn hm;have k2:=b46 (y:=wS (⟨(clH x ds).S,(clH x ds).Roots,(clH x ds).a8,(wot x.T ds).1,(clH x ds).Q⟩:Hp) (gnL x.S ds)) g.sr _ (by omega) (c3x hx hn hm) (K:=λe44=>some e44)
  refine Eq.trans k2 ?_;rfl
 ·have hd:=hm _ (List.getElem_mem hk);have f4:=b7v hx hn hm hd;have o4:=b7U hx hn hm hd;simp only[Int.ofNat_lt,hk,decide_true,if_true,o7 hk,d6X,show (hO x).S=sO x.S from rfl,a71 hR hd];have e:a2C (oo (ob x.S ds[k])).Fields=some (outs x.S ds[k]):=b4O _ (by show (ob x.S ds[k]).Fields.length≤_;omega)
  rw[e,d6X,y9 (by omega) (by omega),d6X,l6]
  exact⟨rfl,by rw[List.length_append];omega⟩
end
end Go.Sh
namespace Go.Sh
theorem c9b{x:Hp}(hR:SR x.S)(hS:SL x){ds:List Int}(hn:ds.Nodup)(hm:∀d∈ds,d∈lv x.S)(t:Tb):SL (a3K x ds t):=λk hk=>by
 have g:=a1T ds hR hn hm;have hk:k∈lv (gnL x.S ds):=hk;rw[g.lv,List.mem_filter,decide_eq_true_iff] at hk;have e:ob (a3K x ds t).S k=ob x.S k:=g.ob k hk.1 hk.2;rw[e];exact hS k hk.1
theorem c5X{x:Hp}(hR:SR x.S)(hS:SL x){ds:List Int}(hn:ds.Nodup)(hm:∀d∈ds,d∈lv x.S):SL (buH x ds):=
 b8n _ (x:=a3K x ds (wot x.T ds).1) (a1T ds hR hn hm).sr (c9b hR hS hn hm _)
theorem c7w{x:Hp}(hR:SR x.S)(hS:SL x){h:Int}(hh:h∈lv x.S):SL (quH x h):=by
 have hok:=b8B hR hh;have r1:=a0T (o:=srt (ob x.S h)) hR hh rfl hok;refine SL.C2 (x:=⟨seO x.S h (srt (ob x.S h)),x.Roots,x.a8,x.T,⟨x.Q.L ++ [qtk x h],x.Q.Cap⟩⟩) (λk hk=>?_) r1 h;dsimp only at hk ⊢;rw[a3z (o:=srt (ob x.S h)) hR hh rfl hok] at hk;rw[a2H (o:=srt (ob x.S h)) hR hh rfl hok (a1Z hR hk)];split;·exact hS h hh
 ·exact hS k hk
theorem d3P{x:Hp}(hx:M3 x)(hS:SL x):SL (stp x):=by
 cases h:zr x with
 | nil=>rw[a9j h];exact hS
 | cons z l=>
  have hz:=(a1o.1 (show z∈zr x by rw[h];exact List.mem_cons_self ..)).1
  rw[a4B h];split;·exact c7w hx.sh.sr hS hz
  ·exact c5X hx.sh.sr hS (by simp) (by simpa using hz)
theorem b8C{x:Hp}(hx:M3 x)(hS:SL x)(n:Nat):SL (stN n x):=by
 induction n with
 | zero=>exact hS
 | succ n ih=>rw[a2b];exact d3P (a0F hx n) ih
theorem c3W{x:Hp}(hx:M3 x)(hS:SL x):SL (a1G x):=b8C hx hS 100
section
variable{x:Hp}(hx:M3 x)(hS:SL x)
include hx hS
theorem b6V{z:Int}(hz:z∈zr x):(x.Q.L++clt x.a8 [z]).length≤30:=by
 have h1:=(b5x hx hz).sh.q30;have hzl:=(a1o.1 hz).1;rw[(b0z hx.sh.sr (ds:=[z]) (by simp) (by simpa using hzl)).2.2.2] at h1
 exact h1
theorem c44(h:zr x = []):((a1C x).bind λv4=>
  if ((v4.length:Int)==0) then
   some (Sum.inr x)
  else
  (ix v4 0).bind λv5=>
  (x6 x.S v5).bind λv6=>
  (L8 v6.1).bind λv7=>
  if v7 then
   (S0 x v5).bind λv8=>
   some (.inl v8)
  else
  (cut v4 0 1).bind λv9=>
  (a0m x v9).bind λv10=>
  some (Sum.inl (α:=Hp) (β:=Hp) v10))=some (.inr x):=by
 rw[zero_eq hx.sh.sr,d6X,h];rfl
theorem d4v(z:Int)(l:List Int):cut (z::l) 0 1=some [z]:=by
 unfold cut;rw[if_pos (by simp;omega)]
 simp
theorem c2a(h:zr x ≠ []):((a1C x).bind λv4=>
  if ((v4.length:Int)==0) then
   some (Sum.inr x)
  else
  (ix v4 0).bind λv5=>
  (x6 x.S v5).bind λv6=>
  (L8 v6.1).bind λv7=>
  if v7 then
   (S0 x v5).bind λv8=>
   some (.inl v8)
  else
  (cut v4 0 1).bind λv9=>
  (a0m x v9).bind λv10=>
  some (Sum.inl (α:=Hp) (β:=Hp) v10))=some (.inl (stp x)):=by
 cases hz:zr x with
 | nil=>exact absurd hz h
 | cons z l=>
  have hzm:z∈zr x:=by rw[hz];exact List.mem_cons_self ..
  have hzl:=(a1o.1 hzm).1;have hR:=hx.sh.sr;rw[zero_eq hR,d6X,hz,if_neg (by simp;omega),show ix (z::l) 0=some z from rfl,d6X,b18 hR hzl,d6X,c3z,d6X,a4B hz]
  by_cases hd:due (ob x.S z)=true
  ·rw[if_pos hd,if_pos hd,b6D hx hS (a1Z hR hzl),d6X];unfold quD;rw[if_pos ⟨hzl,hd⟩]
  ·rw[if_neg hd,if_neg hd,d4v hx hS,d6X,c2X hx (ds:=[z]) (by simp) (by simpa using hzl) (b6V hx hS hzm) (by rw[b03 hR [z] (by simp) (by simpa using a1Z hR hzl),b9L hzl]),d6X]
theorem a37:O4 x=some (a1G x):=by
 obtain⟨n,hn,h1,h2,h3⟩:=b2z hx;unfold O4;refine a00 (λj=>stN j x) rfl n (λ_=>True) (by omega) trivial (λk hk _=>.inl ⟨?_,trivial⟩) (λ_=>⟨stN n x,?_,by rw[h3]⟩)
 ·have:=c2a (a0F hx k) (b8C hx hS k) (h2 k hk);rw[←a2b] at this;exact this
 ·exact c44 (a0F hx n) (b8C hx hS n) h1
theorem d0k{k:Nat}(hk:k<100)(h:zr x ≠ []){E:Type}{e:E}:((a8r (hO x)).bind λv35=>
     if ((v35.length:Int)==0) then
      some (Sum.inr e)
     else
     (ix v35 0).bind λv36=>
     (a9a (hO x) v36).bind λv37=>
     if v37 then
      (a4s (hO x) v36).bind λv38=>
      some (.inl (u6 ((k:Int)+1),v38))
     else
     (cut v35 0 1).bind λv39=>
     (a8q (hO x) v39).bind λv40=>
     some (Sum.inl (u6 ((k:Int)+1),v40)))=some (.inl (((k+1:Nat):Int),hO (stp x))):=by
 cases hz:zr x with
 | nil=>exact absurd hz h
 | cons z l=>
  have hzm:z∈zr x:=by rw[hz];exact List.mem_cons_self ..
  have hzl:=(a1o.1 hzm).1;have hR:=hx.sh.sr;rw[c8g hR,d6X,hz,if_neg (by simp;omega),show ix (z::l) 0=some z from rfl,d6X,c6c hx hS (a1Z hR hzl),d6X,decide_eq_true hzl,Bool.true_and,a4B hz,l6]
  by_cases hd:due (ob x.S z)=true
  ·rw[if_pos hd,if_pos hd,b92 hx hS (a1Z hR hzl),d6X];unfold quD;rw[if_pos ⟨hzl,hd⟩]
  ·rw[if_neg hd,if_neg hd,d4v hx hS,d6X,b59 hx (ds:=[z]) (by simp) (by simpa using hzl) (b6V hx hS hzm) (by rw[c6d hR [z] (by simp) (by simpa using a1Z hR hzl),b9L hzl]),d6X]
theorem a6c:P4 (hO x)=some (hO (a1G x)):=by
 obtain⟨n,hn,h1,h2,h3⟩:=b2z hx;unfold P4;simp only[jn];refine a00 (λj=>((j:Int),hO (stN j x))) (by rfl) n (λ_=>True) (by omega) trivial (λk hk _=>.inl ⟨?_,trivial⟩) (λ_=>⟨.inl (hO (stN n x)),?_,by rw[h3]⟩)
 ·dsimp only;rw[if_pos (by simp;omega)]
  have:=d0k (a0F hx k) (b8C hx hS k) (k:=k) (by omega) (h2 k hk) (e:=(Sum.inl (hO (stN k x)):g7 ⊕ g7))
  rw[←a2b] at this;exact this
 ·dsimp only;rw[if_pos (by simp;omega),c8g (a0F hx n).sh.sr,d6X,h1]
  rfl
end
end Go.Sh
namespace Go.Sh
def M1(n l m e:Int):Int:=if n<l∨n > m then e else 0
def a0K(a b c:Int):Int:=if a≠0 then a else if b≠0 then b else c
def B1(k a b c:Int):Int:=
 if k=1 then a0K (M1 a 0 5 6) (M1 b 0 4 1) (M1 c (-1) 5 13)
 else if k=2∨k=9∨k=10 then a0K (M1 a 0 5 6) (M1 b 0 5 6) 0
 else if k=3 then M1 a 0 5 6
 else if k=4 then a0K (M1 a 0 5 6) (M1 b 0 5 6) (M1 c 0 3 5)
 else if k=5 then a0K (M1 a 0 5 6) (M1 b 0 3 5) (M1 c (-1) 5 6)
 else if k=6 then a0K (M1 a 0 5 7) (M1 b (-1) 5 6) (M1 c (-1) 5 13)
 else if k=7 then a0K (M1 a 0 5 6) (M1 b 0 5 7) 0
 else if k=8 then a0K (M1 a 0 5 6) (M1 b (-1) 5 6) 0
 else if k=11 then 0
 else if k=12 then M1 a 0 200 12
 else 14
def b8h:g8:=⟨some 233,0,5,6⟩
def d0f:g8:=⟨some 234,0,5,6⟩
def d4X:g8:=⟨some 234,-1,5,6⟩
def d5e:g8:=⟨some 236,-1,5,13⟩
def b2J:List (Int × List g8):=[(1,[b8h,⟨some 234,0,4,1⟩,d5e]),(2,[b8h,d0f]),(3,[b8h]),(4,[b8h,d0f,⟨some 236,0,3,5⟩]),
 (5,[b8h,⟨some 234,0,3,5⟩,⟨some 236,-1,5,6⟩]),(6,[⟨some 233,0,5,7⟩,d4X,d5e]),(7,[b8h,⟨some 234,0,5,7⟩]),(8,[b8h,d4X]),(9,[b8h,d0f]),(10,[b8h,d0f]),(11,[]),(12,[⟨some 233,0,200,12⟩])]
theorem c1d:a6y=some b2J:=by kernel_rfl
def a3d(o:g6)(d:g8):Int:=if d.part=some 233 then o.A else if d.part=some 234 then o.B else o.C
def a9C(o:g6)(d:g8):Bool:=decide (a3d o d<d.least)||decide (a3d o d > d.most)
def b0L(o:g6):List g8→Int ⊕ Unit
 | []=>.inr ()
 | d::ds=>if a9C o d then .inl d.e else b0L o ds
theorem b9w(o:g6)(d:g8)(ds:List g8):b0L o (d::ds)=if a9C o d then .inl d.e else b0L o ds:=rfl
def c2w(d:g8):Prop:=d.part=some 233∨d.part=some 234∨d.part=some 236
theorem d3g(o:g6){d:g8}(h:c2w d):b0N d.part o=some (a3d o d):=by
 unfold a3d;rcases h with h | h | h
 ·rw[h];rfl
 ·rw[h];rfl
 ·rw[h];rfl
theorem d2F(o:g6)(ds:List g8)(hl:ds.length≤10)(hp:∀d∈ds,c2w d):lp (S:=Int) (E:=Int ⊕ Unit) (λ(s11:Int)=>
   if (decide (s11<(ds.length:Int))) then
    (ix ds s11).bind λv13=>
    (b0N v13.part o).bind λv14=>
    if ((decide (v14<v13.least))||(decide (v14 > v13.most))) then
     some (.inr (.inl v13.e))
    else
    some (.inl (u6 (s11+1)))
   else
   some (.inr (.inr ()))) 0=some (b0L o ds):=by
 refine a3V (b6t ds.length (λk=>b0L o ds=b0L o (ds.drop k)) (λe=>e=b0L o ds) (by omega) rfl (λk hk hP=>?_) (λhP=>?_))
 ·rw[if_pos (by simpa using hk),o7 hk,d6X,d3g o (hp _ (List.getElem_mem hk)),d6X]
  rw[List.drop_eq_getElem_cons hk,b9w] at hP;by_cases c:a9C o ds[k]=true
  ·rw[if_pos (show ((decide (a3d o ds[k]<ds[k].least))||(decide (a3d o ds[k] > ds[k].most)))=true from c)];rw[if_pos c] at hP;exact .inr ⟨_,rfl,hP.symm⟩
  ·rw[if_neg (show ¬((decide (a3d o ds[k]<ds[k].least))||(decide (a3d o ds[k] > ds[k].most)))=true from c),l6];rw[if_neg c] at hP;exact .inl ⟨rfl,hP⟩
 ·rw[List.drop_length] at hP;exact⟨_,if_neg (by simp),hP.symm⟩
theorem c9k:∀p∈b2J,p.2.length≤10∧∀d∈p.2,c2w d:=by
 have:b2J.all (λp=>decide (p.2.length≤10)&&p.2.all λd=>(d.part==some 233)||(d.part==some 234)||(d.part==some 236))=true:=by kernel_rfl
 intro p hp;have:=List.all_eq_true.1 this p hp;rw[Bool.and_eq_true,decide_eq_true_iff,List.all_eq_true] at this;refine⟨this.1,λd hd=>?_⟩;have:=this.2 d hd;simp only[Bool.or_eq_true,beq_iff_eq] at this;unfold c2w;rcases this with (h | h) | h
 ·exact .inl h
 ·exact .inr (.inl h)
 ·exact .inr (.inr h)
theorem c3n{m:List (Int × List g8)}{k:Int}{v:List g8}(h:B4 m k=some v):(k,v)∈m:=by
 induction m with
 | nil=>cases h
 | cons p m ih=>
  unfold B4 at h;split at h
  ·rename_i c;have:k=p.1:=by simpa using c
   cases h;subst this;exact List.mem_cons_self ..
  ·exact List.mem_cons_of_mem _ (ih h)
def b1L(o:g6)(ds:List g8):Int:=match b0L o ds with
 | .inl e=>e
 | .inr _=>0
theorem d0G(o:g6):b1L o []=0:=rfl
theorem b1M(o:g6)(d:g8)(ds:List g8):b1L o (d::ds)=if a9C o d then d.e else b1L o ds:=by
 unfold b1L;rw[b9w];cases a9C o d <;> rfl
theorem b7I(o:g6)(d:g8):M1 (a3d o d) d.least d.most d.e=if a9C o d then d.e else 0:=by
 unfold M1 a9C;by_cases h:a3d o d<d.least∨a3d o d > d.most
 ·rw[if_pos h,if_pos (by simpa using h)]
 ·rw[if_neg h,if_neg (by simpa using h)]
theorem d0E(o:g6)(d:g8):b1L o [d]=M1 (a3d o d) d.least d.most d.e:=by rw[b1M,d0G,b7I]
theorem c76(o:g6)(d e:g8)(h1:d.e≠0):b1L o [d,e]=a0K (M1 (a3d o d) d.least d.most d.e) (M1 (a3d o e) e.least e.most e.e) 0:=by
 rw[b1M,d0E,b7I o d];unfold a0K;cases a9C o d
 ·simp only[Bool.false_eq_true,if_false,ne_eq,not_true_eq_false];split;·rfl
  ·rename_i h;simpa using h
 ·simp[h1]
theorem d0F(o:g6)(d e f:g8)(h1:d.e≠0)(h2:e.e≠0):b1L o [d,e,f]=a0K (M1 (a3d o d) d.least d.most d.e) (M1 (a3d o e) e.least e.most e.e) (M1 (a3d o f) f.least f.most f.e):=by
 rw[b1M,b1M,d0E,b7I o d,b7I o e];unfold a0K;cases a9C o d <;> cases a9C o e <;> simp[h1,h2]
theorem c6L(o:g6):(match B4 b2J o.Kind with
  | none=>14
  | some ds=>b1L o ds)=B1 o.Kind o.A o.B o.C:=by
 obtain⟨k,a,b,c⟩:=o;dsimp only;by_cases h:1≤k∧k≤12
 ·have:k=1∨k=2∨k=3∨k=4∨k=5∨k=6∨k=7∨k=8∨k=9∨k=10∨k=11∨k=12:=by omega
  rcases this with rfl | rfl | rfl | rfl | rfl | rfl | rfl | rfl | rfl | rfl | rfl | rfl
  ·exact d0F _ _ _ _ (by decide) (by decide)
  ·exact c76 _ _ _ (by decide)
  ·exact d0E _ _
  ·exact d0F _ _ _ _ (by decide) (by decide)
  ·exact d0F _ _ _ _ (by decide) (by decide)
  ·exact d0F _ _ _ _ (by decide) (by decide)
  ·exact c76 _ _ _ (by decide)
  ·exact c76 _ _ _ (by decide)
  ·exact c76 _ _ _ (by decide)
  ·exact c76 _ _ _ (by decide)
  ·rfl
  ·exact d0E _ _
 ·have e:B4 b2J k=none:=by
   cases hm:B4 b2J k with
   | none=>rfl
   | some v=>
    have:=c3n hm;simp only[b2J,List.mem_cons,Prod.mk.injEq,List.not_mem_nil,or_false] at this;omega
  rw[e];unfold B1;repeat rw[if_neg (by omega)]
theorem a7T(o:g6):R4 o=some (B1 o.Kind o.A o.B o.C):=by
 rw[←c6L];unfold R4;rw[c1d,d6X];cases h:B4 b2J o.Kind with
 | none=>rfl
 | some ds=>
  obtain⟨h1,h2⟩:=c9k _ (c3n h);rw[if_neg (by simp)]
  simp only[jn,Option.getD_some];rw[d2F o ds h1 h2,d6X];unfold b1L;cases b0L o ds <;> rfl
theorem c9A(n l m e:Int):a0S n l m e=some (M1 n l m e):=by
 unfold a0S M1;by_cases h:n<l∨n > m
 ·rw[if_pos h,if_pos (by simpa using h)]
 ·rw[if_neg h,if_neg (by simpa using h)]
theorem c6v(a b c:Int):Y1 a b c=some (a0K a b c):=by
 unfold Y1 a0K;by_cases h:a=0
 ·by_cases g:b=0
  ·rw[if_neg (by simpa using h),if_neg (by simpa using g),if_neg (by simpa using h),if_neg (by simpa using g)]
  ·rw[if_neg (by simpa using h),if_pos (by simpa using g),if_neg (by simpa using h),if_pos (by simpa using g)]
 ·rw[if_pos (by simpa using h),if_pos (by simpa using h)]
theorem a4S(o:r9):a0C o=some (B1 o.Kind o.A o.B o.C):=by
 unfold a0C B1;simp only[c9A,c6v,d6X,jn];by_cases h:1≤o.Kind∧o.Kind≤12
 ·have:o.Kind=1∨o.Kind=2∨o.Kind=3∨o.Kind=4∨o.Kind=5∨o.Kind=6∨o.Kind=7∨o.Kind=8∨o.Kind=9∨o.Kind=10∨o.Kind=11∨o.Kind=12:=by omega
  rcases this with h | h | h | h | h | h | h | h | h | h | h | h <;> rw[h] <;> rfl
 ·have n:∀j:Int,1≤j→j≤12→(o.Kind==j)=false:=λj h1 h2=>by
   rw[beq_eq_false_iff_ne];omega
  simp only[n 1 (by omega) (by omega),n 2 (by omega) (by omega),n 3 (by omega) (by omega),n 4 (by omega) (by omega),n 5 (by omega) (by omega),n 6 (by omega) (by omega),n 7 (by omega) (by omega),n 8 (by omega) (by omega),n 9 (by omega) (by omega),n 10 (by omega) (by omega),n 11 (by omega) (by omega),n 12 (by omega) (by omega),Bool.false_eq_true,if_false]
  repeat rw[if_neg (by omega)]
end Go.Sh
namespace Go.Sh
end Go.Sh
namespace Go.Sh
end Go.Sh
namespace Go.Sh
end Go.Sh
namespace Go.Sh
def ooI(o:C5):m7:=⟨o.Serial,o.Strong,o.Weak,o.Prog,o.Started,o.Fields⟩
def sOI(s:l7):a7:=⟨⟨s.a8.map λc=>⟨c.State,c.Gen,ooI c.Val⟩,s.Last⟩,s.Serial⟩
def hOI(x:g7):Hp:=⟨sOI x.S,x.Roots,x.a8.map λc=>⟨c.Target,c.Intact,c.Call⟩,x.T.map λp=>⟨p.State,p.Key,p.Val⟩,⟨x.Q.L.map λt=>⟨t.Kind,t.At,t.Prog⟩,x.Q.Cap⟩⟩
theorem d2r(x:Hp):hOI (hO x)=x:=by
 obtain⟨⟨⟨cs,l⟩,n⟩,r,w,t,⟨q,c⟩⟩:=x;unfold hOI hO sOI sO tqR;dsimp only;have a1:(cs.map cO).map (λc=>(⟨c.State,c.Gen,ooI c.Val⟩:b7))=cs:=by
  rw[List.map_map];refine Eq.trans (List.map_congr_left λa _=>?_) (List.map_id cs);rfl
 have a2:(w.map wcR).map (λc=>(⟨c.Target,c.Intact,c.Call⟩:c9))=w:=by
  rw[List.map_map];refine Eq.trans (List.map_congr_left λa _=>?_) (List.map_id w);rfl
 have a3:(t.map L3).map (λp=>(⟨p.State,p.Key,p.Val⟩:b9))=t:=by
  rw[List.map_map];refine Eq.trans (List.map_congr_left λa _=>?_) (List.map_id t);rfl
 have a4:(q.map tkR).map (λt=>(⟨t.Kind,t.At,t.Prog⟩:g9))=q:=by
  rw[List.map_map];refine Eq.trans (List.map_congr_left λa _=>?_) (List.map_id q);rfl
 rw[a1,a2,a3,a4]
theorem c3N{x:Hp}(hx:M3 x){ds:List Int}:(x.Q.L++clt x.a8 ds).length≤30:=by
 have hS:=hx.sh;have c6:=hS.c6;have h24:(lv x.S).length≤24:=F3 (u4.2 hS.sr);have htd:(x.Q.L++clt x.a8 ds).Pairwise λa b=>¬(a.Kind=b.Kind∧a.At=b.At):=by
  rw[List.pairwise_append];refine⟨hS.td,b6b ..,λa ha b hb q=>?_⟩;obtain⟨w,hw,rfl,hh,_⟩:=a3P.1 hb;have hi:x.a8[w].Intact=true:=by
   unfold a27 at hh;rw[Bool.and_eq_true,Bool.and_eq_true] at hh;exact hh.1.1
  have:=((hS.cl w hw).2.2.2.2 hi).2;rw[Bool.eq_false_iff] at this;exact this (a5h.2 ⟨a,ha,q.1,q.2⟩)
 have:=b5k (m:=lv x.S) htd λt ht=>by
  rcases List.mem_append.1 ht with q | q
  ·rcases (hS.tk t q).2.2 with c | c
   ·exact .inl ⟨c.1,c.2.1⟩
   ·exact .inr c
  ·obtain⟨w,hw,rfl,_,_⟩:=a3P.1 q;exact .inr ⟨rfl,by dsimp only;omega,by dsimp only;omega⟩
 omega
section
variable{x:Hp}(hB:HB x)
include hB
end
end Go.Sh
namespace Go.Sh
structure Stl (x y:Hp):Prop where
 lv:∀h∈lv y.S,h∈lv x.S
 ser:y.S.Serial=x.S.Serial
 len:y.S.S.a8.length=x.S.S.a8.length
 ob:∀h∈Sh.lv y.S,(ob y.S h).Serial=(ob x.S h).Serial∧(Sh.ob y.S h).Prog=(Sh.ob x.S h).Prog∧(Sh.ob y.S h).Fields=(Sh.ob x.S h).Fields∧((Sh.ob x.S h).Started=true→(Sh.ob y.S h).Started=true)
 rt:y.Roots=x.Roots
 cn:y.a8.length=x.a8.length
 cl:∀i (h:i<y.a8.length) (h':i<x.a8.length),y.a8[i]=⟨x.a8[i].Target,x.a8[i].Intact&&decide (x.a8[i].Target∈Sh.lv y.S),x.a8[i].Call⟩
 q:∃l,y.Q=⟨x.Q.L++l,x.Q.Cap⟩∧(∀t∈l,t.Kind=1→t.At∈Sh.lv x.S∧(Sh.ob x.S t.At).Started=false)∧∀h∈Sh.lv y.S,(Sh.ob y.S h).Started=true→(Sh.ob x.S h).Started=false→∃t∈l,t.Kind=1∧t.At=h
 rc:∀h,W5 x.S x.T (otr x) h→W5 y.S y.T (otr y) h
 has:∀k v,Has y.T k v→Has x.T k v
theorem Stl.refl{x:Hp}(hx:HpS x):Stl x x:=by
 refine⟨λ_ h=>h,rfl,rfl,λh _=>⟨rfl,rfl,rfl,id⟩,rfl,rfl,λi h h'=>?_,⟨[],by simp,by simp,λh _ a b=>?_⟩,λ_ h=>h,λ_ _ h=>h⟩
 ·have:=(hx.cl i h).2.2.2.2;cases hI:x.a8[i].Intact;·rw[Bool.false_and,←hI]
  ·rw[decide_eq_true (this hI).1,Bool.and_self,←hI]
 ·rw[a] at b;cases b
theorem Stl.trans{x y z:Hp}(a:Stl x y)(b:Stl y z):Stl x z:=by
 obtain⟨l1,q1,q2,q3⟩:=a.q;obtain⟨l2,r1,r2,r3⟩:=b.q;refine⟨λh hh=>a.lv h (b.lv h hh),b.ser.trans a.ser,b.len.trans a.len,λh hh=>?_,b.rt.trans a.rt,b.cn.trans a.cn,λi h h'=>?_,⟨l1++l2,?_,λt ht hk=>?_,λh hh s1 s2=>?_⟩,λh hh=>b.rc h (a.rc h hh),λk v hh=>a.has k v (b.has k v hh)⟩
 ·obtain⟨b1,b2,b3,b4⟩:=b.ob h hh;obtain⟨a1,a2,a3,a4⟩:=a.ob h (b.lv h hh);exact⟨b1.trans a1,b2.trans a2,b3.trans a3,λq=>b4 (a4 q)⟩
 ·have hy:i<y.a8.length:=by rw[a.cn];exact h'
  rw[b.cl i h hy,a.cl i hy h'];dsimp only;congr 1;rw[Bool.and_assoc];congr 1;by_cases q:x.a8[i].Target∈Sh.lv z.S
  ·rw[decide_eq_true q,decide_eq_true (b.lv _ q)];rfl
  ·rw[decide_eq_false q,Bool.and_false]
 ·rw[r1,q1,List.append_assoc]
 ·rcases List.mem_append.1 ht with q | q
  ·exact q2 t q hk
  ·obtain⟨e1,e2⟩:=r2 t q hk;refine⟨a.lv _ e1,?_⟩;cases hs:(Sh.ob x.S t.At).Started;·rfl
   ·rw[(a.ob _ e1).2.2.2 hs] at e2;cases e2
 ·cases hs:(Sh.ob y.S h).Started
  ·obtain⟨t,ht,e⟩:=r3 h hh s1 hs;exact⟨t,List.mem_append_right _ ht,e⟩
  ·obtain⟨t,ht,e⟩:=q3 h (b.lv h hh) hs s2;exact⟨t,List.mem_append_left _ ht,e⟩
theorem c3T(s:a7)(h:Int)(o:m7):(seO s h o).S.a8.length=s.S.a8.length:=M2 ..
theorem d0d{x:Hp}(hx:M3 x){z:Int}(hz:z∈lv x.S)(hs:(ob x.S z).Started=false):Stl x (quH x z):=by
 have hR:=hx.sh.sr;obtain⟨k,e1,e2,e3,e4⟩:=a6W hR hz;have l1:=b71 hR hz;have hob:∀h∈lv x.S,(ob (quH x z).S h).Serial=(ob x.S h).Serial∧(ob (quH x z).S h).Prog=(ob x.S h).Prog∧(ob (quH x z).S h).Fields=(ob x.S h).Fields∧((ob (quH x z).S h).Started=true↔(ob x.S h).Started=true∨h=z):=λh hh=>by
  obtain⟨n,e⟩:=b4U hR hz hh;rw[e];by_cases q:h=z
  ·subst q;rw[if_pos rfl];exact⟨rfl,rfl,rfl,by simp⟩
  ·rw[if_neg q];exact⟨rfl,rfl,rfl,by simp[q]⟩
 have hot:∀h∈otr x,h∈otr (quH x z):=λh hh=>by
  unfold otr at hh ⊢;rw[e1,e4];rcases List.mem_append.1 hh with q | q
  ·exact List.mem_append_left _ q
  ·refine List.mem_append_right _ ?_;obtain⟨t,ht,a,b⟩:=b08.1 q;exact b08.2 ⟨t,List.mem_append_left _ ht,a,b⟩
 have rf:=Stl.refl hx.sh;refine⟨λh hh=>by rw[l1] at hh;exact hh,k.ser,k.len.trans (c3T ..),λh hh=>?_,e1,by rw[e2],λi h h'=>?_,⟨[qtk x z],by rw[e4],λt ht hk=>?_,λh hh s1 s2=>?_⟩,λh hh=>?_,λk v hh=>by rw[e3] at hh;exact hh⟩
 ·rw[l1] at hh;obtain⟨a,b,c,d⟩:=hob h hh;exact⟨a,b,c,λq=>d.2 (.inl q)⟩
 ·have e5:(quH x z).a8[i]=x.a8[i]:=by simp only[e2]
  rw[e5,l1];exact rf.cl i h' h'
 ·rw[List.mem_singleton] at ht;subst ht;exact⟨hz,hs⟩
 ·rw[l1] at hh;rcases (hob h hh).2.2.2.1 s1 with q | q
  ·rw[q] at s2;cases s2
  ·exact⟨qtk x z,List.mem_singleton_self _,rfl,q.symm⟩
 ·induction hh with
  | base h1 h2=>exact .base (hot _ h1) (by rw[l1];exact h2)
  | step h0 h1 h2 ih=>
   refine .step ih ?_ (by rw[l1];exact h2)
   unfold outs at h1 ⊢;rw[(hob _ h0.live).2.2.1];exact h1
  | pair h1 h0 h2 ih=>exact .pair (by rw[e3];exact h1) ih (by rw[l1];exact h2)
theorem c9d{x:Hp}(hx:M3 x){z:Int}(hz:z∈zr x):Stl x (buH x [z]):=by
 have hR:=hx.sh.sr;have hzl:=(a1o.1 hz).1;have h0:z≠0:=λe=>a8d hR (e▸hzl);have hfree:=b8W hx hz;have hn:([z]:List Int).Nodup:=by simp
 have hm:∀d ∈ [z],d∈lv x.S:=by simpa using hzl
 have g:=a1T [z] hR hn hm;have k:=(a4v ([z].flatMap (outs x.S)++(wot x.T [z]).2) (x:=a3K x [z] (wot x.T [z]).1) g.sr).1;obtain⟨e1,e2,e3,e4⟩:=b0z hR hn hm;obtain⟨_,w2,_,_,w5,w6⟩:=a4F hx.sh.hr [z] (by simp)
 have l1:∀h,h∈lv (buH x [z]).S↔h∈lv x.S∧h≠z:=λh=>by
  rw[b7c hR hn hm,List.mem_filter,decide_eq_true_iff,List.mem_singleton]
 have hob:∀h∈lv (buH x [z]).S,(ob (buH x [z]).S h).Serial=(ob x.S h).Serial∧(ob (buH x [z]).S h).Prog=(ob x.S h).Prog∧(ob (buH x [z]).S h).Fields=(ob x.S h).Fields∧(ob (buH x [z]).S h).Started=(ob x.S h).Started:=λh hh=>by
  obtain⟨a,b⟩:=(l1 h).1 hh;obtain⟨n,e⟩:=c07 hR hn hm a (by simpa using b)
  rw[e];exact⟨rfl,rfl,rfl,rfl⟩
 refine⟨λh hh=>((l1 h).1 hh).1,k.ser.trans g.ser,k.len.trans g.len,λh hh=>?_,e1,by rw[e2];simp[clr],λi h h'=>?_,⟨clt x.a8 [z],by rw[e4],λt ht hk=>?_,λh hh s1 s2=>?_⟩,λh hh=>?_,λk v hh=>?_⟩
 ·obtain⟨a,b,c,d⟩:=hob h hh;exact⟨a,b,c,λq=>d.trans q⟩
 ·have e5:(buH x [z]).a8[i]=a7G [z] x.a8[i]:=by
   simp only[e2];exact List.getElem_map _
  rw[e5];have hc:=(hx.sh.cl i h').2.2.2.2;unfold a7G a27;cases hI:x.a8[i].Intact;·rw[if_neg (by simp),Bool.false_and,←hI]
  ·have ht:=(hc hI).1;have ht0:x.a8[i].Target≠0:=λe=>a8d hR (e▸ht);by_cases q:x.a8[i].Target=z
   ·rw[if_pos (by simp[q,h0]),decide_eq_false (λr=>((l1 _).1 r).2 q)]
    rfl
   ·rw[if_neg (by simp[q]),decide_eq_true ((l1 _).2 ⟨ht,q⟩),Bool.and_self,←hI]
 ·obtain⟨w,hw,rfl,_,_⟩:=a3P.1 ht;simp at hk
 ·rw[(hob h hh).2.2.2,s2] at s1;cases s1
 ·unfold nms at hfree;have key:W5 (buH x [z]).S (buH x [z]).T (otr (buH x [z])) h∧h≠z:=by
   induction hh with
   | base h1 h2=>
    rename_i a;have hne:a≠z:=λe=>by
     subst e;exact c0B h0 (by omega:Z3 (otr x) a=0) h1
    refine⟨.base ?_ ((l1 _).2 ⟨h2,hne⟩),hne⟩;unfold otr at h1 ⊢;rw[e1,e4,b4A _ _ _ λt ht=>by
     obtain⟨w,_,rfl,_⟩:=a3P.1 ht;simp]
    exact h1
   | step q0 q1 q2 ih=>
    rename_i a b;have hne:b≠z:=λe=>by
     subst e;have:=b7J (y:=b) q0.live;have h1:=a2c.2 ⟨h0,q1⟩;omega
    refine⟨.step ih.1 ?_ ((l1 _).2 ⟨q2,hne⟩),hne⟩;unfold outs at q1 ⊢;rw[(hob _ ((l1 _).2 ⟨q0.live,ih.2⟩)).2.2.1];exact q1
   | pair q1 q0 q2 ih=>
    rename_i a b;have hne:b≠z:=λe=>by
     subst e;have:=b7X q1 h0;omega
    exact⟨.pair (by rw[e3];exact (w5 _ _).2 ⟨by simpa using ih.2,q1⟩) ih.1 ((l1 _).2 ⟨q2,hne⟩),hne⟩
  exact key.1
 ·rw[e3] at hh;exact ((w5 _ _).1 hh).2
theorem d0w{x:Hp}(hx:M3 x):Stl x (stp x):=by
 cases h:zr x with
 | nil=>rw[a9j h];exact Stl.refl hx.sh
 | cons z l=>
  have hz:z∈zr x:=by rw[h];exact List.mem_cons_self ..
  rw[a4B h];split
  ·rename_i q;unfold due at q;rw[Bool.and_eq_true,decide_eq_true_iff,Bool.not_eq_true'] at q;exact d0d hx (a1o.1 hz).1 q.2
  ·exact c9d hx hz
theorem d0v{x:Hp}(hx:M3 x)(n:Nat):Stl x (stN n x):=by
 induction n with
 | zero=>exact Stl.refl hx.sh
 | succ n ih=>rw[a2b];exact ih.trans (d0w (a0F hx n))
theorem a8E{x:Hp}(hx:M3 x):Stl x (a1G x):=d0v hx 100
end Go.Sh
namespace Go.Sh
section
variable{x:Hp}(hB:HB x)
include hB
end
end Go.Sh
namespace Go.Sh
end Go.Sh
namespace Go.Sh
end Go.Sh
namespace Go.Sh
end Go.Sh
namespace Go.Sh
structure Ks (s s':a7):Prop where
 sr:SR s'
 ser:s'.Serial=s.Serial
 lv:lv s'=lv s
 ob:∀h∈Sh.lv s,(ob s' h).Serial=(ob s h).Serial
theorem Ks.refl{s:a7}(hR:SR s):Ks s s:=⟨hR,rfl,rfl,λ_ _=>rfl⟩
theorem Ks.trans{a b c:a7}(h:Ks a b)(q:Ks b c):Ks a c:=⟨q.sr,q.ser.trans h.ser,q.lv.trans h.lv,λk hk=>(q.ob k (by rw[h.lv];exact hk)).trans (h.ob k hk)⟩
theorem Kin.ks{s s':a7}(hR:SR s)(k:Kin s s'):Ks s s':=⟨k.sr,k.ser,k.lv,λh hh=>by
 obtain⟨n,e⟩:=k.ob h (by have:=G8 hR hh;omega)
 rw[e]⟩
theorem Kn.ks{s s':a7}(k:Kn s s')(e:s'.Serial=s.Serial):Ks s s':=⟨k.sr,e,k.lv,λh hh=>by
 obtain⟨n,m,e⟩:=k.ob h hh;rw[e]⟩
theorem d3G{s:a7}(hR:SR s){h:Int}(hh:h∈lv s){o:m7}(hs:o.Serial=(ob s h).Serial)(ho:OkO s o):Ks s (seO s h o):=⟨a0T hR hh hs ho,rfl,a3z hR hh hs ho,λk hk=>by
 rw[a2H hR hh hs ho (by have:=G8 hR hk;omega)]
 split;·rename_i e;subst e;exact hs
 ·rfl⟩
theorem b8s{x:Hp}(hR:SR x.S)(h:Int):Ks x.S (C2 x h).S:=(F7 hR h λc=>D5).ks hR
theorem b8o{x:Hp}(hR:SR x.S)(h:Int):Ks x.S (Q2 x h).S:=(F7 hR h λc=>N8).ks hR
theorem b5a(x:Hp)(h:Int):(Q2 x h).Roots=x.Roots∧(Q2 x h).a8=x.a8∧(Q2 x h).T=x.T∧(Q2 x h).Q=x.Q:=b5j x h a5E
theorem a06{x:Hp}(hR:SR x.S)(r:Nat)(h:Int):Ks x.S (F6 x r h).S:=
 (b8s hR h).trans (b8o (x:=wR (C2 x h) (x.Roots.set r h)) (a3y hR h) _)
theorem b6d{x:Hp}(hR:SR x.S){h:Int}(hh:h∈lv x.S){n:Nat}(hn:n<(ob x.S h).Fields.length)(v:Int):Ks x.S (a1f x h n v).S:=by
 have k1:=b8s hR v;have hh1:h∈lv (C2 x v).S:=by rw[k1.lv];exact hh
 have hof:(ob (C2 x v).S h).Fields=(ob x.S h).Fields:=by
  obtain⟨n,e⟩:=(F7 hR v (f:=U4) λc=>D5).ob h (by have:=G8 hR hh;omega)
  show (ob (stO x v U4).S h).Fields=_;rw[e]
 have ho:OkO (C2 x v).S (flg (ob (C2 x v).S h) ((ob x.S h).Fields.set n v)):=by
  have:=J5 k1.sr hh1;refine⟨this.s1,this.s2,this.st,this.wk,this.p1,this.p2,?_⟩;have h4:=this.fl;rw[hof] at h4;simpa using h4
 have k2:=d3G (o:=flg (ob (C2 x v).S h) ((ob x.S h).Fields.set n v)) k1.sr hh1 rfl ho;exact (k1.trans k2).trans (b8o (x:=wS (C2 x v) (seO (C2 x v).S h (flg (ob (C2 x v).S h) ((ob x.S h).Fields.set n v)))) k2.sr _)
theorem a7X(x:Hp)(h:Int)(n:Nat)(v:Int):(a1f x h n v).Roots=x.Roots∧(a1f x h n v).a8=x.a8∧(a1f x h n v).T=x.T∧(a1f x h n v).Q=x.Q:=by
 obtain⟨a,b,c,d⟩:=b5a (wS (C2 x v) (seO (C2 x v).S h (flg (ob (C2 x v).S h) ((ob x.S h).Fields.set n v)))) ((ob x.S h).Fields.getD n 0);obtain⟨a',b',c',d'⟩:=a58 x v;exact⟨a.trans a',b.trans b',c.trans c',d.trans d'⟩
theorem b9U{x:Hp}(hR:SR x.S)(v:Int)(t:Tb)(old:Int):Ks x.S (a5Q x v t old).S:=
 (b8s hR v).trans (b8o (x:=wT (C2 x v) t) (a3y hR v) old)
theorem b0c(x:Hp)(v:Int)(t:Tb)(old:Int):(a5Q x v t old).Roots=x.Roots∧(a5Q x v t old).a8=x.a8∧(a5Q x v t old).T=t∧(a5Q x v t old).Q=x.Q:=by
 obtain⟨a,b,c,d⟩:=b5a (wT (C2 x v) t) old;obtain⟨a',b',c',d'⟩:=a58 x v;exact⟨a.trans a',b.trans b',c,d.trans d'⟩
end Go.Sh
namespace Go.Sh
theorem d2p{s:a7}(hR:SR s){i:Nat}(hi:i<s.S.a8.length)(h2:(ce s i).State=2):Ks s (gvA s i):=⟨b7E hR hi,rfl,b7C hR hi h2,λh hh=>by rw[b7D hR hi h2 hh]⟩
theorem d2H{x:Hp}(hR:SR x.S)(h:Int){d:Int}(hd:X6 x.S h (D0 h)→0≤(ce x.S (D0 h)).Val.Weak+d):Ks x.S (mkd x h d).S:=by
 unfold mkd;split
 ·rename_i q;exact (a6N hR q.1 q.2.1 (hd q)).ks rfl
 ·exact Ks.refl hR
theorem c6Z(x:Hp)(h d:Int):(mkd x h d).Roots=x.Roots∧(mkd x h d).a8=x.a8∧(mkd x h d).T=x.T∧(mkd x h d).Q=x.Q:=by
 unfold mkd;split <;> exact⟨rfl,rfl,rfl,rfl⟩
theorem c5f(x:Hp)(h:Int):(a8K x h).Roots=x.Roots∧(a8K x h).a8=x.a8∧(a8K x h).T=x.T∧(a8K x h).Q=x.Q:=by
 unfold a8K;split;·split <;> exact⟨rfl,rfl,rfl,rfl⟩
 ·exact⟨rfl,rfl,rfl,rfl⟩
theorem c32{x:Hp}(hR:SR x.S)(h:Int)(hd:X6 x.S h (D0 h)→1≤(ce x.S (D0 h)).Val.Weak):Ks x.S (a8K x h).S:=by
 unfold a8K;split
 ·rename_i q;have hd:=hd q;have kn:=a6N (d:=-1) hR q.1 q.2.1 (by omega)
  split
  ·rename_i c;have hi1:D0 h<(mkA x.S (D0 h) (-1)).S.a8.length:=by rw[kn.len];exact q.1
   have hce:ce (mkA x.S (D0 h) (-1)) (D0 h)=⟨(ce x.S (D0 h)).State,(ce x.S (D0 h)).Gen,wkg (ce x.S (D0 h)).Val ((ce x.S (D0 h)).Val.Weak + -1)⟩:=by
    rw[a3u hR q.1 q.2.1,if_pos rfl]
   have h2:(ce (mkA x.S (D0 h) (-1)) (D0 h)).State=2:=by rw[hce];exact c.1
   exact (kn.ks rfl).trans (d2p kn.sr hi1 h2)
  ·exact kn.ks rfl
 ·exact Ks.refl hR
theorem c0F{x:Hp}(hx:M3 x){n:Nat}(hn:n<6)(h call:Int):Ks x.S (a2o x n h call).S:=by
 have hR:=hx.sh.sr;have hnl:n<x.a8.length:=by have:=hx.sh.c6;omega
 have ok:∀k i,X6 x.S k i→0≤(ce x.S i).Val.Weak:=λk i q=>(hR.ok i q.1 q.2.1).wk;have tw:∀i,X6 x.S (tgt x n) i→1≤(ce x.S i).Val.Weak:=λi q=>by
  have htg:tgt x n=x.a8[n].Target:=by
   unfold tgt;rw[List.getD_eq_getElem?_getD,List.getElem?_eq_getElem hnl];rfl
  have r:=q.rng hR;have p:=b09 hnl (by rw[←htg];omega)
  rw[←htg,q.2.2] at p;have:=(hx.wk i q.1 q.2.1).1;omega
 unfold a2o;have s1:Ks x.S (mkd (wC x (x.a8.set n (wcl h call))) h 1).S:=d2H (x:=wC x (x.a8.set n (wcl h call))) hR h λq=>by
  have:=ok _ _ q;dsimp only;omega
 by_cases q:X6 x.S h (D0 h)
 ·have e:mkd (wC x (x.a8.set n (wcl h call))) h 1=wS (wC x (x.a8.set n (wcl h call))) (mkA x.S (D0 h) 1):=by
   unfold mkd;rw[if_pos q]
  have hd:=ok _ _ q;have kn:=a6N (d:=1) hR q.1 q.2.1 (by omega)
  rw[e] at s1 ⊢;refine s1.trans (c32 (x:=wS (wC x (x.a8.set n (wcl h call))) (mkA x.S (D0 h) 1)) kn.sr _ λq2=>?_);dsimp only at q2 ⊢;have q3:=(kn.ad _ _).1 q2;have:=tw _ q3;rw[a3u hR q.1 q.2.1];split
  ·rename_i e2;rw[e2] at this;show 1≤(ce x.S (D0 h)).Val.Weak+1;omega
  ·exact this
 ·have e:mkd (wC x (x.a8.set n (wcl h call))) h 1=wC x (x.a8.set n (wcl h call)):=by
   unfold mkd;rw[if_neg q]
  rw[e] at s1 ⊢;exact s1.trans (c32 (x:=wC x (x.a8.set n (wcl h call))) hR _ λq2=>tw _ q2)
theorem b5s(x:Hp)(n:Nat)(h call:Int):(a2o x n h call).Roots=x.Roots∧(a2o x n h call).a8=x.a8.set n (wcl h call)∧(a2o x n h call).T=x.T∧(a2o x n h call).Q=x.Q:=by
 obtain⟨a,b,c,d⟩:=c5f (mkd (wC x (x.a8.set n (wcl h call))) h 1) (tgt x n);obtain⟨a',b',c',d'⟩:=c6Z (wC x (x.a8.set n (wcl h call))) h 1;exact⟨a.trans a',b.trans b',c.trans c',d.trans d'⟩
end Go.Sh
namespace Go.Sh
abbrev nwo(s:a7)(n:Nat)(p:Int):m7:=⟨s.Serial+1,0,0,p,false,List.replicate n 0⟩
def mkS(s:a7)(i n:Nat)(p:Int):a7:=⟨⟨s.S.a8.set i ⟨1,(ce s i).Gen,nwo s n p⟩,s.S.Last⟩,s.Serial+1⟩
section
variable{s:a7}(hR:SR s){i:Nat}(hi:i<s.S.a8.length)(h0:(ce s i).State=0){n:Nat}(hn:n≤4){p:Int}(hp : -1≤p∧p≤5)
include hR hi h0 hn hp
theorem a5s:(mkS s i n p).S.a8.length=s.S.a8.length:=by simp[mkS]
theorem a7y(j:Nat):ce (mkS s i n p) j=if j=i then ⟨1,(ce s i).Gen,nwo s n p⟩ else ce s j:=a5H hi _ _ j
theorem b9O:SR (mkS s i n p):=by
 have hser:=hR.ser;have hc:=hR.cell i hi;have hnt:¬Th (ce s i):=λh=>by
  rcases h with h | h <;> omega
 refine⟨by rw[a5s hR hi h0 hn hp];exact hR.len,hR.l0,hR.l9,by show 0≤s.Serial+1;omega,λj hj=>?_,λj hj ht=>?_,λj hj ht=>?_,λj k hj hk a b e=>?_⟩
 ·rw[a5s hR hi h0 hn hp] at hj;rw[a7y hR hi h0 hn hp];split;·exact⟨show (0:Int)≤1 by decide,show (1:Int)≤3 by decide,hc.2.2.1,hc.2.2.2⟩
  ·exact hR.cell j hj
 ·rw[a5s hR hi h0 hn hp] at hj;rw[a7y hR hi h0 hn hp] at ht ⊢;split at ht;·exact absurd (.inl rfl) ht
  ·rename_i e;rw[if_neg e];exact hR.no j hj ht
 ·rw[a5s hR hi h0 hn hp] at hj;rw[a7y hR hi h0 hn hp] at ht ⊢;split at ht
  ·rename_i e;rw[if_pos e];exact⟨by show 1≤s.Serial+1;omega,Int.le_refl _,Int.le_refl 0,Int.le_refl 0,hp.1,hp.2,by simpa using hn⟩
  ·rename_i e;rw[if_neg e];have:=hR.ok j hj ht;exact⟨this.s1,by show _≤s.Serial+1;have:=this.s2;omega,this.st,this.wk,this.p1,this.p2,this.fl⟩
 ·rw[a5s hR hi h0 hn hp] at hj hk;rw[a7y hR hi h0 hn hp] at a e;rw[a7y hR hi h0 hn hp] at b e;have old:∀m,m<s.S.a8.length→Th (ce s m)→(ce s m).Val.Serial≠s.Serial+1:=λm hm t q=>by
   have:=(hR.ok m hm t).s2;omega
  by_cases ej:j=i <;> by_cases ek:k=i
  ·rw[ej,ek]
  ·rw[if_neg ek] at b e;rw[if_pos ej] at e;exact absurd e.symm (old k hk b)
  ·rw[if_neg ej] at a e;rw[if_pos ek] at e;exact absurd e (old j hj a)
  ·rw[if_neg ej] at a e;rw[if_neg ek] at b e;exact hR.dif j k hj hk a b e
theorem c1z{k:Int}{j:Nat}(q:X6 s k j):j≠i:=λe=>by
 subst e;rcases q.2.1 with h | h <;> omega
theorem d2G{k:Int}{j:Nat}:X6 (mkS s i n p) k j↔X6 s k j∨(j=i∧k=hdl s i):=by
 unfold X6;rw[a5s hR hi h0 hn hp,a7y hR hi h0 hn hp];by_cases e:j=i
 ·rw[if_pos e];subst e;constructor
  ·rintro⟨a,b,c⟩;exact .inr ⟨rfl,c⟩
  ·rintro (⟨a,b,c⟩ | ⟨_,c⟩);·exact absurd rfl (c1z hR hi h0 hn hp ⟨a,b,c⟩)
   ·exact⟨hi,.inl rfl,c⟩
 ·rw[if_neg e];constructor;·exact .inl
  ·rintro (h | ⟨h,_⟩);·exact h
   ·exact absurd h e
theorem c3o:lv (mkS s i n p)=lv s ++ [hdl s i]:=by
 have e:=c1y (s:=s) (u4.2 hR) hi (by rw[←D2 hi];exact h0) (nwo s n p) rfl (a1Y (u4.2 hR))
 unfold mkS;rw[show (ce s i).Gen=s.S.a8[i].Gen by rw[D2 hi]]
 have e2:hdl s i=1+(i:Int)+32*s.S.a8[i].Gen:=by unfold hdl;rw[D2 hi]
 rw[e2];have:=a1Y (u4.2 (by have:=b9O hR hi h0 hn hp;unfold mkS at this;rw[show (ce s i).Gen=s.S.a8[i].Gen by rw[D2 hi]] at this;exact this))
 rw[e] at this;exact (Option.some.inj this).symm
theorem c6X:hdl s i∉lv s:=λh=>by
 obtain⟨j,q⟩:=(a28 hR).1 h;have:i=j:=by
  have a:=q.2.2;have b:=q.1;unfold hdl at a;have:=hR.len;omega
 subst this;have:=q.2.1;omega
theorem b6x{k:Int}(hk:k∈lv s):ob (mkS s i n p) k=ob s k:=by
 obtain⟨j,q⟩:=(a28 hR).1 hk;have hj:=c1z hR hi h0 hn hp q.d;have q2:At (mkS s i n p) k j:=by
  refine⟨by rw[a5s hR hi h0 hn hp];exact q.1,?_,?_⟩ <;> rw[a7y hR hi h0 hn hp,if_neg hj]
  ·exact q.2.1
  ·exact q.2.2
 rw[O8 (b9O hR hi h0 hn hp) q2,O8 hR q,a7y hR hi h0 hn hp,if_neg hj]
theorem b2d:ob (mkS s i n p) (hdl s i)=nwo s n p:=by
 have q2:At (mkS s i n p) (hdl s i) i:=by
  refine⟨by rw[a5s hR hi h0 hn hp];exact hi,?_,?_⟩ <;> rw[a7y hR hi h0 hn hp,if_pos rfl]
  rfl
 rw[O8 (b9O hR hi h0 hn hp) q2,a7y hR hi h0 hn hp,if_pos rfl]
end
theorem c30{l:List Int}{h:Int}(e:h∉l):Z3 l h=0:=Nat.eq_zero_of_not_pos λq=>e (a2c.1 q).2
theorem c6Y{x:Hp}(hx:M3 x){i:Nat}(hi:i<x.S.S.a8.length)(h0:(ce x.S i).State=0){n:Nat}(hn:n≤4){p:Int}(hp : -1≤p∧p≤5):M3 (wS x (mkS x.S i n p)):=by
 have hR:=hx.sh.sr;have hS:=b9O hR hi h0 hn hp;have hl:=c3o hR hi h0 hn hp;have hnew:=c6X hR hi h0 hn hp;have mem:∀ {k},k∈lv x.S→k∈lv (mkS x.S i n p):=λhk=>by rw[hl];exact List.mem_append_left _ hk
 have mem0:∀ {k},k=0∨k∈lv x.S→k=0∨k∈lv (mkS x.S i n p):=λhk=>hk.imp id mem;have hpos:=b3z hR hi;have split:∀ {k},k∈lv (mkS x.S i n p)→k∈lv x.S∨k=hdl x.S i:=λhk=>by
  rw[hl] at hk;rcases List.mem_append.1 hk with q | q
  ·exact .inl q
  ·exact .inr (List.mem_singleton.1 q)
 have rep:∀v∈List.replicate n (0:Int),v=0:=λv hv=>(List.mem_replicate.1 hv).2;have ntgt:∀j (hj:j<x.a8.length),x.a8[j].Target≠hdl x.S i:=λj hj e=>by
  obtain⟨q,hq⟩:=(hx.sh.cl j hj).2.2.2.1 (by rw[e];omega)
  rw[e] at hq;have:q=i:=by
   have a:=hq.2.2;have b:=hq.1;unfold hdl at a;have:=hR.len;omega
  exact c1z hR hi h0 hn hp hq this
 refine⟨⟨hS,hx.sh.hr,hx.sh.r6,hx.sh.c6,hx.sh.cap,hx.sh.q30,λt ht=>?_,hx.sh.td,λh hh=>mem0 (hx.sh.rt h hh),λh hh v hv=>?_,λk v hk=>?_,λj hj=>?_⟩,λj hj ht=>?_,λh hh hs=>?_⟩
 ·obtain⟨a,b,c⟩:=hx.sh.tk t ht;refine⟨a,b,c.imp (λ⟨d,e,f⟩=>⟨d,mem e,?_⟩) id⟩;show (ob (mkS x.S i n p) t.At).Started=true;rw[b6x hR hi h0 hn hp e];exact f
 ·rcases split hh with q | q
  ·have hv':v∈(ob (mkS x.S i n p) h).Fields:=hv;rw[b6x hR hi h0 hn hp q] at hv';exact mem0 (hx.sh.fl h q v hv')
  ·subst q;have hv':v∈(ob (mkS x.S i n p) (hdl x.S i)).Fields:=hv;rw[b2d hR hi h0 hn hp] at hv';exact .inl (rep v hv')
 ·obtain⟨a,b⟩:=hx.sh.pr k v hk;exact⟨mem a,mem b⟩
 ·obtain⟨a,b,c,d,e⟩:=hx.sh.cl j hj;refine⟨a,b,c,λq=>?_,λq=>⟨mem (e q).1,(e q).2⟩⟩;obtain⟨m,hm⟩:=d q;exact⟨m,(d2G hR hi h0 hn hp).2 (.inl hm)⟩
 ·have hj':j<x.S.S.a8.length:=by have:j<(mkS x.S i n p).S.a8.length:=hj;rwa [a5s hR hi h0 hn hp] at this
  show (ce (mkS x.S i n p) j).Val.Weak=(nmg x.a8 (1+(j:Int)+32*(ce (mkS x.S i n p) j).Gen):Int)∧_;have ht':Th (ce (mkS x.S i n p) j):=ht;rw[a7y hR hi h0 hn hp] at ht' ⊢;by_cases e:j=i
  ·subst e;rw[if_pos rfl];refine⟨?_,λq=>absurd (show (1:Int)=2 from q) (by decide)⟩
   show (0:Int)=(nmg x.a8 (hdl x.S j):Int);have:nmg x.a8 (hdl x.S j)=0:=by
    unfold nmg;rw[List.countP_eq_zero];intro c hc;obtain⟨m,hm,rfl⟩:=List.getElem_of_mem hc;have:=ntgt m hm;simp[this]
   rw[this];rfl
  ·rw[if_neg e] at ht' ⊢;exact hx.wk j hj' ht'
 ·have hinn:∀y,inn (mkS x.S i n p) y=inn x.S y:=λy=>by
   unfold inn;rw[hl,List.map_append,List.sum_append];have e1:(lv x.S).map (λk=>Z3 (outs (mkS x.S i n p) k) y)=(lv x.S).map λk=>Z3 (outs x.S k) y:=List.map_congr_left λk hk=>by
    unfold outs;rw[b6x hR hi h0 hn hp hk]
   rw[e1];have e2:outs (mkS x.S i n p) (hdl x.S i) = []:=by
    refine List.eq_nil_iff_forall_not_mem.2 λv hv=>?_;have h1:=a6R.1 hv;rw[b2d hR hi h0 hn hp] at h1;exact h1.2 (rep v h1.1)
   simp[e2,P9]
  have hnm:∀y,nms (wS x (mkS x.S i n p)) y=nms x y:=λy=>by
   unfold nms;show inn (mkS x.S i n p) y+own x.T y+Z3 (otr x) y=_;rw[hinn]
  rw[hnm];have hs':(ob (mkS x.S i n p) h).Strong<12:=hs;show (ob (mkS x.S i n p) h).Strong=_;rcases split hh with q | q
  ·rw[b6x hR hi h0 hn hp q] at hs' ⊢;exact hx.fair h q hs'
  ·subst q;rw[b2d hR hi h0 hn hp];have h1:nms x (hdl x.S i)=0:=by
    unfold nms;have a1:inn x.S (hdl x.S i)=0:=by
     unfold inn;have:=b8F (λk=>Z3 (outs x.S k) (hdl x.S i)) 0 (lv x.S) λk hk=>Nat.le_of_eq<|c30 λq=>by
      have q2:=a6R.1 q;rcases hx.sh.fl k hk _ q2.1 with e | e
      ·exact q2.2 e
      ·exact hnew e
     omega
    have a2:own x.T (hdl x.S i)=0:=by
     unfold own;rw[List.countP_eq_zero];intro c hc;have:=(hx.sh.pr _ _ (a3Q.1 hc)).2;have hne:c.Val≠hdl x.S i:=λe=>hnew (e▸this);simp[hne]
    have a3:Z3 (otr x) (hdl x.S i)=0:=c30 λq=>by
     unfold otr at q;rcases List.mem_append.1 q with q | q
     ·have q2:=a6R.1 q;rcases hx.sh.rt _ q2.1 with e | e
      ·exact q2.2 e
      ·exact hnew e
     ·obtain⟨t,ht,k1,k2⟩:=b08.1 q;rcases (hx.sh.tk t ht).2.2 with ⟨_,b,_⟩ | ⟨b,_⟩;·exact hnew (k2▸b)
      ·omega
    omega
   rw[h1,P9];rfl
end Go.Sh
namespace Go.Sh
structure Ev (x y:Hp):Prop where
 lv:∀h∈lv y.S,(h∈Sh.lv x.S∧(ob y.S h).Serial=(ob x.S h).Serial)∨(h∉Sh.lv x.S∧(ob y.S h).Serial=x.S.Serial+1)
 s1:x.S.Serial≤y.S.Serial
 s2:y.S.Serial≤x.S.Serial+1
theorem Ev.refl(x:Hp):Ev x x:=⟨λh hh=>.inl ⟨hh,rfl⟩,by omega,by omega⟩
theorem Ks.ev{x y:Hp}(k:Ks x.S y.S):Ev x y:=⟨λh hh=>by
 rw[k.lv] at hh;exact .inl ⟨hh,k.ob h hh⟩,by rw[k.ser];omega,by rw[k.ser];omega⟩
theorem Ev.ks{x y z:Hp}(e:Ev x y)(k:Ks y.S z.S):Ev x z:=⟨λh hh=>by
 rw[k.lv] at hh;rw[k.ob h hh];exact e.lv h hh,by rw[k.ser];exact e.s1,by rw[k.ser];exact e.s2⟩
theorem Ev.stl{x y z:Hp}(e:Ev x y)(s:Stl y z):Ev x z:=⟨λh hh=>by
 rw[(s.ob h hh).1];exact e.lv h (s.lv h hh),by rw[s.ser];exact e.s1,by rw[s.ser];exact e.s2⟩
theorem d4S{x:Hp}(hx:M3 x){i:Nat}(hi:i<x.S.S.a8.length)(h0:(ce x.S i).State=0){n:Nat}(hn:n≤4){p:Int}(hp : -1≤p∧p≤5):Ev x (wS x (mkS x.S i n p)):=⟨λh hh=>by
 have hR:=hx.sh.sr;have hh':h∈lv (mkS x.S i n p):=hh;show (_∧(ob (mkS x.S i n p) h).Serial=_)∨_∧(ob (mkS x.S i n p) h).Serial=_;rw[c3o hR hi h0 hn hp] at hh';rcases List.mem_append.1 hh' with q | q
 ·exact .inl ⟨q,by rw[b6x hR hi h0 hn hp q]⟩
 ·rw[List.mem_singleton.1 q];exact .inr ⟨c6X hR hi h0 hn hp,by rw[b2d hR hi h0 hn hp]⟩,by show _≤x.S.Serial+1;omega,Int.le_refl _⟩
def Cw(x y:Hp)(w:Int):Prop:=∀i:Nat,(i:Int)≠w→(y.a8.getD i cz).Target=(x.a8.getD i cz).Target∧((y.a8.getD i cz).Intact=true→(x.a8.getD i cz).Intact=true)
theorem Cw.refl(x:Hp)(w:Int):Cw x x w:=λi _=>⟨rfl,id⟩
theorem Cw.same{x y:Hp}(h:y.a8=x.a8)(w:Int):Cw x y w:=λi _=>by rw[h];exact⟨rfl,id⟩
theorem Cw.trans{x y z:Hp}{w:Int}(a:Cw x y w)(b:Cw y z w):Cw x z w:=λi hi=>⟨(b i hi).1.trans (a i hi).1,λq=>(a i hi).2 ((b i hi).2 q)⟩
theorem Stl.cw{x y:Hp}(s:Stl x y)(w:Int):Cw x y w:=λi _=>by
 by_cases h:i<x.a8.length
 ·have h':i<y.a8.length:=by rw[s.cn];exact h
  rw[c27 h,c27 h',s.cl i h' h];exact⟨rfl,λq=>(Bool.and_eq_true _ _▸q).1⟩
 ·have h':¬i<y.a8.length:=by rw[s.cn];exact h
  rw[List.getD_eq_getElem?_getD,List.getD_eq_getElem?_getD,List.getElem?_eq_none (by omega),List.getElem?_eq_none (by omega)]
  exact⟨rfl,id⟩
theorem Cw.set{x y:Hp}{w:Nat}{c:c9}(h:y.a8=x.a8.set w c):Cw x y w:=λi hi=>by
 rw[h,List.getD_eq_getElem?_getD,List.getD_eq_getElem?_getD,List.getElem?_set_ne (by omega)]
 exact⟨rfl,id⟩
end Go.Sh
namespace Go.Sh
def Fst(s:a7)(i:Nat):Prop:=i<s.S.a8.length∧(ce s i).State=0∧∀j,j<i→(ce s j).State≠0
theorem d4P{s:a7}(hR:SR s)(hb:s.Serial<9223372036854775807)(a p:Int) :
  (¬(0≤a∧a≤4)∧T0 s a p=some (s,0,1)) ∨
  ((0≤a∧a≤4)∧¬(-1≤p∧p≤5)∧T0 s a p=some (s,0,13)) ∨
  ((0≤a∧a≤4)∧(-1≤p∧p≤5)∧(∀i,i<s.S.a8.length→(ce s i).State≠0)∧T0 s a p=some (s,0,4)) ∨
  ((0≤a∧a≤4)∧(-1≤p∧p≤5)∧∃i,Fst s i∧T0 s a p=some (mkS s i a.toNat p,hdl s i,0)):=by
 have hs':=hR.ser;have hR':=u4.2 hR;unfold T0 b8M;by_cases ha:0≤a∧a≤4
 ·right;obtain⟨ha1,ha2⟩:=ha;obtain⟨n,rfl⟩:∃n:Nat,a=n:=⟨a.toNat,by omega⟩
  rw[if_neg (by simp;omega),a7z (by omega) (by omega)]
  simp only[d6X];by_cases hp : -1≤p∧p≤5
  ·right;unfold R1;simp only[d6X];have e1:(decide (p ≥ -1)&&decide (p<6))=true:=by simp;omega
   rw[e1];have hl:SlO s.S:=⟨a18 hR',hR'.l0,hR'.l9,λi hi=>b8q hR' i hi⟩;rcases b8H hl ⟨s.Serial+1,0,0,p,false,List.replicate n 0⟩ with ⟨i,hi,h0,hf,e⟩ | ⟨hf,e⟩
   ·right;refine⟨⟨ha1,ha2⟩,hp,i,⟨hi,by rw[D2 hi];exact h0,λj hj=>by rw[D2 (by omega)];exact hf j hj⟩,?_⟩
    simp only[bne_self_eq_false,Bool.false_eq_true,if_false,Bool.not_true];rw[show u6 (s.Serial+1)=s.Serial+1 from D9 (by omega) (by omega),e]
    unfold mkS hdl;rw[D2 hi];simp
   ·left;refine⟨⟨ha1,ha2⟩,hp,λi hi=>by rw[D2 hi];exact hf i hi,?_⟩
    simp only[bne_self_eq_false,Bool.false_eq_true,if_false,Bool.not_true];rw[show u6 (s.Serial+1)=s.Serial+1 from D9 (by omega) (by omega),e]
    simp
  ·left;refine⟨⟨ha1,ha2⟩,hp,?_⟩;unfold R1;simp only[d6X];have e1:(decide (p ≥ -1)&&decide (p<6))=false:=by rw[Bool.eq_false_iff];simp;omega
   rw[e1];simp
 ·left;refine⟨ha,?_⟩;rw[if_pos (by simp;omega)]
  simp
end Go.Sh
namespace Go.Sh
def sd(x:Hp)(r:Int):Int:=if r<0 then 0 else x.Roots.getD r.toNat 0
def asd(x:Hp)(r:Int):Int × Int:=if sd x r=0 then (0,2) else (sd x r,0)
def ser(x:Hp)(h:Int):Int:=(ob x.S h).Serial
theorem in0{n l m e:Int}(he:e≠0)(h:M1 n l m e=0):l≤n∧n≤m:=by
 unfold M1 at h;split at h;·exact absurd h he
 ·omega
theorem c1l{a b c:Int}(h:a0K a b c=0):a=0∧b=0∧c=0:=by
 unfold a0K at h;split at h;·contradiction
 ·split at h;·contradiction
  ·omega
theorem c3g{k a b c:Int}(h:B1 k a b c=0):1≤k∧k≤12:=by
 refine Decidable.byContradiction λq=>?_;have:B1 k a b c=14:=by
  unfold B1;repeat rw[if_neg (by omega)]
 omega
theorem d5S{a b c:Int}(h:B1 1 a b c=0):(0≤a∧a≤5)∧(0≤b∧b≤4) ∧ -1≤c∧c≤5:=by
 obtain⟨h1,h2,h3⟩:=c1l (show a0K (M1 a 0 5 6) (M1 b 0 4 1) (M1 c (-1) 5 13)=0 from h);exact⟨in0 (by decide) h1,in0 (by decide) h2,in0 (by decide) h3⟩
theorem d1P{a b c:Int}(h:B1 2 a b c=0):(0≤a∧a≤5)∧(0≤b∧b≤5):=by
 obtain⟨h1,h2,_⟩:=c1l (show a0K (M1 a 0 5 6) (M1 b 0 5 6) 0=0 from h);exact⟨in0 (by decide) h1,in0 (by decide) h2⟩
theorem d5T{a b c:Int}(h:B1 3 a b c=0):0≤a∧a≤5:=in0 (by decide) (show M1 a 0 5 6=0 from h)
theorem d5U{a b c:Int}(h:B1 4 a b c=0):(0≤a∧a≤5)∧(0≤b∧b≤5)∧0≤c∧c≤3:=by
 obtain⟨h1,h2,h3⟩:=c1l (show a0K (M1 a 0 5 6) (M1 b 0 5 6) (M1 c 0 3 5)=0 from h);exact⟨in0 (by decide) h1,in0 (by decide) h2,in0 (by decide) h3⟩
theorem d5V{a b c:Int}(h:B1 5 a b c=0):(0≤a∧a≤5)∧(0≤b∧b≤3) ∧ -1≤c∧c≤5:=by
 obtain⟨h1,h2,h3⟩:=c1l (show a0K (M1 a 0 5 6) (M1 b 0 3 5) (M1 c (-1) 5 6)=0 from h);exact⟨in0 (by decide) h1,in0 (by decide) h2,in0 (by decide) h3⟩
theorem d5W{a b c:Int}(h:B1 6 a b c=0):(0≤a∧a≤5)∧(-1≤b∧b≤5) ∧ -1≤c∧c≤5:=by
 obtain⟨h1,h2,h3⟩:=c1l (show a0K (M1 a 0 5 7) (M1 b (-1) 5 6) (M1 c (-1) 5 13)=0 from h);exact⟨in0 (by decide) h1,in0 (by decide) h2,in0 (by decide) h3⟩
theorem d5X{a b c:Int}(h:B1 7 a b c=0):(0≤a∧a≤5)∧(0≤b∧b≤5):=by
 obtain⟨h1,h2,_⟩:=c1l (show a0K (M1 a 0 5 6) (M1 b 0 5 7) 0=0 from h);exact⟨in0 (by decide) h1,in0 (by decide) h2⟩
theorem d5Y{a b c:Int}(h:B1 8 a b c=0):(0≤a∧a≤5)∧(-1≤b∧b≤5):=by
 obtain⟨h1,h2,_⟩:=c1l (show a0K (M1 a 0 5 6) (M1 b (-1) 5 6) 0=0 from h);exact⟨in0 (by decide) h1,in0 (by decide) h2⟩
theorem d5Z{a b c:Int}(h:B1 9 a b c=0):(0≤a∧a≤5)∧(0≤b∧b≤5):=d1P (show B1 2 a b c=0 from h)
theorem d4r{a b c:Int}(h:B1 10 a b c=0):(0≤a∧a≤5)∧(0≤b∧b≤5):=d1P (show B1 2 a b c=0 from h)
section
variable{x:Hp}(hx:HpS x)
include hx
theorem b2Y{r:Int}(h:0≤r∧r≤5):ix x.Roots r=some (sd x r):=by
 have:=hx.r6;obtain⟨n,rfl⟩:∃n:Nat,r=n:=⟨r.toNat,by omega⟩
 have hn:n<x.Roots.length:=by omega
 rw[o7 hn];unfold sd;rw[if_neg (by omega),Int.toNat_natCast,List.getD_eq_getElem?_getD,List.getElem?_eq_getElem hn]
 rfl
theorem b5f{r:Int}(h:¬(0≤r∧r≤5)):sd x r=0:=by
 have:=hx.r6;unfold sd;split;·rfl
 ·rw[List.getD_eq_getElem?_getD,List.getElem?_eq_none (by omega)]
  rfl
theorem b2Z(r:Int):sd x r=0∨sd x r∈lv x.S:=by
 by_cases h:0≤r∧r≤5
 ·have e:=b2Y hx h;unfold ix at e;rw[if_pos h.1] at e;exact hx.rt _ (List.mem_of_getElem? e)
 ·exact .inl (b5f hx h)
theorem b20(r:Int):sd x r≤9223372036854775807:=by
 rcases b2Z hx r with h | h
 ·omega
 ·have:=G8 hx.sr h;omega
theorem a69(r:Int):L0 x r=some (sd x r):=by
 have h6:=hx.r6;unfold L0;by_cases h:0≤r∧r≤5
 ·rw[if_neg (by simp;omega),b2Y hx h]
  rfl
 ·rw[if_pos (by simp;omega),b5f hx h]
theorem c7R{r:Int}(h:r≤5):a52 (hO x) r=some (sd x r):=by
 unfold a52;by_cases q:r<0
 ·rw[if_pos (by simpa using q),b5f hx (by omega)]
 ·rw[if_neg (by simpa using q),show (hO x).Roots=x.Roots from rfl,b2Y hx (by omega)]
  rfl
theorem a5O(r:Int):L7 x r=some (asd x r):=by
 unfold L7 asd;rw[a69 hx,d6X];by_cases h:sd x r=0
 ·rw[if_pos (by simpa using h),if_pos h]
 ·rw[if_neg (by simpa using h),if_neg h]
theorem b0y{r:Int}(h:0≤r∧r≤5):Y2 (hO x) r=some (asd x r):=by
 unfold Y2 asd;rw[show (hO x).Roots=x.Roots from rfl,b2Y hx h,d6X];by_cases h:sd x r=0
 ·rw[if_pos (by simpa using h),if_pos h]
 ·rw[if_neg (by simpa using h),if_neg h]
theorem c7V{h:Int}(hh:h≤9223372036854775807):a0i x h=some (ser x h):=by
 obtain⟨e,h1,_⟩:=R6 (u4.2 hx.sr) hh;unfold a0i;rw[h1];rfl
theorem c7U{h:Int}(hh:h≤9223372036854775807):a2D (hO x) h=some (ser x h):=by
 obtain⟨e,h1,_⟩:=R6 (u4.2 hx.sr) hh;unfold a2D;rw[show (hO x).S=sO x.S from rfl,a5G x.S (by have:=hx.sr.len;omega) hh,h1]
 rfl
theorem c2W(r:Int):a1j x r=some (ser x (sd x r)):=by
 unfold a1j;rw[a69 hx,d6X,c7V hx (b20 hx r)];rfl
theorem c3U:ser x 0=0:=by
 unfold ser;rw[a9M (u4.2 hx.sr) (by omega) (a8d hx.sr)]
theorem d4p(r:Int):b2q (hO x) r=some (ser x (sd x r)):=by
 unfold b2q;by_cases h:0≤r∧r≤5
 ·rw[if_neg (by simp;omega),show (hO x).Roots=x.Roots from rfl,b2Y hx h,d6X,c7U hx (b20 hx r)]
  rfl
 ·rw[if_pos (by simp;omega),b5f hx h,c3U hx]
end
theorem d3I{x z:Hp}(hx:HpS x)(k:Ks x.S z.S){h:Int}(hh:h=0∨h∈lv x.S):ser z h=ser x h:=by
 rcases hh with e | e
 ·subst e;unfold ser;rw[a9M (u4.2 hx.sr) (by omega) (a8d hx.sr),a9M (u4.2 k.sr) (by omega) (a8d k.sr)]
 ·exact k.ob h e
theorem d0o{x z:Hp}(h:z.Roots=x.Roots)(r:Int):sd z r=sd x r:=by unfold sd;rw[h]
noncomputable def doR(x:Hp)(o:g6)(v:Hp × Int):Option (Hp × Int × Int):=
 if (v.2 != 0) then some (x,0,v.2) else (O4 v.1).bind λv5=>(U6 v.1 v5 o).bind λv6=>some (v5,v6,0)
theorem a9G{x:Hp}{o:g6}{n:Option Nat}(hc:B1 o.Kind o.A o.B o.C=0)(hk:∃l,a2U=some l∧B4 l o.Kind=some n):u7 x o=(b3y n ⟨x,o⟩).bind (doR x o):=by
 obtain⟨l,h1,h2⟩:=hk;unfold u7;rw[a7T,hc,d6X,if_neg (by simp),h1,d6X,h2,if_neg (by simp)]
 rfl
theorem c6a{x:Hp}{o:g6}(hc:B1 o.Kind o.A o.B o.C≠0):u7 x o=some (x,0,B1 o.Kind o.A o.B o.C)∧C9 (hO x) ⟨o.Kind,o.A,o.B,o.C⟩=some (hO x,0,B1 o.Kind o.A o.B o.C):=by
 constructor
 ·unfold u7;rw[a7T,d6X,if_pos (by simpa using hc)]
 ·unfold C9;rw[a4S,d6X,if_pos (by simpa using hc)]
section
variable{x:Hp}{a b c:Int}
theorem d6a(hc:B1 1 a b c=0):u7 x ⟨1,a,b,c⟩=(T2 ⟨x,⟨1,a,b,c⟩⟩).bind (doR x ⟨1,a,b,c⟩):=a9G (o:=⟨1,a,b,c⟩) (n:=some 151) hc ⟨_,rfl,rfl⟩
theorem d6b(hc:B1 2 a b c=0):u7 x ⟨2,a,b,c⟩=(H8 ⟨x,⟨2,a,b,c⟩⟩).bind (doR x ⟨2,a,b,c⟩):=a9G (o:=⟨2,a,b,c⟩) (n:=some 152) hc ⟨_,rfl,rfl⟩
theorem d6c(hc:B1 3 a b c=0):u7 x ⟨3,a,b,c⟩=(Z7 ⟨x,⟨3,a,b,c⟩⟩).bind (doR x ⟨3,a,b,c⟩):=a9G (o:=⟨3,a,b,c⟩) (n:=some 153) hc ⟨_,rfl,rfl⟩
theorem d6d(hc:B1 4 a b c=0):u7 x ⟨4,a,b,c⟩=(Z8 ⟨x,⟨4,a,b,c⟩⟩).bind (doR x ⟨4,a,b,c⟩):=a9G (o:=⟨4,a,b,c⟩) (n:=some 154) hc ⟨_,rfl,rfl⟩
theorem d6e(hc:B1 5 a b c=0):u7 x ⟨5,a,b,c⟩=(W2 ⟨x,⟨5,a,b,c⟩⟩).bind (doR x ⟨5,a,b,c⟩):=a9G (o:=⟨5,a,b,c⟩) (n:=some 155) hc ⟨_,rfl,rfl⟩
theorem d6f(hc:B1 6 a b c=0):u7 x ⟨6,a,b,c⟩=(T3 ⟨x,⟨6,a,b,c⟩⟩).bind (doR x ⟨6,a,b,c⟩):=a9G (o:=⟨6,a,b,c⟩) (n:=some 156) hc ⟨_,rfl,rfl⟩
theorem d6g(hc:B1 7 a b c=0):u7 x ⟨7,a,b,c⟩=(W9 ⟨x,⟨7,a,b,c⟩⟩).bind (doR x ⟨7,a,b,c⟩):=a9G (o:=⟨7,a,b,c⟩) (n:=some 157) hc ⟨_,rfl,rfl⟩
theorem d6h(hc:B1 8 a b c=0):u7 x ⟨8,a,b,c⟩=(Z9 ⟨x,⟨8,a,b,c⟩⟩).bind (doR x ⟨8,a,b,c⟩):=a9G (o:=⟨8,a,b,c⟩) (n:=some 158) hc ⟨_,rfl,rfl⟩
theorem d6i(hc:B1 9 a b c=0):u7 x ⟨9,a,b,c⟩=(a0z ⟨x,⟨9,a,b,c⟩⟩).bind (doR x ⟨9,a,b,c⟩):=a9G (o:=⟨9,a,b,c⟩) (n:=some 159) hc ⟨_,rfl,rfl⟩
theorem d4A(hc:B1 10 a b c=0):u7 x ⟨10,a,b,c⟩=(P0 ⟨x,⟨10,a,b,c⟩⟩).bind (doR x ⟨10,a,b,c⟩):=a9G (o:=⟨10,a,b,c⟩) (n:=some 160) hc ⟨_,rfl,rfl⟩
theorem b7n{k:Int}(hk:k=11∨k=12)(hc:B1 k a b c=0):u7 x ⟨k,a,b,c⟩=some (x,0,14)∧C9 (hO x) ⟨k,a,b,c⟩=some (hO x,0,14):=by
 constructor
 ·unfold u7;rw[a7T,hc,d6X,if_neg (by simp)]
  rcases hk with rfl | rfl <;> rfl
 ·unfold C9 Q3;rw[a4S,hc,d6X,if_neg (by simp)]
  rcases hk with rfl | rfl <;> rfl
variable{y:g7}
def rT(y:g7)(a:Int)(v:Int × Int):Option (g7 × Int × Int):=
 if (v.2 != 0) then some (y,0,v.2) else (X4 y a v.1).bind λv15=>(P4 v15.1).bind λv16=>(b2q v16 a).bind λv17=>some (v16,v17,0)
def rO(y:g7)(v:g7 × Int × Int):Option (g7 × Int × Int):=
 if (v.2.2 != 0) then some (y,0,v.2.2) else (P4 v.1).bind λv8=>(a2D y v.2.1).bind λv9=>some (v8,v9,0)
theorem c3H{k:Int}(hk:k=2∨k=3∨k=4∨k=7∨k=9)(hc:B1 k a b c=0):C9 y ⟨k,a,b,c⟩=(a2E y ⟨k,a,b,c⟩).bind (rT y a):=by
 unfold C9 Q3;rw[a4S,hc,d6X,if_neg (by simp)]
 rcases hk with rfl | rfl | rfl | rfl | rfl <;> rfl
theorem c3G{k:Int}(hk:k=5∨k=6∨k=8)(hc:B1 k a b c=0):C9 y ⟨k,a,b,c⟩=(a1A y ⟨k,a,b,c⟩).bind (rO y):=by
 unfold C9 Q3;rw[a4S,hc,d6X,if_neg (by simp)]
 rcases hk with rfl | rfl | rfl <;> rfl
theorem d5s(hc:B1 1 a b c=0):C9 y ⟨1,a,b,c⟩=(a3g y.S b c).bind λv10=>if (v10.2.2 != 0) then some (y,0,v10.2.2) else (X4 ⟨v10.1,y.Roots,y.a8,y.T,y.Q⟩ a v10.2.1).bind λv11=>(P4 v11.1).bind λv12=>(b2q v12 a).bind λv13=>some (v12,v13,0):=by
 unfold C9 Q3;rw[a4S,hc,d6X,if_neg (by simp)]
 rfl
theorem d3w(hc:B1 10 a b c=0):C9 y ⟨10,a,b,c⟩=(ix y.Roots a).bind λv3=>(ix y.Roots b).bind λv4=>if (v3==v4) then some (y,1,0) else some (y,0,0):=by
 unfold C9 Q3;rw[a4S,hc,d6X,if_neg (by simp)]
 rfl
end
end Go.Sh
namespace Go.Sh
section
variable{s:a7}(hR:SR s){i:Nat}(hi:i<s.S.a8.length)
include hR hi
theorem d3S(st g:Int):a1l (sO s) ⟨(pl (sO s)).a8.set i ⟨st,g,0⟩,(pl (sO s)).Last⟩=some ⟨(sO s).a8.set i ⟨st,g,oo (ce s i).Val⟩,s.S.Last,s.Serial⟩:=by
 have hlen:=hR.len;have L3:i<(pl (sO s)).a8.length:=by rw[a1k,B7];exact hi
 rw[b5n _ _ (by rw[B7];omega) (by simp[a1k])]
 congr 1;congr 1;refine List.ext_getElem (by simp) λk h1 h2=>?_
 have hk:k<s.S.a8.length:=by simpa[B7] using h1
 have hk2:k<(sO s).a8.length:=by rw[B7];exact hk
 have hk3:k<(pl (sO s)).a8.length:=by rw[a1k];exact hk2
 simp only[List.getElem_map,List.getElem_range,List.getElem_set];have e1:(sO s).a8.getD k ⟨0,0,oo z0⟩=cO (ce s k):=by
  rw[List.getD_eq_getElem?_getD,List.getElem?_eq_getElem hk2,D2 hk];simp[sO]
 have e2:((pl (sO s)).a8.set i ⟨st,g,0⟩).getD k ⟨0,0,0⟩=if k=i then ⟨st,g,0⟩ else plc k (cO (ce s k)):=by
  rw[a5H L3];split;·rfl
  ·rw[List.getD_eq_getElem?_getD,List.getElem?_eq_getElem hk3,D2 hk];simp[pl,sO]
 rw[e1,e2];by_cases e:k=i
 ·subst e;rw[if_pos rfl,if_pos rfl];rfl
 ·rw[if_neg e,if_neg (Ne.symm e)];rw[D2 hk];simp[sO,plc,cO]
theorem d3U(st g:Int)(o:C5):a3h ⟨(sO s).a8.set i ⟨st,g,oo (ce s i).Val⟩,s.S.Last,s.Serial⟩ (i:Int) o=some ⟨(sO s).a8.set i ⟨st,g,o⟩,s.S.Last,s.Serial⟩:=by
 have hlen:=hR.len;unfold a3h;have hi2:i<((sO s).a8.set i ⟨st,g,oo (ce s i).Val⟩).length:=by simp[B7];exact hi
 rw[K4 (by omega) (by simp[B7];omega),d6X,o7 hi2,d6X]
 simp[List.set_set]
theorem c7r:∃h:i<(pl (sO s)).a8.length,(pl (sO s)).a8[i]=⟨(ce s i).State,(ce s i).Gen,(i:Int)⟩:=by
 have L3:i<(pl (sO s)).a8.length:=by rw[a1k,B7];exact hi
 refine⟨L3,?_⟩;rw[D2 hi];simp[pl,sO,plc,cO]
end
theorem d3R{s:a7}(hR:SR s):(∀i,i<s.S.a8.length→(ce s i).State≠0)→a8j (pl (sO s)) 0=some (pl (sO s),0,4):=λhf=>by
 have hlen:=hR.len;have el:(pl (sO s)).a8.length=s.S.a8.length:=by rw[a1k,B7]
 unfold a8j;simp only[jn];refine U5 (pl (sO s)).a8.length (λk=>True) (by omega) trivial (λk hk _=>?_) (λhP=>⟨.inr (),by simp,rfl⟩)
 refine .inl ⟨?_,trivial⟩;obtain⟨h1,h2⟩:=c7r hR (show k<s.S.a8.length by omega)
 have:=hf k (by omega)
 simp only[Int.ofNat_lt,hk,decide_true,if_true,o7 hk,d6X];rw[h2,if_neg (by simpa using this),l6]
theorem d0y{s:a7}(hR:SR s){i:Nat}(hF:Fst s i):a8j (pl (sO s)) 0=some (⟨(pl (sO s)).a8.set i ⟨1,(ce s i).Gen,0⟩,(pl (sO s)).Last⟩,hdl s i,0):=by
 have hlen:=hR.len;have el:(pl (sO s)).a8.length=s.S.a8.length:=by rw[a1k,B7]
 obtain⟨hi,h0,hmin⟩:=hF;have hc:=hR.cell i hi;have l9:=hR.l9;unfold a8j;simp only[jn];refine U5 (pl (sO s)).a8.length (λk=>k≤i) (by omega) (by omega) (λk hk hP=>?_) (λhP=>by omega)
 obtain⟨h1,h2⟩:=c7r hR (show k<s.S.a8.length by omega)
 rcases Nat.lt_or_ge k i with g | g
 ·refine .inl ⟨?_,g⟩;have:=hmin k g;simp only[Int.ofNat_lt,hk,decide_true,if_true,o7 hk,d6X];rw[h2,if_neg (by simpa using this),l6]
 ·have:k=i:=by omega
  subst this;refine .inr ⟨.inl _,?_,rfl⟩;simp only[Int.ofNat_lt,hk,decide_true,if_true,o7 hk,d6X];rw[h2,if_pos (by simpa using h0)]
  have w3:∀c:A9,a03 (pl (sO s)) (k:Int) c=some ⟨(pl (sO s)).a8.set k c,(pl (sO s)).Last⟩:=λc=>by
   unfold a03;rw[K4 (by omega) (by omega),d6X,o7 hk,d6X,Int.toNat_natCast]
  rw[w3,d6X,a8g,if_pos (by dsimp only;omega),d6X]
  rfl
theorem d4Q{s:a7}(hR:SR s)(hb:s.Serial<9223372036854775807)(a p:Int) :
  (∃e,e≠0∧T0 s a p=some (s,0,e)∧a3g (sO s) a p=some (sO s,0,e)) ∨
  ((0≤a∧a≤4)∧(-1≤p∧p≤5)∧∃i,Fst s i∧T0 s a p=some (mkS s i a.toNat p,hdl s i,0)∧a3g (sO s) a p=some (sO (mkS s i a.toNat p),hdl s i,0)):=by
 have hser:=hR.ser;have hlen:=hR.len;have r1:∀n:Nat,n≤4→b3J (n:Int)=some (List.replicate n 0,0):=λn hn=>by
  unfold b3J;rw[if_neg (by simp;omega),a7z (by omega) (by omega)]
  rfl
 rcases d4P hR hb a p with ⟨h1,e⟩ | ⟨h1,h2,e⟩ | ⟨h1,h2,h3,e⟩ | ⟨h1,h2,i,h3,e⟩
 ·refine .inl ⟨1,by decide,e,?_⟩
  unfold a3g b3J;rw[if_pos (by simp;omega)]
  rfl
 ·refine .inl ⟨13,by decide,e,?_⟩
  obtain⟨n,rfl⟩:∃n:Nat,a=n:=⟨a.toNat,by omega⟩
  unfold a3g;rw[r1 n (by omega),d6X,if_neg (by simp),if_pos (by simp;omega)]
 ·refine .inl ⟨4,by decide,e,?_⟩
  obtain⟨n,rfl⟩:∃n:Nat,a=n:=⟨a.toNat,by omega⟩
  unfold a3g;rw[r1 n (by omega),d6X,if_neg (by simp),if_neg (by simp;omega),a48 _ (by rw[B7];omega),d6X,d3R hR h3,d6X,if_pos (by simp)]
 ·refine .inr ⟨h1,h2,i,h3,e,?_⟩;obtain⟨n,rfl⟩:∃n:Nat,a=n:=⟨a.toNat,by omega⟩
  have hi:=h3.1;have hc:=hR.cell i hi;have l9:=hR.l9;unfold a3g;rw[r1 n (by omega),d6X,if_neg (by simp),if_neg (by simp;omega),a48 _ (by rw[B7];omega),d6X,d0y hR h3,d6X,if_neg (by simp),d3S hR hi,d6X,a8h,if_pos (by unfold Hnd hdl;dsimp only;omega),d6X,
   show (hdl s i-1) % 32=(i:Int) by unfold hdl;omega,d3U hR hi,d6X,D9 (by show _≤s.Serial+1;omega) (by show s.Serial+1≤_;omega)]
  unfold mkS;rw[Int.toNat_natCast];simp only[sO,List.map_set];rfl
end Go.Sh
namespace Go.Sh
abbrev opR(o:g6):r9:=⟨o.Kind,o.A,o.B,o.C⟩
structure Dn (x:Hp) (o:g6) (z:Hp) (v:Int):Prop where
 rt:M3 z
 sl:SL z
 ev:Ev x z
 cw:Cw x z (if o.Kind=6 then o.A else -1)
 mc:u7 x o=some (a1G z,v,0)
 rf:C9 (hO x) (opR o)=some (hO (a1G z),v,0)
def Er(x:Hp)(o:g6)(e:Int):Prop:=e≠0∧u7 x o=some (x,0,e)∧C9 (hO x) (opR o)=some (hO x,0,e)
theorem d4T{x:Hp}(hx:M3 x)(hS:SL x){i:Nat}(hi:i<x.S.S.a8.length)(h0:(ce x.S i).State=0){n:Nat}(hn:n≤4){p:Int}(hp : -1≤p∧p≤5):SL (wS x (mkS x.S i n p)):=λk hk=>by
 have hR:=hx.sh.sr;have hk':k∈lv (mkS x.S i n p):=hk;show (ob (mkS x.S i n p) k).Strong≤_;rw[c3o hR hi h0 hn hp] at hk';rcases List.mem_append.1 hk' with q | q
 ·rw[b6x hR hi h0 hn hp q];exact hS k q
 ·rw[List.mem_singleton.1 q,b2d hR hi h0 hn hp];show (0:Int)≤_;decide
theorem a9e{y:Hp}(hy:M3 y){a:Int}(ha:0≤a∧a≤5){h:Int}(hh:h=0∨h∈lv y.S):sd (a1G (F6 y a.toNat h)) a=h∧ser (a1G (F6 y a.toNat h)) h=ser y h:=by
 have hz:=a0l hy (r:=a.toNat) (by omega) hh
 have st:=a8E hz;have w:=a2I hz;have e1:(a1G (F6 y a.toNat h)).Roots=y.Roots.set a.toNat h:=st.rt.trans (a4x y a.toNat h).1;have h6:=hy.sh.r6;have e2:sd (a1G (F6 y a.toNat h)) a=h:=by
  unfold sd;rw[if_neg (by omega),e1,List.getD_eq_getElem?_getD,List.getElem?_set_self (by omega)]
  rfl
 refine⟨e2,?_⟩;have k:=a06 hy.sh.sr a.toNat h;rcases b2Z w.sh a with q | q
 ·rw[e2] at q;subst q;rw[c3U w.sh,c3U hy.sh]
 ·rw[e2] at q;have h1:=(st.ob h q).1;have h2:=st.lv h q;rw[k.lv] at h2;exact h1.trans (k.ob h h2)
section
variable{x:Hp}{a b c:Int}
theorem a7p{o:g6}{y:Hp}{e:Int}(he:e≠0):doR x o (y,e)=some (x,0,e):=by
 unfold doR;rw[if_pos (by simpa using he)]
theorem d0R{z:Hp}(hz:M3 z)(hS:SL z){k:Int}(hk:k≠5∧k≠6∧k≠8∧k≠10):doR x ⟨k,a,b,c⟩ (z,0)=some (a1G z,ser (a1G z) (sd (a1G z) a),0):=by
 unfold doR U6;rw[if_neg (by simp),a37 hz hS,d6X]
 simp only[jn];rw[if_neg (by simp;omega),if_neg (by simp;omega)]
 have:(k==8)=false:=by simp;omega
 rw[this,if_neg (by simp),if_neg (by simp;omega),c2W (a2I hz).sh]
 rfl
theorem c2n{o:g6}{v e:Int}(he:e≠0):B8 ⟨x,o⟩ v e=some (x,e):=by
 unfold B8;rw[if_pos (by simpa using he)]
theorem c7z{y:g7}{v e:Int}(he:e≠0):rT y a (v,e)=some (y,0,e):=by
 unfold rT;rw[if_pos (by simpa using he)]
theorem c4Z{y z:g7}{v e:Int}(he:e≠0):rO y (z,v,e)=some (y,0,e):=by
 unfold rO;rw[if_pos (by simpa using he)]
variable(hx:M3 x)(hS:SL x)
include hx hS
theorem a9k{k:Int}(ha:0≤a∧a≤5){h:Int}(hh:h=0∨h∈lv x.S):B8 ⟨x,⟨k,a,b,c⟩⟩ h 0=some (F6 x a.toNat h,0):=by
 unfold B8;rw[if_neg (by simp),c3O hx hS a (b04 hx hS hh),if_neg (by omega),if_pos hh]
 rfl
theorem d5j(ha:0≤a∧a≤5){h:Int}(hh:h=0∨h∈lv x.S):rT (hO x) a (h,0)=some (hO (a1G (F6 x a.toNat h)),ser x h,0):=by
 have hz:=a0l hx (r:=a.toNat) (by omega) hh
 have zS:=a4y hx.sh.sr hS a.toNat h;obtain⟨e1,e2⟩:=a9e hx ha hh;unfold rT;rw[if_neg (by simp),c18 hx hS a (b04 hx hS hh),if_neg (by omega),if_pos hh,d6X,a6c hz zS,d6X,d4p (a2I hz).sh,e1,e2]
 rfl
theorem a6h{k:Int}(hk:k=2∨k=3∨k=4∨k=7∨k=9)(hc:B1 k a b c=0)(ha:0≤a∧a≤5){h:Int}(hh:h=0∨h∈lv x.S)
  (h1:u7 x ⟨k,a,b,c⟩=doR x ⟨k,a,b,c⟩ (F6 x a.toNat h,0))(h2:a2E (hO x) ⟨k,a,b,c⟩=some (h,0)):Dn x ⟨k,a,b,c⟩ (F6 x a.toNat h) (ser x h):=by
 have hz:=a0l hx (r:=a.toNat) (by omega) hh
 have zS:=a4y hx.sh.sr hS a.toNat h;obtain⟨e1,e2⟩:=a9e hx ha hh;refine⟨hz,zS,(a06 hx.sh.sr a.toNat h).ev,Cw.same (a4x x a.toNat h).2.1 _,?_,?_⟩;·rw[h1,d0R hz zS (by omega),e1,e2]
 ·show C9 (hO x) ⟨k,a,b,c⟩=_;rw[c3H hk hc,h2,d6X,d5j hx hS ha hh]
theorem d2(hc:B1 2 a b c=0):Dn x ⟨2,a,b,c⟩ (F6 x a.toNat (sd x b)) (ser x (sd x b)):=by
 obtain⟨ha,hb⟩:=d1P hc;refine a6h hx hS (.inl rfl) hc ha (b2Z hx.sh b) ?_ ?_
 ·rw[d6b hc];unfold H8;rw[a69 hx.sh,d6X,a9k hx hS ha (b2Z hx.sh b)];rfl
 ·unfold a2E;rw[if_pos (by rfl),show (hO x).Roots=x.Roots from rfl,b2Y hx.sh hb]
  rfl
theorem d3(hc:B1 3 a b c=0):Dn x ⟨3,a,b,c⟩ (F6 x a.toNat 0) 0:=by
 have ha:=d5T hc;have:=a6h (b:=b) (c:=c) hx hS (.inr (.inl rfl)) hc ha (h:=0) (.inl rfl) ?_ ?_;·rwa [c3U hx.sh] at this
 ·rw[d6c hc];unfold Z7;rw[a9k hx hS ha (.inl rfl)];rfl
 ·rfl
theorem d4(hc:B1 4 a b c=0):(sd x b=0∧Er x ⟨4,a,b,c⟩ 2)∨(∃e,a0p x.S (sd x b) c=some (0,e)∧Er x ⟨4,a,b,c⟩ e) ∨
  (sd x b∈lv x.S∧∃n:Nat,c=n∧∃hn:n<(ob x.S (sd x b)).Fields.length,Dn x ⟨4,a,b,c⟩ (F6 x a.toNat (ob x.S (sd x b)).Fields[n]) (ser x (ob x.S (sd x b)).Fields[n])):=by
 obtain⟨ha,hb,_⟩:=d5U hc;have hm:u7 x ⟨4,a,b,c⟩=_:=d6d hc;unfold Z8 at hm;rw[a5O hx.sh,d6X] at hm;have hr:C9 (hO x) ⟨4,a,b,c⟩=_:=c3H (by omega) hc
 have hnm:a2E (hO x) ⟨4,a,b,c⟩=(Y2 (hO x) b).bind λv2=>if (v2.2 != 0) then some (0,v2.2) else (a34 (hO x).S v2.1 c).bind λv3=>some (v3.1,v3.2):=rfl
 rw[b0y hx.sh hb,d6X] at hnm;by_cases h0:sd x b=0
 ·refine .inl ⟨h0,by decide,?_,?_⟩
  ·rw[hm];unfold asd;rw[if_pos h0,if_pos (by simp),d6X,a7p (by decide)]
  ·show C9 (hO x) ⟨4,a,b,c⟩=_;rw[hr,hnm];unfold asd;rw[if_pos h0,if_pos (by simp),d6X,c7z (by decide)]
 ·have has:asd x b=(sd x b,0):=by unfold asd;rw[if_neg h0]
  rw[has,if_neg (by simp)] at hm hnm
  right;rcases b2K hx hS (sd x b) c (b20 hx.sh b) with ⟨e,he,f1,f2⟩ | ⟨hl,n,hn0,hn,f1,f2⟩
  ·refine .inl ⟨e,f1,he,?_,?_⟩
   ·rw[hm];dsimp only;rw[f1,d6X,c2n he,d6X,d6X,a7p he]
   ·show C9 (hO x) ⟨4,a,b,c⟩=_;rw[hr,hnm];dsimp only;rw[show (hO x).S=sO x.S from rfl,f2,d6X,d6X,c7z he]
  ·refine .inr ⟨hl,n,hn0,hn,?_⟩;have hv:=hx.sh.fl _ hl _ (List.getElem_mem hn);refine a6h hx hS (by omega) hc ha hv ?_ ?_
   ·rw[hm];dsimp only;rw[f1,d6X,a9k hx hS ha hv];rfl
   ·rw[hnm];dsimp only;rw[show (hO x).S=sO x.S from rfl,f2];rfl
theorem c9G{n:Nat}(hn:n<6):∃h:n<x.a8.length,a6j x.a8 n=some (if x.a8[n].Target=0∨x.a8[n].Intact=false then (0,9) else (x.a8[n].Target,0))∧b1l (hO x).a8 n=some (if x.a8[n].Target=0∨x.a8[n].Intact=false then (0,9) else (x.a8[n].Target,0)):=by
 have c6:=hx.sh.c6;have hl:n<x.a8.length:=by omega
 have hl2:n<(x.a8.map wcR).length:=by simp;exact hl
 refine⟨hl,?_,?_⟩
 ·unfold a6j a6k;have:(decide ((n:Int)≥0)&&decide ((n:Int)<(x.a8.length:Int)))=true:=by simp;omega
  rw[this,d6X,if_neg (by simp),o7 hl,d6X]
  by_cases q:x.a8[n].Target=0∨x.a8[n].Intact=false
  ·rw[if_pos q,if_pos (by rcases q with q | q <;> simp[q])]
  ·rw[if_neg q,if_neg (by simpa using q)]
 ·unfold b1l;show (if _ then _ else (ix (x.a8.map wcR) (n:Int)).bind _)=_
  rw[if_neg (by simp[hO];omega),o7 hl2,d6X,List.getElem_map]
  by_cases q:x.a8[n].Target=0∨x.a8[n].Intact=false
  ·rw[if_pos q,if_pos (by rcases q with q | q <;> simp[wcR,q])]
  ·rw[if_neg q,if_neg (by simpa[wcR] using q)]
   rfl
theorem d7(hc:B1 7 a b c=0):∃h:b.toNat<x.a8.length,((x.a8[b.toNat].Intact=false∧Er x ⟨7,a,b,c⟩ 9) ∨
  (x.a8[b.toNat].Intact=true∧Dn x ⟨7,a,b,c⟩ (F6 x a.toNat x.a8[b.toNat].Target) (ser x x.a8[b.toNat].Target))):=by
 obtain⟨ha,hb⟩:=d5X hc;obtain⟨n,rfl⟩:∃n:Nat,b=n:=⟨b.toNat,by omega⟩
 obtain⟨hl,l1,l2⟩:=c9G hx hS (n:=n) (by omega)
 rw[Int.toNat_natCast];refine⟨hl,?_⟩;have hm:u7 x ⟨7,a,n,c⟩=_:=d6g hc;unfold W9 at hm;rw[show a6j (r8.mk x ⟨7,a,n,c⟩).x.a8 (r8.mk x ⟨7,a,n,c⟩).o.B=_ from l1,d6X] at hm;have hr:C9 (hO x) ⟨7,a,n,c⟩=_:=c3H (by omega) hc
 have hnm:a2E (hO x) ⟨7,a,n,c⟩=(b1l (hO x).a8 n).bind λv4=>some (v4.1,v4.2):=rfl;rw[l2,d6X] at hnm;have cl:=hx.sh.cl n hl;cases hI:x.a8[n].Intact
 ·left;rw[if_pos (.inr hI)] at hm hnm;refine⟨rfl,by decide,?_,?_⟩
  ·rw[hm];dsimp only;rw[c2n (by decide),d6X,d6X]
   exact a7p (e:=9) (by decide)
  ·show C9 (hO x) ⟨7,a,n,c⟩=_;rw[hr,hnm,d6X,c7z (by decide)]
 ·right;have ht:=(cl.2.2.2.2 hI).1;have ht0:x.a8[n].Target≠0:=λe=>a8d hx.sh.sr (e▸ht);rw[if_neg (by simp[ht0,hI])] at hm hnm
  refine⟨rfl,a6h hx hS (by omega) hc ha (.inr ht) ?_ hnm⟩
  rw[hm];dsimp only;rw[a9k hx hS ha (.inr ht)];rfl
theorem d9(hc:B1 9 a b c=0):(sd x b=0∧Er x ⟨9,a,b,c⟩ 2)∨(sd x b∈lv x.S∧(∀v,¬Has x.T (sd x b) v)∧Er x ⟨9,a,b,c⟩ 9) ∨
  (sd x b∈lv x.S∧∃v,Has x.T (sd x b) v∧Dn x ⟨9,a,b,c⟩ (F6 x a.toNat v) (ser x v)):=by
 obtain⟨ha,hb⟩:=d5Z hc;have hT:=hx.sh.hr;have hm:u7 x ⟨9,a,b,c⟩=_:=d6i hc;unfold a0z at hm;rw[a5O hx.sh,d6X] at hm;have hr:C9 (hO x) ⟨9,a,b,c⟩=_:=c3H (by omega) hc
 have hnm:a2E (hO x) ⟨9,a,b,c⟩=(Y2 (hO x) b).bind λv2=>if (v2.2 != 0) then some (0,v2.2) else (b3L (hO x).T v2.1).bind λv3=>some (v3.1,v3.2):=rfl
 rw[b0y hx.sh hb,d6X] at hnm;by_cases h0:sd x b=0
 ·refine .inl ⟨h0,by decide,?_,?_⟩
  ·rw[hm];unfold asd;rw[if_pos h0,if_pos (by simp),d6X,a7p (by decide)]
  ·show C9 (hO x) ⟨9,a,b,c⟩=_;rw[hr,hnm];unfold asd;rw[if_pos h0,if_pos (by simp),d6X,c7z (by decide)]
 ·have has:asd x b=(sd x b,0):=by unfold asd;rw[if_neg h0]
  have hl:=(b2Z hx.sh b).resolve_left h0;rw[has,if_neg (by simp)] at hm hnm
  dsimp only at hm hnm;have g2:b3L (hO x).T (sd x b)=(L6 x.T (sd x b)).bind λv=>some (v.1,v.2):=by
   unfold b3L;rw[show (hO x).T=x.T.map L3 from rfl,c7F hT]
  unfold b10 at hm;rw[g2] at hnm;right;by_cases hv:∃v,Has x.T (sd x b) v
  ·obtain⟨v,hv⟩:=hv;rw[c28 hT hv] at hm hnm;refine .inr ⟨hl,v,hv,a6h hx hS (by omega) hc ha (.inr (hx.sh.pr _ _ hv).2) ?_ hnm⟩
   rw[hm,d6X,d6X];dsimp only;rw[a9k hx hS ha (.inr (hx.sh.pr _ _ hv).2)];rfl
  ·have hv':∀v,¬Has x.T (sd x b) v:=λv q=>hv ⟨v,q⟩;rw[c4A hT hv'] at hm hnm;refine .inl ⟨hl,hv',by decide,?_,?_⟩
   ·rw[hm,d6X,d6X];dsimp only;rw[c2n (by decide),d6X,d6X]
    exact a7p (e:=9) (by decide)
   ·show C9 (hO x) ⟨9,a,b,c⟩=_;rw[hr,hnm,d6X,d6X,d6X];exact c7z (e:=9) (by decide)
end
end Go.Sh
namespace Go.Sh
section
variable{x:Hp}{a b c:Int}
theorem d4z{z:Hp}(hz:M3 z)(hS:SL z){k:Int}{r:Int}(hk:k=5∧r=c∨(k=6∨k=8)∧r=b):doR x ⟨k,a,b,c⟩ (z,0)=some (a1G z,ser z (sd z r),0):=by
 unfold doR U6;rw[if_neg (by simp),a37 hz hS,d6X]
 simp only[jn];rcases hk with ⟨rfl,rfl⟩ | ⟨rfl | rfl,rfl⟩
 ·rw[if_pos (by rfl),c2W hz.sh]
  rfl
 ·rw[if_neg (by decide),if_pos (by rfl),if_pos (by rfl),c2W hz.sh]
  rfl
 ·rw[if_neg (by decide),if_neg (by decide),if_pos (by rfl),c2W hz.sh]
  rfl
variable(hx:M3 x)(hS:SL x)
include hx hS
theorem d5i{z:Hp}(hz:M3 z)(zS:SL z){h:Int}(hh:h=0∨h∈lv x.S):rO (hO x) (hO z,h,0)=some (hO (a1G z),ser x h,0):=by
 unfold rO;rw[if_neg (by simp),a6c hz zS,d6X,c7U hx.sh (b04 hx hS hh)]
 rfl
theorem b0b{z:Hp}(hz:M3 z)(zS:SL z)(k:Ks x.S z.S)(er:z.Roots=x.Roots){kd r:Int}(hk:kd=5∧r=c∨(kd=6∨kd=8)∧r=b)(hc:B1 kd a b c=0)(cw:Cw x z (if kd=6 then a else -1))
  (h1:u7 x ⟨kd,a,b,c⟩=doR x ⟨kd,a,b,c⟩ (z,0))(h2:a1A (hO x) ⟨kd,a,b,c⟩=some (hO z,sd x r,0)):Dn x ⟨kd,a,b,c⟩ z (ser x (sd x r)):=by
 refine⟨hz,zS,k.ev,cw,?_,?_⟩;·rw[h1,d4z hz zS hk,d0o er,d3I hx.sh k (b2Z hx.sh r)]
 ·show C9 (hO x) ⟨kd,a,b,c⟩=_;rw[c3G (by omega) hc,h2,d6X,d5i hx hS hz zS (b2Z hx.sh r)]
theorem d5(hc:B1 5 a b c=0):(sd x a=0∧Er x ⟨5,a,b,c⟩ 2)∨(∃e,a2x x (sd x a) b (sd x c)=some (x,e)∧Er x ⟨5,a,b,c⟩ e) ∨
  (sd x a∈lv x.S∧∃n:Nat,b=n∧n<(ob x.S (sd x a)).Fields.length∧Dn x ⟨5,a,b,c⟩ (a1f x (sd x a) n (sd x c)) (ser x (sd x c))):=by
 obtain⟨ha,hb,hcc⟩:=d5V hc;have hm:u7 x ⟨5,a,b,c⟩=_:=d6e hc;unfold W2 at hm;rw[a5O hx.sh,d6X] at hm;have hr:C9 (hO x) ⟨5,a,b,c⟩=_:=c3G (by omega) hc
 have hnm:a1A (hO x) ⟨5,a,b,c⟩=(Y2 (hO x) a).bind λv4=>if (v4.2 != 0) then some (hO x,0,v4.2) else (a52 (hO x) c).bind λv5=>(a5Z (hO x) v4.1 b v5).bind λv6=>some (v6.1,v5,v6.2):=rfl
 rw[b0y hx.sh ha,d6X,c7R hx.sh (by omega)] at hnm
 by_cases h0:sd x a=0
 ·have has:asd x a=(0,2):=by unfold asd;rw[if_pos h0]
  rw[has,if_pos (by simp)] at hm hnm
  refine .inl ⟨h0,by decide,?_,?_⟩
  ·rw[hm,d6X];exact a7p (e:=2) (by decide)
  ·show C9 (hO x) ⟨5,a,b,c⟩=_;rw[hr,hnm,d6X];exact c4Z (e:=2) (by decide)
 ·have has:asd x a=(sd x a,0):=by unfold asd;rw[if_neg h0]
  rw[has,if_neg (by simp)] at hm hnm
  dsimp only at hm hnm;rw[a69 hx.sh,d6X] at hm;rw[d6X] at hnm;right;rcases c6q hx hS (sd x a) b (sd x c) (b20 hx.sh a) (b20 hx.sh c) with ⟨e,he,f1,f2⟩ | ⟨hl,hv,n,hn0,hn,f1,f2⟩
  ·refine .inl ⟨e,f1,he,?_,?_⟩;·rw[hm,f1,d6X,d6X,a7p he]
   ·show C9 (hO x) ⟨5,a,b,c⟩=_;rw[hr,hnm,f2,d6X,d6X,c4Z he]
  ·refine .inr ⟨hl,n,hn0,hn,b0b hx hS (b7u hx hl hn hv) (c4u hx.sh.sr hS hl _ _) (b6d hx.sh.sr hl hn _) (a7X _ _ _ _).1 (.inl ⟨rfl,rfl⟩) hc (Cw.same (a7X _ _ _ _).2.1 _) ?_ ?_⟩
   ·rw[hm,f1];rfl
   ·rw[hnm,f2];rfl
theorem d6(hc:B1 6 a b c=0):(sd x b=0∧Er x ⟨6,a,b,c⟩ 2)∨(∃e,a0y x a (sd x b) c=some (x,e)∧Er x ⟨6,a,b,c⟩ e) ∨
  (wts x.Q a=false∧Dn x ⟨6,a,b,c⟩ (a2o x a.toNat (sd x b) c) (ser x (sd x b))):=by
 obtain⟨ha,hb,hcc⟩:=d5W hc;have hm:u7 x ⟨6,a,b,c⟩=_:=d6f hc;unfold T3 at hm;have hr:C9 (hO x) ⟨6,a,b,c⟩=_:=c3G (by omega) hc
 have key:(u7 x ⟨6,a,b,c⟩=(((a0y x a (sd x b) c).bind λv1=>some (v1.1,v1.2)).bind (doR x ⟨6,a,b,c⟩))∧a1A (hO x) ⟨6,a,b,c⟩=(a4r (hO x) a (sd x b) c).bind λv1=>some (v1.1,sd x b,v1.2))∨(sd x b=0∧Er x ⟨6,a,b,c⟩ 2):=by
  by_cases h1:b = -1
  ·subst h1;left;rw[b5f hx.sh (r:=-1) (by omega)]
   refine⟨?_,rfl⟩;rw[hm,if_pos (by rfl)]
  ·rw[if_neg (by simpa using h1),a5O hx.sh,d6X] at hm
   have hnm:a1A (hO x) ⟨6,a,b,c⟩=(Y2 (hO x) b).bind λv4=>if (v4.2 != 0) then some (hO x,0,v4.2) else (a4r (hO x) a v4.1 c).bind λv7=>some (v7.1,v4.1,v7.2):=by
    unfold a1A;rw[if_neg (by simp;omega)]
    rfl
   rw[b0y hx.sh (by omega),d6X] at hnm
   by_cases h0:sd x b=0
   ·have has:asd x b=(0,2):=by unfold asd;rw[if_pos h0]
    rw[has,if_pos (by simp)] at hm hnm
    refine .inr ⟨h0,by decide,?_,?_⟩
    ·rw[hm,d6X];exact a7p (e:=2) (by decide)
    ·show C9 (hO x) ⟨6,a,b,c⟩=_;rw[hr,hnm,d6X];exact c4Z (e:=2) (by decide)
   ·have has:asd x b=(sd x b,0):=by unfold asd;rw[if_neg h0]
    rw[has,if_neg (by simp)] at hm hnm
    exact .inl ⟨hm,hnm⟩
 rcases key with ⟨hm,hnm⟩ | key
 ·right;rcases d0H hx a (sd x b) c (b20 hx.sh b) hcc with ⟨e,he,f1,f2⟩ | ⟨hh,n,rfl,hn,hw,f1,f2⟩
  ·refine .inl ⟨e,f1,he,?_,?_⟩;·rw[hm,f1,d6X,d6X,a7p he]
   ·show C9 (hO x) ⟨6,a,b,c⟩=_;rw[hr,hnm,f2,d6X,d6X,c4Z he]
  ·rw[Int.toNat_natCast];obtain⟨r1,r2,_,_⟩:=b5s x n (sd x b) c;refine .inr ⟨hw,b0b hx hS (c0G hx hn hh hcc hw) (c77 hx hS hn _ _) (c0F hx hn _ _) r1 (.inr ⟨.inl rfl,rfl⟩) hc (by rw[if_pos rfl];exact Cw.set r2) ?_ ?_⟩
   ·rw[hm,f1];rfl
   ·rw[hnm,f2];rfl
 ·exact .inl key
theorem d8(hc:B1 8 a b c=0):(sd x a=0∧Er x ⟨8,a,b,c⟩ 2)∨(sd x a∈lv x.S∧∃e,a31 x (sd x a) (sd x b)=some (x,e)∧Er x ⟨8,a,b,c⟩ e) ∨
  (sd x a∈lv x.S∧∃r,U0 x.T (sd x a) (sd x b)=some r∧r.2.2=0∧Dn x ⟨8,a,b,c⟩ (a5Q x (sd x b) r.1 r.2.1) (ser x (sd x b))):=by
 obtain⟨ha,hb⟩:=d5Y hc;have hm:u7 x ⟨8,a,b,c⟩=_:=d6h hc;unfold Z9 at hm;rw[a5O hx.sh,d6X] at hm;have hr:C9 (hO x) ⟨8,a,b,c⟩=_:=c3G (by omega) hc
 have hnm:a1A (hO x) ⟨8,a,b,c⟩=(Y2 (hO x) a).bind λv4=>if (v4.2 != 0) then some (hO x,0,v4.2) else (a52 (hO x) b).bind λv8=>(a8o (hO x) v4.1 v8).bind λv9=>some (v9.1,v8,v9.2):=rfl
 rw[b0y hx.sh ha,d6X,c7R hx.sh (by omega)] at hnm
 by_cases h0:sd x a=0
 ·have has:asd x a=(0,2):=by unfold asd;rw[if_pos h0]
  rw[has,if_pos (by simp)] at hm hnm
  refine .inl ⟨h0,by decide,?_,?_⟩
  ·rw[hm,d6X];exact a7p (e:=2) (by decide)
  ·show C9 (hO x) ⟨8,a,b,c⟩=_;rw[hr,hnm,d6X];exact c4Z (e:=2) (by decide)
 ·have has:asd x a=(sd x a,0):=by unfold asd;rw[if_neg h0]
  have hl:=(b2Z hx.sh a).resolve_left h0;rw[has,if_neg (by simp)] at hm hnm
  dsimp only at hm hnm;rw[a69 hx.sh,d6X] at hm;rw[d6X] at hnm;right;rcases c96 hx hS (sd x a) (sd x b) (b20 hx.sh a) (b20 hx.sh b) with ⟨e,he,f1,f2⟩ | ⟨hl,hv,r,r1,r2,f1,f2⟩
  ·refine .inl ⟨hl,e,f1,he,?_,?_⟩;·rw[hm,f1,d6X,d6X,a7p he]
   ·show C9 (hO x) ⟨8,a,b,c⟩=_;rw[hr,hnm,f2,d6X,d6X,c4Z he]
  ·refine .inr ⟨hl,r,r1,r2,b0b hx hS (b9V hx hl hv r1 r2) (c7m hx.sh.sr hS _ _ _) (b9U hx.sh.sr _ _ _) (b0c _ _ _ _).1 (.inr ⟨.inr rfl,rfl⟩) hc (Cw.same (b0c _ _ _ _).2.1 _) ?_ ?_⟩
   ·rw[hm,f1];rfl
   ·rw[hnm,f2];rfl
theorem d10(hz:zr x = [])(hc:B1 10 a b c=0):Dn x ⟨10,a,b,c⟩ x (if sd x a=sd x b then 1 else 0):=by
 obtain⟨ha,hb⟩:=d4r hc;refine⟨hx,hS,Ev.refl x,Cw.refl x _,?_,?_⟩
 ·rw[d4A hc];unfold P0 doR U6;rw[d6X,if_neg (by simp),a37 hx hS,d6X]
  simp only[jn];rw[if_neg (by decide),if_neg (by decide),if_neg (by decide),if_pos (by rfl),a69 hx.sh,d6X,a69 hx.sh,d6X]
  by_cases q:sd x a=sd x b
  ·rw[if_pos (by simpa using q),if_pos q]
   rfl
  ·rw[if_neg (by simpa using q),if_neg q]
   rfl
 ·show C9 (hO x) ⟨10,a,b,c⟩=_;rw[d3w hc,show (hO x).Roots=x.Roots from rfl,b2Y hx.sh ha,d6X,b2Y hx.sh hb,d6X,c0s hz];by_cases q:sd x a=sd x b
  ·rw[if_pos (by simpa using q),if_pos q]
  ·rw[if_neg (by simpa using q),if_neg q]
theorem d1(hb:x.S.Serial<9223372036854775807)(hc:B1 1 a b c=0):(∃e,T0 x.S b c=some (x.S,0,e)∧Er x ⟨1,a,b,c⟩ e) ∨
  (b.toNat≤4∧(-1≤c∧c≤5)∧∃i,Fst x.S i∧Dn x ⟨1,a,b,c⟩ (F6 (wS x (mkS x.S i b.toNat c)) a.toNat (hdl x.S i)) (x.S.Serial+1)):=by
 obtain⟨ha,hbb,hcc⟩:=d5S hc;have hR:=hx.sh.sr;have hm:u7 x ⟨1,a,b,c⟩=_:=d6a hc;unfold T2 at hm;dsimp only at hm;have hr:C9 (hO x) ⟨1,a,b,c⟩=_:=d5s hc;rw[show (hO x).S=sO x.S from rfl] at hr;rcases d4Q hR hb b c with ⟨e,he,f1,f2⟩ | ⟨_,_,i,hF,f1,f2⟩
 ·refine .inl ⟨e,f1,he,?_,?_⟩;·rw[hm,f1,d6X,if_pos (by simpa using he),d6X,a7p he]
  ·show C9 (hO x) ⟨1,a,b,c⟩=_;rw[hr,f2,d6X,if_pos (by simpa using he)]
 ·refine .inr ⟨by omega,hcc,i,hF,?_⟩
  obtain⟨hi,h0,_⟩:=hF;have hn:b.toNat≤4:=by omega
  have hy:=c6Y hx hi h0 hn hcc;have yS:=d4T hx hS hi h0 hn hcc;have hh:hdl x.S i=0∨hdl x.S i∈lv (wS x (mkS x.S i b.toNat c)).S:=.inr (by
   show _∈lv (mkS x.S i b.toNat c);rw[c3o hR hi h0 hn hcc];exact List.mem_append_right _ (List.mem_singleton.2 rfl))
  have hz:=a0l hy (r:=a.toNat) (by omega) hh
  have zS:=a4y hy.sh.sr yS a.toNat (hdl x.S i);obtain⟨e1,e2⟩:=a9e hy ha hh;have e3:ser (wS x (mkS x.S i b.toNat c)) (hdl x.S i)=x.S.Serial+1:=by
   show (ob (mkS x.S i b.toNat c) (hdl x.S i)).Serial=_;rw[b2d hR hi h0 hn hcc]
  refine⟨hz,zS,(d4S hx hi h0 hn hcc).ks (a06 hy.sh.sr a.toNat _),Cw.same (a4x (wS x (mkS x.S i b.toNat c)) a.toNat _).2.1 _,?_,?_⟩
  ·rw[hm,f1,d6X,if_neg (by simp)]
   dsimp only;rw[show B8 ⟨⟨mkS x.S i b.toNat c,x.Roots,x.a8,x.T,x.Q⟩,⟨1,a,b,c⟩⟩ (hdl x.S i) 0=_ from a9k hy yS ha hh,d6X,d6X,d0R hz zS (by omega),e1,e2,e3]
  ·show C9 (hO x) ⟨1,a,b,c⟩=_;rw[hr,f2,d6X,if_neg (by simp)]
   dsimp only;rw[show X4 ⟨sO (mkS x.S i b.toNat c),(hO x).Roots,(hO x).a8,(hO x).T,(hO x).Q⟩ a (hdl x.S i)=_ from c18 hy yS a (b04 hy yS hh),if_neg (by omega),if_pos hh,d6X,a6c hz zS,d6X,d4p (a2I hz).sh,e1,e2,e3]
   rfl
end
theorem d1W{x:Hp}(hx:M3 x)(hS:SL x)(hz:zr x = [])(hb:x.S.Serial<9223372036854775807)(o:g6):(∃e,Er x o e)∨∃z v,Dn x o z v:=by
 obtain⟨k,a,b,c⟩:=o;by_cases hc:B1 k a b c=0
 ·have:=c3g hc;have hk:k=1∨k=2∨k=3∨k=4∨k=5∨k=6∨k=7∨k=8∨k=9∨k=10∨k=11∨k=12:=by omega
  rcases hk with rfl | rfl | rfl | rfl | rfl | rfl | rfl | rfl | rfl | rfl | rfl | rfl
  ·rcases d1 hx hS hb hc with ⟨e,_,h⟩ | ⟨_,_,i,_,h⟩;·exact .inl ⟨e,h⟩
   ·exact .inr ⟨_,_,h⟩
  ·exact .inr ⟨_,_,d2 hx hS hc⟩
  ·exact .inr ⟨_,_,d3 hx hS hc⟩
  ·rcases d4 hx hS hc with ⟨_,h⟩ | ⟨e,_,h⟩ | ⟨_,n,_,_,h⟩;·exact .inl ⟨_,h⟩
   ·exact .inl ⟨_,h⟩
   ·exact .inr ⟨_,_,h⟩
  ·rcases d5 hx hS hc with ⟨_,h⟩ | ⟨e,_,h⟩ | ⟨_,n,_,_,h⟩;·exact .inl ⟨_,h⟩
   ·exact .inl ⟨_,h⟩
   ·exact .inr ⟨_,_,h⟩
  ·rcases d6 hx hS hc with ⟨_,h⟩ | ⟨e,_,h⟩ | ⟨_,h⟩;·exact .inl ⟨_,h⟩
   ·exact .inl ⟨_,h⟩
   ·exact .inr ⟨_,_,h⟩
  ·obtain⟨_,⟨_,h⟩ | ⟨_,h⟩⟩:=d7 hx hS hc;·exact .inl ⟨_,h⟩
   ·exact .inr ⟨_,_,h⟩
  ·rcases d8 hx hS hc with ⟨_,h⟩ | ⟨_,e,_,h⟩ | ⟨_,r,_,_,h⟩;·exact .inl ⟨_,h⟩
   ·exact .inl ⟨_,h⟩
   ·exact .inr ⟨_,_,h⟩
  ·rcases d9 hx hS hc with ⟨_,h⟩ | ⟨_,_,h⟩ | ⟨_,v,_,h⟩;·exact .inl ⟨_,h⟩
   ·exact .inl ⟨_,h⟩
   ·exact .inr ⟨_,_,h⟩
  ·exact .inr ⟨_,_,d10 hx hS hz hc⟩
  ·obtain⟨h1,h2⟩:=b7n (x:=x) (a:=a) (b:=b) (c:=c) (.inl rfl) hc;exact .inl ⟨14,by decide,h1,h2⟩
  ·obtain⟨h1,h2⟩:=b7n (x:=x) (a:=a) (b:=b) (c:=c) (.inr rfl) hc;exact .inl ⟨14,by decide,h1,h2⟩
 ·obtain⟨h1,h2⟩:=c6a (x:=x) (o:=⟨k,a,b,c⟩) hc;exact .inl ⟨_,hc,h1,h2⟩
end Go.Sh
namespace Go.Sh
noncomputable def dov(x:Hp)(o:g6):Hp × Int × Int:=(u7 x o).getD (x,0,0)
structure Nxt (x:Hp) (o:g6) (y:Hp) (v e:Int):Prop where
 rt:M3 y
 sl:SL y
 zr:zr y = []
 ev:Ev x y
 cw:Cw x y (if o.Kind=6 then o.A else -1)
 er:e≠0→y=x∧v=0
 mc:u7 x o=some (y,v,e)
 rf:C9 (hO x) (opR o)=some (hO y,v,e)
theorem Dn.nxt{x z:Hp}{o:g6}{v:Int}(d:Dn x o z v):Nxt x o (a1G z) v 0:=by
 have st:=a8E d.rt;exact⟨a2I d.rt,c3W d.rt d.sl,b6P d.rt,d.ev.stl st,d.cw.trans (st.cw _),λh=>absurd rfl h,d.mc,d.rf⟩
theorem c9R{x:Hp}(hx:M3 x)(hS:SL x)(hz:zr x = [])(hb:x.S.Serial<9223372036854775807)(o:g6):∃y v e,Nxt x o y v e:=by
 rcases d1W hx hS hz hb o with ⟨e,h1,h2,h3⟩ | ⟨z,v,d⟩;·exact⟨x,0,e,hx,hS,hz,Ev.refl x,Cw.refl x _,λ_=>⟨rfl,rfl⟩,h2,h3⟩
 ·exact⟨_,_,_,d.nxt⟩
theorem a6Q{x:Hp}(hx:M3 x)(hS:SL x)(hz:zr x = [])(hb:x.S.Serial<9223372036854775807)(o:g6):Nxt x o (dov x o).1 (dov x o).2.1 (dov x o).2.2:=by
 obtain⟨y,v,e,h⟩:=c9R hx hS hz hb o;have:dov x o=(y,v,e):=by unfold dov;rw[h.mc];rfl
 rw[this];exact h
noncomputable def runs(x:Hp)(l:List g6):Hp × List Int:=l.foldl (λp o=>((dov p.1 o).1,p.2 ++ [(dov p.1 o).2.1])) (x,[])
theorem a9g(x:Hp)(l:List g6)(o:g6):runs x (l ++ [o])=((dov (runs x l).1 o).1,(runs x l).2 ++ [(dov (runs x l).1 o).2.1]):=by
 unfold runs;rw[List.foldl_append];rfl
theorem c0o{x:Hp}(hx:M3 x)(hS:SL x)(hz:zr x = [])(l:List g6)(hb:x.S.Serial+l.length<9223372036854775807)(P:Hp→Prop)(h0:P x)
  (hs:∀(y:Hp) (o:g6),o∈l→M3 y→Nxt y o (dov y o).1 (dov y o).2.1 (dov y o).2.2→P y→P (dov y o).1):∀k,k≤l.length →
  M3 (runs x (l.take k)).1∧SL (runs x (l.take k)).1∧zr (runs x (l.take k)).1 = []∧(runs x (l.take k)).1.S.Serial≤x.S.Serial+k∧(runs x (l.take k)).2.length=k∧P (runs x (l.take k)).1
 | 0,_=>⟨hx,hS,hz,by show x.S.Serial≤_;omega,rfl,h0⟩
 | k+1,hk=>by
  obtain⟨a1,a2,a3,a4,a5,a6⟩:=c0o hx hS hz l hb P h0 hs k (by omega)
  have hk':k<l.length:=by omega
  have n:=a6Q a1 a2 a3 (by omega) l[k]
  rw[J9 hk',a9g];exact⟨n.rt,n.sl,n.zr,by have:=n.ev.s2;show (dov _ _).1.S.Serial≤_;omega,by simp[a5],hs _ _ (List.getElem_mem hk') a1 n a6⟩
theorem run_eq{x:Hp}(hx:M3 x)(hS:SL x)(hz:zr x = [])(l:List g6)(hl:l.length≤1000)(hb:x.S.Serial+l.length<9223372036854775807) :
  a29 x l=some (runs x l)∧b3M (hO x) (l.map opR)=some (hO (runs x l).1,(runs x l).2):=by
 have all:=c0o hx hS hz l hb (λ_=>True) trivial (λ_ _ _ _ _ _=>trivial);constructor
 ·unfold a29;simp only[jn];refine K9 (T:=Hp × List Int) l.length (λk acc=>acc=runs x (l.take k)) (by omega) rfl (λk acc hk hP=>?_) (λacc hP=>?_)
  ·subst hP;obtain⟨a1,a2,a3,a4,a5,_⟩:=all k (by omega)
   have n:=a6Q a1 a2 a3 (by omega) l[k]
   refine .inl ⟨_,?_,rfl⟩;rw[J9 hk,a9g];show (if _ then _ else _)=_
   rw[if_pos (by simpa using hk),o7 hk,d6X,n.mc,d6X,y9 (by omega) (by rw[a5];simp;omega),d6X,l6]
  ·subst hP;refine⟨runs x (l.take l.length),?_,?_⟩
   ·show (if _ then _ else _)=_
    rw[if_neg (by simp)]
   ·rw[List.take_length]
 ·unfold b3M;simp only[jn];refine K9 (T:=g7 × List Int) (l.map opR).length (λk acc=>acc=(hO (runs x (l.take k)).1,(runs x (l.take k)).2)) (by simp;omega) rfl (λk acc hk hP=>?_) (λacc hP=>?_)
  ·subst hP;have hk':k<l.length:=by simpa using hk
   obtain⟨a1,a2,a3,a4,a5,_⟩:=all k (by omega)
   have n:=a6Q a1 a2 a3 (by omega) l[k]
   refine .inl ⟨_,?_,rfl⟩;rw[J9 hk',a9g];show (if _ then _ else _)=_
   rw[if_pos (by simpa using hk'),o7 hk,d6X,List.getElem_map]
   dsimp only;rw[n.rf,d6X,y9 (by omega) (by rw[a5];simp;omega),d6X,l6]
  ·subst hP;refine⟨(hO (runs x (l.take (l.map opR).length)).1,(runs x (l.take (l.map opR).length)).2),?_,?_⟩
   ·show (if _ then _ else _)=_
    rw[if_neg (by simp)]
   ·rw[List.length_map,List.take_length]
end Go.Sh
namespace Go.Sh
section
variable{x:Hp}(hB:HB x)
include hB
end
end Go.Sh
namespace Go.Sh
def nwH(k:Nat)(l:Int)(p:Nat):Hp:=⟨⟨⟨List.replicate k ⟨0,0,z0⟩,l⟩,0⟩,List.replicate 6 0,List.replicate 6 ⟨0,false,-1⟩,List.replicate p ⟨0,0,0⟩,⟨[],30⟩⟩
theorem c6D{k p:Nat}{l:Int}(hk:1≤k∧k≤24)(hl:0≤l∧l≤9)(hp:1≤p∧p≤8) :
  a1V k l p=some (nwH k l p)∧a89 k l p=some (hO (nwH k l p))∧M3 (nwH k l p)∧SL (nwH k l p)∧zr (nwH k l p) = []:=by
 have e1:a1D k l=some (nwH k l p).S:=by
  unfold a1D P5;rw[if_neg (by simp;omega),a7z (by omega) (by omega)]
  rfl
 obtain⟨a,h1,h2,h3,_⟩:=d4Z k l;rw[e1] at h1;have ha:=Option.some.inj h1;subst ha;have hR:SR (nwH k l p).S:=u4.1 h3;have hce:∀i,ce (nwH k l p).S i=⟨0,0,z0⟩:=λi=>by
  unfold ce nwH;dsimp only;rw[List.getD_eq_getElem?_getD,List.getElem?_replicate];split <;> rfl
 have hlv:lv (nwH k l p).S = []:=List.eq_nil_iff_forall_not_mem.2 λh hh=>by
  obtain⟨i,q⟩:=(a28 hR).1 hh;have:=q.2.1;rw[hce] at this;cases this
 refine⟨?_,?_,⟨⟨hR,(c74 (V:=Int) (λ_ _=>True) hp.1 hp.2).1,rfl,rfl,rfl,Nat.zero_le _,(λt ht=>nomatch ht),List.Pairwise.nil,(λh hh=>.inl (List.mem_replicate.1 hh).2),λh hh=>?_,λa v hv=>?_,λi hi=>?_⟩,λi hi ht=>?_,λh hh=>?_⟩,λh hh=>?_,?_⟩
 ·unfold a1V;rw[if_neg (by simp;omega),e1,d6X,show mk 8 6 (0:Int)=some (List.replicate 6 0) from rfl,d6X]
  refine bnd (a:=List.replicate 6 ⟨0,false,-1⟩) (by kernel_rfl) ?_
  rw[c63 hp.1 hp.2,d6X];refine bnd (a:=⟨[],30⟩) (by kernel_rfl) ?_
  rfl
 ·unfold a89;rw[if_neg (by simp;omega),h2,d6X,show mk 8 6 (0:Int)=some (List.replicate 6 0) from rfl,d6X]
  refine bnd (a:=List.replicate 6 ⟨0,false,-1⟩) (by kernel_rfl) ?_
  unfold b8a;rw[if_neg (by simp;omega),a7z (by omega) (by omega),d6X,d6X]
  refine bnd (a:=⟨[],30⟩) (by kernel_rfl) ?_
  unfold hO nwH;dsimp only;rw[List.map_replicate,List.map_replicate];rfl
 ·rw[hlv] at hh;cases hh
 ·obtain⟨i,hi,_⟩:=hv;have:=hi.2.1;rw[show (nwH k l p).T=List.replicate p ⟨0,0,0⟩ from rfl,b2j] at this;cases this
 ·have:(nwH k l p).a8[i]=⟨0,false,-1⟩:=List.getElem_replicate ..;rw[this];exact⟨by decide,by decide,λ_=>rfl,λh=>absurd rfl h,λh=>by cases h⟩
 ·rw[hce] at ht;rcases ht with h | h <;> cases h
 ·rw[hlv] at hh;cases hh
 ·rw[hlv] at hh;cases hh
 ·unfold zr;rw[hlv];rfl
end Go.Sh
namespace Go.Sh
end Go.Sh
namespace Go.Sh
section
variable{x:Hp}(hB:HB x)
include hB
end
end Go.Sh
namespace Go.Sh
def b3c(o:g6):r9:=⟨o.Kind,o.A,o.B,o.C⟩
abbrev b7e(o:g6):Int:=B1 o.Kind o.A o.B o.C
theorem c23(k a b c:Int):V6 [k,a,b,c]=some (if B1 k a b c≠0 then (⟨0,0,0,0⟩,B1 k a b c) else (⟨k,a,b,c⟩,0)):=by
 unfold V6;rw[if_neg (by simp)]
 show (R4 ⟨k,a,b,c⟩).bind _=_;rw[a7T,d6X];by_cases h:B1 k a b c=0
 ·rw[if_neg (by simpa using h),if_neg (by simpa using h)]
 ·rw[if_pos (by simpa using h),if_pos h]
theorem c59(k a b c:Int):a0j [k,a,b,c]=some (if B1 k a b c≠0 then (⟨0,0,0,0⟩,B1 k a b c) else (⟨k,a,b,c⟩,0)):=by
 unfold a0j;rw[if_neg (by simp)]
 show (a0C ⟨k,a,b,c⟩).bind _=_;rw[a4S,d6X];by_cases h:B1 k a b c=0
 ·rw[if_neg (by simpa using h),if_neg (by simpa using h)]
 ·rw[if_pos (by simpa using h),if_pos h]
theorem four(l:List Int):(∃k a b c,l = [k,a,b,c])∨l.length≠4:=by
 match l with
 | []=>exact .inr (by simp)
 | [_]=>exact .inr (by simp)
 | [_,_]=>exact .inr (by simp)
 | [_,_,_]=>exact .inr (by simp)
 | [k,a,b,c]=>exact .inl ⟨k,a,b,c,rfl⟩
 | _::_::_::_::_::l=>exact .inr (by simp)
theorem b7k{l:List Int}(h:l.length≠4):V6 l=some (⟨0,0,0,0⟩,14)∧a0j l=some (⟨0,0,0,0⟩,14):=by
 unfold V6 a0j;have:(((l.length:Int) != 4))=true:=by simp;omega
 rw[if_pos this,if_pos this];exact⟨rfl,rfl⟩
def Q4(l:List Int):g6 × Int:=(V6 l).getD (⟨0,0,0,0⟩,0)
theorem b0F(l:List Int):V6 l=some (Q4 l)∧a0j l=some (b3c (Q4 l).1,(Q4 l).2):=by
 unfold Q4;rcases four l with ⟨k,a,b,c,rfl⟩ | h
 ·rw[c23,c59];refine⟨rfl,?_⟩;rw[Option.getD_some];by_cases h:B1 k a b c≠0
  ·rw[if_pos h,if_pos h];rfl
  ·rw[if_neg h,if_neg h];rfl
 ·rw[(b7k h).1,(b7k h).2];exact⟨rfl,rfl⟩
def b1c(o:g6):Bool:=((decide (o.Kind≥1))&&(decide (o.Kind≤10)))&&(b7e o==0)
def b2P(p:List g6):Bool:=decide (p.length≤6)&&p.all b1c
def a6V(l:List (List g6)):Bool:=decide (l.length≤6)&&l.all b2P
section
variable{l:List (List g6)}(hl:l.length≤12)(hp:∀p∈l,p.length≤12)
include hl hp
theorem c7t:a4c l=some (a6V l):=by
 unfold a4c a6V;by_cases h6:l.length > 6
 ·rw[if_pos (by simp;omega),decide_eq_false (by omega)]
  rfl
 ·rw[if_neg (by simp;omega),decide_eq_true (by omega),Bool.true_and]
  simp only[jn];have key:=b7M (f:=λ(s23:Int)=>
   if (decide (s23<(l.length:Int))) then
     (ix l s23).bind λv34=>
     if (decide ((v34.length:Int) > 6)) then
      some (.inr (.inl false))
     else
     (lp (S:=Int) (E:=Bool ⊕ Unit) (λ(s36:Int)=>
      if (decide (s36<(v34.length:Int))) then
       (ix v34 s36).bind λv38=>
       (a2s v38).bind λv39=>
       (p9 ((!v39)==false) 0 (R4 v38)).bind λv40=>
       if ((!v39)||(v40 != 0)) then
        some (.inr (.inl false))
       else
       some (.inl (u6 (s36+1)))
      else
      some (.inr (.inr ()))) 0).bind λe35=>
     match e35 with
     | .inl w=>some (.inr (.inl w))
     | .inr w=>some (Sum.inl (u6 (s23+1)))
   else
   some (.inr (.inr ()))) l b2P (.inr ()) (Sum.inl (β:=Unit) false) (by omega) (λk hk=>?_) (by simp)
  ·refine bnd key ?_;cases l.all b2P <;> rfl
  ·rw[if_pos (by simpa using hk),o7 hk,d6X]
   unfold b2P;have hm:=hp _ (List.getElem_mem hk);generalize l[k]=p at hm ⊢;by_cases hq:p.length > 6
   ·rw[if_pos (by simp;omega),decide_eq_false (by omega)]
    rfl
   ·rw[if_neg (by simp;omega),decide_eq_true (by omega),Bool.true_and]
    have k2:=b7M (f:=λ(s36:Int)=>
      if (decide (s36<(p.length:Int))) then
       (ix p s36).bind λv38=>
       (a2s v38).bind λv39=>
       (p9 ((!v39)==false) 0 (R4 v38)).bind λv40=>
       if ((!v39)||(v40 != 0)) then
        some (.inr (.inl false))
       else
       some (Sum.inl (u6 (s36+1)))
      else
      some (.inr (.inr ()))) p b1c (.inr ()) (Sum.inl (β:=Unit) false) (by omega) (λj hj=>?_) (by simp)
    ·refine Eq.trans (bnd k2 (r:=if p.all b1c=true then some (.inl (u6 ((k:Int)+1))) else some (.inr (.inl false))) ?_) ?_
     ·cases p.all b1c <;> rfl
     ·rw[l6]
    ·rw[if_pos (by simpa using hj),o7 hj,d6X,a7T]
     unfold b1c a2s;rw[d6X,l6];cases ((decide (p[j].Kind≥1))&&(decide (p[j].Kind≤10)));·rfl
     ·by_cases h:b7e p[j]=0
      ·have e:B1 p[j].Kind p[j].A p[j].B p[j].C=0:=h;rw[e,h];rfl
      ·have e1:(B1 p[j].Kind p[j].A p[j].B p[j].C != 0)=true:=by simpa using h
       have e2:(b7e p[j]==0)=false:=by simpa using h
       rw[e2];refine bnd (a:=b7e p[j]) rfl ?_;rw[show (b7e p[j] != 0)=true from e1];rfl
theorem c1L:a51 (l.map (List.map b3c))=some (a6V l):=by
 unfold a51 a6V;rw[List.length_map];by_cases h6:l.length > 6
 ·rw[if_pos (by simp;omega),decide_eq_false (by omega)]
  rfl
 ·rw[if_neg (by simp;omega),decide_eq_true (by omega),Bool.true_and]
  simp only[jn];have key:=b7M (f:=λ(s23:Int)=>
   if (decide (s23<(l.length:Int))) then
     (ix (l.map (List.map b3c)) s23).bind λv34=>
     if (decide ((v34.length:Int) > 6)) then
      some (.inr (.inl false))
     else
     (lp (S:=Int) (E:=Bool ⊕ Unit) (λ(s36:Int)=>
      if (decide (s36<(v34.length:Int))) then
       (ix v34 s36).bind λv38=>
       (Q3 v38).bind λv39=>
       (p9 ((!v39)==false) 0 (a0C v38)).bind λv40=>
       if ((!v39)||(v40 != 0)) then
        some (.inr (.inl false))
       else
       some (.inl (u6 (s36+1)))
      else
      some (.inr (.inr ()))) 0).bind λe35=>
     match e35 with
     | .inl w=>some (.inr (.inl w))
     | .inr w=>some (Sum.inl (u6 (s23+1)))
   else
   some (.inr (.inr ()))) l b2P (.inr ()) (Sum.inl (β:=Unit) false) (by omega) (λk hk=>?_) (by simp)
  ·refine bnd key ?_;cases l.all b2P <;> rfl
  ·rw[if_pos (by simpa using hk),a1a,o7 hk,Option.map_some,d6X,List.length_map]
   unfold b2P;have hm:=hp _ (List.getElem_mem hk);generalize l[k]=p at hm ⊢;by_cases hq:p.length > 6
   ·rw[if_pos (by simp;omega),decide_eq_false (by omega)]
    rfl
   ·rw[if_neg (by simp;omega),decide_eq_true (by omega),Bool.true_and]
    have k2:=b7M (f:=λ(s36:Int)=>
      if (decide (s36<(p.length:Int))) then
       (ix (p.map b3c) s36).bind λv38=>
       (Q3 v38).bind λv39=>
       (p9 ((!v39)==false) 0 (a0C v38)).bind λv40=>
       if ((!v39)||(v40 != 0)) then
        some (.inr (.inl false))
       else
       some (Sum.inl (u6 (s36+1)))
      else
      some (.inr (.inr ()))) p b1c (.inr ()) (Sum.inl (β:=Unit) false) (by omega) (λj hj=>?_) (by simp)
    ·refine Eq.trans (bnd k2 (r:=if p.all b1c=true then some (.inl (u6 ((k:Int)+1))) else some (.inr (.inl false))) ?_) ?_
     ·cases p.all b1c <;> rfl
     ·rw[l6]
    ·rw[if_pos (by simpa using hj),a1a,o7 hj,Option.map_some,d6X,a4S]
     unfold b1c Q3;rw[d6X,l6];rw[show (b3c p[j]).Kind=p[j].Kind from rfl];cases ((decide (p[j].Kind≥1))&&(decide (p[j].Kind≤10)));·rfl
     ·by_cases h:b7e p[j]=0
      ·have e:B1 p[j].Kind (b3c p[j]).A (b3c p[j]).B (b3c p[j]).C=0:=h;rw[e,h];rfl
      ·have e1:(B1 p[j].Kind p[j].A p[j].B p[j].C != 0)=true:=by simpa using h
       have e2:(b7e p[j]==0)=false:=by simpa using h
       rw[e2];refine bnd (a:=b7e p[j]) rfl ?_;rw[show (b7e p[j] != 0)=true from e1];rfl
end
end Go.Sh
