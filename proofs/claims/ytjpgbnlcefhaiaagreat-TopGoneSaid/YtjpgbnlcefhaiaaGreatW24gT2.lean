/-
 More of the theory.
-/
import Derived.Test.YtjpgbnlcefhaiaaGreatW24gT
set_option linter.unusedVariables false
set_option linter.unusedSimpArgs false
set_option linter.unusedSectionVars false
namespace Go.Sh
theorem a5b(x:Hp)(h:Int):(A0 x h).Roots=x.Roots∧(A0 x h).a8=x.a8∧(A0 x h).T=x.T∧(A0 x h).Q=x.Q:=by
 rw[b1n];exact⟨rfl,rfl,rfl,rfl⟩
theorem a2U{x:Hp}(hR:SR x.S)(h:Int):SR (A0 x h).S:=(B7 hR h λc=>A5).sr
section
variable{x:Hp}(hx:H7 x)(hS:∀k∈lv x.S,(ob x.S k).Strong≤9223372036854775807)
include hx hS
theorem a95{h:Int}(hh:h=0∨h∈lv x.S):h≤9223372036854775807:=by
 rcases hh with q | q
 ·omega
 ·have:=D5 hx.sh.sr q;omega
theorem c1b(k:Int){h:Int}(hh:h≤9223372036854775807):Z5 x k h=some (if k<0∨5<k then (x,6) else if h=0∨h∈lv x.S then (A3 x k.toNat h,0) else (x,3)):=by
 have hR:=hx.sh.sr;have r6:=hx.sh.r6;unfold Z5;by_cases hk:k<0∨5<k
 ·rw[if_pos hk,if_pos (by rw[r6];simp;omega)]
 ·rw[if_neg hk,if_neg (by rw[r6];simp;omega),a16 hR hh,d2P];by_cases hn:h=0∨h∈lv x.S
  ·rw[if_pos hn,decide_eq_true hn,if_neg (by simp)];obtain⟨n,rfl⟩:∃n:Nat,k=n:=⟨k.toNat,by omega⟩;have hn6:n<6:=by omega
   have hnl:n<x.Roots.length:=by omega
   have old:x.Roots[n]≤9223372036854775807:=a95 hx hS (hx.sh.rt _ (List.getElem_mem hnl));have e1:=a5b x h;have hn2:n<(A0 x h).Roots.length:=by rw[e1.1];exact hnl
   rw[n8 hnl,d2P];unfold D0 L9 J4;rw[a49 hR hh hS,d2P];dsimp only;rw[J8 (by omega) (by rw[e1.1];omega),d2P,n8 hn2,d2P,d2P];have hrel:=a2b (x:=wR (A0 x h) (x.Roots.set n h)) (a2U hR h) old;rw[Int.toNat_natCast,e1.1,show A7 ⟨(A0 x h).S,x.Roots.set n h,(A0 x h).a8,(A0 x h).T,(A0 x h).Q⟩ x.Roots[n]=_ from hrel];unfold A3;rw[List.getD_eq_getElem?_getD,List.getElem?_eq_getElem hnl];rfl
  ·rw[if_neg hn,decide_eq_false hn,if_pos (by simp)]
theorem b9J(k:Int){h:Int}(hh:h≤9223372036854775807):U0 (hO x) k h=some (if k<0∨5<k then (hO x,6) else if h=0∨h∈lv x.S then (hO (A3 x k.toNat h),0) else (hO x,3)):=by
 have hR:=hx.sh.sr;have r6:=hx.sh.r6;unfold U0;by_cases hk:k<0∨5<k
 ·rw[if_pos hk,if_pos (by simp;omega)]
 ·rw[if_neg hk,if_neg (by simp;omega),a98 hR hh,d2P];by_cases hn:h=0∨h∈lv x.S
  ·rw[if_pos hn,decide_eq_true hn,if_neg (by simp)];obtain⟨n,rfl⟩:∃n:Nat,k=n:=⟨k.toNat,by omega⟩;have hnl:n<x.Roots.length:=by omega
   have hnl':n<(hO x).Roots.length:=hnl;have old:x.Roots[n]≤9223372036854775807:=a95 hx hS (hx.sh.rt _ (List.getElem_mem hnl));have e1:=a5b x h;have r6':(hO x).Roots.length=6:=r6;rw[n8 hnl',d2P,a7q hR hh hS,d2P,J8 (by omega) (by rw[r6'];omega),d2P,n8 hnl',d2P];have hrel:=a3q (x:=wR (A0 x h) (x.Roots.set n h)) (a2U hR h) old;rw[Int.toNat_natCast];rw[show D3 ⟨(hO (A0 x h)).S,(hO x).Roots.set n h,(hO (A0 x h)).a8,(hO (A0 x h)).T,(hO (A0 x h)).Q⟩ (hO x).Roots[n]=_ from hrel];unfold A3;rw[List.getD_eq_getElem?_getD,List.getElem?_eq_getElem hnl];rfl
  ·rw[if_neg hn,decide_eq_false hn,if_pos (by simp)]
omit hx hS in
theorem d0E {l:List Int} {n:Nat} (hn:n<l.length):b1x l n=some (l[n],0)∧b3A l n=some (l[n],0):=by
 constructor
 ·unfold b1x a6k;rw[d2P,if_neg (by simp;omega),n8 hn,d2P]
 ·unfold b3A;rw[if_neg (by simp;omega),n8 hn,d2P]
omit hx hS in
theorem c7w {l:List Int} {k:Int} (hk:¬(0≤k∧k<l.length)):b1x l k=some (0,5)∧b3A l k=some (0,5):=by
 constructor
 ·unfold b1x a6k;rw[d2P,if_pos (by simp;omega)]
 ·unfold b3A;rw[if_pos (by simp;omega)]
theorem b1A(h k:Int)(hh:h≤9223372036854775807):(∃e,e≠0∧Y7 x.S h k=some (0,e)∧a3m (sO x.S) h k=some (0,e)) ∨
  (h∈lv x.S∧∃n:Nat,k=n∧∃hn:n<(ob x.S h).Fields.length,Y7 x.S h k=some ((ob x.S h).Fields[n],0)∧a3m (sO x.S) h k=some ((ob x.S h).Fields[n],0)):=by
 have hR:=hx.sh.sr;obtain⟨e,h1,h2⟩:=O8 (p6.2 hR) hh;have hg:E0 (sO x.S) h=some (oo (ob x.S h),e):=by
  rw[a4S x.S (by have:=hR.len;omega) hh,h1];rfl
 unfold Y7 a3m;rw[h1,d2P,hg,d2P];by_cases q:h∈lv x.S
 ·have:=h2.2 q;subst this;rw[if_neg (by simp),if_neg (by simp),show (oo (ob x.S h),(0:Int)).1.Fields=(ob x.S h).Fields from rfl];by_cases hk:0≤k∧k<(ob x.S h).Fields.length
  ·right;obtain⟨n,rfl⟩:∃n:Nat,k=n:=⟨k.toNat,by omega⟩;have hn:n<(ob x.S h).Fields.length:=by omega
   refine⟨q,n,rfl,hn,?_,?_⟩
   ·rw[(d0E hn).1];rfl
   ·rw[(d0E hn).2];rfl
  ·left;refine⟨5,by decide,?_,?_⟩
   ·rw[(c7w hk).1];rfl
   ·rw[(c7w hk).2];rfl
 ·left;have he:(e != 0)=true:=by simpa using λc=>q (h2.1 c)
  refine⟨e,by simpa using he,?_,?_⟩;·simp only[he,if_true]
  ·simp only[he,if_true]
theorem c4p{s:a7}(hR:SR s){h:Int}(hh:h∈lv s){n:Nat}(hn:n<(ob s h).Fields.length)(v:Int) :
  a8f s h n v=some (seO s h (flg (ob s h) ((ob s h).Fields.set n v)),0)∧b6s (sO s) h n v=some (sO (seO s h (flg (ob s h) ((ob s h).Fields.set n v))),0):=by
 have ok:=H2 hR hh;have hf:=ok.fl;have hle:=D5 hR hh;have ho:OkO s (flg (ob s h) ((ob s h).Fields.set n v)):=⟨ok.s1,ok.s2,ok.st,ok.wk,ok.p1,ok.p2,by simpa using hf⟩;have h1:=b0u (o:=flg (ob s h) ((ob s h).Fields.set n v)) hR hh rfl ho;have h2:=b0v (o:=flg (ob s h) ((ob s h).Fields.set n v)) hR hh rfl ho;constructor
 ·unfold a8f;rw[b3k (p6.2 hR) hh,d2P,if_neg (by simp)];unfold b32 a6k;dsimp only;rw[d2P,if_neg (by simp;omega),a69 (by omega) (by omega),d2P];have e:cpy (List.replicate (ob s h).Fields.length (0:Int)) (ob s h).Fields=some (ob s h).Fields:=by
   unfold cpy;rw[if_pos (by simp)];simp
  rw[e,d2P,n8 hn,d2P,d2P,if_neg (by simp),Int.toNat_natCast];dsimp only;rw[show H5 s h ⟨(ob s h).Serial,(ob s h).Strong,(ob s h).Weak,(ob s h).Prog,(ob s h).Started,(ob s h).Fields.set n v⟩=_ from h1];rfl
 ·unfold b6s;rw[a4S s (by have:=hR.len;omega) (by omega),b3k (p6.2 hR) hh,Option.map_some,d2P,if_neg (by simp)];unfold b78;have hn':n<(oo (ob s h)).Fields.length:=hn;have hf':(oo (ob s h)).Fields.length≤4:=hf;dsimp only;rw[if_neg (by simp;omega),J8 (by omega) (by omega),d2P,n8 hn',d2P,d2P,if_neg (by simp),Int.toNat_natCast];dsimp only;rw[show L4 (sO s) h ⟨(oo (ob s h)).Serial,(oo (ob s h)).Strong,(oo (ob s h)).Weak,(oo (ob s h)).Prog,(oo (ob s h)).Started,(oo (ob s h)).Fields.set n v⟩=_ from h2];rfl
theorem c3i(h k v:Int)(hh:h≤9223372036854775807)(hv:v≤9223372036854775807) :
  (∃e,e≠0∧a11 x h k v=some (x,e)∧a44 (hO x) h k v=some (hO x,e)) ∨
  (h∈lv x.S∧(v=0∨v∈lv x.S)∧∃n:Nat,k=n∧n<(ob x.S h).Fields.length∧a11 x h k v=some (a0K x h n v,0)∧a44 (hO x) h k v=some (hO (a0K x h n v),0)):=by
 have hR:=hx.sh.sr;unfold a11 a44;rcases b1A hx hS h k hh with ⟨e,he,f1,f2⟩ | ⟨hl,n,rfl,hn,f1,f2⟩
 ·left;have he':(e != 0)=true:=by simpa using he
  refine⟨e,he,?_,?_⟩;·rw[f1,d2P,if_pos he']
  ·rw[show (hO x).S=sO x.S from rfl,f2,d2P,if_pos he']
 ·rw[f1,d2P,if_neg (by simp),show (hO x).S=sO x.S from rfl,f2,d2P,if_neg (by simp),a16 hR hv,d2P,a98 hR hv,d2P];by_cases hn2:v=0∨v∈lv x.S
  ·right;refine⟨hl,hn2,n,rfl,hn,?_⟩;rw[decide_eq_true hn2,if_neg (by simp),if_neg (by simp)];have kin:=B7 hR v (f:=N3) λc=>A5;have hR1:SR (A0 x v).S:=kin.sr;have hl1:h∈lv (A0 x v).S:=by rw[show lv (A0 x v).S=lv x.S from kin.lv];exact hl
   have hof:(ob (A0 x v).S h).Fields=(ob x.S h).Fields:=by
    obtain⟨m,e⟩:=kin.ob h hh;show (ob (stO x v N3).S h).Fields=_;rw[e]
   have hn1:n<(ob (A0 x v).S h).Fields.length:=by rw[hof];exact hn
   have old:(ob x.S h).Fields[n]≤9223372036854775807:=a95 hx hS (hx.sh.fl h hl _ (List.getElem_mem hn));have ok:=H2 hR1 hl1;have sr2:SR (seO (A0 x v).S h (flg (ob (A0 x v).S h) ((ob (A0 x v).S h).Fields.set n v))):=a0q (o:=flg (ob (A0 x v).S h) ((ob (A0 x v).S h).Fields.set n v)) hR1 hl1 rfl ⟨ok.s1,ok.s2,ok.st,ok.wk,ok.p1,ok.p2,by simpa using ok.fl⟩;obtain⟨p1,p2⟩:=c4p hx hS hR1 hl1 hn1 v;have hd:(ob x.S h).Fields.getD n 0=(ob x.S h).Fields[n]:=by
    rw[List.getD_eq_getElem?_getD,List.getElem?_eq_getElem hn];rfl
   constructor
   ·unfold F5 a0l;rw[a49 hR hv hS,d2P];dsimp only;rw[p1,d2P,d2P];have hrel:=a2b (x:=wS (A0 x v) (seO (A0 x v).S h (flg (ob (A0 x v).S h) ((ob (A0 x v).S h).Fields.set n v)))) sr2 old;rw[show A7 ⟨seO (A0 x v).S h (flg (ob (A0 x v).S h) ((ob (A0 x v).S h).Fields.set n v)),(A0 x v).Roots,(A0 x v).a8,(A0 x v).T,(A0 x v).Q⟩ (ob x.S h).Fields[n]=_ from hrel];unfold a0K;rw[hd,hof];rfl
   ·rw[a7q hR hv hS,d2P,show (hO (A0 x v)).S=sO (A0 x v).S from rfl,p2,d2P];have hrel:=a3q (x:=wS (A0 x v) (seO (A0 x v).S h (flg (ob (A0 x v).S h) ((ob (A0 x v).S h).Fields.set n v)))) sr2 old;dsimp only;rw[show D3 ⟨sO (seO (A0 x v).S h (flg (ob (A0 x v).S h) ((ob (A0 x v).S h).Fields.set n v))),(hO (A0 x v)).Roots,(hO (A0 x v)).a8,(hO (A0 x v)).T,(hO (A0 x v)).Q⟩ (ob x.S h).Fields[n]=_ from hrel];unfold a0K;rw[hd,hof];rfl
  ·left;refine⟨3,by decide,?_,?_⟩;·rw[decide_eq_false hn2,if_pos (by simp)]
   ·rw[decide_eq_false hn2,if_pos (by simp)]
theorem c6L(k v:Int)(hk:k≤9223372036854775807)(hv:v≤9223372036854775807) :
  (∃e,e≠0∧a3j x k v=some (x,e)∧a7i (hO x) k v=some (hO x,e)) ∨
  (k∈lv x.S∧(v=0∨v∈lv x.S)∧∃r,Q2 x.T k v=some r∧r.2.2=0∧a3j x k v=some (a41 x v r.1 r.2.1,0)∧a7i (hO x) k v=some (hO (a41 x v r.1 r.2.1),0)):=by
 have hR:=hx.sh.sr;unfold a3j a7i;by_cases k0:k=0
 ·left;subst k0;exact⟨2,by decide,by simp,by simp⟩
 ·rw[if_neg (by simpa using k0),if_neg (by simpa using k0),a16 hR hk,d2P,b2i hR hk,d2P,a16 hR hv,a98 hR hv];have hkk:(k=0∨k∈lv x.S)↔k∈lv x.S:=by simp[k0]
  by_cases hl:k∈lv x.S∧(v=0∨v∈lv x.S)
  ·obtain⟨hl,hn⟩:=hl;rw[decide_eq_true (hkk.2 hl),decide_eq_true hl,decide_eq_true hn];simp only[Bool.not_true,beq_self_eq_true,a4n,d2P,Bool.or_self,Bool.false_eq_true,if_false];obtain⟨r,r1,r2,r3,r4,r5⟩:=c2a hx.sh.hr k v;rw[r1,d2P,show (hO x).T=x.T.map J9 from rfl,r4,d2P];by_cases h0:r.2.2=0
   ·right;refine⟨hl,hn,r,rfl,h0,?_⟩;have e1:(r.2.2 != 0)=false:=by simpa using h0
    have old:r.2.1≤9223372036854775807:=by
     rcases r5 with ⟨_,rfl⟩ | ⟨_,_,⟨i,hi,rfl⟩ | ⟨_,rfl⟩⟩ | ⟨_,_,⟨i,hi,rfl⟩ | ⟨d,_,_,_,_,rfl⟩ | ⟨_,_,rfl⟩⟩;·simp
     ·exact a95 hx hS (.inr (hx.sh.pr k _ ⟨i,hi,rfl⟩).2)
     ·simp
     ·exact a95 hx hS (.inr (hx.sh.pr k _ ⟨i,hi,rfl⟩).2)
     ·simp
     ·simp
    constructor
    ·rw[e1];simp only[Bool.false_eq_true,if_false];unfold G6 T1;rw[a49 hR hv hS,d2P,d2P];dsimp only;have hrel:=a2b (x:=wT (A0 x v) r.1) (a2U hR v) old;rw[show A7 ⟨(A0 x v).S,(A0 x v).Roots,(A0 x v).a8,r.1,(A0 x v).Q⟩ r.2.1=_ from hrel];rfl
    ·dsimp only;rw[e1];simp only[Bool.false_eq_true,if_false];rw[a7q hR hv hS,d2P];have hrel:=a3q (x:=wT (A0 x v) r.1) (a2U hR v) old;rw[show D3 ⟨(hO (A0 x v)).S,(hO (A0 x v)).Roots,(hO (A0 x v)).a8,r.1.map J9,(hO (A0 x v)).Q⟩ r.2.1=_ from hrel];rfl
   ·left;have e1:(r.2.2 != 0)=true:=by simpa using h0
    refine⟨r.2.2,h0,by rw[if_pos e1],by dsimp only;rw[if_pos e1]⟩
  ·left;refine⟨3,by decide,?_,?_⟩
   ·by_cases hl2:k∈lv x.S
    ·have:¬(v=0∨v∈lv x.S):=λq=>hl ⟨hl2,q⟩;rw[decide_eq_true (hkk.2 hl2),decide_eq_false this];rfl
    ·rw[decide_eq_false λq=>hl2 (hkk.1 q)];rfl
   ·by_cases hl2:k∈lv x.S
    ·have:¬(v=0∨v∈lv x.S):=λq=>hl ⟨hl2,q⟩;rw[decide_eq_true hl2,decide_eq_false this];rfl
    ·rw[decide_eq_false hl2];rfl
end
theorem c0w{s:a7}(hR:SR s){h:Int}{i:Nat}(q:U2 s h i):K5 s.S h=some ((gvA s i).S,0):=by
 have hi:=q.1;have hc:=hR.cell i hi;have l9:=hR.l9;unfold K5 gvA;rw[a5v hR q,d2P,if_neg (by simp),b7H hi,d2P];by_cases g:(ce s i).Gen=s.S.Last
 ·rw[if_pos (by simpa using g),if_pos g,a5m rfl hi hR.len];rfl
 ·rw[if_neg (by simpa using g),if_neg g,a5m rfl hi hR.len,B0 (by omega) (by omega)];rfl
theorem c7J{s:a7}{i:Nat}(hi:i<s.S.a8.length):ix (sO s).a8 (i:Int)=some (cO (ce s i)):=by
 rw[c1e,b7H hi];rfl
theorem c1f(s:a7)(i:Nat)(c:b7):sO (E2 s i c)=⟨(sO s).a8.set i (cO c),s.S.Last,s.Serial⟩:=by
 unfold sO E2;rw[List.map_set]
theorem b31(t:o0)(p:E4)(hl:t.a8.length≤1000)(hp:p.a8.length=t.a8.length):a0S t p=some ⟨(List.range t.a8.length).map λk=>⟨(p.a8.getD k ⟨0,0,0⟩).State,(p.a8.getD k ⟨0,0,0⟩).Gen,(t.a8.getD k ⟨0,0,oo z0⟩).Val⟩,t.Last,t.Serial⟩:=by
 unfold a0S;simp only[jn];rw[c3F (b:=80) t.a8.length (λk=>⟨(p.a8.getD k ⟨0,0,0⟩).State,(p.a8.getD k ⟨0,0,0⟩).Gen,(t.a8.getD k ⟨0,0,oo z0⟩).Val⟩) (by omega) (by omega) (λk acc hk=>?_) (λacc=>by simp)];·rfl
 ·have hk2:k<p.a8.length:=by omega
  simp only[Int.ofNat_lt,hk,decide_true,if_true,n8 hk,n8 hk2,d2P];rw[List.getD_eq_getElem?_getD,List.getElem?_eq_getElem hk2,List.getD_eq_getElem?_getD,List.getElem?_eq_getElem hk];rfl
theorem c3q{s:a7}(hR:SR s){h:Int}{i:Nat}(q:U2 s h i):b0e (sO s) h=some (sO (gvA s i)):=by
 have hi:=q.1;have hc:=hR.cell i hi;have l9:=hR.l9;have hlen:=hR.len;have hr:=q.rng hR;have hH:Hnd h:=((a85 hR).2 q).2.1;have hsl:(h-1) % 32=i:=((a85 hR).2 q).2.2.1;have J9:i<(pl (sO s)).a8.length:=by rw[a0R,A2];exact hi
 have key:∀st g,(st:Int)=st→a0S (sO s) ⟨(pl (sO s)).a8.set i ⟨st,g,0⟩,(pl (sO s)).Last⟩=some ⟨(sO s).a8.set i ⟨st,g,oo (ce s i).Val⟩,s.S.Last,s.Serial⟩:=λst g _=>by
  rw[b31 _ _ (by rw[A2];omega) (by simp[a0R])];congr 1;congr 1;refine List.ext_getElem (by simp) λk h1 h2=>?_;have hk:k<s.S.a8.length:=by simpa[A2] using h1
  have hk2:k<(sO s).a8.length:=by rw[A2];exact hk
  have hk3:k<(pl (sO s)).a8.length:=by rw[a0R];exact hk2
  simp only[List.getElem_map,List.getElem_range,List.getElem_set];have e1:(sO s).a8.getD k ⟨0,0,oo z0⟩=cO (ce s k):=by
   rw[List.getD_eq_getElem?_getD,List.getElem?_eq_getElem hk2,B3 hk];simp[sO]
  have e2:((pl (sO s)).a8.set i ⟨st,g,0⟩).getD k ⟨0,0,0⟩=if k=i then ⟨st,g,0⟩ else plc k (cO (ce s k)):=by
   rw[a2w J9];split;·rfl
   ·rw[List.getD_eq_getElem?_getD,List.getElem?_eq_getElem hk3,B3 hk];simp[pl,sO]
  rw[e1,e2];by_cases e:k=i
  ·subst e;rw[if_pos rfl,if_pos rfl];rfl
  ·rw[if_neg e,if_neg (Ne.symm e)];rw[B3 hk];simp[sO,plc,cO]
 have fin:∀st g,(a2F ⟨(sO s).a8.set i ⟨st,g,oo (ce s i).Val⟩,s.S.Last,s.Serial⟩ (i:Int) ⟨0,0,0,0,false,[]⟩)=some (sO (E2 s i ⟨st,g,z0⟩)):=λst g=>by
  unfold a2F;have hi2:i<((sO s).a8.set i ⟨st,g,oo (ce s i).Val⟩).length:=by simp[A2];exact hi
  rw[J8 (by omega) (by simp[A2];omega),d2P,n8 hi2,d2P,c1f];simp[cO,oo,List.set_set]
 unfold b0e b76 gvA;rw[a4o _ (by rw[A2];omega),d2P,b0U s (by omega),a5v hR q,d2P,if_neg (by simp)];rw[b7Z (by rw[A2];exact hi),d2P];have hgen:(plc i ((sO s).a8[i]'(by rw[A2];exact hi))).Gen=(ce s i).Gen:=by
  rw[B3 hi];simp[plc,sO,cO]
 have hlast:(pl (sO s)).Last=s.S.Last:=rfl;have w3:∀c:K4,a0z (pl (sO s)) (i:Int) c=some ⟨(pl (sO s)).a8.set i c,(pl (sO s)).Last⟩:=λc=>by
  unfold a0z;rw[J8 (by omega) (by rw[a0R,A2];omega),d2P,n8 J9,d2P,Int.toNat_natCast]
 rw[hgen,hlast,a7d,if_pos hH,hsl];by_cases g:(ce s i).Gen=s.S.Last
 ·rw[if_pos (by simp[g]),if_pos g,w3,d2P,d2P,if_neg (by simp),key _ _ rfl,d2P,d2P,fin];rfl
 ·rw[if_neg (by simp;omega),if_neg g,w3,d2P,d2P,if_neg (by simp),key _ _ rfl,d2P,d2P,B0 (by omega) (by omega),fin];rfl
section
variable{x:Hp}(hR:SR x.S)
include hR
theorem b44{h d:Int}(hh:h≤9223372036854775807)(hw:U2 x.S h (B1 h) → -1000≤(ce x.S (B1 h)).Val.Weak+d∧(ce x.S (B1 h)).Val.Weak+d≤1000):a03 x h d=some (mkd x h d):=by
 unfold a03 mkd;by_cases q:U2 x.S h (B1 h)
 ·have:=hw q;rw[if_pos q,a5v hR q,d2P];simp only[beq_self_eq_true,if_true];rw[b7H q.1,d2P,B0 (by omega) (by omega),b6L hR q,d2P];rfl
 ·have hno:∀i,¬U2 x.S h i:=λi hi=>q (by rw[hi.B1 hR];exact hi);rw[if_neg q,a8U hR hh hno,d2P];have:((if h=0 then 2 else 3:Int)==0)=false:=by simpa using a2v h
  simp only[this,Bool.false_eq_true,if_false]
theorem b8y{h:Int}(hh:h≤9223372036854775807)(hw:U2 x.S h (B1 h)→1≤(ce x.S (B1 h)).Val.Weak∧(ce x.S (B1 h)).Val.Weak≤1000):a2l x h=some (a7C x h):=by
 unfold a2l;rw[b44 hR hh (λq=>by have:=hw q;omega),d2P];unfold mkd a7C;by_cases q:U2 x.S h (B1 h)
 ·have hw:=hw q;rw[if_pos q,if_pos q];have sr1:=b3m hR q.1 q.2.1 (d:=-1) (by omega);have q1:U2 (mkA x.S (B1 h) (-1)) h (B1 h):=(b18 q.1 _).2 q;dsimp only;rw[a5v sr1 q1,d2P,if_neg (by simp),b7H q1.1,d2P,a2Q hR q.1 q.2.1,if_pos rfl];dsimp only;by_cases c:(ce x.S (B1 h)).State=2∧(ce x.S (B1 h)).Val.Weak=1
  ·rw[if_pos c,if_pos (by simp[c.1,c.2]),c0w sr1 q1,d2P];rfl
  ·rw[if_neg c,if_neg (by simp only[Bool.and_eq_true,beq_iff_eq];omega)]
 ·have hno:∀i,¬U2 x.S h i:=λi hi=>q (by rw[hi.B1 hR];exact hi);rw[if_neg q,if_neg q,a8U hR hh hno,d2P];have:((if h=0 then 2 else 3:Int) != 0)=true:=by simpa using a2v h
  simp only[this,if_true]
theorem c2i{h:Int}(hh:h≤9223372036854775807)(hw:U2 x.S h (B1 h)→1≤(ce x.S (B1 h)).Val.Weak∧(ce x.S (B1 h)).Val.Weak≤1000):a04 (hO x) h=some (hO (a7C x h)):=by
 have hl:=hR.len;unfold a04;rw[show (hO x).S=sO x.S from rfl,a4o _ (by rw[A2];omega),d2P,b0U x.S hh];unfold a7C;by_cases q:U2 x.S h (B1 h)
 ·have hw:=hw q;have hr:=q.rng hR;rw[if_pos q,a5v hR q,d2P,if_neg (by simp),c7J q.1,d2P];have sr1:=b3m hR q.1 q.2.1 (d:=-1) (by omega);have q1:U2 (mkA x.S (B1 h) (-1)) h (B1 h):=(b18 q.1 _).2 q;have hs:L4 (sO x.S) h (oo (wkg (ce x.S (B1 h)).Val ((ce x.S (B1 h)).Val.Weak + -1)))=some (sO (mkA x.S (B1 h) (-1)),0):=by
   rw[c4O x.S hl hh,b6L hR q];rfl
  have hw64:r8 ((cO (ce x.S (B1 h))).Val.Weak-1)=(ce x.S (B1 h)).Val.Weak + -1:=by
   show r8 ((ce x.S (B1 h)).Val.Weak-1)=_;rw[B0 (by omega) (by omega)];omega
  rw[hw64];rw[show L4 (sO x.S) h ⟨(cO (ce x.S (B1 h))).Val.Serial,(cO (ce x.S (B1 h))).Val.Strong,(ce x.S (B1 h)).Val.Weak + -1,(cO (ce x.S (B1 h))).Val.Prog,(cO (ce x.S (B1 h))).Val.Started,(cO (ce x.S (B1 h))).Val.Fields⟩=_ from hs,d2P,c7J q1.1,d2P,a2Q hR q.1 q.2.1,if_pos rfl];by_cases c:(ce x.S (B1 h)).State=2∧(ce x.S (B1 h)).Val.Weak=1
  ·rw[if_pos c,if_pos (by simp[cO,c.1,c.2]),c3q sr1 q1,d2P];rfl
  ·rw[if_neg c,if_neg (by simp only[cO,Bool.and_eq_true,beq_iff_eq,decide_eq_true_eq];omega)];rfl
 ·have hno:∀i,¬U2 x.S h i:=λi hi=>q (by rw[hi.B1 hR];exact hi);rw[if_neg q,a8U hR hh hno,d2P];have:((if h=0 then 2 else 3:Int) != 0)=true:=by simpa using a2v h
  simp only[this,if_true]
end
theorem c42{l:List c5}(hl:l.length≤1000){n:Nat}(hn:n<l.length)(h call:Int):b0E l n h call=some (l.set n (wcl h call),l[n].Target,0):=by
 unfold b0E a5l Y8;simp only[d2P];rw[if_neg (by simp;omega),a69 (by omega) (by omega),d2P];have e:cpy (List.replicate l.length (⟨0,false,0⟩:c5)) l=some l:=by
  unfold cpy;rw[if_pos (by simp)];simp
 rw[e,d2P,d2P,n8 hn,d2P,d2P,Int.toNat_natCast]
theorem b9Z{l:List c5}(hl:l.length≤1000){n:Nat}(hn:n<l.length)(h call:Int):b6t (l.map wcR) n h call=some ((l.set n (wcl h call)).map wcR,l[n].Target,0):=by
 unfold b6t;have hn':n<(l.map wcR).length:=by simpa using hn
 rw[if_neg (by simp;omega),J8 (by omega) (by simp;omega),d2P,n8 hn',d2P,d2P,Int.toNat_natCast,List.map_set];simp[wcR]
theorem c9t(l:List c5)(h:Int):nmg l h≤l.length:=List.countP_le_length
theorem c7n{x:Hp}(hx:H7 x)(k h call:Int)(hh:h≤9223372036854775807)(hc : -1≤call∧call≤5) :
  (∃e,e≠0∧Z6 x k h call=some (x,e)∧a3M (hO x) k h call=some (hO x,e)) ∨
  ((h=0∨h∈lv x.S)∧∃n:Nat,k=n∧n<6∧wts x.Q n=false∧Z6 x k h call=some (a1R x n h call,0)∧a3M (hO x) k h call=some (hO (a1R x n h call),0)):=by
 have hR:=hx.sh.sr;have c6:=hx.sh.c6;have q30:=hx.sh.q30;unfold Z6 a3M;by_cases hk:k<0∨5<k
 ·left;have e1:((decide (k<0))||(decide (k≥(x.a8.length:Int))))=true:=by rw[c6];simp;omega
  have e2:((decide (k<0))||(decide (k > 5)))=true:=by simp;omega
  refine⟨7,by decide,?_,?_⟩;·rw[e1];rfl
  ·rw[e2];rfl
 ·obtain⟨n,rfl⟩:∃n:Nat,k=n:=⟨k.toNat,by omega⟩;have hn6:n<6:=by omega
  have e1:((decide ((n:Int)<0))||(decide ((n:Int)≥(x.a8.length:Int))))=false:=by rw[c6];simp;omega
  have e2:((decide ((n:Int)<0))||(decide ((n:Int) > 5)))=false:=by simp;omega
  rw[e1,e2];simp only[beq_self_eq_true,a4n,Bool.false_or];have hwq:a3W x.Q n=some (wts x.Q n):=c7d (by omega);have hwr:a71 (hO x).Q n=some (wts x.Q n):=c6V (by omega);rw[hwq,d2P,hwr,d2P,a16 hR hh,d2P,a98 hR hh,d2P];by_cases hw:wts x.Q n=true
  ·left;rw[if_pos hw,if_pos hw];exact⟨7,by decide,rfl,rfl⟩
  ·have hw:wts x.Q n=false:=by simpa using hw
   rw[hw,if_neg (show ¬(false=true) by decide),if_neg (show ¬(false=true) by decide)];by_cases hl:h=0∨h∈lv x.S
   ·right;refine⟨hl,n,rfl,hn6,hw,?_⟩;have hnl:n<x.a8.length:=by omega
    rw[decide_eq_true hl,if_neg (by simp),if_neg (by simp),c42 (by omega) hnl,d2P,show (hO x).a8=x.a8.map wcR from rfl,b9Z (by omega) hnl,d2P];have htg:tgt x n=x.a8[n].Target:=by
     unfold tgt;rw[List.getD_eq_getElem?_getD,List.getElem?_eq_getElem hnl];rfl
    have wkb:∀i,i<x.S.S.a8.length→Th (ce x.S i)→0≤(ce x.S i).Val.Weak∧(ce x.S i).Val.Weak≤6:=λi hi ht=>by
     have:=(hx.wk i hi ht).1;have:=c9t x.a8 (1+(i:Int)+32*(ce x.S i).Gen);omega
    have mk1:∃s2,mkd (wC x (x.a8.set n (wcl h call))) h 1=wS (wC x (x.a8.set n (wcl h call))) s2∧SR s2∧(∀k i,U2 s2 k i↔U2 x.S k i)∧(∀i,i<x.S.S.a8.length→Th (ce x.S i)→(ce x.S i).Val.Weak≤(ce s2 i).Val.Weak∧(ce s2 i).Val.Weak≤(ce x.S i).Val.Weak+1) ∧
      (h≠0→E0 (sO x.S) h=some (oo (ce x.S (B1 h)).Val,0)∧L4 (sO x.S) h (oo (wkg (ce x.S (B1 h)).Val ((ce x.S (B1 h)).Val.Weak+1)))=some (sO s2,0))∧(h=0→s2=x.S):=by
     unfold mkd;by_cases h0:h=0
     ·have hno:¬U2 x.S h (B1 h):=λq=>by have:=q.rng hR;omega
      rw[if_neg hno];exact⟨x.S,rfl,hR,λ_ _=>Iff.rfl,λi _ _=>by omega,λq=>absurd h0 q,λ_=>rfl⟩
     ·have hll:=hl.resolve_left h0;have hp:=u6 hR hll;have hb:=wkb _ hp.1 (.inl hp.2.1);rw[if_pos hp.d];have kn:=a5O hR hp.1 (.inl hp.2.1) (d:=1) (by omega);refine⟨_,rfl,kn.sr,kn.ad,λi hi ht=>?_,λ_=>⟨?_,?_⟩,λq=>absurd q h0⟩
      ·rw[a2Q hR hp.1 (.inl hp.2.1)];split;·rename_i e;subst e;dsimp only;omega
       ·omega
      ·rw[a4S x.S (by have:=hR.len;omega) hh,c8z hR hp];rfl
      ·rw[c4O x.S hR.len hh,b6L hR hp.d];rfl
    obtain⟨s2,m1,m2,m3,m4,m5,m6⟩:=mk1;have hold:tgt x n≤9223372036854775807:=by
     by_cases q:tgt x n=0
     ·omega
     ·obtain⟨p,hp⟩:=(hx.sh.cl n hnl).2.2.2.1 (by rw[←htg];exact q);have:=hp.rng hR;rw[htg];omega
    have hun:U2 s2 (tgt x n) (B1 (tgt x n))→1≤(ce s2 (B1 (tgt x n))).Val.Weak∧(ce s2 (B1 (tgt x n))).Val.Weak≤1000:=λq=>by
     have q':=(m3 _ _).1 q;have r:=q'.rng hR;have:=(hx.wk _ q'.1 q'.2.1).1;have hp:0<nmg x.a8 x.a8[n].Target:=b0a hnl (by rw[←htg];omega);rw[←htg,q'.2.2] at hp;have:=m4 _ q'.1 q'.2.1;have:=wkb _ q'.1 q'.2.1;omega
    have u1:=b8y (x:=wS (wC x (x.a8.set n (wcl h call))) s2) m2 hold hun;have u2:=c2i (x:=wS (wC x (x.a8.set n (wcl h call))) s2) m2 hold hun;have hwb:U2 x.S h (B1 h) → -1000≤(ce x.S (B1 h)).Val.Weak+1∧(ce x.S (B1 h)).Val.Weak+1≤1000:=λq=>by
     have:=wkb _ q.1 q.2.1;omega
    have mm:=b44 (x:=wC x (x.a8.set n (wcl h call))) (d:=1) hR hh hwb;constructor
    ·dsimp only;rw[show a03 ⟨x.S,x.Roots,x.a8.set n (wcl h call),x.T,x.Q⟩ h 1=_ from mm,d2P,m1,←htg,u1,d2P];unfold a1R;rw[m1]
    ·unfold a1R;rw[m1];dsimp only;by_cases h0:h=0
     ·rw[if_neg (by simpa using h0),←htg];rw[m6 h0] at u2 ⊢;rw[show a04 ⟨(hO x).S,(hO x).Roots,(x.a8.set n (wcl h call)).map wcR,(hO x).T,(hO x).Q⟩ (tgt x n)=_ from u2,d2P]
     ·obtain⟨g1,g2⟩:=m5 h0;have hp:=u6 hR (hl.resolve_left h0);have hb:=wkb _ hp.1 (.inl hp.2.1);rw[if_pos (by simpa using h0),show (hO x).S=sO x.S from rfl,g1,d2P];have e:r8 ((oo (ce x.S (B1 h)).Val).Weak+1)=(ce x.S (B1 h)).Val.Weak+1:=by
       show r8 ((ce x.S (B1 h)).Val.Weak+1)=_;rw[B0 (by omega) (by omega)]
      dsimp only;rw[e];rw[show L4 (sO x.S) h ⟨(oo (ce x.S (B1 h)).Val).Serial,(oo (ce x.S (B1 h)).Val).Strong,(ce x.S (B1 h)).Val.Weak+1,(oo (ce x.S (B1 h)).Val).Prog,(oo (ce x.S (B1 h)).Val).Started,(oo (ce x.S (B1 h)).Val).Fields⟩=_ from g2,d2P,←htg];dsimp only;rw[show a04 ⟨sO s2,(hO x).Roots,(x.a8.set n (wcl h call)).map wcR,(hO x).T,(hO x).Q⟩ (tgt x n)=_ from u2,d2P]
   ·left;rw[decide_eq_false hl];refine⟨3,by decide,?_,?_⟩ <;> rw[if_pos (by rfl)]
end Go.Sh
namespace Go.Sh
section
variable{x:Hp}(hx:H7 x)(hS:∀k∈lv x.S,(ob x.S k).Strong≤9223372036854775807)
include hx hS
end
end Go.Sh
namespace Go.Sh
theorem c0u{α:Type}{l:List α}{i:Nat}(h:i<l.length)(d:α):l.getD i d=l[i]:=by
 rw[List.getD_eq_getElem?_getD,List.getElem?_eq_getElem h];rfl
def TkS(a b:g8):Prop:=a.Kind=b.Kind∧a.At=b.At
instance(a b:g8):Decidable (TkS a b):=by unfold TkS;infer_instance
section
variable{x:Hp}(hR:SR x.S)
include hR
omit hR in
theorem c3e:c7u x.S x.T (otr x)↔a0X x []:=by
 constructor
 ·intro h k hk hlt;have:=h k hk hlt;unfold rst inr at this;rw[if_pos hk] at this;rw[M9];unfold nms;omega
 ·intro h k hk hlt;have:=h k hk hlt;rw[M9] at this;unfold nms at this;unfold rst inr;rw[if_pos hk];omega
end
end Go.Sh
namespace Go.Sh
section
variable{x:Hp}(hx:H7 x)(hB:HB x)
include hx hB
end
end Go.Sh
namespace Go.Sh
def SL(x:Hp):Prop:=∀k∈lv x.S,(ob x.S k).Strong≤9223372036854775807
theorem SB.sl{x:Hp}(hR:SR x.S)(h:SB x.S):SL x:=λk hk=>c2g hR h k hk
theorem c7H{x:Hp}(hx:H7 x)(hS:SL x):HB x:=by
 have hR:=hx.sh.sr;have bd:∀v,v=0∨v∈lv x.S→v≤9223372036854775807:=λv q=>by
  rcases q with q | q
  ·omega
  ·have:=D5 hR q;omega
 refine⟨d1w.2 λi hi=>?_,d0Z.2 λi hi v hv=>?_,λv hv=>bd v (hx.sh.rt v hv),λc hc=>?_,λp hp=>?_,λt ht=>?_⟩
 ·by_cases t:Th (ce x.S i)
  ·rcases t with t | t
   ·have q:At x.S (1+(i:Int)+32*(ce x.S i).Gen) i:=⟨hi,t,rfl⟩;have:=hS _ ((a1q hR).2 ⟨i,q⟩);rwa [L5 hR q] at this
   ·have:=((hx.wk i hi (.inr t)).2 t).2.2;omega
  ·have:=(hR.no i hi t).2.1;simp only[oo] at this;omega
 ·by_cases t:Th (ce x.S i)
  ·rcases t with t | t
   ·have q:At x.S (1+(i:Int)+32*(ce x.S i).Gen) i:=⟨hi,t,rfl⟩;have hm:=(a1q hR).2 ⟨i,q⟩;exact bd v (hx.sh.fl _ hm v (by rw[L5 hR q];exact hv))
   ·rw[((hx.wk i hi (.inr t)).2 t).2.1] at hv;cases hv
  ·have:=(hR.no i hi t).2.2.2.2.2;simp only[oo] at this;rw[List.eq_nil_of_length_eq_zero this] at hv;cases hv
 ·obtain⟨i,hi,rfl⟩:=List.getElem_of_mem hc;by_cases e:x.a8[i].Target=0
  ·omega
  ·obtain⟨p,hp⟩:=(hx.sh.cl i hi).2.2.2.1 e;have:=hp.rng hR;omega
 ·obtain⟨i,hi,rfl⟩:=List.getElem_of_mem hp;have e:pt x.T i=x.T[i]:=by
   unfold pt;rw[List.getD_eq_getElem?_getD,List.getElem?_eq_getElem hi];rfl
  by_cases s1:(pt x.T i).State=1
  ·obtain⟨a,b⟩:=hx.sh.pr (pt x.T i).Key (pt x.T i).Val ⟨i,⟨hi,s1,rfl⟩,rfl⟩;rw[e] at a b;exact⟨bd _ (.inr a),bd _ (.inr b)⟩
  ·obtain⟨a,b⟩:=(hx.sh.hr.st i hi).2 s1;rw[e] at a b;omega
 ·obtain⟨_,_,q | q⟩:=hx.sh.tk t ht;·exact bd _ (.inr q.2.1)
  ·omega
theorem c6e(c:Int):N3 c≤12:=by unfold N3;split <;> (try split) <;> omega
theorem c5T{c:Int}(h:c≤9223372036854775807):a2r c≤9223372036854775807:=by unfold a2r;split <;> (try split) <;> omega
theorem SL.of{x y:Hp}(h:SL x)(hl:lv y.S=lv x.S)(hs:∀k∈lv x.S,(ob y.S k).Strong=(ob x.S k).Strong):SL y:=λk hk=>by
 rw[hl] at hk;rw[hs k hk];exact h k hk
theorem SL.st{x:Hp}(h:SL x)(hR:SR x.S)(v:Int){f:Int→Int}(hf:∀c,0≤c→0≤f c)(hb:∀c,c≤9223372036854775807→f c≤9223372036854775807):SL (stO x v f):=λk hk=>by
 rw[(B7 hR v hf).lv] at hk;rw[a7y hR v hf hk];split;·exact hb _ (h k hk)
 ·exact h k hk
theorem SL.A0{x:Hp}(h:SL x)(hR:SR x.S)(v:Int):SL (A0 x v):=h.st hR v (λc=>A5) λc _=>by have:=c6e c;omega
theorem SL.rls{x:Hp}(h:SL x)(hR:SR x.S)(v:Int):SL (N5 x v):=h.st hR v (λc=>F1) λc hc=>c5T hc
theorem b9H{x:Hp}(hR:SR x.S)(v:Int):SR (N5 x v).S:=(B7 hR v λc=>F1).sr
theorem a2J{x:Hp}(hR:SR x.S)(h:SL x)(r:Nat)(v:Int):SL (A3 x r v):=by
 unfold A3;exact SL.rls (x:=wR (A0 x v) (x.Roots.set r v)) (h.A0 hR v) (a2U hR v) _
theorem c1F{x:Hp}(hR:SR x.S)(hS:SL x){h:Int}(hh:h∈lv x.S)(k:Nat)(v:Int):SL (a0K x h k v):=by
 have kin:=B7 hR v (f:=N3) λc=>A5;have hR1:SR (A0 x v).S:=kin.sr;have hl1:h∈lv (A0 x v).S:=by rw[show lv (A0 x v).S=lv x.S from kin.lv];exact hh
 have hof:(ob (A0 x v).S h).Fields=(ob x.S h).Fields:=by
  obtain⟨m,e⟩:=kin.ob h (by have:=D5 hR hh;omega);show (ob (stO x v N3).S h).Fields=_;rw[e]
 have ok:=H2 hR1 hl1;have ho:OkO (A0 x v).S (flg (ob (A0 x v).S h) ((ob x.S h).Fields.set k v)):=⟨ok.s1,ok.s2,ok.st,ok.wk,ok.p1,ok.p2,by have:=ok.fl;rw[hof] at this;simpa using this⟩;have sr2:=a0q (o:=flg (ob (A0 x v).S h) ((ob x.S h).Fields.set k v)) hR1 hl1 rfl ho;unfold a0K;refine SL.rls (x:=wS (A0 x v) (seO (A0 x v).S h (flg (ob (A0 x v).S h) ((ob x.S h).Fields.set k v)))) ?_ sr2 _;refine (hS.A0 hR v).of (a2V hR1 hl1 rfl ho) λj hj=>?_;dsimp only;rw[a2d (o:=flg (ob (A0 x v).S h) ((ob x.S h).Fields.set k v)) hR1 hl1 rfl ho (by have:=D5 hR1 hj;omega)];split;·rename_i e;rw[e]
 ·rfl
theorem c4h{x:Hp}(hR:SR x.S)(hS:SL x)(v:Int)(t:Tb)(old:Int):SL (a41 x v t old):=by
 unfold a41;exact SL.rls (x:=wT (A0 x v) t) (hS.A0 hR v) (a2U hR v) _
theorem c9q{x:Hp}(hR:SR x.S)(hS:SL x)(h:Int){d:Int}(hd:U2 x.S h (B1 h)→0≤(ce x.S (B1 h)).Val.Weak+d):SL (mkd x h d):=by
 unfold mkd;split
 ·rename_i q;exact hS.of (a5O hR q.1 q.2.1 (hd q)).lv λk hk=>a5P hR q.1 q.2.1 (hd q) hk
 ·exact hS
theorem c1p{x:Hp}(hR:SR x.S)(hS:SL x)(h:Int)(hd:U2 x.S h (B1 h)→1≤(ce x.S (B1 h)).Val.Weak):SL (a7C x h):=by
 unfold a7C;split
 ·rename_i q;have hd:=hd q;have kn:=a5O (d:=-1) hR q.1 q.2.1 (by omega);have s1:SL (wS x (mkA x.S (B1 h) (-1))):=hS.of kn.lv λk hk=>a5P hR q.1 q.2.1 (by omega) hk;split
  ·rename_i c;have hi1:B1 h<(mkA x.S (B1 h) (-1)).S.a8.length:=by rw[kn.len];exact q.1
   have hce:ce (mkA x.S (B1 h) (-1)) (B1 h)=⟨(ce x.S (B1 h)).State,(ce x.S (B1 h)).Gen,wkg (ce x.S (B1 h)).Val ((ce x.S (B1 h)).Val.Weak + -1)⟩:=by
    rw[a2Q hR q.1 q.2.1,if_pos rfl]
   have h2:(ce (mkA x.S (B1 h) (-1)) (B1 h)).State=2:=by rw[hce];exact c.1
   exact s1.of (b50 kn.sr hi1 h2) λk hk=>by
    dsimp only;rw[b51 kn.sr hi1 h2 hk]
  ·exact s1
 ·exact hS
theorem c40{x:Hp}(hx:H7 x)(hS:SL x){n:Nat}(hn:n<6)(h call:Int):SL (a1R x n h call):=by
 have hR:=hx.sh.sr;have hnl:n<x.a8.length:=by have:=hx.sh.c6;omega
 have ok:∀k i,U2 x.S k i→0≤(ce x.S i).Val.Weak:=λk i q=>(hR.ok i q.1 q.2.1).wk;have tw:∀i,U2 x.S (tgt x n) i→1≤(ce x.S i).Val.Weak:=λi q=>by
  have htg:tgt x n=x.a8[n].Target:=by
   unfold tgt;rw[List.getD_eq_getElem?_getD,List.getElem?_eq_getElem hnl];rfl
  have r:=q.rng hR;have p:=b0a hnl (by rw[←htg];omega);rw[←htg,q.2.2] at p;have:=(hx.wk i q.1 q.2.1).1;omega
 unfold a1R;have s1:SL (mkd (wC x (x.a8.set n (wcl h call))) h 1):=c9q (x:=wC x (x.a8.set n (wcl h call))) hR hS h λq=>by
  have:=ok _ _ q;dsimp only;omega
 by_cases q:U2 x.S h (B1 h)
 ·have e:mkd (wC x (x.a8.set n (wcl h call))) h 1=wS (wC x (x.a8.set n (wcl h call))) (mkA x.S (B1 h) 1):=by
   unfold mkd;rw[if_pos q]
  have hd:=ok _ _ q;have kn:=a5O (d:=1) hR q.1 q.2.1 (by omega);rw[e] at s1 ⊢;refine c1p kn.sr s1 _ λq2=>?_;dsimp only at q2 ⊢;have q3:=(kn.ad _ _).1 q2;have:=tw _ q3;rw[a2Q hR q.1 q.2.1];split
  ·rename_i e2;rw[e2] at this;show 1≤(ce x.S (B1 h)).Val.Weak+1;omega
  ·exact this
 ·have e:mkd (wC x (x.a8.set n (wcl h call))) h 1=wC x (x.a8.set n (wcl h call)):=by
   unfold mkd;rw[if_neg q]
  rw[e] at s1 ⊢;exact c1p (x:=wC x (x.a8.set n (wcl h call))) hR s1 _ λq2=>tw _ q2
section
variable{x:Hp}(hx:H7 x)(hS:SL x)
include hx hS
end
end Go.Sh
namespace Go.Sh
end Go.Sh
namespace Go.Sh
end Go.Sh
namespace Go.Sh
def c7v(x:Hp):Prop:=Sm x.S∧x.Roots.length≤20∧x.a8.length≤20∧x.T.length≤20∧x.Q.L.length≤60
instance(x:Hp):Decidable (c7v x):=by unfold c7v;infer_instance
end Go.Sh
namespace Go.Sh
def b9h:Hp:=⟨⟨⟨[],0⟩,0⟩,[],[],[],⟨[],0⟩⟩
theorem b3W(x:Hp)(h:Int)(f:Int→Int):(stO x h f).Roots=x.Roots∧(stO x h f).a8=x.a8∧(stO x h f).T=x.T∧(stO x h f).Q=x.Q:=by
 unfold stO;split <;> exact⟨rfl,rfl,rfl,rfl⟩
theorem P1(x:Hp)(r:Nat)(h:Int):(A3 x r h).Roots=x.Roots.set r h∧(A3 x r h).a8=x.a8∧(A3 x r h).T=x.T∧(A3 x r h).Q=x.Q:=by
 obtain⟨a,b,c,d⟩:=b3W (wR (A0 x h) (x.Roots.set r h)) (x.Roots.getD r 0) a2r;obtain⟨a',b',c',d'⟩:=b3W x h N3;exact⟨a,b.trans b',c.trans c',d.trans d'⟩
section
variable{x:Hp}(hB:HB x)
include hB
end
end Go.Sh
namespace Go.Sh
abbrev ded(o:l4):l4:=⟨o.Serial,0,o.Weak,o.Prog,o.Started,[]⟩
def gnC(s:a7)(i:Nat):b7:=
 if (ce s i).Val.Weak=0 then (if (ce s i).Gen=s.S.Last then ⟨3,(ce s i).Gen,z0⟩ else ⟨0,(ce s i).Gen+1,z0⟩) else ⟨2,(ce s i).Gen,ded (ce s i).Val⟩
def gnA(s:a7)(d:Int):a7:=E2 s (B1 d) (gnC s (B1 d))
def gnL(s:a7)(ds:List Int):a7:=ds.foldl gnA s
theorem c85(s:a7)(i:Nat):(gnC s i).State≠1:=by
 unfold gnC;split;·split <;> simp
 ·simp
theorem b9w{s:a7}(hR:SR s){a b:Int}(ha:a∈lv s)(hb:b∈lv s)(h:a≠b):B1 a≠B1 b:=λe=>by
 have h1:=u6 hR ha;have h2:=u6 hR hb;rw[e] at h1;exact h (h1.2.2.trans h2.2.2.symm)
section
variable{s:a7}(hR:SR s){d:Int}(hd:d∈lv s)
include hR hd
theorem b9f:SR (gnA s d):=by
 have q:=u6 hR hd;have hc:=hR.cell _ q.1;have ho:=hR.ok _ q.1 (.inl q.2.1);have no:c1r (oo z0):=⟨rfl,rfl,rfl,rfl,rfl,rfl⟩;unfold gnA gnC;split
 ·split;·exact hR.E2 q.1 ⟨by simp,by simp,hc.2.2.1,hc.2.2.2⟩ (λ_=>no) (λq=>absurd q (by unfold Th;simp))
  ·refine hR.E2 q.1 ⟨by simp,by simp,?_,?_⟩ (λ_=>no) (λq=>absurd q (by unfold Th;simp));·show 0≤(ce s (B1 d)).Gen+1;omega
   ·show (ce s (B1 d)).Gen+1≤s.S.Last;omega
 ·exact hR.E2 q.1 ⟨by simp,by simp,hc.2.2.1,hc.2.2.2⟩ (λq=>absurd (.inr rfl) q) (λ_=>⟨⟨ho.s1,ho.s2,Int.le_refl _,ho.wk,ho.p1,ho.p2,Nat.zero_le _⟩,.inl q.2.1,rfl⟩)
theorem c3r(j:Nat):ce (gnA s d) j=if j=B1 d then gnC s (B1 d) else ce s j:=H9 (u6 hR hd).1 _ j
theorem c83:lv (gnA s d)=(lv s).filter λh=>decide (h≠d):=by
 have hS:=b9f hR hd;unfold gnA at hS ⊢;have hc:=c85 s (B1 d);rw[c0J hR (u6 hR hd).1 hc hS];refine List.filter_congr λh hh=>decide_eq_decide.2 ⟨λq e=>q (by rw[e]),λq=>b9w hR hh hd q⟩
theorem c84{k:Int}(hk:k∈lv s)(hne:k≠d):ob (gnA s d) k=ob s k:=by
 have hS:=b9f hR hd;unfold gnA at hS ⊢;exact c0P hR (u6 hR hd).1 hS hk (b9w hR hk hd hne)
end
structure Gn (s s':a7) (ds:List Int):Prop where
 sr:SR s'
 len:s'.S.a8.length=s.S.a8.length
 last:s'.S.Last=s.S.Last
 T3:s'.Serial=s.Serial
 lv:lv s'=(lv s).filter λh=>decide (h∉ds)
 ob:∀k∈Sh.lv s,k∉ds→ob s' k=ob s k
 ce:∀j,ce s' j=if j∈ds.map B1 then gnC s j else ce s j
theorem a1l:∀(ds:List Int) {s:a7} (hR:SR s),ds.Nodup→(∀d∈ds,d∈lv s)→Gn s (gnL s ds) ds
 | [],s,hR,_,_=>⟨hR,rfl,rfl,rfl,(List.filter_eq_self.2 (λa _=>by simp)).symm,λ_ _ _=>rfl,λj=>by simp[gnL]⟩
 | d::ds,s,hR,hn,hm=>by
  rw[List.nodup_cons] at hn;have hd:=hm d (List.mem_cons_self ..);have hlv:=c83 hR hd;have hm':∀e∈ds,e∈lv (gnA s d):=λe he=>by
   rw[hlv,List.mem_filter,decide_eq_true_iff];exact⟨hm e (List.mem_cons_of_mem _ he),λq=>hn.1 (q▸he)⟩
  have ih:=a1l ds (b9f hR hd) hn.2 hm';refine⟨ih.sr,ih.len.trans (U1 ..),ih.last,ih.T3,?_,λk hk hne=>?_,λj=>?_⟩
  ·show lv (gnL (gnA s d) ds)=_;rw[ih.lv,hlv,List.filter_filter];refine List.filter_congr λh hh=>?_;rw[Bool.eq_iff_iff];simp only[Bool.and_eq_true,decide_eq_true_iff,List.mem_cons,not_or];exact⟨λq=>⟨q.2,q.1⟩,λq=>⟨q.2,q.1⟩⟩
  ·show ob (gnL (gnA s d) ds) k=_;rw[List.mem_cons,not_or] at hne;rw[ih.ob k (by rw[hlv,List.mem_filter,decide_eq_true_iff];exact⟨hk,hne.1⟩) hne.2,c84 hR hd hk hne.1]
  ·show ce (gnL (gnA s d) ds) j=_;have hg:∀e∈ds,B1 e≠B1 d:=λe he=>b9w hR (hm e (List.mem_cons_of_mem _ he)) hd λq=>hn.1 (q▸he);rw[ih.ce];by_cases h1:j∈ds.map B1
   ·obtain⟨e,he,rfl⟩:=List.mem_map.1 h1;rw[if_pos h1,if_pos (by rw[List.map_cons];exact List.mem_cons_of_mem _ h1)];unfold gnC;rw[c3r hR hd,if_neg (hg e he)];rfl
   ·rw[if_neg h1,c3r hR hd,List.map_cons];by_cases h2:j=B1 d
    ·subst h2;rw[if_pos rfl,if_pos (List.mem_cons_self ..)]
    ·rw[if_neg h2,if_neg];rw[List.mem_cons];exact λq=>q.elim h2 h1
theorem b5r{α:Type}(p:α→Bool)(f:α→Nat):∀l:List α,(l.map f).sum=((l.filter p).map f).sum+((l.filter λx => !p x).map f).sum
 | []=>rfl
 | x::l=>by
  rw[List.map_cons,List.sum_cons,b5r p f l,List.filter_cons,List.filter_cons];cases p x <;> simp <;> omega
theorem b8w(f:Int→List Int)(y:Int):∀l:List Int,W0 (l.flatMap f) y=(l.map λx=>W0 (f x) y).sum
 | []=>M9 y
 | x::l=>by rw[List.flatMap_cons,H6,b8w f y l,List.map_cons,List.sum_cons]
theorem Gn.inn{s s':a7}{ds:List Int}(hR:SR s)(hn:ds.Nodup)(hm:∀d∈ds,d∈Sh.lv s)(g:Gn s s' ds)(y:Int):inn s' y+W0 (ds.flatMap (outs s)) y=inn s y:=by
 unfold Sh.inn;rw[g.lv,b5r (λh=>decide (h∉ds)) (λx=>W0 (outs s x) y) (Sh.lv s),b8w];have h1:((Sh.lv s).filter λh=>decide (h∉ds)).map (λx=>W0 (outs s' x) y)=((Sh.lv s).filter λh=>decide (h∉ds)).map λx=>W0 (outs s x) y:=List.map_congr_left λx hx=>by
  rw[List.mem_filter,decide_eq_true_iff] at hx;unfold Sh.outs;rw[g.ob x hx.1 hx.2]
 have h2:((Sh.lv s).filter λx => !decide (x∉ds)).Perm ds:=by
  rw[List.perm_ext_iff_of_nodup ((a96 (p6.2 hR)).filter _) hn];intro a;rw[List.mem_filter];simp only[decide_not,Bool.not_not,decide_eq_true_iff];exact⟨λq=>q.2,λq=>⟨hm a q,q⟩⟩
 rw[h1,(h2.map λx=>W0 (outs s x) y).sum_nat]
theorem b7R{L:List g8}(hd:L.Pairwise λa b=>¬(a.Kind=b.Kind∧a.At=b.At))(k:Int):((L.filter (·.Kind==k)).map (·.At)).Nodup:=by
 unfold List.Nodup;rw[List.pairwise_map];refine (hd.filter _).imp_of_mem λ{a b} ha hb h e=>?_;rw[List.mem_filter,beq_iff_eq] at ha hb;exact h ⟨ha.2.trans hb.2.symm,e⟩
theorem b3X{L:List g8}{m:List Int}(hd:L.Pairwise λa b=>¬(a.Kind=b.Kind∧a.At=b.At))(h:∀t∈L,(t.Kind=1∧t.At∈m)∨(t.Kind=2∧0≤t.At∧t.At≤5)):L.length≤m.length+6:=by
 have h1:L.length=(L.filter (·.Kind==1)).length+(L.filter (·.Kind==2)).length:=by
  rw[a9I (λt:g8=>t.Kind==1) L];congr 2;refine List.filter_congr λt ht=>?_;rcases h t ht with q | q
  ·simp[q.1]
  ·simp[q.1]
 have h2:=a3J (b7R hd 1) (m:=m) λa ha=>by
  obtain⟨t,ht,rfl⟩:=List.mem_map.1 ha;rw[List.mem_filter,beq_iff_eq] at ht;rcases h t ht.1 with q | q
  ·exact q.2
  ·omega
 have h3:=a3J (b7R hd 2) (m:=[0,1,2,3,4,5]) λa ha=>by
  obtain⟨t,ht,rfl⟩:=List.mem_map.1 ha;rw[List.mem_filter,beq_iff_eq] at ht;rcases h t ht.1 with q | q
  ·omega
  ·simp only[List.mem_cons,List.not_mem_nil,or_false];omega
 rw[List.length_map] at h2 h3;simp only[List.length_cons,List.length_nil] at h3;omega
theorem a4x{q:TQ}{w:Int}:wts q w=true↔∃t∈q.L,t.Kind=2∧t.At=w:=by
 unfold wts;rw[List.any_eq_true];simp
theorem a99{q:TQ}{h:Int}:h∈b3b q↔∃t∈q.L,t.Kind=1∧t.At=h:=by
 unfold b3b;rw[List.mem_map];simp only[List.mem_filter,beq_iff_eq];exact⟨λ⟨t,⟨a,b⟩,c⟩=>⟨t,a,b,c⟩,λ⟨t,a,b,c⟩=>⟨t,⟨a,b⟩,c⟩⟩
abbrev cz:c5:=⟨0,false,0⟩
def Z4(ds:List Int)(c:c5):Bool:=c.Intact&&c.Target != 0&&decide (c.Target∈ds)
def a3v(ds:List Int)(c:c5):c5:=if Z4 ds c then ⟨c.Target,false,c.Call⟩ else c
def clr(l:List c5)(ds:List Int):List c5:=l.map (a3v ds)
def cls(l:List c5)(ds:List Int):List Nat:=(List.range l.length).filter λw=>Z4 ds (l.getD w cz)&&decide (0≤(l.getD w cz).Call)
def clt(l:List c5)(ds:List Int):List g8:=(cls l ds).map λ(w:Nat)=>⟨2,(w:Int),(l.getD w cz).Call⟩
theorem b5I(ds:List Int)(c:c5):(a3v ds c).Target=c.Target∧(a3v ds c).Call=c.Call∧((a3v ds c).Intact=true↔c.Intact=true∧Z4 ds c=false):=by
 unfold a3v;cases h:Z4 ds c
 ·rw[if_neg (by simp)];simp
 ·rw[if_pos rfl];simp
theorem c6t(l:List c5)(ds:List Int)(h:Int):nmg (clr l ds) h=nmg l h:=by
 unfold nmg clr;rw[List.countP_map];congr 1;funext c
 simp only[Function.comp_apply,(b5I ds c).1]
theorem a26{l:List c5}{ds:List Int}{t:g8}:t∈clt l ds↔∃w,∃hw:w<l.length,t=⟨2,(w:Int),l[w].Call⟩∧Z4 ds l[w]=true∧0≤l[w].Call:=by
 unfold clt cls;rw[List.mem_map];constructor
 ·rintro⟨w,hw,rfl⟩;rw[List.mem_filter,List.mem_range] at hw;obtain⟨h1,h2⟩:=hw;have e:l.getD w cz=l[w]:=by rw[List.getD_eq_getElem?_getD,List.getElem?_eq_getElem h1];rfl
  rw[e] at h2 ⊢;rw[Bool.and_eq_true,decide_eq_true_iff] at h2;exact⟨w,h1,rfl,h2.1,h2.2⟩
 ·rintro⟨w,hw,rfl,h2,h3⟩;have e:l.getD w cz=l[w]:=by rw[List.getD_eq_getElem?_getD,List.getElem?_eq_getElem hw];rfl
  refine⟨w,?_,by rw[e]⟩;rw[List.mem_filter,List.mem_range,e,Bool.and_eq_true,decide_eq_true_iff];exact⟨hw,h2,h3⟩
theorem b4K(l:List c5)(ds:List Int):(clt l ds).Pairwise λa b=>¬(a.Kind=b.Kind∧a.At=b.At):=by
 unfold clt cls;rw[List.pairwise_map];refine (List.Pairwise.filter _ (List.nodup_range (n:=l.length))).imp λ{a b} h=>?_;rintro⟨_,e⟩;dsimp only at e;omega
end Go.Sh
namespace Go.Sh
def a23(x:Hp)(ds:List Int)(t:Tb):Hp:=⟨gnL x.S ds,x.Roots,clr x.a8 ds,t,⟨x.Q.L++clt x.a8 ds,x.Q.Cap⟩⟩
theorem b3c(q:TQ)(l:List g8)(c:Int)(h:∀t∈l,t.Kind≠1):b3b ⟨q.L++l,c⟩=b3b q:=by
 unfold b3b;dsimp only;rw[List.filter_append];have:l.filter (λt=>t.Kind==1) = []:=by
  rw[List.filter_eq_nil_iff];intro t ht;simpa using h t ht
 rw[this,List.append_nil]
theorem c1x{x:Hp}(hx:H7 x){ds:List Int}(hn:ds.Nodup)(hm:∀d∈ds,d∈lv x.S)
  (ho:∀d∈ds,d∉otr x)(hf:∀h∈lv x.S,h∉ds→∀v∈(ob x.S h).Fields,v∉ds)(hp:∀k v,Has x.T k v→k∉ds→v∉ds)
  {t:Tb}{vals:List Int}(ht:HR t)(h1:∀k v,Has t k v↔k∉ds∧Has x.T k v)(h2:∀y,own t y+W0 vals y=own x.T y) :
  HpS (a23 x ds t)∧Wk (a23 x ds t)∧a0X (a23 x ds t) (ds.flatMap (outs x.S)++vals):=by
 have hS:=hx.sh;have hR:=hS.sr;have g:=a1l ds hR hn hm;have hlv:∀h,h∈lv (gnL x.S ds)↔h∈lv x.S∧h∉ds:=λh=>by rw[g.lv,List.mem_filter,decide_eq_true_iff]
 have hlen:(lv x.S).length≤24:=D4 (p6.2 hR);have hcl:∀w (hw:w<x.a8.length),Z4 ds x.a8[w]=true→x.a8[w].Intact=true:=λw hw q=>by
  unfold Z4 at q;rw[Bool.and_eq_true,Bool.and_eq_true] at q;exact q.1.1
 have htd:(x.Q.L++clt x.a8 ds).Pairwise λa b=>¬(a.Kind=b.Kind∧a.At=b.At):=by
  rw[List.pairwise_append];refine⟨hS.td,b4K ..,λa ha b hb q=>?_⟩;obtain⟨w,hw,rfl,hh,_⟩:=a26.1 hb;have:=((hS.cl w hw).2.2.2.2 (hcl w hw hh)).2;rw[Bool.eq_false_iff] at this;exact this (a4x.2 ⟨a,ha,q.1,q.2⟩)
 have htk:∀t∈x.Q.L++clt x.a8 ds,0≤t.Prog∧t.Prog≤5∧((t.Kind=1∧t.At∈lv (gnL x.S ds)∧(ob (gnL x.S ds) t.At).Started=true)∨(t.Kind=2∧0≤t.At∧t.At≤5)):=λt htt=>by
  rcases List.mem_append.1 htt with q | q
  ·obtain⟨a,b,c⟩:=hS.tk t q;refine⟨a,b,?_⟩;rcases c with ⟨c1,c2,c3⟩ | c
   ·have hnd:t.At∉ds:=λhd=>ho _ hd (List.mem_append.2 (.inr (a99.2 ⟨t,q,c1,rfl⟩)));exact .inl ⟨c1,(hlv _).2 ⟨c2,hnd⟩,by rw[g.ob _ c2 hnd];exact c3⟩
   ·exact .inr c
  ·obtain⟨w,hw,rfl,hh,hc⟩:=a26.1 q;have c6:=hS.c6;have:=(hS.cl w hw).2.1;exact⟨hc,this,.inr ⟨rfl,by dsimp only;omega,by dsimp only;omega⟩⟩
 have hq30:(x.Q.L++clt x.a8 ds).length≤30:=by
  have:=b3X (m:=lv x.S) htd λt htt=>by
   rcases (htk t htt).2.2 with q | q
   ·exact .inl ⟨q.1,((hlv _).1 q.2.1).1⟩
   ·exact .inr q
  omega
 have hwts:∀i:Nat,wts x.Q i=false→(∀hi:i<x.a8.length,Z4 ds x.a8[i]=false)→wts ⟨x.Q.L++clt x.a8 ds,x.Q.Cap⟩ i=false:=λi q1 q2=>by
  rw[Bool.eq_false_iff] at q1 ⊢;intro q;obtain⟨t,ht,a,b⟩:=a4x.1 q;rcases List.mem_append.1 ht with c | c
  ·exact q1 (a4x.2 ⟨t,c,a,b⟩)
  ·obtain⟨w,hw,rfl,hh,_⟩:=a26.1 c;dsimp only at b;have:w=i:=by omega
   subst this;rw[q2 hw] at hh;cases hh
 refine⟨⟨g.sr,ht,hS.r6,?_,hS.cap,hq30,htk,htd,λh hh=>?_,λh hh v hv=>?_,λk v hkv=>?_,λi hi=>?_⟩,λi hi hti=>?_,λh hh hlt=>?_⟩
 ·unfold a23 clr;rw[List.length_map];exact hS.c6
 ·rcases hS.rt h hh with q | q
  ·exact .inl q
  ·have h0:h≠0:=λe=>a5N hR (e▸q);exact .inr ((hlv h).2 ⟨q,λhd=>ho h hd (List.mem_append.2 (.inl (a5S.2 ⟨hh,h0⟩)))⟩)
 ·obtain⟨a,b⟩:=(hlv h).1 hh;have hv':v∈(ob x.S h).Fields:=by
   have e:=g.ob h a b;unfold a23 at hv;rwa [e] at hv
  rcases hS.fl h a v hv' with q | q
  ·exact .inl q
  ·exact .inr ((hlv v).2 ⟨q,hf h a b v hv'⟩)
 ·obtain⟨a,b⟩:=(h1 k v).1 hkv;obtain⟨c,d⟩:=hS.pr k v b;exact⟨(hlv k).2 ⟨c,a⟩,(hlv v).2 ⟨d,hp k v b a⟩⟩
 ·have hi':i<x.a8.length:=by
   unfold a23 clr at hi;simpa using hi
  have e:(a23 x ds t).a8[i]=a3v ds x.a8[i]:=List.getElem_map _;obtain⟨a1,a2,a3,a4,a5⟩:=hS.cl i hi';obtain⟨b1,b2,b3⟩:=b5I ds x.a8[i];rw[e,b1,b2];refine⟨a1,a2,λq=>?_,λq=>?_,λq=>?_⟩
  ·rw[Bool.eq_false_iff];intro q2;rw[a3 q] at b3;exact absurd (b3.1 q2).1 (by decide)
  ·obtain⟨p,hp1,hp2,hp3⟩:=a4 q;refine⟨p,by show p<(gnL x.S ds).S.a8.length;rw[g.len];exact hp1,?_⟩;show Th (ce (gnL x.S ds) p)∧_=1+(p:Int)+32*(ce (gnL x.S ds) p).Gen;rw[g.ce];split
   ·have hw:=(hx.wk p hp1 hp2).1;have:=b0a hi' q;rw[hp3] at this;unfold gnC;rw[if_neg (by omega)];exact⟨.inr rfl,hp3⟩
   ·exact⟨hp2,hp3⟩
  ·obtain⟨c1,c2⟩:=b3.1 q;obtain⟨d1,d2⟩:=a5 c1;have h0:x.a8[i].Target≠0:=λe=>a5N hR (e▸d1);refine⟨(hlv _).2 ⟨d1,λhd=>?_⟩,hwts i d2 λ_=>c2⟩;have:Z4 ds x.a8[i]=true:=by
    unfold Z4;simp[c1,h0,hd]
   rw[this] at c2;cases c2
 ·have hi':i<x.S.S.a8.length:=by
   have:=g.len;have hi:i<(gnL x.S ds).S.a8.length:=hi;omega
  show (ce (gnL x.S ds) i).Val.Weak=(nmg (clr x.a8 ds) (1+(i:Int)+32*(ce (gnL x.S ds) i).Gen):Int)∧((ce (gnL x.S ds) i).State=2→_);have hti':Th (ce (gnL x.S ds) i):=hti;show _∧((ce (gnL x.S ds) i).State=2→1≤(ce (gnL x.S ds) i).Val.Weak∧(ce (gnL x.S ds) i).Val.Fields = []∧(ce (gnL x.S ds) i).Val.Strong=0);rw[c6t];rw[g.ce] at hti' ⊢;split
  ·rename_i q;rw[if_pos q] at hti';obtain⟨d,hd,rfl⟩:=List.mem_map.1 q;have hp:=u6 hR (hm d hd);have hw:=(hx.wk _ hi' (.inl hp.2.1)).1;unfold gnC at hti' ⊢;split at hti'
   ·exfalso;unfold Th at hti';split at hti' <;> simp at hti'
   ·rename_i q2;rw[if_neg q2];have:=(hR.ok _ hi' (.inl hp.2.1)).wk;exact⟨hw,λ_=>⟨by dsimp only;omega,rfl,rfl⟩⟩
  ·rename_i q;rw[if_neg q] at hti';exact hx.wk i hi' hti'
 ·obtain⟨a,b⟩:=(hlv h).1 hh;have e:=g.ob h a b;have e':ob (a23 x ds t).S h=ob x.S h:=e;rw[e'] at hlt ⊢;have hf:=hx.fair h a hlt;rw[M9] at hf;rw[hf];have i1:=g.inn hR hn hm h;have i2:=h2 h;have i3:b3b ⟨x.Q.L++clt x.a8 ds,x.Q.Cap⟩=b3b x.Q:=b3c _ _ _ λt ht=>by
   obtain⟨w,_,rfl,_⟩:=a26.1 ht;simp
  unfold nms otr a23;dsimp only;rw[i3,H6 (ds.flatMap (outs x.S)),H6];omega
theorem b3M:∀(l:List Int) {x:Hp},HpS x→Wk x→a0X x l→H7 (l.foldl N5 x)
 | [],x,h1,h2,h3=>⟨h1,h2,h3⟩
 | v::l,x,h1,h2,h3=>b3M l (h1.st v λc=>F1) (h2.st h1.sr v λc=>F1) (b0o h1.sr h3)
abbrev srt(o:l4):l4:=⟨o.Serial,o.Strong,o.Weak,o.Prog,true,o.Fields⟩
abbrev qtk(x:Hp)(h:Int):g8:=⟨1,h,(ob x.S h).Prog⟩
noncomputable def quH(x:Hp)(h:Int):Hp:=A0 ⟨seO x.S h (srt (ob x.S h)),x.Roots,x.a8,x.T,⟨x.Q.L ++ [qtk x h],x.Q.Cap⟩⟩ h
theorem b1a{x:Hp}(hx:H7 x){h:Int}(hh:h∈lv x.S)(hp:0≤(ob x.S h).Prog)(hs:(ob x.S h).Started=false):H7 (quH x h):=by
 have hS:=hx.sh;have hR:=hS.sr;have oko:=H2 hR hh;have ho:OkO x.S (srt (ob x.S h)):=⟨oko.s1,oko.s2,oko.st,oko.wk,oko.p1,oko.p2,oko.fl⟩;have r1:=a0q (o:=srt (ob x.S h)) hR hh rfl ho;have l1:=a2V (o:=srt (ob x.S h)) hR hh rfl ho;have o1:∀j,j∈lv x.S→ob (seO x.S h (srt (ob x.S h))) j=if j=h then srt (ob x.S h) else ob x.S j:=λj hj=>by
  have:=D5 hR hj;exact a2d (o:=srt (ob x.S h)) hR hh rfl ho (by omega)
 have hlen:(lv x.S).length≤24:=D4 (p6.2 hR);have s1:HpS (wS x (seO x.S h (srt (ob x.S h)))):=hS.of r1 l1 (λk i q=>(b9P (o:=srt (ob x.S h)) hR hh rfl ho).2 q) (λk hk q=>by
  rw[o1 k hk];split;·rfl
  ·exact q) λk hk v hv=>by
  rw[o1 k hk] at hv;split at hv;·rename_i e;subst e;exact hS.fl k hk v hv
  ·exact hS.fl k hk v hv
 have w1:Wk (wS x (seO x.S h (srt (ob x.S h)))):=λi hi ht=>by
  have J9:=u6 hR hh;have hc:=b6K (o:=srt (ob x.S h)) hR hh rfl ho i;dsimp only at hi ht ⊢;rw[hc] at ht ⊢;have hi':i<x.S.S.a8.length:=by unfold seO at hi;rwa [K0] at hi
  split at ht
  ·rename_i e;subst e;rw[if_pos rfl];dsimp only;have:=hx.wk _ hi' (.inl J9.2.1);rw[L5 hR J9];exact⟨this.1,λq=>absurd q (by rw[J9.2.1];decide)⟩
  ·rename_i e;rw[if_neg e];exact hx.wk i hi' ht
 have htd:(x.Q.L ++ [qtk x h]).Pairwise λa b=>¬(a.Kind=b.Kind∧a.At=b.At):=by
  rw[List.pairwise_append];refine⟨hS.td,by simp,λa ha b hb q=>?_⟩;rw[List.mem_singleton] at hb;subst hb;dsimp only at q;rcases (hS.tk a ha).2.2 with c | c
  ·rw[q.2,hs] at c;exact absurd c.2.2 (by decide)
  ·omega
 have htk:∀t∈x.Q.L ++ [qtk x h],0≤t.Prog∧t.Prog≤5∧((t.Kind=1∧t.At∈lv (seO x.S h (srt (ob x.S h)))∧(ob (seO x.S h (srt (ob x.S h))) t.At).Started=true)∨(t.Kind=2∧0≤t.At∧t.At≤5)):=λt ht=>by
  rcases List.mem_append.1 ht with q | q
  ·exact s1.tk t q
  ·rw[List.mem_singleton] at q;subst q;refine⟨hp,oko.p2,.inl ⟨rfl,by rw[l1];exact hh,?_⟩⟩;dsimp only;rw[o1 h hh,if_pos rfl]
 have hq30:(x.Q.L ++ [qtk x h]).length≤30:=by
  have:=b3X (m:=lv x.S) htd λt ht=>by
   rcases (htk t ht).2.2 with q | q
   ·exact .inl ⟨q.1,by rw[←l1];exact q.2.1⟩
   ·exact .inr q
  omega
 have s2:HpS ⟨seO x.S h (srt (ob x.S h)),x.Roots,x.a8,x.T,⟨x.Q.L ++ [qtk x h],x.Q.Cap⟩⟩:=by
  refine⟨s1.sr,s1.hr,s1.r6,s1.c6,s1.cap,hq30,htk,htd,s1.rt,s1.fl,s1.pr,λi hi=>?_⟩;obtain⟨a,b,c,d,e⟩:=s1.cl i hi;refine⟨a,b,c,d,λq=>⟨(e q).1,?_⟩⟩;have:=(e q).2;rw[Bool.eq_false_iff] at this ⊢;intro q2;obtain⟨t,ht,k1,k2⟩:=a4x.1 q2;rcases List.mem_append.1 ht with q3 | q3
  ·exact this (a4x.2 ⟨t,q3,k1,k2⟩)
  ·rw[List.mem_singleton] at q3;subst q3;dsimp only at k1;omega
 have w2:Wk ⟨seO x.S h (srt (ob x.S h)),x.Roots,x.a8,x.T,⟨x.Q.L ++ [qtk x h],x.Q.Cap⟩⟩:=w1;refine⟨s2.st h λc=>A5,w2.st s2.sr h λc=>A5,λk hk hlt=>?_⟩;have hk':k∈lv x.S:=by
  have:lv (quH x h).S=lv x.S:=(B7 s2.sr h λc=>A5).lv.trans l1;rw[←this];exact hk
 have hst:(ob (quH x h).S k).Strong=if k=h then N3 (ob x.S k).Strong else (ob x.S k).Strong:=by
  have:=a7y (x:=⟨seO x.S h (srt (ob x.S h)),x.Roots,x.a8,x.T,⟨x.Q.L ++ [qtk x h],x.Q.Cap⟩⟩) s2.sr h (f:=N3) (λc=>A5) (k:=k) (by rw[←l1] at hk';exact hk');refine Eq.trans this ?_;dsimp only;rw[o1 k hk'];by_cases e:k=h
  ·subst e;rw[if_pos rfl,if_pos rfl,if_pos rfl]
  ·rw[if_neg e,if_neg e,if_neg e]
 have hnm:nms (quH x h) k=nms x k+if k=h then 1 else 0:=by
  have:=b2z (x:=⟨seO x.S h (srt (ob x.S h)),x.Roots,x.a8,x.T,⟨x.Q.L ++ [qtk x h],x.Q.Cap⟩⟩) s2.sr h (f:=N3) (λc=>A5) k;refine Eq.trans this ?_;have hi:=c0A (o:=srt (ob x.S h)) hR hh rfl ho k;dsimp only at hi;have h0:k≠0:=λe=>a5N hR (e▸hk');unfold nms otr b3b;dsimp only;rw[List.filter_append,List.map_append,H6,H6,H6];have:W0 (List.map (·.At) (List.filter (λt:g8=>t.Kind==1) [qtk x h])) k=if k=h then 1 else 0:=by
   show W0 [h] k=_;rw[D8,M9];by_cases e:k=h
   ·rw[if_pos ⟨e.symm,h0⟩,if_pos e]
   ·rw[if_neg (λq=>e q.1.symm),if_neg e]
  rw[this];omega
 rw[hst] at hlt ⊢;rw[hnm,M9];have hpos:=(H2 hR hk').st;by_cases e:k=h
 ·rw[if_pos e] at hlt ⊢;rw[if_pos e];have:=hx.fair k hk' (by unfold N3 at hlt;split at hlt <;> omega);rw[M9] at this;unfold N3 at hlt ⊢;split at hlt;·omega
  ·rename_i q;rw[if_neg q,if_neg (by omega)];omega
 ·rw[if_neg e] at hlt ⊢;rw[if_neg e];have:=hx.fair k hk' hlt;rw[M9] at this;exact this
end Go.Sh
namespace Go.Sh
noncomputable def zr(x:Hp):List Int:=(lv x.S).filter λh=>(ob x.S h).Strong==0
theorem Z0{x:Hp}{h:Int}:h∈zr x↔h∈lv x.S∧(ob x.S h).Strong=0:=by
 unfold zr;rw[List.mem_filter,beq_iff_eq]
theorem b63{x:Hp}(hx:H7 x){z:Int}(hz:z∈zr x):nms x z=0:=by
 obtain⟨a,b⟩:=Z0.1 hz;have:=hx.fair z a (by omega);rw[M9] at this;omega
theorem b8x{l:List Int}{h:Int}(h0:h≠0)(e:W0 l h=0):h∉l:=λq=>by
 have:=a1H.2 ⟨h0,q⟩;omega
theorem c3E{α:Type}(f:α→Nat):∀ {l:List α} {a:α},a∈l→f a≤(l.map f).sum
 | b::l,a,h=>by
  rw[List.map_cons,List.sum_cons];rcases List.mem_cons.1 h with e | e
  ·subst e;omega
  ·have:=c3E f e;omega
theorem b56{s:a7}{a y:Int}(ha:a∈lv s):W0 (outs s a) y≤inn s y:=c3E (λx=>W0 (outs s x) y) ha
theorem b6l{t:Tb}{k v:Int}(h:Has t k v)(h0:v≠0):0<own t v:=List.countP_pos_iff.2 ⟨⟨k,v⟩,a27.2 h,by simp[h0]⟩
def wot(t:Tb)(ks:List Int):Tb × List Int:=(L6 t ks).getD (t,[])
theorem a3Y{t:Tb}(hT:HR t)(ks:List Int)(hks:ks.length≤1000):L6 t ks=some (wot t ks)∧HR (wot t ks).1∧(wot t ks).2.length≤ks.length∧a4q (t.map J9) ks=some ((wot t ks).1.map J9,(wot t ks).2) ∧
  (∀k v,Has (wot t ks).1 k v↔k∉ks∧Has t k v)∧∀y,own (wot t ks).1 y+W0 (wot t ks).2 y=own t y:=by
 obtain⟨a,had,h1,h2,h3,h4,h5,h6,h7,h8,h9⟩:=b8G hT ks hks;have:wot t ks=(a,had):=by unfold wot;rw[h1];rfl
 rw[this];exact⟨h1,h2,h4,h5,h6,h9⟩
noncomputable def buH(x:Hp)(ds:List Int):Hp:=(ds.flatMap (outs x.S)++(wot x.T ds).2).foldl N5 (a23 x ds (wot x.T ds).1)
theorem a3R:∀(l:List Int) {x:Hp},SR x.S→Kin x.S (l.foldl N5 x).S∧l.foldl N5 x=wS x (l.foldl N5 x).S
 | [],x,h=>⟨Kin.refl h,rfl⟩
 | v::l,x,h=>by
  have k1:=B7 h v (f:=a2r) λc=>F1;obtain⟨k2,e⟩:=a3R l (x:=N5 x v) k1.sr;refine⟨k1.trans k2,?_⟩;show l.foldl N5 (N5 x v)=wS x (l.foldl N5 (N5 x v)).S;rw[e,c92 x v]
theorem b4H{x:Hp}(hx:H7 x){ds:List Int}(hn:ds.Nodup)(hm:∀d∈ds,d∈lv x.S)
  (ho:∀d∈ds,d∉otr x)(hf:∀h∈lv x.S,h∉ds→∀v∈(ob x.S h).Fields,v∉ds)(hp:∀k v,Has x.T k v→k∉ds→v∉ds):H7 (buH x ds):=by
 have hl:ds.length≤24:=Nat.le_trans (a3J hn hm) (D4 (p6.2 hx.sh.sr));obtain⟨_,w1,_,_,w2,w3⟩:=a3Y hx.sh.hr ds (by omega);obtain⟨a,b,c⟩:=c1x hx hn hm ho hf hp w1 w2 w3;exact b3M _ a b c
theorem b2N{x:Hp}(hR:SR x.S){ds:List Int}(hn:ds.Nodup)(hm:∀d∈ds,d∈lv x.S):lv (buH x ds).S=(lv x.S).filter λh=>decide (h∉ds):=by
 have g:=a1l ds hR hn hm;exact (a3R (ds.flatMap (outs x.S)++(wot x.T ds).2) (x:=a23 x ds (wot x.T ds).1) g.sr).1.lv.trans g.lv
theorem b2O{x:Hp}(hR:SR x.S){ds:List Int}(hn:ds.Nodup)(hm:∀d∈ds,d∈lv x.S){k:Int}(hk:k∈lv x.S)(hd:k∉ds):∃n,ob (buH x ds).S k=stg (ob x.S k) n:=by
 have g:=a1l ds hR hn hm;have hr:=D5 hR hk;obtain⟨n,e⟩:=(a3R (ds.flatMap (outs x.S)++(wot x.T ds).2) (x:=a23 x ds (wot x.T ds).1) g.sr).1.ob k (by omega);refine⟨n,?_⟩;have e':ob (buH x ds).S k=_:=e;have g':ob (a23 x ds (wot x.T ds).1).S k=ob x.S k:=g.ob k hk hd;rw[e',g']
theorem a3u{x:Hp}(hR:SR x.S){ds:List Int}(hn:ds.Nodup)(hm:∀d∈ds,d∈lv x.S):(buH x ds).Roots=x.Roots∧(buH x ds).a8=clr x.a8 ds∧(buH x ds).T=(wot x.T ds).1∧(buH x ds).Q=⟨x.Q.L++clt x.a8 ds,x.Q.Cap⟩:=by
 have g:=a1l ds hR hn hm;have e:=(a3R (ds.flatMap (outs x.S)++(wot x.T ds).2) (x:=a23 x ds (wot x.T ds).1) g.sr).2;have e':buH x ds=wS (a23 x ds (wot x.T ds).1) (buH x ds).S:=e;rw[e'];exact⟨rfl,rfl,rfl,rfl⟩
theorem b4a{x:Hp}(hx:H7 x){z:Int}(hz:z∈zr x):H7 (buH x [z]):=by
 obtain⟨a,b⟩:=Z0.1 hz;have h0:z≠0:=λe=>a5N hx.sh.sr (e▸a);have hn:=b63 hx hz;unfold nms at hn;refine b4H hx (by simp) (by simpa using a) (λd hd=>?_) (λh hh hne v hv q=>?_) (λk v hkv _ q=>?_)
 ·rw[List.mem_singleton] at hd;subst hd;exact b8x h0 (by omega)
 ·rw[List.mem_singleton] at q;subst q;have:=b56 (y:=v) hh;have h1:=a1H.2 ⟨h0,show v∈outs x.S h from a5S.2 ⟨hv,h0⟩⟩;omega
 ·rw[List.mem_singleton] at q;subst q;have:=b6l hkv h0;omega
def due(o:l4):Bool:=decide (0≤o.Prog) && !o.Started
noncomputable def stp(x:Hp):Hp:=match zr x with
 | []=>x
 | z::_=>if due (ob x.S z) then quH x z else buH x [z]
noncomputable def stN:Nat→Hp→Hp
 | 0,x=>x
 | n+1,x=>stN n (stp x)
theorem a0A(n:Nat)(x:Hp):stN (n+1) x=stp (stN n x):=by
 induction n generalizing x with
 | zero=>rfl
 | succ n ih=>exact ih (stp x)
theorem a6e{x:Hp}(h:zr x = []):stp x=x:=by unfold stp;rw[h]
theorem a1G{x:Hp}{z:Int}{l:List Int}(h:zr x=z::l):stp x=if due (ob x.S z) then quH x z else buH x [z]:=by unfold stp;rw[h]
theorem c2f{x:Hp}(hx:H7 x):H7 (stp x):=by
 cases h:zr x with
 | nil=>rw[a6e h];exact hx
 | cons z l=>
  have hz:z∈zr x:=by rw[h];exact List.mem_cons_self ..
  rw[a1G h];split
  ·rename_i q;unfold due at q;rw[Bool.and_eq_true,decide_eq_true_iff,Bool.not_eq_true'] at q;exact b1a hx (Z0.1 hz).1 q.1 q.2
  ·exact b4a hx hz
theorem U9{x:Hp}(hx:H7 x)(n:Nat):H7 (stN n x):=by
 induction n with
 | zero=>exact hx
 | succ n ih=>rw[a0A];exact c2f ih
section
variable{x:Hp}(hR:SR x.S){h:Int}(hh:h∈lv x.S)
include hR hh
theorem a29:Kin (seO x.S h (srt (ob x.S h))) (quH x h).S∧(quH x h).Roots=x.Roots∧(quH x h).a8=x.a8∧(quH x h).T=x.T∧(quH x h).Q=⟨x.Q.L ++ [qtk x h],x.Q.Cap⟩:=by
 have oko:=H2 hR hh;have r1:=a0q (o:=srt (ob x.S h)) hR hh rfl ⟨oko.s1,oko.s2,oko.st,oko.wk,oko.p1,oko.p2,oko.fl⟩;refine⟨B7 (x:=⟨seO x.S h (srt (ob x.S h)),x.Roots,x.a8,x.T,⟨x.Q.L ++ [qtk x h],x.Q.Cap⟩⟩) r1 h λc=>A5,?_⟩;have e:quH x h=wS ⟨seO x.S h (srt (ob x.S h)),x.Roots,x.a8,x.T,⟨x.Q.L ++ [qtk x h],x.Q.Cap⟩⟩ (quH x h).S:=b1n _ h;rw[e];exact⟨rfl,rfl,rfl,rfl⟩
theorem b3w:lv (quH x h).S=lv x.S:=by
 have oko:=H2 hR hh;exact (a29 hR hh).1.lv.trans (a2V (o:=srt (ob x.S h)) hR hh rfl ⟨oko.s1,oko.s2,oko.st,oko.wk,oko.p1,oko.p2,oko.fl⟩)
theorem b3x{k:Int}(hk:k∈lv x.S):∃n,ob (quH x h).S k=stg (if k=h then srt (ob x.S h) else ob x.S k) n:=by
 have oko:=H2 hR hh;have hr:=D5 hR hk;obtain⟨n,e⟩:=(a29 hR hh).1.ob k (by omega);refine⟨n,?_⟩;rw[e,a2d (o:=srt (ob x.S h)) hR hh rfl ⟨oko.s1,oko.s2,oko.st,oko.wk,oko.p1,oko.p2,oko.fl⟩ (by omega)]
end
noncomputable def mu(x:Hp):Nat:=(lv x.S).length+((lv x.S).filter λh => !(ob x.S h).Started).length
theorem c7S{x:Hp}(hR:SR x.S):mu x≤48:=by
 have h1:(lv x.S).length≤24:=D4 (p6.2 hR);have h2:((lv x.S).filter λh => !(ob x.S h).Started).length≤(lv x.S).length:=List.length_filter_le ..;unfold mu;omega
theorem c4T{x:Hp}(hx:H7 x)(h:zr x ≠ []):mu (stp x)<mu x:=by
 cases hz:zr x with
 | nil=>exact absurd hz h
 | cons z l=>
  have hzm:z∈zr x:=by rw[hz];exact List.mem_cons_self ..
  have hzl:=(Z0.1 hzm).1;have hR:=hx.sh.sr;rw[a1G hz];split
  ·rename_i q;unfold due at q;rw[Bool.and_eq_true,decide_eq_true_iff,Bool.not_eq_true'] at q;unfold mu;rw[b3w hR hzl];have:=filter_lt (p:=λh => !(ob (quH x z).S h).Started) (q:=λh => !(ob x.S h).Started) (l:=lv x.S) (λk hk hp=>by
    obtain⟨n,e⟩:=b3x hR hzl hk;rw[e] at hp;split at hp;·exact absurd hp (by simp)
    ·exact hp) z hzl (by rw[q.2];rfl) (by
    obtain⟨n,e⟩:=b3x hR hzl hzl;rw[e,if_pos rfl];rfl)
   omega
  ·unfold mu;have hn:([z]:List Int).Nodup:=by simp
   have hm:∀d ∈ [z],d∈lv x.S:=by simpa using hzl
   rw[b2N hR hn hm,List.filter_filter];have h1:((lv x.S).filter λh=>decide (h ∉ [z])).length<((lv x.S).filter λ_=>true).length:=filter_lt (λ_ _ _=>rfl) z hzl rfl (by simp);rw[List.filter_eq_self.2 (λ_ _=>rfl)] at h1;have h2:((lv x.S).filter λa=>(!(ob (buH x [z]).S a).Started)&&decide (a ∉ [z])).length≤((lv x.S).filter λh => !(ob x.S h).Started).length:=by
    rw[←List.countP_eq_length_filter,←List.countP_eq_length_filter];refine List.countP_mono_left λa ha hp=>?_;rw[Bool.and_eq_true,decide_eq_true_iff] at hp;obtain⟨n,e⟩:=b2O hR hn hm ha hp.2;rw[e] at hp;exact hp.1
   omega
noncomputable def V9(x:Hp):Hp:=stN 100 x
theorem b1q{x:Hp}(hx:H7 x):∃n,n≤48∧zr (stN n x) = []∧(∀j,j<n→zr (stN j x) ≠ [])∧V9 x=stN n x:=by
 have key:∀m,(∃n,n≤m∧zr (stN n x) = [])∨mu (stN m x)+m≤mu x:=by
  intro m;induction m with
  | zero=>exact .inr (Nat.le_refl _)
  | succ m ih=>
   rcases ih with ⟨n,h1,h2⟩ | ih;·exact .inl ⟨n,by omega,h2⟩
   ·by_cases q:zr (stN m x) = []
    ·exact .inl ⟨m,by omega,q⟩
    ·have:=c4T (U9 hx m) q;rw[←a0A] at this;exact .inr (by omega)
 have h48:=c7S hx.sh.sr;have hex:∃n,n≤48∧zr (stN n x) = []:=by
  rcases key 49 with ⟨n,h1,h2⟩ | h
  ·rcases Nat.lt_or_ge n 49 with q | q
   ·exact⟨n,by omega,h2⟩
   ·rcases key 48 with h | h
    ·exact h
    ·have:mu (stN 48 x)=0:=by omega
     refine⟨48,Nat.le_refl _,?_⟩;have hl:(lv (stN 48 x).S).length=0:=by unfold mu at this;omega
     unfold zr;rw[List.eq_nil_of_length_eq_zero hl];rfl
  ·omega
 obtain⟨n,⟨hn,hz⟩,hmin⟩:=a0J hex;refine⟨n,hn,hz,λj hj q=>?_,?_⟩
 ·have:=hmin j ⟨by omega,q⟩;omega
 ·have:∀k,stN (n+k) x=stN n x:=λk=>by
   induction k with
   | zero=>rfl
   | succ k ih=>rw[show n+(k+1)=(n+k)+1 by omega,a0A,ih,a6e hz]
  have h100:=this (100-n);rw[show n+(100-n)=100 by omega] at h100;exact h100
theorem a2e{x:Hp}(hx:H7 x):H7 (V9 x):=U9 hx 100
theorem b5o{x:Hp}(hx:H7 x):zr (V9 x) = []:=by
 obtain⟨n,_,h,_,e⟩:=b1q hx;rw[e];exact h
theorem b8m{x:Hp}(h:zr x = []):V9 x=x:=by
 have:∀n,stN n x=x:=λn=>by
  induction n with
  | zero=>rfl
  | succ n ih=>rw[a0A,ih,a6e h]
 exact this 100
end Go.Sh
namespace Go.Sh
section
variable{x:Hp}(hR:SR x.S)
include hR
theorem a1s{h:Int}(hh:h∈lv x.S):h≤9223372036854775807:=by have:=D5 hR hh;omega
theorem b0Y{h:Int}(hh:h∈lv x.S):r7 x.S h=some (ob x.S h,0):=by
 obtain⟨e,h1,h2⟩:=O8 (p6.2 hR) (a1s hR hh);rw[h1,h2.2 hh]
theorem a9Q{h:Int}(hh:h∈lv x.S):E0 (sO x.S) h=some (oo (ob x.S h),0):=by
 have:=hR.len;rw[a4S x.S (by omega) (a1s hR hh),b0Y hR hh];rfl
theorem zero_eq:a07 x=some (zr x):=by
 have h24:(lv x.S).length≤24:=D4 (p6.2 hR);unfold a07;simp only[jn];rw[a1r (p6.2 hR),d2P];rw[D7 (lv x.S) (λb h=>if (ob x.S h).Strong==0 then b ++ [h] else b) id (λk b=>b.length≤k) (by omega) (Nat.le_refl _) (λk hk b hb=>?_) (λb hb=>by simp)]
 ·rw[foldl_filter];rfl
 ·simp only[Int.ofNat_lt,hk,decide_true,if_true,n8 hk,d2P,b0Y hR (List.getElem_mem hk)];by_cases c:((ob x.S (lv x.S)[k]).Strong==0)=true
  ·rw[if_pos c,if_pos c,x4 (by omega) (by simp;omega),d2P,k8];exact⟨rfl,by simp;omega⟩
  ·rw[if_neg c,if_neg c,k8];exact⟨rfl,by omega⟩
theorem c5a:b0j (hO x)=some (zr x):=by
 have h24:(lv x.S).length≤24:=D4 (p6.2 hR);unfold b0j;simp only[jn];rw[show (hO x).S=sO x.S from rfl,a89 (p6.2 hR),d2P];rw[D7 (lv x.S) (λb h=>if (ob x.S h).Strong==0 then b ++ [h] else b) id (λk b=>b.length≤k) (by omega) (Nat.le_refl _) (λk hk b hb=>?_) (λb hb=>by simp)]
 ·rw[foldl_filter];rfl
 ·simp only[Int.ofNat_lt,hk,decide_true,if_true,n8 hk,d2P,a9Q hR (List.getElem_mem hk)];by_cases c:((ob x.S (lv x.S)[k]).Strong==0)=true
  ·rw[show ((oo (ob x.S (lv x.S)[k])).Strong==0)=true from c,if_pos rfl,if_pos c,x4 (by omega) (by simp;omega),d2P,k8];exact⟨rfl,by simp;omega⟩
  ·rw[if_neg (show ¬((oo (ob x.S (lv x.S)[k])).Strong==0)=true from c),if_neg c,k8];exact⟨rfl,by omega⟩
end
noncomputable def quD(x:Hp)(h:Int):Hp:=if h∈lv x.S∧due (ob x.S h)=true then quH x h else x
theorem b6O{s:a7}(hR:SR s){h:Int}(hl:h∈lv s):OkO s (srt (ob s h)):=by
 have oko:=H2 hR hl;exact⟨oko.s1,oko.s2,oko.st,oko.wk,oko.p1,oko.p2,oko.fl⟩
theorem c0U(o:l4):J3 o=some (due o):=by
 unfold J3 due;congr 1
section
variable{x:Hp}(hx:H7 x)(hS:SL x){h:Int}(hh:h≤9223372036854775807)
include hx hS hh
theorem b3y(hl:h∈lv x.S)(hd:due (ob x.S h)=true):x.Q.L.length<30:=by
 have hb:0≤(ob x.S h).Prog∧(ob x.S h).Started=false:=by
  unfold due at hd;rw[Bool.and_eq_true,decide_eq_true_iff,Bool.not_eq_true'] at hd;exact hd
 have:=(b1a hx hl hb.1 hb.2).sh.q30;rw[(a29 hx.sh.sr hl).2.2.2.2] at this;simp at this;omega
theorem b5f:P2 x h=some (quD x h):=by
 have hR:=hx.sh.sr;have cap:=hx.sh.cap;obtain⟨e,h1,h2⟩:=O8 (p6.2 hR) hh;unfold P2 quD;rw[h1,d2P];by_cases hl:h∈lv x.S
 ·have e0:e=0:=h2.2 hl;subst e0;have e1:(((0:Int) != 0)==false)=true:=rfl;simp only[e1,a4n,c0U,d2P];cases hd:due (ob x.S h);·rw[if_pos (by simp),if_neg (by simp)]
  ·rw[if_neg (by simp),if_pos ⟨hl,rfl⟩];have hr:=b3y hx hS hh hl hd;have hok:=b6O hR hl;have l1:=a2V (o:=srt (ob x.S h)) hR hl rfl hok;have r1:=a0q (o:=srt (ob x.S h)) hR hl rfl hok;rw[b0u (o:=srt (ob x.S h)) hR hl rfl hok,d2P,c72 _ (by omega),d2P];have et:tad x.Q ⟨1,h,(ob x.S h).Prog⟩=(⟨x.Q.L ++ [qtk x h],x.Q.Cap⟩,0):=by
    unfold tad;rw[if_neg (by omega)]
   rw[et];dsimp only;rw[a49 r1 hh (λk hk=>?_),d2P];·rfl
   ·dsimp only at hk ⊢;rw[l1] at hk;rw[a2d (o:=srt (ob x.S h)) hR hl rfl hok (a1s hR hk)];split;·exact hS h hl
    ·exact hS k hk
 ·have e0:e≠0:=λq=>hl (h2.1 q);have e1:(e != 0)=true:=by simpa using e0
  rw[e1];simp only[show ((true==false)=true)=False by simp,z6,if_false,d2P,Bool.true_or,if_true];rw[if_neg (λq=>hl q.1)]
theorem c26:a72 (hO x) h=some (decide (h∈lv x.S)&&due (ob x.S h)):=by
 have hR:=hx.sh.sr;have hlen:=hR.len;obtain⟨e,h1,h2⟩:=O8 (p6.2 hR) hh;unfold a72;rw[show (hO x).S=sO x.S from rfl,a4S x.S (by omega) hh,h1,Option.map_some,d2P,b2i hR hh,d2P];unfold due oo;rw[Bool.and_assoc]
theorem b75:a3N (hO x) h=some (hO (quD x h)):=by
 have hR:=hx.sh.sr;have cap:=hx.sh.cap;unfold a3N quD;rw[c26 hx hS hh,d2P];by_cases hl:h∈lv x.S
 ·rw[decide_eq_true hl,Bool.true_and];cases hd:due (ob x.S h);·rw[if_pos (by simp),if_neg (by simp)]
  ·rw[if_neg (by simp),if_pos ⟨hl,rfl⟩];have hr:=b3y hx hS hh hl hd;have hok:=b6O hR hl;have l1:=a2V (o:=srt (ob x.S h)) hR hl rfl hok;have r1:=a0q (o:=srt (ob x.S h)) hR hl rfl hok;rw[show (hO x).S=sO x.S from rfl,a9Q hR hl,d2P];have es:L4 (sO x.S) h (oo (srt (ob x.S h)))=some (sO (seO x.S h (srt (ob x.S h))),0):=b0v hR hl rfl hok;have es':L4 (sO x.S) h ⟨(oo (ob x.S h)).Serial,(oo (ob x.S h)).Strong,(oo (ob x.S h)).Weak,(oo (ob x.S h)).Prog,true,(oo (ob x.S h)).Fields⟩=some (sO (seO x.S h (srt (ob x.S h))),0):=es;rw[es',d2P];have ea:a5Z (hO x).Q ⟨1,h,(oo (ob x.S h)).Prog⟩=some (tqR ⟨x.Q.L ++ [qtk x h],x.Q.Cap⟩,0):=by
    have:=c7Y (q:=x.Q) (qtk x h) (by omega);have et:tad x.Q (qtk x h)=(⟨x.Q.L ++ [qtk x h],x.Q.Cap⟩,0):=by
     unfold tad;rw[if_neg (by omega)]
    rw[et] at this;exact this
   rw[ea,d2P];have er:=a7q (x:=⟨seO x.S h (srt (ob x.S h)),x.Roots,x.a8,x.T,⟨x.Q.L ++ [qtk x h],x.Q.Cap⟩⟩) r1 hh (λk hk=>by
    dsimp only at hk ⊢;rw[l1] at hk;rw[a2d (o:=srt (ob x.S h)) hR hl rfl hok (a1s hR hk)];split;·exact hS h hl
    ·exact hS k hk)
   have er':a0T ⟨sO (seO x.S h (srt (ob x.S h))),(hO x).Roots,(hO x).a8,(hO x).T,tqR ⟨x.Q.L ++ [qtk x h],x.Q.Cap⟩⟩ h=_:=er;dsimp only;rw[er',d2P];rfl
 ·rw[decide_eq_false hl,Bool.false_and];rw[if_pos (by simp),if_neg (λq=>hl q.1)]
end
noncomputable def lvo(x:Hp)(l:List Int):List Int:=l.foldl (λb h=>if h∈lv x.S∧h∉b then b ++ [h] else b) []
theorem b7N{x:Hp}{z:Int}(hz:z∈lv x.S):lvo x [z] = [z]:=by
 unfold lvo;simp[hz]
section
variable{x:Hp}(hR:SR x.S)
include hR
theorem a94(l:List Int)(hl:l.length≤1000)(hb:∀h∈l,h≤9223372036854775807):R4 x l=some (lvo x l):=by
 unfold R4;simp only[jn];have key:=D7 (f:=λ((s20,s21,s22):Int × (List (Int × Bool)) × (List Int))=>
   if (decide (s20<(l.length:Int))) then
     (ix l s20).bind λv32=>
     (r7 x.S v32).bind λv33=>
     if ((v33.2==0)==true) then
      if (!((y8 s21 v32).getD (false:Bool))) then
       (app 8 s22 [v32]).bind λv34=>
       some (Sum.inl (r8 (s20+1),(n9 s21 v32 true),v34))
      else
      some (.inl (r8 (s20+1),s21,s22))
     else
     some (.inl (r8 (s20+1),s21,s22))
   else
   some (.inr s22)) l (λ(b:List (Int × Bool) × List Int) h=>if h∈lv x.S∧h∉b.2 then (n9 b.1 h true,b.2 ++ [h]) else b) (λb=>b.2) (λk b=>b.2.length≤k∧∀d,(y8 b.1 d).getD false=decide (d∈b.2)) (b0:=([],[])) (by omega) ⟨Nat.le_refl _,λd=>by simp[y8]⟩ (λk hk b hb2=>?_) (λb hb2=>by simp)
 ·rw[key,d2P];congr 1;have:∀(l:List Int) (m:List (Int × Bool)) (b:List Int),(l.foldl (λ(b:List (Int × Bool) × List Int) h=>if h∈lv x.S∧h∉b.2 then (n9 b.1 h true,b.2 ++ [h]) else b) (m,b)).2=l.foldl (λb h=>if h∈lv x.S∧h∉b then b ++ [h] else b) b:=λl=>by
   induction l with
   | nil=>intro m b;rfl
   | cons h l ih=>
    intro m b;rw[List.foldl_cons,List.foldl_cons];by_cases c:h∈lv x.S∧h∉b
    ·rw[if_pos c,if_pos c,ih]
    ·rw[if_neg c,if_neg c,ih]
  exact this l [] []
 ·obtain⟨hb1,hb3⟩:=hb2;obtain⟨e,h1,h2⟩:=O8 (p6.2 hR) (hb _ (List.getElem_mem hk));simp only[Int.ofNat_lt,hk,decide_true,if_true,n8 hk,d2P,h1,hb3];by_cases hl:l[k]∈lv x.S
  ·have e0:e=0:=h2.2 hl;subst e0;by_cases hm:l[k]∈b.2
   ·rw[if_pos (by rfl),if_neg (by simp[hm]),if_neg (λq=>q.2 hm),k8];exact⟨rfl,by omega,hb3⟩
   ·rw[if_pos (by rfl),if_pos (by simp[hm]),if_pos ⟨hl,hm⟩,x4 (by omega) (by simp;omega),d2P,k8];refine⟨rfl,by simp;omega,λd=>?_⟩;rw[a7R];by_cases q:d=l[k]
    ·rw[if_pos q];simp[q]
    ·rw[if_neg q,hb3];simp[q]
  ·have e0:e≠0:=λq=>hl (h2.1 q);rw[if_neg (by simp[e0]),if_neg (λq=>hl q.1),k8];exact⟨rfl,by omega,hb3⟩
theorem c27(l:List Int)(hl:l.length≤1000)(hb:∀h∈l,h≤9223372036854775807):b0k (hO x) l=some (lvo x l):=by
 unfold b0k;simp only[jn];rw[D7 l (λb h=>if h∈lv x.S∧h∉b then b ++ [h] else b) id (λk b=>b.length≤k) (by omega) (Nat.le_refl _) (λk hk b hb2=>?_) (λb hb=>by simp)];·rfl
 ·simp only[Int.ofNat_lt,hk,decide_true,if_true,n8 hk,d2P,b2i hR (hb _ (List.getElem_mem hk))];by_cases hl:l[k]∈lv x.S
  ·have h0:l[k]≠0:=λe=>a5N hR (e▸hl);rw[decide_eq_true hl];simp only[beq_self_eq_true,a4n,a9S b _ (by omega:b.length≤1000000),d2P,Bool.true_and];by_cases hm:l[k]∈b
   ·rw[if_neg (by simp[hm,h0]),if_neg (λq=>q.2 hm),k8];exact⟨rfl,by omega⟩
   ·rw[if_pos (by simp[hm]),if_pos ⟨hl,hm⟩,x4 (by omega) (by simp;omega),d2P,k8];exact⟨rfl,by simp;omega⟩
  ·rw[decide_eq_false hl];simp only[show ((false==true)=true)=False by simp,z6,if_false,d2P,Bool.false_and];rw[if_neg (by simp),if_neg (λq=>hl q.1),k8];exact⟨rfl,by omega⟩
end
end Go.Sh
namespace Go.Sh
theorem b27{α β:Type}(p:α→Bool)(f:α→β):∀(xs:List α) (acc:List β),xs.foldl (λb x=>if p x then b ++ [f x] else b) acc=acc++(xs.filter p).map f
 | [],acc=>by simp
 | x::xs,acc=>by
  rw[List.foldl_cons,b27 p f xs];by_cases h:p x=true
  ·simp[h]
  ·simp[h]
theorem a0E{α:Type}{l:List α}{i:Nat}(h:i<l.length)(d:α):l.getD i d=l[i]:=by
 rw[List.getD_eq_getElem?_getD,List.getElem?_eq_getElem h];rfl
theorem c1y(c:c5)(ds:List Int)(hl:ds.length≤1000):a0f c ds=some (Z4 ds c):=by
 unfold a0f Z4;rw[contains_eq _ _ (by omega)];cases (c.Intact&&c.Target != 0);·rfl
 ·simp[z6]
def pks(l:List c5)(ds:List Int):List Nat:=(List.range l.length).filter λw=>Z4 ds (l.getD w cz)
theorem c9J{l:List c5}{ds:List Int}{w:Nat}(h:w∈pks l ds):w<l.length:=by
 unfold pks at h;rw[List.mem_filter,List.mem_range] at h;exact h.1
theorem c6M(l:List c5)(ds:List Int):(pks l ds).length≤l.length:=by
 unfold pks;exact Nat.le_trans (List.length_filter_le ..) (by simp)
theorem c9K(l:List c5)(ds:List Int):(pks l ds).Nodup:=List.Pairwise.filter _ List.nodup_range
theorem c5Q(l:List c5)(ds:List Int):cls l ds=(pks l ds).filter λw=>decide (0≤(l.getD w cz).Call):=by
 unfold cls pks;rw[List.filter_filter];refine List.filter_congr λw _=>?_;rw[Bool.and_comm]
def a5M(l:List Nat):List Int:=l.map λ(n:Nat)=>(n:Int)
theorem b57{l:List Nat}{k:Nat}(h:k<l.length):ix (a5M l) (k:Int)=some ((l[k]:Nat):Int):=by
 unfold a5M;rw[a0F,n8 h];rfl
theorem a4W(l:List Nat):(a5M l).length=l.length:=List.length_map ..
theorem c1Z(l:List c5)(ds:List Int)(hl:l.length≤1000)(hd:ds.length≤1000):G8 l ds=some (a5M (pks l ds)):=by
 unfold G8;simp only[jn];have hr:(List.range l.length).length=l.length:=by simp
 have key:=D7 (List.range l.length) (λ(b:List Int) (w:Nat)=>if Z4 ds (l.getD w cz) then b ++ [(w:Int)] else b) id (λk b=>b.length≤k) (b0:=[]) (f:=λ((s17,s18):Int × (List Int))=>
   if (decide (s17<(l.length:Int))) then
     (ix l s17).bind λv26=>
     (a0f v26 ds).bind λv27=>
     if v27 then
      (app 8 s18 [s17]).bind λv28=>
      some (Sum.inl (r8 (s17+1),v28))
     else
     some (.inl (r8 (s17+1),s18))
   else
   some (.inr s18)) (by omega) (Nat.le_refl _) (λk hk b hb=>?_) (λb hb=>by simp)
 ·rw[key,b27];rfl
 ·rw[hr] at hk;simp only[Int.ofNat_lt,hk,decide_true,if_true,n8 hk,d2P,c1y _ _ hd,List.getElem_range,a0E hk];by_cases c:Z4 ds l[k]=true
  ·rw[if_pos c,if_pos c,x4 (by omega) (by simp;omega),d2P,k8];exact⟨rfl,by simp;omega⟩
  ·rw[if_neg c,if_neg c,k8];exact⟨rfl,by omega⟩
theorem c1B(l:List c5)(hl:l.length≤1000):Y8 l=some l:=by
 unfold Y8;rw[a69 (by omega) (by omega),d2P];unfold cpy;rw[if_pos (by simp),d2P];simp
def a9B(l:List c5)(K:List Nat):List c5:=(List.range l.length).map λi=>if i∈K then ⟨(l.getD i cz).Target,false,(l.getD i cz).Call⟩ else l.getD i cz
theorem a4Q(l:List c5)(K:List Nat):(a9B l K).length=l.length:=by simp[a9B]
theorem a9C{l:List c5}{K:List Nat}{i:Nat}(h:i<(a9B l K).length):(a9B l K)[i]=if i∈K then ⟨(l.getD i cz).Target,false,(l.getD i cz).Call⟩ else l.getD i cz:=by simp[a9B]
theorem c2W(l:List c5):a9B l []=l:=by
 refine List.ext_getElem (a4Q ..) λi h1 h2=>?_;rw[a9C,if_neg (by simp),a0E h2]
theorem c1A{l:List c5}{K:List Nat}{w:Nat}(hw:w<l.length):a9B l (K ++ [w])=(a9B l K).set w ⟨(l.getD w cz).Target,false,(l.getD w cz).Call⟩:=by
 refine List.ext_getElem (by rw[List.length_set,a4Q,a4Q]) λi h1 h2=>?_;rw[a9C,List.getElem_set];by_cases e:w=i
 ·subst e;rw[if_pos rfl,if_pos (by simp)]
 ·rw[if_neg e,a9C];by_cases q:i∈K
  ·rw[if_pos (List.mem_append_left _ q),if_pos q]
  ·rw[if_neg,if_neg q];rw[List.mem_append,List.mem_singleton];exact λq2=>q2.elim q λq3=>e q3.symm
theorem c2V(l:List c5)(ds:List Int):a9B l (pks l ds)=clr l ds:=by
 refine List.ext_getElem (by rw[a4Q];simp[clr]) λi h1 h2=>?_;have hi:i<l.length:=by rw[a4Q] at h1;exact h1
 have ec:(clr l ds)[i]=a3v ds l[i]:=List.getElem_map _;rw[a9C,ec,a0E hi];unfold a3v;by_cases c:Z4 ds l[i]=true
 ·rw[if_pos c,if_pos];unfold pks;rw[List.mem_filter,List.mem_range,a0E hi];exact⟨hi,c⟩
 ·rw[if_neg c,if_neg];unfold pks;rw[List.mem_filter,List.mem_range,a0E hi];exact λq=>c q.2
theorem K1{α:Type}{l:List α}{k:Nat}(h:k<l.length):l.take (k+1)=l.take k ++ [l[k]]:=List.take_succ_eq_append_getElem h
theorem c2U(l:List c5)(ds:List Int)(hl:l.length≤1000)(hd:ds.length≤1000):a3X l ds=some (clr l ds,a5M (cls l ds)):=by
 unfold a3X;rw[c1Z l ds hl hd,d2P,c1B l hl,d2P];simp only[jn,a4W];have hp:=c6M l ds;refine L1 (pks l ds).length (λk (b:List c5 × List Int)=>b.1=a9B l ((pks l ds).take k)∧b.2=a5M (((pks l ds).take k).filter λw=>decide (0≤(l.getD w cz).Call))) (by omega) ⟨by simp[c2W],by simp[a5M]⟩ ?_ ?_
 ·rintro k ⟨b1,b2⟩ hk ⟨rfl,rfl⟩;left;have hw:=c9J (List.getElem_mem hk);have hnm:(pks l ds)[k]∉(pks l ds).take k:=λq=>by
   have hn:=c9K l ds;rw[←List.take_append_drop k (pks l ds),List.nodup_append] at hn;exact hn.2.2 _ q (pks l ds)[k] (by rw[List.drop_eq_getElem_cons hk];exact List.mem_cons_self ..) rfl
  have h1:(pks l ds)[k]<(a9B l ((pks l ds).take k)).length:=by rw[a4Q];exact hw
  have e1:ix (a9B l ((pks l ds).take k)) (((pks l ds)[k]:Nat):Int)=some (l.getD (pks l ds)[k] cz):=by rw[n8 h1,a9C,if_neg hnm]
  have h2:(pks l ds)[k]<((a9B l ((pks l ds).take k)).set (pks l ds)[k] ⟨(l.getD (pks l ds)[k] cz).Target,false,(l.getD (pks l ds)[k] cz).Call⟩).length:=by rw[List.length_set];exact h1
  have e2:ix ((a9B l ((pks l ds).take k)).set (pks l ds)[k] ⟨(l.getD (pks l ds)[k] cz).Target,false,(l.getD (pks l ds)[k] cz).Call⟩) (((pks l ds)[k]:Nat):Int)=some ⟨(l.getD (pks l ds)[k] cz).Target,false,(l.getD (pks l ds)[k] cz).Call⟩:=by rw[n8 h2,List.getElem_set_self]
  dsimp only;simp only[Int.ofNat_lt,hk,decide_true,if_true,b57 hk,d2P,e1,Int.toNat_natCast,e2];have hle:(a5M (((pks l ds).take k).filter λw=>decide (0≤(l.getD w cz).Call))).length≤1000:=by
   rw[a4W];exact Nat.le_trans (List.length_filter_le ..) (by simp;omega)
  rw[K1 hk,c1A hw,List.filter_append];by_cases c:0≤(l.getD (pks l ds)[k] cz).Call
  ·rw[if_pos (decide_eq_true c),x4 (by omega) (by simp only[List.length_cons,List.length_nil];omega),d2P,k8];refine⟨_,rfl,rfl,?_⟩;rw[List.filter_cons,if_pos (decide_eq_true c)];simp[a5M]
  ·rw[if_neg (λq=>c (of_decide_eq_true q)),k8];refine⟨_,rfl,rfl,?_⟩;rw[List.filter_cons,if_neg (λq=>c (of_decide_eq_true q))];simp[a5M]
 ·rintro⟨b1,b2⟩ ⟨rfl,rfl⟩;refine⟨_,if_neg (by simp),?_⟩;dsimp only;rw[List.take_length,c2V,←c5Q]
theorem d01(c:c5)(ds:List Int)(hd:ds.length≤1000):((z6 ((wcR c).Intact==true) 0 (a3n ds (wcR c).Target)).bind λv=>some ((wcR c).Intact&&decide (v > 0)))=some (Z4 ds c):=by
 unfold Z4 wcR;dsimp only;cases hI:c.Intact;·rfl
 ·simp only[beq_self_eq_true,a4n];rw[a9k _ _ (by omega),d2P];congr 1;rw[Bool.true_and,Bool.true_and,Bool.eq_iff_iff];simp only[decide_eq_true_iff,Bool.and_eq_true,bne_iff_ne];have:=a1H (l:=ds) (h:=c.Target);constructor
  ·intro q;exact this.1 (by omega)
  ·intro q;have:=this.2 q;omega
theorem c5N(l:List c5)(ds:List Int)(hl:l.length≤1000)(hd:ds.length≤1000):b1d (l.map wcR) ds=some ((clr l ds).map wcR,a5M (cls l ds)):=by
 unfold b1d;simp only[jn,List.length_map];refine L1 l.length (λk (b:List E5 × List Int)=>b.1=((clr l ds).take k).map wcR∧b.2=a5M ((List.range k).filter λw=>Z4 ds (l.getD w cz)&&decide (0≤(l.getD w cz).Call))) (by omega) ⟨by simp,by simp[a5M]⟩ ?_ ?_
 ·rintro k ⟨b1,b2⟩ hk ⟨rfl,rfl⟩;left;have hk2:k<(clr l ds).length:=by simp[clr];exact hk
  have e1:ix (l.map wcR) (k:Int)=some (wcR l[k]):=by rw[a0F,n8 hk];rfl
  have hle:(a5M ((List.range k).filter λw=>Z4 ds (l.getD w cz)&&decide (0≤(l.getD w cz).Call))).length≤1000:=by
   rw[a4W];exact Nat.le_trans (List.length_filter_le ..) (by simp;omega)
  dsimp only;simp only[Int.ofNat_lt,hk,decide_true,if_true,e1,d2P];obtain⟨v,hv,hv2⟩:=a9y (d01 l[k] ds hd);rw[hv,d2P];have hv2:=Option.some.inj hv2;rw[hv2,K1 hk2,List.map_append,List.range_succ,List.filter_append];have ec:(clr l ds)[k]=a3v ds l[k]:=List.getElem_map _;have lc:(List.map wcR (List.take k (clr l ds))).length≤1000:=by simp[clr];omega
  rw[ec];unfold a3v;by_cases c:Z4 ds l[k]=true
  ·rw[if_pos c,if_pos c];by_cases c2:0≤l[k].Call
   ·rw[if_pos (by simpa[wcR] using c2),x4 (by omega) (by simp only[List.length_cons,List.length_nil];omega),d2P,x4 (by omega) (by simp only[List.length_cons,List.length_nil];omega),d2P,k8];refine⟨_,rfl,rfl,?_⟩;simp only[List.filter_cons,List.filter_nil,a0E hk,c,c2,decide_true,Bool.and_self,if_true];simp[a5M]
   ·rw[if_neg (by simpa[wcR] using c2),x4 (by omega) (by simp only[List.length_cons,List.length_nil];omega),d2P,k8];refine⟨_,rfl,rfl,?_⟩;simp only[List.filter_cons,List.filter_nil,a0E hk,c,c2,decide_false,Bool.and_false,Bool.false_eq_true,if_false,List.append_nil]
  ·rw[if_neg c,if_neg c,x4 (by omega) (by simp only[List.length_cons,List.length_nil];omega),d2P,k8];refine⟨_,rfl,rfl,?_⟩;have c:Z4 ds l[k]=false:=by simpa using c
   simp only[List.filter_cons,List.filter_nil,a0E hk,c,Bool.false_and,Bool.false_eq_true,if_false,List.append_nil]
 ·rintro⟨b1,b2⟩ ⟨rfl,rfl⟩;refine⟨_,if_neg (by simp),?_⟩;dsimp only;rw[List.take_of_length_le (by simp[clr])];rfl
end Go.Sh
namespace Go.Sh
def clH(x:Hp)(ds:List Int):Hp:=⟨x.S,x.Roots,clr x.a8 ds,x.T,⟨x.Q.L++clt x.a8 ds,x.Q.Cap⟩⟩
theorem a2h(l:List c5)(ds:List Int):(clt l ds).length=(cls l ds).length:=List.length_map ..
theorem c2X{l:List c5}{ds:List Int}{w:Nat}(h:w∈cls l ds):w<l.length:=by
 unfold cls at h;rw[List.mem_filter,List.mem_range] at h;exact h.1
theorem c2Y{l:List c5}{ds:List Int}{k:Nat}(h:k<(clt l ds).length):(clt l ds)[k]=⟨2,(((cls l ds)[k]'(by rw[←a2h];exact h):Nat):Int),(l.getD ((cls l ds)[k]'(by rw[←a2h];exact h)) cz).Call⟩:=List.getElem_map _
theorem b7m{l:List c5}{ds:List Int}{w:Nat}(h:w<l.length):ix (clr l ds) (w:Int)=some (a3v ds l[w]):=by
 unfold clr;rw[a0F,n8 h];rfl
section
variable{x:Hp}{ds:List Int}(hc:x.a8.length≤6)(hd:ds.length≤1000)(hq:(x.Q.L++clt x.a8 ds).length≤30)(hcap:x.Q.Cap=30)
include hc hd hq hcap
theorem b4F{k:Nat}(hk:k<(clt x.a8 ds).length):tad ⟨x.Q.L++(clt x.a8 ds).take k,x.Q.Cap⟩ (clt x.a8 ds)[k]=(⟨x.Q.L++(clt x.a8 ds).take (k+1),x.Q.Cap⟩,0):=by
 rw[List.length_append] at hq;unfold tad;rw[if_neg (by dsimp only;rw[List.length_append,List.length_take,hcap];omega),K1 hk,List.append_assoc]
theorem b8W:a1E x ds=some (clH x ds):=by
 unfold a1E;rw[c2U _ _ (by omega) hd,d2P];dsimp only;simp only[jn,a4W];have hq2:=hq;rw[List.length_append] at hq2;refine L1 (cls x.a8 ds).length (λk (q:TQ)=>q=⟨x.Q.L++(clt x.a8 ds).take k,x.Q.Cap⟩) (by rw[←a2h];omega) (by simp) ?_ ?_
 ·rintro k q hk rfl;left;have hw:=c2X (List.getElem_mem hk);have hk2:k<(clt x.a8 ds).length:=by rw[a2h];exact hk
  simp only[Int.ofNat_lt,hk,decide_true,if_true,b57 hk,d2P,b7m hw];have et:(⟨2,(((cls x.a8 ds)[k]:Nat):Int),(a3v ds x.a8[(cls x.a8 ds)[k]]).Call⟩:g8)=(clt x.a8 ds)[k]:=by
   rw[c2Y,(b5I ds _).2.1,a0E hw]
  rw[et,c72 _ (by dsimp only;rw[List.length_append,List.length_take];omega),b4F hc hd hq hcap hk2,d2P,k8 (by rw[←a2h] at hk;omega)];exact⟨_,rfl,rfl⟩
 ·rintro q rfl;refine⟨_,if_neg (by simp),?_⟩;rw[←a2h,List.take_length];rfl
theorem c8v{K:C3→Option g7}:((lp (S:=Int × C3) (E:=C3) (λ((s68,s69):Int × C3)=>
   if (decide (s68<((a5M (cls x.a8 ds)).length:Int))) then
    (ix (a5M (cls x.a8 ds)) s68).bind λv72=>
    (ix ((clr x.a8 ds).map wcR) v72).bind λv73=>
    (a5Z s69 (⟨2,v72,v73.Call⟩:O0)).bind λv74=>
    some (.inl (r8 (s68+1),v74.1))
   else
   some (.inr s69)) (0,tqR x.Q)).bind K)=K (tqR (clH x ds).Q):=by
 have hq2:=hq;rw[List.length_append] at hq2;have key:=a13 (f:=λ((s68,s69):Int × C3)=>
   if (decide (s68<((a5M (cls x.a8 ds)).length:Int))) then
    (ix (a5M (cls x.a8 ds)) s68).bind λv72=>
    (ix ((clr x.a8 ds).map wcR) v72).bind λv73=>
    (a5Z s69 (⟨2,v72,v73.Call⟩:O0)).bind λv74=>
    some (Sum.inl (r8 (s68+1),v74.1))
   else
   some (.inr s69)) (t0:=tqR x.Q) (cls x.a8 ds).length (λk (q:C3)=>q=tqR ⟨x.Q.L++(clt x.a8 ds).take k,x.Q.Cap⟩) (λq=>q=tqR (clH x ds).Q) (by rw[←a2h];omega) (by simp) ?_ ?_
 ·obtain⟨e,h1,h2⟩:=key;rw[h1,d2P,h2]
 ·rintro k q hk rfl;left;have hw:=c2X (List.getElem_mem hk);have hk2:k<(clt x.a8 ds).length:=by rw[a2h];exact hk
  have ei:ix ((clr x.a8 ds).map wcR) (((cls x.a8 ds)[k]:Nat):Int)=some (wcR (a3v ds x.a8[(cls x.a8 ds)[k]])):=by rw[a0F,b7m hw];rfl
  simp only[a4W,Int.ofNat_lt,hk,decide_true,if_true,b57 hk,d2P,ei];have et:(⟨2,(((cls x.a8 ds)[k]:Nat):Int),(wcR (a3v ds x.a8[(cls x.a8 ds)[k]])).Call⟩:O0)=tkR (clt x.a8 ds)[k]:=by
   rw[c2Y,a0E hw];show (⟨2,_,(a3v ds x.a8[(cls x.a8 ds)[k]]).Call⟩:O0)=_;rw[(b5I ds _).2.1];rfl
  rw[et,c7Y _ (by dsimp only;rw[List.length_append,List.length_take];omega),b4F hc hd hq hcap hk2,d2P,k8 (by rw[←a2h] at hk;omega)];exact⟨_,rfl,rfl⟩
 ·rintro q rfl;refine⟨_,if_neg (by rw[a4W];simp),?_⟩;rw[←a2h,List.take_length];rfl
end
theorem b1p(s:a7)(i:Nat)(c d:b7):E2 (E2 s i c) i d=E2 s i d:=by
 unfold E2;dsimp only;rw[List.set_set]
section
variable{s:a7}(hR:SR s){d:Int}(hd:d∈lv s)
include hR hd
def k1(s:a7)(d:Int):a7:=E2 s (B1 d) ⟨1,(ce s (B1 d)).Gen,ded (ob s d)⟩
def k2(s:a7)(d:Int):a7:=E2 s (B1 d) ⟨2,(ce s (B1 d)).Gen,ded (ob s d)⟩
theorem b5M:OkO s (ded (ob s d)):=by
 have ho:=H2 hR hd;exact⟨ho.s1,ho.s2,Int.le_refl _,ho.wk,ho.p1,ho.p2,Nat.zero_le _⟩
theorem b9l:seO s d (ded (ob s d))=k1 s d:=by
 have q:=u6 hR hd;unfold seO a1x k1 E2;rw[q.2.1]
theorem c7L:At (k1 s d) d (B1 d):=by
 have q:=u6 hR hd;refine⟨by unfold k1;rw[U1];exact q.1,?_,?_⟩;·unfold k1;rw[H9 q.1,if_pos rfl]
 ·unfold k1;rw[H9 q.1,if_pos rfl];exact q.2.2
theorem c7M:SR (k1 s d):=by rw[←b9l hR hd];exact a0q (o:=ded (ob s d)) hR hd rfl (b5M hR hd)
theorem c7P:SR (k2 s d):=by
 have q:=u6 hR hd;have hc:=hR.cell _ q.1;unfold k2;refine hR.E2 q.1 ⟨by simp,by simp,hc.2.2.1,hc.2.2.2⟩ (λq=>absurd (.inr rfl) q) (λ_=>⟨b5M hR hd,.inl q.2.1,?_⟩);show (ob s d).Serial=_;rw[L5 hR q]
theorem c7N:U2 (k2 s d) d (B1 d):=by
 have q:=u6 hR hd;refine⟨by unfold k2;rw[U1];exact q.1,?_,?_⟩;·unfold k2;rw[H9 q.1,if_pos rfl];exact .inr rfl
 ·unfold k2;rw[H9 q.1,if_pos rfl];exact q.2.2
theorem c6j:P8 (k1 s d).S d=some ((k2 s d).S,0):=by
 have q:=u6 hR hd;have hR1:=c7M hR hd;have q1:=c7L hR hd;have hr:=D5 hR hd;have hlen:=hR1.len;have hH:Hnd d:=((a85 hR1).2 q1.d).2.1;have hsl:(d-1) % 32=(B1 d:Nat):=((a85 hR1).2 q1.d).2.2.1;have hg:(d-1) / 32=(ce s (B1 d)).Gen:=by
  have:=q.2.2;have h24:=hR.len;have:=q.1;omega
 unfold P8 B5;rw[a5v hR1 q1.d,d2P,if_neg (by simp),b7H q1.1,d2P,q1.2.1,if_neg (by simp),d2P,if_neg (by simp),a3E (by omega),d2P,if_pos hH,hsl,a4E (by omega),d2P,if_pos hH,hg,a5m rfl q1.1 hlen,d2P];have e:(ce (k1 s d) (B1 d)).Val=ded (ob s d):=by unfold k1;rw[H9 q.1,if_pos rfl]
 rw[e];congr 2;show (E2 (k1 s d) (B1 d) _).S=(k2 s d).S;unfold k1 k2;rw[b1p]
theorem c7F(hw:(ob s d).Weak=0):gvA (k2 s d) (B1 d)=gnA s d:=by
 have q:=u6 hR hd;have e:ce (k2 s d) (B1 d)=⟨2,(ce s (B1 d)).Gen,ded (ob s d)⟩:=by unfold k2;rw[H9 q.1,if_pos rfl]
 unfold gvA gnA gnC;rw[e];rw[L5 hR q] at hw;rw[if_pos hw];unfold k2;rw[b1p];rfl
theorem c7O(hw:(ob s d).Weak≠0):k2 s d=gnA s d:=by
 have q:=u6 hR hd;unfold k2 gnA gnC;rw[L5 hR q] at hw ⊢;rw[if_neg hw]
end
theorem c1Q{x:Hp}(hR:SR x.S){d:Int}(hd:d∈lv x.S):U8 x d=some (wS x (gnA x.S d)):=by
 unfold U8;rw[b0Y hR hd,d2P];have e1:H5 x.S d (⟨(ob x.S d).Serial,0,(ob x.S d).Weak,(ob x.S d).Prog,(ob x.S d).Started,[]⟩:l4)=some (k1 x.S d,0):=by
  rw[←b9l hR hd];exact b0u (o:=ded (ob x.S d)) hR hd rfl (b5M hR hd)
 rw[e1,d2P,c6j hR hd,d2P];by_cases hw:(ob x.S d).Weak=0
 ·rw[if_pos (by simpa using hw),c0w (c7P hR hd) (c7N hR hd),d2P,c7F hR hd hw];rfl
 ·rw[if_neg (by simpa using hw)];show some (wS x (k2 x.S d))=_;rw[c7O hR hd hw]
theorem c9k{s:a7}(hR:SR s){d:Int}(hd:d∈lv s):b3B (sO (k1 s d)) d=some (sO (k2 s d)):=by
 have q:=u6 hR hd;have hR1:=c7M hR hd;have q1:=c7L hR hd;have hlen:=hR1.len;have hr:=D5 hR hd;have hi:=q1.1;have hi2:B1 d<(sO (k1 s d)).a8.length:=by rw[A2];exact hi
 have J9:B1 d<(pl (sO (k1 s d))).a8.length:=by rw[a0R];exact hi2
 have hlen2:(sO (k1 s d)).a8.length≤24:=by rw[A2];exact hlen
 unfold b3B b77 b2q;rw[a4o _ (by omega),d2P,b0U (k1 s d) (by omega),a5v hR1 q1.d,d2P,if_neg (by simp),b7Z hi2,d2P];have hst:(plc (B1 d) (sO (k1 s d)).a8[B1 d]).State=1:=by
  have:=q1.2.1;rw[B3 hi] at this;simpa[plc,sO,cO] using this
 have hgen:(plc (B1 d) (sO (k1 s d)).a8[B1 d]).Gen=(ce s (B1 d)).Gen:=by
  have:(ce (k1 s d) (B1 d)).Gen=(ce s (B1 d)).Gen:=by unfold k1;rw[H9 q.1,if_pos rfl]
  rw[B3 hi] at this;simpa[plc,sO,cO] using this
 rw[hst,if_neg (by simp),d2P,if_neg (by simp),d2P];dsimp only;rw[b7Z hi2,d2P];have w3:∀c:K4,a0z (pl (sO (k1 s d))) ((B1 d:Nat):Int) c=some ⟨(pl (sO (k1 s d))).a8.set (B1 d) c,(pl (sO (k1 s d))).Last⟩:=λc=>by
  unfold a0z;rw[J8 (by omega) (by rw[a0R];omega),d2P,n8 J9,d2P,Int.toNat_natCast]
 rw[w3,d2P,d2P,b31 _ _ (by omega) (by simp[a0R]),d2P,hgen];unfold k2;rw[←b1p s (B1 d) ⟨1,(ce s (B1 d)).Gen,ded (ob s d)⟩,c1f];show some _=some (⟨(sO (k1 s d)).a8.set (B1 d) _,_,_⟩:o0);congr 1;congr 1;refine List.ext_getElem (by simp) λk h1 h2=>?_;have hk:k<(k1 s d).S.a8.length:=by simpa[A2] using h1
 have hk2:k<(sO (k1 s d)).a8.length:=by rw[A2];exact hk
 have hk3:k<(pl (sO (k1 s d))).a8.length:=by rw[a0R];exact hk2
 simp only[List.getElem_map,List.getElem_range,List.getElem_set];rw[a2w J9,a0E hk2,a0E hk3];by_cases e:k=B1 d
 ·subst e;rw[if_pos rfl,if_pos rfl];have e2:(sO (k1 s d)).a8[B1 d].Val=oo (ded (ob s d)):=by
   have:(ce (k1 s d) (B1 d)).Val=ded (ob s d):=by unfold k1;rw[H9 q.1,if_pos rfl]
   rw[←this,B3 hi];simp[sO,cO]
  rw[e2];rfl
 ·rw[if_neg e,if_neg (Ne.symm e)];simp[sO,pl,plc,cO]
theorem c86{x:Hp}(hR:SR x.S){d:Int}(hd:d∈lv x.S):a7k (hO x) d=some (hO (wS x (gnA x.S d))):=by
 unfold a7k;rw[show (hO x).S=sO x.S from rfl,a9Q hR hd,d2P];have e1:L4 (sO x.S) d (⟨(oo (ob x.S d)).Serial,0,(oo (ob x.S d)).Weak,(oo (ob x.S d)).Prog,(oo (ob x.S d)).Started,[]⟩:L3)=some (sO (k1 x.S d),0):=by
  rw[←b9l hR hd];exact b0v (o:=ded (ob x.S d)) hR hd rfl (b5M hR hd)
 rw[e1,d2P,c9k hR hd,d2P];by_cases hw:(ob x.S d).Weak=0
 ·rw[if_pos (by simpa[oo] using hw),c3q (c7P hR hd) (c7N hR hd),d2P,c7F hR hd hw];rfl
 ·rw[if_neg (by simpa[oo] using hw)];show some (hO (wS x (k2 x.S d)))=_;rw[c7O hR hd hw]
end Go.Sh
namespace Go.Sh
theorem c08:∀(l:List Int) {x:Hp},SR x.S→SR (l.foldl N5 x).S
 | [],x,h=>h
 | v::l,x,h=>c08 l (x:=N5 x v) (b9H h v)
theorem b6C:∀(l:List Int) {x:Hp},SR x.S→SL x→SL (l.foldl N5 x)
 | [],x,_,h=>h
 | v::l,x,hR,h=>b6C l (x:=N5 x v) (b9H hR v) (h.rls hR v)
theorem c12(l:List Int){k:Nat}(hk:k<l.length)(x:Hp):(l.take (k+1)).foldl N5 x=N5 ((l.take k).foldl N5 x) l[k]:=by
 rw[K1 hk,List.foldl_append];rfl
theorem b6z{y:Hp}(hR:SR y.S)(l:List Int)(hl:l.length≤1000000)(hb:∀v∈l,v≤9223372036854775807){K:Hp→Option Hp}:((lp (S:=Int × b6) (E:=b6) (λ((s35,s36):Int × b6)=>
     if (decide (s35<(l.length:Int))) then
      (ix l s35).bind λv39=>
      (A7 s36 v39).bind λv40=>
      some (.inl (r8 (s35+1),v40))
     else
     some (.inr s36)) (0,y)).bind K)=K (l.foldl N5 y):=by
 have key:=D7 l N5 id (λk z=>SR z.S) (b0:=y) (f:=λ((s35,s36):Int × b6)=>
     if (decide (s35<(l.length:Int))) then
      (ix l s35).bind λv39=>
      (A7 s36 v39).bind λv40=>
      some (Sum.inl (r8 (s35+1),v40))
     else
     some (.inr s36)) (by omega) hR (λk hk z hz=>?_) (λz hz=>by simp)
 ·rw[key,d2P];rfl
 ·simp only[Int.ofNat_lt,hk,decide_true,if_true,n8 hk,d2P,a2b hz (hb _ (List.getElem_mem hk))];rw[k8];exact⟨rfl,b9H hz _⟩
theorem b3K{y:Hp}(hR:SR y.S)(l:List Int)(hl:l.length≤1000000)(hb:∀v∈l,v≤9223372036854775807){K:g7→Option g7}:((lp (S:=Int × g7) (E:=g7) (λ((s45,s46):Int × g7)=>
      if (decide (s45<(l.length:Int))) then
       (ix l s45).bind λv49=>
       (D3 s46 v49).bind λv50=>
       some (.inl (r8 (s45+1),v50))
      else
      some (.inr s46)) (0,hO y)).bind K)=K (hO (l.foldl N5 y)):=by
 have key:=a13 (f:=λ((s45,s46):Int × g7)=>
      if (decide (s45<(l.length:Int))) then
       (ix l s45).bind λv49=>
       (D3 s46 v49).bind λv50=>
       some (Sum.inl (r8 (s45+1),v50))
      else
      some (.inr s46)) (t0:=hO y) l.length (λk z=>z=hO ((l.take k).foldl N5 y)) (λz=>z=hO (l.foldl N5 y)) (by omega) rfl ?_ ?_
 ·obtain⟨e,h1,h2⟩:=key;rw[h1,d2P,h2]
 ·rintro k z hk rfl;left;have hz:=c08 (l.take k) hR;simp only[Int.ofNat_lt,hk,decide_true,if_true,n8 hk,d2P,a3q hz (hb _ (List.getElem_mem hk))];rw[k8,←c12 l hk];exact⟨_,rfl,rfl⟩
 ·rintro z rfl;exact⟨_,if_neg (by simp),by rw[List.take_length]⟩
theorem b7z(s:a7)(ds:List Int){k:Nat}(hk:k<ds.length):gnL s (ds.take (k+1))=gnA (gnL s (ds.take k)) ds[k]:=by
 unfold gnL;rw[K1 hk,List.foldl_append];rfl
section
variable{y:Hp}(hR:SR y.S){ds:List Int}(hn:ds.Nodup)(hm:∀d∈ds,d∈lv y.S)
include hR hn hm
theorem b3h{k:Nat}(hk:k<ds.length):SR (gnL y.S (ds.take k))∧ds[k]∈lv (gnL y.S (ds.take k)):=by
 have g:=a1l (ds.take k) hR ((List.take_sublist k ds).nodup hn) λd hd=>hm d (List.mem_of_mem_take hd);refine⟨g.sr,?_⟩;rw[g.lv,List.mem_filter,decide_eq_true_iff];refine⟨hm _ (List.getElem_mem hk),λq=>?_⟩;rw[←List.take_append_drop k ds,List.nodup_append] at hn;exact hn.2.2 _ q ds[k] (by rw[List.drop_eq_getElem_cons hk];exact List.mem_cons_self ..) rfl
theorem c1P(hl:ds.length≤1000){K:Hp→Option Hp}:((lp (S:=Int × b6) (E:=b6) (λ((s42,s43):Int × b6)=>
    if (decide (s42<(ds.length:Int))) then
     (ix ds s42).bind λv46=>
     (U8 s43 v46).bind λv47=>
     some (.inl (r8 (s42+1),v47))
    else
    some (.inr s43)) (0,y)).bind K)=K (wS y (gnL y.S ds)):=by
 have key:=a13 (f:=λ((s42,s43):Int × b6)=>
    if (decide (s42<(ds.length:Int))) then
     (ix ds s42).bind λv46=>
     (U8 s43 v46).bind λv47=>
     some (Sum.inl (r8 (s42+1),v47))
    else
    some (.inr s43)) (t0:=y) ds.length (λk z=>z=wS y (gnL y.S (ds.take k))) (λz=>z=wS y (gnL y.S ds)) (by omega) rfl ?_ ?_
 ·obtain⟨e,h1,h2⟩:=key;rw[h1,d2P,h2]
 ·rintro k z hk rfl;left;obtain⟨h1,h2⟩:=b3h hR hn hm hk;simp only[Int.ofNat_lt,hk,decide_true,if_true,n8 hk,d2P,c1Q (x:=wS y (gnL y.S (ds.take k))) h1 h2];rw[k8,b7z _ _ hk];exact⟨_,rfl,rfl⟩
 ·rintro z rfl;exact⟨_,if_neg (by simp),by rw[List.take_length]⟩
theorem b7K(hl:ds.length≤1000){K:g7→Option g7}:((lp (S:=Int × g7) (E:=g7) (λ((s52,s53):Int × g7)=>
     if (decide (s52<(ds.length:Int))) then
      (ix ds s52).bind λv56=>
      (a7k s53 v56).bind λv57=>
      some (.inl (r8 (s52+1),v57))
     else
     some (.inr s53)) (0,hO y)).bind K)=K (hO (wS y (gnL y.S ds))):=by
 have key:=a13 (f:=λ((s52,s53):Int × g7)=>
     if (decide (s52<(ds.length:Int))) then
      (ix ds s52).bind λv56=>
      (a7k s53 v56).bind λv57=>
      some (Sum.inl (r8 (s52+1),v57))
     else
     some (.inr s53)) (t0:=hO y) ds.length (λk z=>z=hO (wS y (gnL y.S (ds.take k)))) (λz=>z=hO (wS y (gnL y.S ds))) (by omega) rfl ?_ ?_
 ·obtain⟨e,h1,h2⟩:=key;rw[h1,d2P,h2]
 ·rintro k z hk rfl;left;obtain⟨h1,h2⟩:=b3h hR hn hm hk;simp only[Int.ofNat_lt,hk,decide_true,if_true,n8 hk,d2P,c86 (x:=wS y (gnL y.S (ds.take k))) h1 h2];rw[k8,b7z _ _ hk];exact⟨_,rfl,rfl⟩
 ·rintro z rfl;exact⟨_,if_neg (by simp),by rw[List.take_length]⟩
end
section
variable{x:Hp}(hx:H7 x){ds:List Int}(hn:ds.Nodup)(hm:∀d∈ds,d∈lv x.S)
include hx hn hm
theorem b5N:ds.length≤24:=Nat.le_trans (a3J hn hm) (D4 (p6.2 hx.sh.sr))
theorem b5T{d:Int}(hd:d∈lv x.S):(ob x.S d).Fields.length≤4:=(H2 hx.sh.sr hd).fl
theorem b6i{d:Int}(hd:d∈lv x.S):(outs x.S d).length≤4:=Nat.le_trans (c3V _) (b5T hx hn hm hd)
theorem a7O:∀(l:List Int),(∀d∈l,d∈lv x.S)→(l.flatMap (outs x.S)).length≤4*l.length
 | [],_=>by simp
 | d::l,h=>by
  rw[List.flatMap_cons,List.length_append,List.length_cons];have:=a7O l λe he=>h e (List.mem_cons_of_mem _ he);have:=b6i hx hn hm (h d (List.mem_cons_self ..));omega
theorem c0S:∀v∈ds.flatMap (outs x.S)++(wot x.T ds).2,v≤9223372036854775807:=λv hv=>by
 rcases List.mem_append.1 hv with q | q
 ·obtain⟨d,hd,q⟩:=List.mem_flatMap.1 q;obtain⟨q,_⟩:=a5S.1 q;rcases hx.sh.fl d (hm d hd) v q with e | e
  ·omega
  ·exact a1s hx.sh.sr e
 ·by_cases h0:v=0
  ·omega
  ·have hl:=b5N hx hn hm;have h3:=(a3Y hx.sh.hr ds (by omega)).2.2.2.2.2 v;have h4:=a1H.2 ⟨h0,q⟩;have h5:0<own x.T v:=by omega
   obtain⟨p,hp,hq⟩:=List.countP_pos_iff.1 h5;have hq:(v != 0&&p.Val==v)=true:=hq;rw[Bool.and_eq_true,beq_iff_eq] at hq;have:=(hx.sh.pr _ _ (a27.1 hp)).2;rw[hq.2] at this;exact a1s hx.sh.sr this
theorem b7W:(ds.flatMap (outs x.S)++(wot x.T ds).2).length≤200:=by
 have hl:=b5N hx hn hm;have h1:=a7O hx hn hm ds hm;have h2:=(a3Y hx.sh.hr ds (by omega)).2.2.1;rw[List.length_append];omega
theorem c0k(hq:(x.Q.L++clt x.a8 ds).length≤30){l:List Int}(h1:R4 x l=some ds):Y4 x l=some (buH x ds):=by
 have hl:=b5N hx hn hm;have hR:=hx.sh.sr;obtain⟨w1,w2,w3,w4,w5,w6⟩:=a3Y hx.sh.hr ds (by omega);have ol:=b7W hx hn hm;have fl:=a7O hx hn hm ds hm;unfold Y4;rw[h1,d2P,b8W (by have:=hx.sh.c6;omega) (by omega) hq hx.sh.cap,d2P];simp only[jn];have key:=D7 ds (λb d=>b++outs x.S d) id (λk b=>b.length≤4*k) (b0:=[]) (f:=λ((s49,s50):Int × (List Int))=>
   if (decide (s49<(ds.length:Int))) then
    (ix ds s49).bind λv53=>
    (r7 (clH x ds).S v53).bind λv54=>
    (a3t v54.1.Fields).bind λv55=>
    (app 8 s50 v55).bind λv56=>
    some (Sum.inl (r8 (s49+1),v56))
   else
   some (.inr s50)) (by omega) (by simp) (λk hk b hb=>?_) (λb hb=>by simp)
 ·rw[key,d2P,a10,List.nil_append];dsimp only[id];rw[show (clH x ds).T=x.T from rfl,w1,d2P];have ol2:=ol;rw[List.length_append] at ol2;rw[x4 (by omega) (by omega),d2P];have k1:=c1P (y:=⟨(clH x ds).S,(clH x ds).Roots,(clH x ds).a8,(wot x.T ds).1,(clH x ds).Q⟩) hR hn hm (by omega) (K:=λe=>(lp (S:=Int × b6) (E:=b6) (λ((s35,s36):Int × b6)=>
     if (decide (s35<((ds.flatMap (outs x.S)++(wot x.T ds).2).length:Int))) then
      (ix (ds.flatMap (outs x.S)++(wot x.T ds).2) s35).bind λv39=>
      (A7 s36 v39).bind λv40=>
      some (.inl (r8 (s35+1),v40))
     else
     some (.inr s36)) (0,e)).bind λe34=>some e34)
  refine Eq.trans k1 ?_;have g:=a1l ds hR hn hm;have k2:=b6z (y:=wS (⟨(clH x ds).S,(clH x ds).Roots,(clH x ds).a8,(wot x.T ds).1,(clH x ds).Q⟩:Hp) (gnL x.S ds)) g.sr _ (by omega) (c0S hx hn hm) (K:=λe34=>some e34);refine Eq.trans k2 ?_;rfl
 ·have hd:=hm _ (List.getElem_mem hk);have f4:=b5T hx hn hm hd;have o4:=b6i hx hn hm hd;simp only[Int.ofNat_lt,hk,decide_true,if_true,n8 hk,d2P,show (clH x ds).S=x.S from rfl,b0Y hR hd,b7Q _ (by omega:(ob x.S ds[k]).Fields.length≤1000000)];have e:nz (ob x.S ds[k]).Fields=outs x.S ds[k]:=rfl;rw[e,x4 (by omega) (by omega),d2P,k8];exact⟨rfl,by rw[List.length_append];omega⟩
theorem b4I(hq:(x.Q.L++clt x.a8 ds).length≤30){l:List Int}(h1:b0k (hO x) l=some ds):a7j (hO x) l=some (hO (buH x ds)):=by
 have hl:=b5N hx hn hm;have hR:=hx.sh.sr;obtain⟨w1,w2,w3,w4,w5,w6⟩:=a3Y hx.sh.hr ds (by omega);have ol:=b7W hx hn hm;have fl:=a7O hx hn hm ds hm;have c6:=hx.sh.c6;unfold a7j;rw[h1,d2P,show (hO x).a8=x.a8.map wcR from rfl,c5N _ _ (by omega) (by omega),d2P];simp only[jn];rw[show (hO x).Q=tqR x.Q from rfl,c8v (by omega) (by omega) hq hx.sh.cap];have key:=D7 ds (λb d=>b++outs x.S d) id (λk b=>b.length≤4*k) (b0:=[]) (f:=λ((s59,s60):Int × (List Int))=>
    if (decide (s59<(ds.length:Int))) then
     (ix ds s59).bind λv63=>
     (E0 (hO x).S v63).bind λv64=>
     (a3l v64.1.Fields).bind λv65=>
     (app 8 s60 v65).bind λv66=>
     some (Sum.inl (r8 (s59+1),v66))
    else
    some (.inr s60)) (by omega) (by simp) (λk hk b hb=>?_) (λb hb=>by simp)
 ·rw[key,d2P,a10,List.nil_append];dsimp only[id];rw[show (hO x).T=x.T.map J9 from rfl,w4,d2P];dsimp only;have ol2:=ol;rw[List.length_append] at ol2;rw[x4 (by omega) (by omega),d2P];have k1:=b7K (y:=⟨(clH x ds).S,(clH x ds).Roots,(clH x ds).a8,(wot x.T ds).1,(clH x ds).Q⟩) hR hn hm (by omega) (K:=λe=>(lp (S:=Int × g7) (E:=g7) (λ((s45,s46):Int × g7)=>
      if (decide (s45<((ds.flatMap (outs x.S)++(wot x.T ds).2).length:Int))) then
       (ix (ds.flatMap (outs x.S)++(wot x.T ds).2) s45).bind λv49=>
       (D3 s46 v49).bind λv50=>
       some (.inl (r8 (s45+1),v50))
      else
      some (.inr s46)) (0,e)).bind λe44=>some e44)
  refine Eq.trans k1 ?_;have g:=a1l ds hR hn hm;have k2:=b3K (y:=wS (⟨(clH x ds).S,(clH x ds).Roots,(clH x ds).a8,(wot x.T ds).1,(clH x ds).Q⟩:Hp) (gnL x.S ds)) g.sr _ (by omega) (c0S hx hn hm) (K:=λe44=>some e44);refine Eq.trans k2 ?_;rfl
 ·have hd:=hm _ (List.getElem_mem hk);have f4:=b5T hx hn hm hd;have o4:=b6i hx hn hm hd;simp only[Int.ofNat_lt,hk,decide_true,if_true,n8 hk,d2P,show (hO x).S=sO x.S from rfl,a9Q hR hd];have e:a3l (oo (ob x.S ds[k])).Fields=some (outs x.S ds[k]):=b3o _ (by show (ob x.S ds[k]).Fields.length≤_;omega);rw[e,d2P,x4 (by omega) (by omega),d2P,k8];exact⟨rfl,by rw[List.length_append];omega⟩
end
end Go.Sh
namespace Go.Sh
theorem c5J{x:Hp}(hR:SR x.S)(hS:SL x){ds:List Int}(hn:ds.Nodup)(hm:∀d∈ds,d∈lv x.S)(t:Tb):SL (a23 x ds t):=λk hk=>by
 have g:=a1l ds hR hn hm;have hk:k∈lv (gnL x.S ds):=hk;rw[g.lv,List.mem_filter,decide_eq_true_iff] at hk;have e:ob (a23 x ds t).S k=ob x.S k:=g.ob k hk.1 hk.2;rw[e];exact hS k hk.1
theorem c2Q{x:Hp}(hR:SR x.S)(hS:SL x){ds:List Int}(hn:ds.Nodup)(hm:∀d∈ds,d∈lv x.S):SL (buH x ds):=
 b6C _ (x:=a23 x ds (wot x.T ds).1) (a1l ds hR hn hm).sr (c5J hR hS hn hm _)
theorem c4r{x:Hp}(hR:SR x.S)(hS:SL x){h:Int}(hh:h∈lv x.S):SL (quH x h):=by
 have hok:=b6O hR hh;have r1:=a0q (o:=srt (ob x.S h)) hR hh rfl hok;refine SL.A0 (x:=⟨seO x.S h (srt (ob x.S h)),x.Roots,x.a8,x.T,⟨x.Q.L ++ [qtk x h],x.Q.Cap⟩⟩) (λk hk=>?_) r1 h;dsimp only at hk ⊢;rw[a2V (o:=srt (ob x.S h)) hR hh rfl hok] at hk;rw[a2d (o:=srt (ob x.S h)) hR hh rfl hok (a1s hR hk)];split;·exact hS h hh
 ·exact hS k hk
theorem d0f{x:Hp}(hx:H7 x)(hS:SL x):SL (stp x):=by
 cases h:zr x with
 | nil=>rw[a6e h];exact hS
 | cons z l=>
  have hz:=(Z0.1 (show z∈zr x by rw[h];exact List.mem_cons_self ..)).1;rw[a1G h];split;·exact c4r hx.sh.sr hS hz
  ·exact c2Q hx.sh.sr hS (by simp) (by simpa using hz)
theorem b6P{x:Hp}(hx:H7 x)(hS:SL x)(n:Nat):SL (stN n x):=by
 induction n with
 | zero=>exact hS
 | succ n ih=>rw[a0A];exact d0f (U9 hx n) ih
theorem c1j{x:Hp}(hx:H7 x)(hS:SL x):SL (V9 x):=b6P hx hS 100
section
variable{x:Hp}(hx:H7 x)(hS:SL x)
include hx hS
theorem b5u{z:Int}(hz:z∈zr x):(x.Q.L++clt x.a8 [z]).length≤30:=by
 have h1:=(b4a hx hz).sh.q30;have hzl:=(Z0.1 hz).1;rw[(a3u hx.sh.sr (ds:=[z]) (by simp) (by simpa using hzl)).2.2.2] at h1;exact h1
theorem c16(h:zr x = []):((a07 x).bind λv4=>
  if ((v4.length:Int)==0) then
   some (Sum.inr x)
  else
  (ix v4 0).bind λv5=>
  (r7 x.S v5).bind λv6=>
  (J3 v6.1).bind λv7=>
  if v7 then
   (P2 x v5).bind λv8=>
   some (.inl v8)
  else
  (cut v4 0 1).bind λv9=>
  (Y4 x v9).bind λv10=>
  some (Sum.inl (α:=Hp) (β:=Hp) v10))=some (.inr x):=by
 rw[zero_eq hx.sh.sr,d2P,h];rfl
theorem d0O(z:Int)(l:List Int):cut (z::l) 0 1=some [z]:=by
 unfold cut;rw[if_pos (by simp;omega)];simp
theorem b9K(h:zr x ≠ []):((a07 x).bind λv4=>
  if ((v4.length:Int)==0) then
   some (Sum.inr x)
  else
  (ix v4 0).bind λv5=>
  (r7 x.S v5).bind λv6=>
  (J3 v6.1).bind λv7=>
  if v7 then
   (P2 x v5).bind λv8=>
   some (.inl v8)
  else
  (cut v4 0 1).bind λv9=>
  (Y4 x v9).bind λv10=>
  some (Sum.inl (α:=Hp) (β:=Hp) v10))=some (.inl (stp x)):=by
 cases hz:zr x with
 | nil=>exact absurd hz h
 | cons z l=>
  have hzm:z∈zr x:=by rw[hz];exact List.mem_cons_self ..
  have hzl:=(Z0.1 hzm).1;have hR:=hx.sh.sr;rw[zero_eq hR,d2P,hz,if_neg (by simp;omega),show ix (z::l) 0=some z from rfl,d2P,b0Y hR hzl,d2P,c0U,d2P,a1G hz];by_cases hd:due (ob x.S z)=true
  ·rw[if_pos hd,if_pos hd,b5f hx hS (a1s hR hzl),d2P];unfold quD;rw[if_pos ⟨hzl,hd⟩]
  ·rw[if_neg hd,if_neg hd,d0O hx hS,d2P,c0k hx (ds:=[z]) (by simp) (by simpa using hzl) (b5u hx hS hzm) (by rw[a94 hR [z] (by simp) (by simpa using a1s hR hzl),b7N hzl]),d2P]
theorem a3r:L7 x=some (V9 x):=by
 obtain⟨n,hn,h1,h2,h3⟩:=b1q hx;unfold L7;refine a0w (λj=>stN j x) rfl n (λ_=>True) (by omega) trivial (λk hk _=>.inl ⟨?_,trivial⟩) (λ_=>⟨stN n x,?_,by rw[h3]⟩)
 ·have:=b9K (U9 hx k) (b6P hx hS k) (h2 k hk);rw[←a0A] at this;exact this
 ·exact c16 (U9 hx n) (b6P hx hS n) h1
theorem c61{k:Nat}(hk:k<100)(h:zr x ≠ []){E:Type}{e:E}:((b0j (hO x)).bind λv35=>
     if ((v35.length:Int)==0) then
      some (Sum.inr e)
     else
     (ix v35 0).bind λv36=>
     (a72 (hO x) v36).bind λv37=>
     if v37 then
      (a3N (hO x) v36).bind λv38=>
      some (.inl (r8 ((k:Int)+1),v38))
     else
     (cut v35 0 1).bind λv39=>
     (a7j (hO x) v39).bind λv40=>
     some (Sum.inl (r8 ((k:Int)+1),v40)))=some (.inl (((k+1:Nat):Int),hO (stp x))):=by
 cases hz:zr x with
 | nil=>exact absurd hz h
 | cons z l=>
  have hzm:z∈zr x:=by rw[hz];exact List.mem_cons_self ..
  have hzl:=(Z0.1 hzm).1;have hR:=hx.sh.sr;rw[c5a hR,d2P,hz,if_neg (by simp;omega),show ix (z::l) 0=some z from rfl,d2P,c26 hx hS (a1s hR hzl),d2P,decide_eq_true hzl,Bool.true_and,a1G hz,k8];by_cases hd:due (ob x.S z)=true
  ·rw[if_pos hd,if_pos hd,b75 hx hS (a1s hR hzl),d2P];unfold quD;rw[if_pos ⟨hzl,hd⟩]
  ·rw[if_neg hd,if_neg hd,d0O hx hS,d2P,b4I hx (ds:=[z]) (by simp) (by simpa using hzl) (b5u hx hS hzm) (by rw[c27 hR [z] (by simp) (by simpa using a1s hR hzl),b7N hzl]),d2P]
theorem a5e:M4 (hO x)=some (hO (V9 x)):=by
 obtain⟨n,hn,h1,h2,h3⟩:=b1q hx;unfold M4;simp only[jn];refine a0w (λj=>((j:Int),hO (stN j x))) (by rfl) n (λ_=>True) (by omega) trivial (λk hk _=>.inl ⟨?_,trivial⟩) (λ_=>⟨.inl (hO (stN n x)),?_,by rw[h3]⟩)
 ·dsimp only;rw[if_pos (by simp;omega)];have:=c61 (U9 hx k) (b6P hx hS k) (k:=k) (by omega) (h2 k hk) (e:=(Sum.inl (hO (stN k x)):g7 ⊕ g7));rw[←a0A] at this;exact this
 ·dsimp only;rw[if_pos (by simp;omega),c5a (U9 hx n).sh.sr,d2P,h1];rfl
end
end Go.Sh
namespace Go.Sh
def I2(n l m e:Int):Int:=if n<l∨n > m then e else 0
def a0g(a b c:Int):Int:=if a≠0 then a else if b≠0 then b else c
def w8(k a b c:Int):Int:=
 if k=1 then a0g (I2 a 0 5 6) (I2 b 0 4 1) (I2 c (-1) 5 13)
 else if k=2∨k=9∨k=10 then a0g (I2 a 0 5 6) (I2 b 0 5 6) 0
 else if k=3 then I2 a 0 5 6
 else if k=4 then a0g (I2 a 0 5 6) (I2 b 0 5 6) (I2 c 0 3 5)
 else if k=5 then a0g (I2 a 0 5 6) (I2 b 0 3 5) (I2 c (-1) 5 6)
 else if k=6 then a0g (I2 a 0 5 7) (I2 b (-1) 5 6) (I2 c (-1) 5 13)
 else if k=7 then a0g (I2 a 0 5 6) (I2 b 0 5 7) 0
 else if k=8 then a0g (I2 a 0 5 6) (I2 b (-1) 5 6) 0
 else if k=11 then 0
 else if k=12 then I2 a 0 200 12
 else 14
def b6x:e6:=⟨some 114,0,5,6⟩
def c6W:e6:=⟨some 115,0,5,6⟩
def d1d:e6:=⟨some 115,-1,5,6⟩
def d1k:e6:=⟨some 117,-1,5,13⟩
def b1z:List (Int × List e6):=[(1,[b6x,⟨some 115,0,4,1⟩,d1k]),(2,[b6x,c6W]),(3,[b6x]),(4,[b6x,c6W,⟨some 117,0,3,5⟩]),
 (5,[b6x,⟨some 115,0,3,5⟩,⟨some 117,-1,5,6⟩]),(6,[⟨some 114,0,5,7⟩,d1d,d1k]),(7,[b6x,⟨some 115,0,5,7⟩]),(8,[b6x,d1d]),(9,[b6x,c6W]),(10,[b6x,c6W]),(11,[]),(12,[⟨some 114,0,200,12⟩])]
theorem b8X:a5y=some b1z:=by kernel_rfl
def a2C(o:c9)(d:e6):Int:=if d.part=some 114 then o.A else if d.part=some 115 then o.B else o.C
def a8w(o:c9)(d:e6):Bool:=decide (a2C o d<d.least)||decide (a2C o d > d.most)
def a9M(o:c9):List e6→Int ⊕ Unit
 | []=>.inr ()
 | d::ds=>if a8w o d then .inl d.e else a9M o ds
theorem b7w(o:c9)(d:e6)(ds:List e6):a9M o (d::ds)=if a8w o d then .inl d.e else a9M o ds:=rfl
def b96(d:e6):Prop:=d.part=some 114∨d.part=some 115∨d.part=some 117
theorem c9N(o:c9){d:e6}(h:b96 d):a9O d.part o=some (a2C o d):=by
 unfold a2C;rcases h with h | h | h
 ·rw[h];rfl
 ·rw[h];rfl
 ·rw[h];rfl
theorem c9n(o:c9)(ds:List e6)(hl:ds.length≤10)(hp:∀d∈ds,b96 d):lp (S:=Int) (E:=Int ⊕ Unit) (λ(s11:Int)=>
   if (decide (s11<(ds.length:Int))) then
    (ix ds s11).bind λv13=>
    (a9O v13.part o).bind λv14=>
    if ((decide (v14<v13.least))||(decide (v14 > v13.most))) then
     some (.inr (.inl v13.e))
    else
    some (.inl (r8 (s11+1)))
   else
   some (.inr (.inr ()))) 0=some (a9M o ds):=by
 refine a4t (b43 ds.length (λk=>a9M o ds=a9M o (ds.drop k)) (λe=>e=a9M o ds) (by omega) rfl (λk hk hP=>?_) (λhP=>?_))
 ·rw[if_pos (by simpa using hk),n8 hk,d2P,c9N o (hp _ (List.getElem_mem hk)),d2P];rw[List.drop_eq_getElem_cons hk,b7w] at hP;by_cases c:a8w o ds[k]=true
  ·rw[if_pos (show ((decide (a2C o ds[k]<ds[k].least))||(decide (a2C o ds[k] > ds[k].most)))=true from c)];rw[if_pos c] at hP;exact .inr ⟨_,rfl,hP.symm⟩
  ·rw[if_neg (show ¬((decide (a2C o ds[k]<ds[k].least))||(decide (a2C o ds[k] > ds[k].most)))=true from c),k8];rw[if_neg c] at hP;exact .inl ⟨rfl,hP⟩
 ·rw[List.drop_length] at hP;exact⟨_,if_neg (by simp),hP.symm⟩
theorem c5U:∀p∈b1z,p.2.length≤10∧∀d∈p.2,b96 d:=by
 have:b1z.all (λp=>decide (p.2.length≤10)&&p.2.all λd=>(d.part==some 114)||(d.part==some 115)||(d.part==some 117))=true:=by kernel_rfl
 intro p hp;have:=List.all_eq_true.1 this p hp;rw[Bool.and_eq_true,decide_eq_true_iff,List.all_eq_true] at this;refine⟨this.1,λd hd=>?_⟩;have:=this.2 d hd;simp only[Bool.or_eq_true,beq_iff_eq] at this;unfold b96;rcases this with (h | h) | h
 ·exact .inl h
 ·exact .inr (.inl h)
 ·exact .inr (.inr h)
theorem c0K{m:List (Int × List e6)}{k:Int}{v:List e6}(h:y8 m k=some v):(k,v)∈m:=by
 induction m with
 | nil=>cases h
 | cons p m ih=>
  unfold y8 at h;split at h
  ·rename_i c;have:k=p.1:=by simpa using c
   cases h;subst this;exact List.mem_cons_self ..
  ·exact List.mem_cons_of_mem _ (ih h)
def b0B(o:c9)(ds:List e6):Int:=match a9M o ds with
 | .inl e=>e
 | .inr _=>0
theorem c7m(o:c9):b0B o []=0:=rfl
theorem b0C(o:c9)(d:e6)(ds:List e6):b0B o (d::ds)=if a8w o d then d.e else b0B o ds:=by
 unfold b0B;rw[b7w];cases a8w o d <;> rfl
theorem b55(o:c9)(d:e6):I2 (a2C o d) d.least d.most d.e=if a8w o d then d.e else 0:=by
 unfold I2 a8w;by_cases h:a2C o d<d.least∨a2C o d > d.most
 ·rw[if_pos h,if_pos (by simpa using h)]
 ·rw[if_neg h,if_neg (by simpa using h)]
theorem c7k(o:c9)(d:e6):b0B o [d]=I2 (a2C o d) d.least d.most d.e:=by rw[b0C,c7m,b55]
theorem c4Z(o:c9)(d e:e6)(h1:d.e≠0):b0B o [d,e]=a0g (I2 (a2C o d) d.least d.most d.e) (I2 (a2C o e) e.least e.most e.e) 0:=by
 rw[b0C,c7k,b55 o d];unfold a0g;cases a8w o d
 ·simp only[Bool.false_eq_true,if_false,ne_eq,not_true_eq_false];split;·rfl
  ·rename_i h;simpa using h
 ·simp[h1]
theorem c7l(o:c9)(d e f:e6)(h1:d.e≠0)(h2:e.e≠0):b0B o [d,e,f]=a0g (I2 (a2C o d) d.least d.most d.e) (I2 (a2C o e) e.least e.most e.e) (I2 (a2C o f) f.least f.most f.e):=by
 rw[b0C,b0C,c7k,b55 o d,b55 o e];unfold a0g;cases a8w o d <;> cases a8w o e <;> simp[h1,h2]
theorem c3D(o:c9):(match y8 b1z o.Kind with
  | none=>14
  | some ds=>b0B o ds)=w8 o.Kind o.A o.B o.C:=by
 obtain⟨k,a,b,c⟩:=o;dsimp only;by_cases h:1≤k∧k≤12
 ·have:k=1∨k=2∨k=3∨k=4∨k=5∨k=6∨k=7∨k=8∨k=9∨k=10∨k=11∨k=12:=by omega
  rcases this with rfl | rfl | rfl | rfl | rfl | rfl | rfl | rfl | rfl | rfl | rfl | rfl
  ·exact c7l _ _ _ _ (by decide) (by decide)
  ·exact c4Z _ _ _ (by decide)
  ·exact c7k _ _
  ·exact c7l _ _ _ _ (by decide) (by decide)
  ·exact c7l _ _ _ _ (by decide) (by decide)
  ·exact c7l _ _ _ _ (by decide) (by decide)
  ·exact c4Z _ _ _ (by decide)
  ·exact c4Z _ _ _ (by decide)
  ·exact c4Z _ _ _ (by decide)
  ·exact c4Z _ _ _ (by decide)
  ·rfl
  ·exact c7k _ _
 ·have e:y8 b1z k=none:=by
   cases hm:y8 b1z k with
   | none=>rfl
   | some v=>
    have:=c0K hm;simp only[b1z,List.mem_cons,Prod.mk.injEq,List.not_mem_nil,or_false] at this;omega
  rw[e];unfold w8;repeat rw[if_neg (by omega)]
theorem a6Q(o:c9):O6 o=some (w8 o.Kind o.A o.B o.C):=by
 rw[←c3D];unfold O6;rw[b8X,d2P];cases h:y8 b1z o.Kind with
 | none=>rfl
 | some ds=>
  obtain⟨h1,h2⟩:=c5U _ (c0K h);rw[if_neg (by simp)];simp only[jn,Option.getD_some];rw[c9n o ds h1 h2,d2P];unfold b0B;cases a9M o ds <;> rfl
theorem c6d(n l m e:Int):a0U n l m e=some (I2 n l m e):=by
 unfold a0U I2;by_cases h:n<l∨n > m
 ·rw[if_pos h,if_pos (by simpa using h)]
 ·rw[if_neg h,if_neg (by simpa using h)]
theorem c3n(a b c:Int):a0b a b c=some (a0g a b c):=by
 unfold a0b a0g;by_cases h:a=0
 ·by_cases g:b=0
  ·rw[if_neg (by simpa using h),if_neg (by simpa using g),if_neg (by simpa using h),if_neg (by simpa using g)]
  ·rw[if_neg (by simpa using h),if_pos (by simpa using g),if_neg (by simpa using h),if_pos (by simpa using g)]
 ·rw[if_pos (by simpa using h),if_pos (by simpa using h)]
theorem a38(o:M5):a05 o=some (w8 o.Kind o.A o.B o.C):=by
 unfold a05 w8;simp only[c6d,c3n,d2P,jn];by_cases h:1≤o.Kind∧o.Kind≤12
 ·have:o.Kind=1∨o.Kind=2∨o.Kind=3∨o.Kind=4∨o.Kind=5∨o.Kind=6∨o.Kind=7∨o.Kind=8∨o.Kind=9∨o.Kind=10∨o.Kind=11∨o.Kind=12:=by omega
  rcases this with h | h | h | h | h | h | h | h | h | h | h | h <;> rw[h] <;> rfl
 ·have n:∀j:Int,1≤j→j≤12→(o.Kind==j)=false:=λj h1 h2=>by
   rw[beq_eq_false_iff_ne];omega
  simp only[n 1 (by omega) (by omega),n 2 (by omega) (by omega),n 3 (by omega) (by omega),n 4 (by omega) (by omega),n 5 (by omega) (by omega),n 6 (by omega) (by omega),n 7 (by omega) (by omega),n 8 (by omega) (by omega),n 9 (by omega) (by omega),n 10 (by omega) (by omega),n 11 (by omega) (by omega),n 12 (by omega) (by omega),Bool.false_eq_true,if_false];repeat rw[if_neg (by omega)]
end Go.Sh
namespace Go.Sh
end Go.Sh
namespace Go.Sh
end Go.Sh
namespace Go.Sh
end Go.Sh
namespace Go.Sh
def ooI(o:L3):l4:=⟨o.Serial,o.Strong,o.Weak,o.Prog,o.Started,o.Fields⟩
def sOI(s:o0):a7:=⟨⟨s.a8.map λc=>⟨c.State,c.Gen,ooI c.Val⟩,s.Last⟩,s.Serial⟩
def hOI(x:g7):Hp:=⟨sOI x.S,x.Roots,x.a8.map λc=>⟨c.Target,c.Intact,c.Call⟩,x.T.map λp=>⟨p.State,p.Key,p.Val⟩,⟨x.Q.L.map λt=>⟨t.Kind,t.At,t.Prog⟩,x.Q.Cap⟩⟩
theorem c9a(x:Hp):hOI (hO x)=x:=by
 obtain⟨⟨⟨cs,l⟩,n⟩,r,w,t,⟨q,c⟩⟩:=x;unfold hOI hO sOI sO tqR;dsimp only;have a1:(cs.map cO).map (λc=>(⟨c.State,c.Gen,ooI c.Val⟩:b7))=cs:=by
  rw[List.map_map];refine Eq.trans (List.map_congr_left λa _=>?_) (List.map_id cs);rfl
 have a2:(w.map wcR).map (λc=>(⟨c.Target,c.Intact,c.Call⟩:c5))=w:=by
  rw[List.map_map];refine Eq.trans (List.map_congr_left λa _=>?_) (List.map_id w);rfl
 have a3:(t.map J9).map (λp=>(⟨p.State,p.Key,p.Val⟩:b8))=t:=by
  rw[List.map_map];refine Eq.trans (List.map_congr_left λa _=>?_) (List.map_id t);rfl
 have a4:(q.map tkR).map (λt=>(⟨t.Kind,t.At,t.Prog⟩:g8))=q:=by
  rw[List.map_map];refine Eq.trans (List.map_congr_left λa _=>?_) (List.map_id q);rfl
 rw[a1,a2,a3,a4]
theorem c1a{x:Hp}(hx:H7 x){ds:List Int}:(x.Q.L++clt x.a8 ds).length≤30:=by
 have hS:=hx.sh;have c6:=hS.c6;have h24:(lv x.S).length≤24:=D4 (p6.2 hS.sr);have htd:(x.Q.L++clt x.a8 ds).Pairwise λa b=>¬(a.Kind=b.Kind∧a.At=b.At):=by
  rw[List.pairwise_append];refine⟨hS.td,b4K ..,λa ha b hb q=>?_⟩;obtain⟨w,hw,rfl,hh,_⟩:=a26.1 hb;have hi:x.a8[w].Intact=true:=by
   unfold Z4 at hh;rw[Bool.and_eq_true,Bool.and_eq_true] at hh;exact hh.1.1
  have:=((hS.cl w hw).2.2.2.2 hi).2;rw[Bool.eq_false_iff] at this;exact this (a4x.2 ⟨a,ha,q.1,q.2⟩)
 have:=b3X (m:=lv x.S) htd λt ht=>by
  rcases List.mem_append.1 ht with q | q
  ·rcases (hS.tk t q).2.2 with c | c
   ·exact .inl ⟨c.1,c.2.1⟩
   ·exact .inr c
  ·obtain⟨w,hw,rfl,_,_⟩:=a26.1 q;exact .inr ⟨rfl,by dsimp only;omega,by dsimp only;omega⟩
 omega
section
variable{x:Hp}(hB:HB x)
include hB
end
end Go.Sh
namespace Go.Sh
structure Stl (x y:Hp):Prop where
 lv:∀h∈lv y.S,h∈lv x.S
 T3:y.S.Serial=x.S.Serial
 len:y.S.S.a8.length=x.S.S.a8.length
 ob:∀h∈Sh.lv y.S,(ob y.S h).Serial=(ob x.S h).Serial∧(Sh.ob y.S h).Prog=(Sh.ob x.S h).Prog∧(Sh.ob y.S h).Fields=(Sh.ob x.S h).Fields∧((Sh.ob x.S h).Started=true→(Sh.ob y.S h).Started=true)
 rt:y.Roots=x.Roots
 cn:y.a8.length=x.a8.length
 cl:∀i (h:i<y.a8.length) (h':i<x.a8.length),y.a8[i]=⟨x.a8[i].Target,x.a8[i].Intact&&decide (x.a8[i].Target∈Sh.lv y.S),x.a8[i].Call⟩
 q:∃l,y.Q=⟨x.Q.L++l,x.Q.Cap⟩∧(∀t∈l,t.Kind=1→t.At∈Sh.lv x.S∧(Sh.ob x.S t.At).Started=false)∧∀h∈Sh.lv y.S,(Sh.ob y.S h).Started=true→(Sh.ob x.S h).Started=false→∃t∈l,t.Kind=1∧t.At=h
 rc:∀h,a0j x.S x.T (otr x) h→a0j y.S y.T (otr y) h
 has:∀k v,Has y.T k v→Has x.T k v
theorem Stl.refl{x:Hp}(hx:HpS x):Stl x x:=by
 refine⟨λ_ h=>h,rfl,rfl,λh _=>⟨rfl,rfl,rfl,id⟩,rfl,rfl,λi h h'=>?_,⟨[],by simp,by simp,λh _ a b=>?_⟩,λ_ h=>h,λ_ _ h=>h⟩
 ·have:=(hx.cl i h).2.2.2.2;cases hI:x.a8[i].Intact;·rw[Bool.false_and,←hI]
  ·rw[decide_eq_true (this hI).1,Bool.and_self,←hI]
 ·rw[a] at b;cases b
theorem Stl.trans{x y z:Hp}(a:Stl x y)(b:Stl y z):Stl x z:=by
 obtain⟨l1,q1,q2,q3⟩:=a.q;obtain⟨l2,r1,r2,r3⟩:=b.q;refine⟨λh hh=>a.lv h (b.lv h hh),b.T3.trans a.T3,b.len.trans a.len,λh hh=>?_,b.rt.trans a.rt,b.cn.trans a.cn,λi h h'=>?_,⟨l1++l2,?_,λt ht hk=>?_,λh hh s1 s2=>?_⟩,λh hh=>b.rc h (a.rc h hh),λk v hh=>a.has k v (b.has k v hh)⟩
 ·obtain⟨b1,b2,b3,b4⟩:=b.ob h hh;obtain⟨a1,a2,a3,a4⟩:=a.ob h (b.lv h hh);exact⟨b1.trans a1,b2.trans a2,b3.trans a3,λq=>b4 (a4 q)⟩
 ·have hy:i<y.a8.length:=by rw[a.cn];exact h'
  rw[b.cl i h hy,a.cl i hy h'];dsimp only;congr 1;rw[Bool.and_assoc];congr 1;by_cases q:x.a8[i].Target∈Sh.lv z.S
  ·rw[decide_eq_true q,decide_eq_true (b.lv _ q)];rfl
  ·rw[decide_eq_false q,Bool.and_false]
 ·rw[r1,q1,List.append_assoc]
 ·rcases List.mem_append.1 ht with q | q
  ·exact q2 t q hk
  ·obtain⟨e1,e2⟩:=r2 t q hk;refine⟨a.lv _ e1,?_⟩;cases hs:(Sh.ob x.S t.At).Started;·rfl
   ·rw[(a.ob _ e1).2.2.2 hs] at e2;cases e2
 ·cases hs:(Sh.ob y.S h).Started
  ·obtain⟨t,ht,e⟩:=r3 h hh s1 hs;exact⟨t,List.mem_append_right _ ht,e⟩
  ·obtain⟨t,ht,e⟩:=q3 h (b.lv h hh) hs s2;exact⟨t,List.mem_append_left _ ht,e⟩
theorem c1g(s:a7)(h:Int)(o:l4):(seO s h o).S.a8.length=s.S.a8.length:=K0 ..
theorem c6S{x:Hp}(hx:H7 x){z:Int}(hz:z∈lv x.S)(hs:(ob x.S z).Started=false):Stl x (quH x z):=by
 have hR:=hx.sh.sr;obtain⟨k,e1,e2,e3,e4⟩:=a29 hR hz;have l1:=b3w hR hz;have hob:∀h∈lv x.S,(ob (quH x z).S h).Serial=(ob x.S h).Serial∧(ob (quH x z).S h).Prog=(ob x.S h).Prog∧(ob (quH x z).S h).Fields=(ob x.S h).Fields∧((ob (quH x z).S h).Started=true↔(ob x.S h).Started=true∨h=z):=λh hh=>by
  obtain⟨n,e⟩:=b3x hR hz hh;rw[e];by_cases q:h=z
  ·subst q;rw[if_pos rfl];exact⟨rfl,rfl,rfl,by simp⟩
  ·rw[if_neg q];exact⟨rfl,rfl,rfl,by simp[q]⟩
 have hot:∀h∈otr x,h∈otr (quH x z):=λh hh=>by
  unfold otr at hh ⊢;rw[e1,e4];rcases List.mem_append.1 hh with q | q
  ·exact List.mem_append_left _ q
  ·refine List.mem_append_right _ ?_;obtain⟨t,ht,a,b⟩:=a99.1 q;exact a99.2 ⟨t,List.mem_append_left _ ht,a,b⟩
 have rf:=Stl.refl hx.sh;refine⟨λh hh=>by rw[l1] at hh;exact hh,k.T3,k.len.trans (c1g ..),λh hh=>?_,e1,by rw[e2],λi h h'=>?_,⟨[qtk x z],by rw[e4],λt ht hk=>?_,λh hh s1 s2=>?_⟩,λh hh=>?_,λk v hh=>by rw[e3] at hh;exact hh⟩
 ·rw[l1] at hh;obtain⟨a,b,c,d⟩:=hob h hh;exact⟨a,b,c,λq=>d.2 (.inl q)⟩
 ·have e5:(quH x z).a8[i]=x.a8[i]:=by simp only[e2]
  rw[e5,l1];exact rf.cl i h' h'
 ·rw[List.mem_singleton] at ht;subst ht;exact⟨hz,hs⟩
 ·rw[l1] at hh;rcases (hob h hh).2.2.2.1 s1 with q | q
  ·rw[q] at s2;cases s2
  ·exact⟨qtk x z,List.mem_singleton_self _,rfl,q.symm⟩
 ·induction hh with
  | base h1 h2=>exact .base (hot _ h1) (by rw[l1];exact h2)
  | step h0 h1 h2 ih=>
   refine .step ih ?_ (by rw[l1];exact h2);unfold outs at h1 ⊢;rw[(hob _ h0.live).2.2.1];exact h1
  | pair h1 h0 h2 ih=>exact .pair (by rw[e3];exact h1) ih (by rw[l1];exact h2)
theorem c5L{x:Hp}(hx:H7 x){z:Int}(hz:z∈zr x):Stl x (buH x [z]):=by
 have hR:=hx.sh.sr;have hzl:=(Z0.1 hz).1;have h0:z≠0:=λe=>a5N hR (e▸hzl);have hfree:=b63 hx hz;have hn:([z]:List Int).Nodup:=by simp
 have hm:∀d ∈ [z],d∈lv x.S:=by simpa using hzl
 have g:=a1l [z] hR hn hm;have k:=(a3R ([z].flatMap (outs x.S)++(wot x.T [z]).2) (x:=a23 x [z] (wot x.T [z]).1) g.sr).1;obtain⟨e1,e2,e3,e4⟩:=a3u hR hn hm;obtain⟨_,w2,_,_,w5,w6⟩:=a3Y hx.sh.hr [z] (by simp);have l1:∀h,h∈lv (buH x [z]).S↔h∈lv x.S∧h≠z:=λh=>by
  rw[b2N hR hn hm,List.mem_filter,decide_eq_true_iff,List.mem_singleton]
 have hob:∀h∈lv (buH x [z]).S,(ob (buH x [z]).S h).Serial=(ob x.S h).Serial∧(ob (buH x [z]).S h).Prog=(ob x.S h).Prog∧(ob (buH x [z]).S h).Fields=(ob x.S h).Fields∧(ob (buH x [z]).S h).Started=(ob x.S h).Started:=λh hh=>by
  obtain⟨a,b⟩:=(l1 h).1 hh;obtain⟨n,e⟩:=b2O hR hn hm a (by simpa using b);rw[e];exact⟨rfl,rfl,rfl,rfl⟩
 refine⟨λh hh=>((l1 h).1 hh).1,k.T3.trans g.T3,k.len.trans g.len,λh hh=>?_,e1,by rw[e2];simp[clr],λi h h'=>?_,⟨clt x.a8 [z],by rw[e4],λt ht hk=>?_,λh hh s1 s2=>?_⟩,λh hh=>?_,λk v hh=>?_⟩
 ·obtain⟨a,b,c,d⟩:=hob h hh;exact⟨a,b,c,λq=>d.trans q⟩
 ·have e5:(buH x [z]).a8[i]=a3v [z] x.a8[i]:=by
   simp only[e2];exact List.getElem_map _
  rw[e5];have hc:=(hx.sh.cl i h').2.2.2.2;unfold a3v Z4;cases hI:x.a8[i].Intact;·rw[if_neg (by simp),Bool.false_and,←hI]
  ·have ht:=(hc hI).1;have ht0:x.a8[i].Target≠0:=λe=>a5N hR (e▸ht);by_cases q:x.a8[i].Target=z
   ·rw[if_pos (by simp[q,h0]),decide_eq_false (λr=>((l1 _).1 r).2 q)];rfl
   ·rw[if_neg (by simp[q]),decide_eq_true ((l1 _).2 ⟨ht,q⟩),Bool.and_self,←hI]
 ·obtain⟨w,hw,rfl,_,_⟩:=a26.1 ht;simp at hk
 ·rw[(hob h hh).2.2.2,s2] at s1;cases s1
 ·unfold nms at hfree;have key:a0j (buH x [z]).S (buH x [z]).T (otr (buH x [z])) h∧h≠z:=by
   induction hh with
   | base h1 h2=>
    rename_i a;have hne:a≠z:=λe=>by
     subst e;exact b8x h0 (by omega:W0 (otr x) a=0) h1
    refine⟨.base ?_ ((l1 _).2 ⟨h2,hne⟩),hne⟩;unfold otr at h1 ⊢;rw[e1,e4,b3c _ _ _ λt ht=>by
     obtain⟨w,_,rfl,_⟩:=a26.1 ht;simp]
    exact h1
   | step q0 q1 q2 ih=>
    rename_i a b;have hne:b≠z:=λe=>by
     subst e;have:=b56 (y:=b) q0.live;have h1:=a1H.2 ⟨h0,q1⟩;omega
    refine⟨.step ih.1 ?_ ((l1 _).2 ⟨q2,hne⟩),hne⟩;unfold outs at q1 ⊢;rw[(hob _ ((l1 _).2 ⟨q0.live,ih.2⟩)).2.2.1];exact q1
   | pair q1 q0 q2 ih=>
    rename_i a b;have hne:b≠z:=λe=>by
     subst e;have:=b6l q1 h0;omega
    exact⟨.pair (by rw[e3];exact (w5 _ _).2 ⟨by simpa using ih.2,q1⟩) ih.1 ((l1 _).2 ⟨q2,hne⟩),hne⟩
  exact key.1
 ·rw[e3] at hh;exact ((w5 _ _).1 hh).2
theorem c7c{x:Hp}(hx:H7 x):Stl x (stp x):=by
 cases h:zr x with
 | nil=>rw[a6e h];exact Stl.refl hx.sh
 | cons z l=>
  have hz:z∈zr x:=by rw[h];exact List.mem_cons_self ..
  rw[a1G h];split
  ·rename_i q;unfold due at q;rw[Bool.and_eq_true,decide_eq_true_iff,Bool.not_eq_true'] at q;exact c6S hx (Z0.1 hz).1 q.2
  ·exact c5L hx hz
theorem c7b{x:Hp}(hx:H7 x)(n:Nat):Stl x (stN n x):=by
 induction n with
 | zero=>exact Stl.refl hx.sh
 | succ n ih=>rw[a0A];exact ih.trans (c7c (U9 hx n))
theorem a3V{x:Hp}(hx:H7 x):Stl x (V9 x):=c7b hx 100
end Go.Sh
namespace Go.Sh
section
variable{x:Hp}(hB:HB x)
include hB
end
end Go.Sh
namespace Go.Sh
end Go.Sh
namespace Go.Sh
end Go.Sh
namespace Go.Sh
end Go.Sh
namespace Go.Sh
structure Ks (s s':a7):Prop where
 sr:SR s'
 T3:s'.Serial=s.Serial
 lv:lv s'=lv s
 ob:∀h∈Sh.lv s,(ob s' h).Serial=(ob s h).Serial
theorem Ks.refl{s:a7}(hR:SR s):Ks s s:=⟨hR,rfl,rfl,λ_ _=>rfl⟩
theorem Ks.trans{a b c:a7}(h:Ks a b)(q:Ks b c):Ks a c:=⟨q.sr,q.T3.trans h.T3,q.lv.trans h.lv,λk hk=>(q.ob k (by rw[h.lv];exact hk)).trans (h.ob k hk)⟩
theorem Kin.ks{s s':a7}(hR:SR s)(k:Kin s s'):Ks s s':=⟨k.sr,k.T3,k.lv,λh hh=>by
 obtain⟨n,e⟩:=k.ob h (by have:=D5 hR hh;omega);rw[e]⟩
theorem Kn.ks{s s':a7}(k:Kn s s')(e:s'.Serial=s.Serial):Ks s s':=⟨k.sr,e,k.lv,λh hh=>by
 obtain⟨n,m,e⟩:=k.ob h hh;rw[e]⟩
theorem c95{s:a7}(hR:SR s){h:Int}(hh:h∈lv s){o:l4}(hs:o.Serial=(ob s h).Serial)(ho:OkO s o):Ks s (seO s h o):=⟨a0q hR hh hs ho,rfl,a2V hR hh hs ho,λk hk=>by
 rw[a2d hR hh hs ho (by have:=D5 hR hk;omega)];split;·rename_i e;subst e;exact hs
 ·rfl⟩
theorem b6H{x:Hp}(hR:SR x.S)(h:Int):Ks x.S (A0 x h).S:=(B7 hR h λc=>A5).ks hR
theorem b6D{x:Hp}(hR:SR x.S)(h:Int):Ks x.S (N5 x h).S:=(B7 hR h λc=>F1).ks hR
theorem b0p(x:Hp)(h:Int):(N5 x h).Roots=x.Roots∧(N5 x h).a8=x.a8∧(N5 x h).T=x.T∧(N5 x h).Q=x.Q:=b3W x h a2r
theorem R3{x:Hp}(hR:SR x.S)(r:Nat)(h:Int):Ks x.S (A3 x r h).S:=
 (b6H hR h).trans (b6D (x:=wR (A0 x h) (x.Roots.set r h)) (a2U hR h) _)
theorem b4N{x:Hp}(hR:SR x.S){h:Int}(hh:h∈lv x.S){n:Nat}(hn:n<(ob x.S h).Fields.length)(v:Int):Ks x.S (a0K x h n v).S:=by
 have k1:=b6H hR v;have hh1:h∈lv (A0 x v).S:=by rw[k1.lv];exact hh
 have hof:(ob (A0 x v).S h).Fields=(ob x.S h).Fields:=by
  obtain⟨n,e⟩:=(B7 hR v (f:=N3) λc=>A5).ob h (by have:=D5 hR hh;omega);show (ob (stO x v N3).S h).Fields=_;rw[e]
 have ho:OkO (A0 x v).S (flg (ob (A0 x v).S h) ((ob x.S h).Fields.set n v)):=by
  have:=H2 k1.sr hh1;refine⟨this.s1,this.s2,this.st,this.wk,this.p1,this.p2,?_⟩;have h4:=this.fl;rw[hof] at h4;simpa using h4
 have k2:=c95 (o:=flg (ob (A0 x v).S h) ((ob x.S h).Fields.set n v)) k1.sr hh1 rfl ho;exact (k1.trans k2).trans (b6D (x:=wS (A0 x v) (seO (A0 x v).S h (flg (ob (A0 x v).S h) ((ob x.S h).Fields.set n v)))) k2.sr _)
theorem a6W(x:Hp)(h:Int)(n:Nat)(v:Int):(a0K x h n v).Roots=x.Roots∧(a0K x h n v).a8=x.a8∧(a0K x h n v).T=x.T∧(a0K x h n v).Q=x.Q:=by
 obtain⟨a,b,c,d⟩:=b0p (wS (A0 x v) (seO (A0 x v).S h (flg (ob (A0 x v).S h) ((ob x.S h).Fields.set n v)))) ((ob x.S h).Fields.getD n 0);obtain⟨a',b',c',d'⟩:=a5b x v;exact⟨a.trans a',b.trans b',c.trans c',d.trans d'⟩
theorem b7X{x:Hp}(hR:SR x.S)(v:Int)(t:Tb)(old:Int):Ks x.S (a41 x v t old).S:=
 (b6H hR v).trans (b6D (x:=wT (A0 x v) t) (a2U hR v) old)
theorem a9d(x:Hp)(v:Int)(t:Tb)(old:Int):(a41 x v t old).Roots=x.Roots∧(a41 x v t old).a8=x.a8∧(a41 x v t old).T=t∧(a41 x v t old).Q=x.Q:=by
 obtain⟨a,b,c,d⟩:=b0p (wT (A0 x v) t) old;obtain⟨a',b',c',d'⟩:=a5b x v;exact⟨a.trans a',b.trans b',c,d.trans d'⟩
end Go.Sh
namespace Go.Sh
theorem c88{s:a7}(hR:SR s){i:Nat}(hi:i<s.S.a8.length)(h2:(ce s i).State=2):Ks s (gvA s i):=⟨b52 hR hi,rfl,b50 hR hi h2,λh hh=>by rw[b51 hR hi h2 hh]⟩
theorem c9p{x:Hp}(hR:SR x.S)(h:Int){d:Int}(hd:U2 x.S h (B1 h)→0≤(ce x.S (B1 h)).Val.Weak+d):Ks x.S (mkd x h d).S:=by
 unfold mkd;split
 ·rename_i q;exact (a5O hR q.1 q.2.1 (hd q)).ks rfl
 ·exact Ks.refl hR
theorem c3R(x:Hp)(h d:Int):(mkd x h d).Roots=x.Roots∧(mkd x h d).a8=x.a8∧(mkd x h d).T=x.T∧(mkd x h d).Q=x.Q:=by
 unfold mkd;split <;> exact⟨rfl,rfl,rfl,rfl⟩
theorem c2h(x:Hp)(h:Int):(a7C x h).Roots=x.Roots∧(a7C x h).a8=x.a8∧(a7C x h).T=x.T∧(a7C x h).Q=x.Q:=by
 unfold a7C;split;·split <;> exact⟨rfl,rfl,rfl,rfl⟩
 ·exact⟨rfl,rfl,rfl,rfl⟩
theorem c1o{x:Hp}(hR:SR x.S)(h:Int)(hd:U2 x.S h (B1 h)→1≤(ce x.S (B1 h)).Val.Weak):Ks x.S (a7C x h).S:=by
 unfold a7C;split
 ·rename_i q;have hd:=hd q;have kn:=a5O (d:=-1) hR q.1 q.2.1 (by omega);split
  ·rename_i c;have hi1:B1 h<(mkA x.S (B1 h) (-1)).S.a8.length:=by rw[kn.len];exact q.1
   have hce:ce (mkA x.S (B1 h) (-1)) (B1 h)=⟨(ce x.S (B1 h)).State,(ce x.S (B1 h)).Gen,wkg (ce x.S (B1 h)).Val ((ce x.S (B1 h)).Val.Weak + -1)⟩:=by
    rw[a2Q hR q.1 q.2.1,if_pos rfl]
   have h2:(ce (mkA x.S (B1 h) (-1)) (B1 h)).State=2:=by rw[hce];exact c.1
   exact (kn.ks rfl).trans (c88 kn.sr hi1 h2)
  ·exact kn.ks rfl
 ·exact Ks.refl hR
theorem b8B{x:Hp}(hx:H7 x){n:Nat}(hn:n<6)(h call:Int):Ks x.S (a1R x n h call).S:=by
 have hR:=hx.sh.sr;have hnl:n<x.a8.length:=by have:=hx.sh.c6;omega
 have ok:∀k i,U2 x.S k i→0≤(ce x.S i).Val.Weak:=λk i q=>(hR.ok i q.1 q.2.1).wk;have tw:∀i,U2 x.S (tgt x n) i→1≤(ce x.S i).Val.Weak:=λi q=>by
  have htg:tgt x n=x.a8[n].Target:=by
   unfold tgt;rw[List.getD_eq_getElem?_getD,List.getElem?_eq_getElem hnl];rfl
  have r:=q.rng hR;have p:=b0a hnl (by rw[←htg];omega);rw[←htg,q.2.2] at p;have:=(hx.wk i q.1 q.2.1).1;omega
 unfold a1R;have s1:Ks x.S (mkd (wC x (x.a8.set n (wcl h call))) h 1).S:=c9p (x:=wC x (x.a8.set n (wcl h call))) hR h λq=>by
  have:=ok _ _ q;dsimp only;omega
 by_cases q:U2 x.S h (B1 h)
 ·have e:mkd (wC x (x.a8.set n (wcl h call))) h 1=wS (wC x (x.a8.set n (wcl h call))) (mkA x.S (B1 h) 1):=by
   unfold mkd;rw[if_pos q]
  have hd:=ok _ _ q;have kn:=a5O (d:=1) hR q.1 q.2.1 (by omega);rw[e] at s1 ⊢;refine s1.trans (c1o (x:=wS (wC x (x.a8.set n (wcl h call))) (mkA x.S (B1 h) 1)) kn.sr _ λq2=>?_);dsimp only at q2 ⊢;have q3:=(kn.ad _ _).1 q2;have:=tw _ q3;rw[a2Q hR q.1 q.2.1];split
  ·rename_i e2;rw[e2] at this;show 1≤(ce x.S (B1 h)).Val.Weak+1;omega
  ·exact this
 ·have e:mkd (wC x (x.a8.set n (wcl h call))) h 1=wC x (x.a8.set n (wcl h call)):=by
   unfold mkd;rw[if_neg q]
  rw[e] at s1 ⊢;exact s1.trans (c1o (x:=wC x (x.a8.set n (wcl h call))) hR _ λq2=>tw _ q2)
theorem a9o(x:Hp)(n:Nat)(h call:Int):(a1R x n h call).Roots=x.Roots∧(a1R x n h call).a8=x.a8.set n (wcl h call)∧(a1R x n h call).T=x.T∧(a1R x n h call).Q=x.Q:=by
 obtain⟨a,b,c,d⟩:=c2h (mkd (wC x (x.a8.set n (wcl h call))) h 1) (tgt x n);obtain⟨a',b',c',d'⟩:=c3R (wC x (x.a8.set n (wcl h call))) h 1;exact⟨a.trans a',b.trans b',c.trans c',d.trans d'⟩
end Go.Sh
namespace Go.Sh
abbrev nwo(s:a7)(n:Nat)(p:Int):l4:=⟨s.Serial+1,0,0,p,false,List.replicate n 0⟩
def mkS(s:a7)(i n:Nat)(p:Int):a7:=⟨⟨s.S.a8.set i ⟨1,(ce s i).Gen,nwo s n p⟩,s.S.Last⟩,s.Serial+1⟩
section
variable{s:a7}(hR:SR s){i:Nat}(hi:i<s.S.a8.length)(h0:(ce s i).State=0){n:Nat}(hn:n≤4){p:Int}(hp : -1≤p∧p≤5)
include hR hi h0 hn hp
theorem a4H:(mkS s i n p).S.a8.length=s.S.a8.length:=by simp[mkS]
theorem a6t(j:Nat):ce (mkS s i n p) j=if j=i then ⟨1,(ce s i).Gen,nwo s n p⟩ else ce s j:=a2w hi _ _ j
theorem b48:SR (mkS s i n p):=by
 have hser:=hR.T3;have hc:=hR.cell i hi;have hnt:¬Th (ce s i):=λh=>by
  rcases h with h | h <;> omega
 refine⟨by rw[a4H hR hi h0 hn hp];exact hR.len,hR.l0,hR.l9,by show 0≤s.Serial+1;omega,λj hj=>?_,λj hj ht=>?_,λj hj ht=>?_,λj k hj hk a b e=>?_⟩
 ·rw[a4H hR hi h0 hn hp] at hj;rw[a6t hR hi h0 hn hp];split;·exact⟨show (0:Int)≤1 by decide,show (1:Int)≤3 by decide,hc.2.2.1,hc.2.2.2⟩
  ·exact hR.cell j hj
 ·rw[a4H hR hi h0 hn hp] at hj;rw[a6t hR hi h0 hn hp] at ht ⊢;split at ht;·exact absurd (.inl rfl) ht
  ·rename_i e;rw[if_neg e];exact hR.no j hj ht
 ·rw[a4H hR hi h0 hn hp] at hj;rw[a6t hR hi h0 hn hp] at ht ⊢;split at ht
  ·rename_i e;rw[if_pos e];exact⟨by show 1≤s.Serial+1;omega,Int.le_refl _,Int.le_refl 0,Int.le_refl 0,hp.1,hp.2,by simpa using hn⟩
  ·rename_i e;rw[if_neg e];have:=hR.ok j hj ht;exact⟨this.s1,by show _≤s.Serial+1;have:=this.s2;omega,this.st,this.wk,this.p1,this.p2,this.fl⟩
 ·rw[a4H hR hi h0 hn hp] at hj hk;rw[a6t hR hi h0 hn hp] at a e;rw[a6t hR hi h0 hn hp] at b e;have old:∀m,m<s.S.a8.length→Th (ce s m)→(ce s m).Val.Serial≠s.Serial+1:=λm hm t q=>by
   have:=(hR.ok m hm t).s2;omega
  by_cases ej:j=i <;> by_cases ek:k=i
  ·rw[ej,ek]
  ·rw[if_neg ek] at b e;rw[if_pos ej] at e;exact absurd e.symm (old k hk b)
  ·rw[if_neg ej] at a e;rw[if_pos ek] at e;exact absurd e (old j hj a)
  ·rw[if_neg ej] at a e;rw[if_neg ek] at b e;exact hR.dif j k hj hk a b e
theorem b9n{k:Int}{j:Nat}(q:U2 s k j):j≠i:=λe=>by
 subst e;rcases q.2.1 with h | h <;> omega
theorem c9o{k:Int}{j:Nat}:U2 (mkS s i n p) k j↔U2 s k j∨(j=i∧k=hdl s i):=by
 unfold U2;rw[a4H hR hi h0 hn hp,a6t hR hi h0 hn hp];by_cases e:j=i
 ·rw[if_pos e];subst e;constructor
  ·rintro⟨a,b,c⟩;exact .inr ⟨rfl,c⟩
  ·rintro (⟨a,b,c⟩ | ⟨_,c⟩);·exact absurd rfl (b9n hR hi h0 hn hp ⟨a,b,c⟩)
   ·exact⟨hi,.inl rfl,c⟩
 ·rw[if_neg e];constructor;·exact .inl
  ·rintro (h | ⟨h,_⟩);·exact h
   ·exact absurd h e
theorem c0L:lv (mkS s i n p)=lv s ++ [hdl s i]:=by
 have e:=b9m (s:=s) (p6.2 hR) hi (by rw[←B3 hi];exact h0) (nwo s n p) rfl (a1r (p6.2 hR));unfold mkS;rw[show (ce s i).Gen=s.S.a8[i].Gen by rw[B3 hi]];have e2:hdl s i=1+(i:Int)+32*s.S.a8[i].Gen:=by unfold hdl;rw[B3 hi]
 rw[e2];have:=a1r (p6.2 (by have:=b48 hR hi h0 hn hp;unfold mkS at this;rw[show (ce s i).Gen=s.S.a8[i].Gen by rw[B3 hi]] at this;exact this));rw[e] at this;exact (Option.some.inj this).symm
theorem c3P:hdl s i∉lv s:=λh=>by
 obtain⟨j,q⟩:=(a1q hR).1 h;have:i=j:=by
  have a:=q.2.2;have b:=q.1;unfold hdl at a;have:=hR.len;omega
 subst this;have:=q.2.1;omega
theorem b47{k:Int}(hk:k∈lv s):ob (mkS s i n p) k=ob s k:=by
 obtain⟨j,q⟩:=(a1q hR).1 hk;have hj:=b9n hR hi h0 hn hp q.d;have q2:At (mkS s i n p) k j:=by
  refine⟨by rw[a4H hR hi h0 hn hp];exact q.1,?_,?_⟩ <;> rw[a6t hR hi h0 hn hp,if_neg hj]
  ·exact q.2.1
  ·exact q.2.2
 rw[L5 (b48 hR hi h0 hn hp) q2,L5 hR q,a6t hR hi h0 hn hp,if_neg hj]
theorem b03:ob (mkS s i n p) (hdl s i)=nwo s n p:=by
 have q2:At (mkS s i n p) (hdl s i) i:=by
  refine⟨by rw[a4H hR hi h0 hn hp];exact hi,?_,?_⟩ <;> rw[a6t hR hi h0 hn hp,if_pos rfl]
  rfl
 rw[L5 (b48 hR hi h0 hn hp) q2,a6t hR hi h0 hn hp,if_pos rfl]
end
theorem c1m{l:List Int}{h:Int}(e:h∉l):W0 l h=0:=Nat.eq_zero_of_not_pos λq=>e (a1H.1 q).2
theorem c3Q{x:Hp}(hx:H7 x){i:Nat}(hi:i<x.S.S.a8.length)(h0:(ce x.S i).State=0){n:Nat}(hn:n≤4){p:Int}(hp : -1≤p∧p≤5):H7 (wS x (mkS x.S i n p)):=by
 have hR:=hx.sh.sr;have hS:=b48 hR hi h0 hn hp;have hl:=c0L hR hi h0 hn hp;have hnew:=c3P hR hi h0 hn hp;have mem:∀ {k},k∈lv x.S→k∈lv (mkS x.S i n p):=λhk=>by rw[hl];exact List.mem_append_left _ hk
 have mem0:∀ {k},k=0∨k∈lv x.S→k=0∨k∈lv (mkS x.S i n p):=λhk=>hk.imp id mem;have hpos:=b2f hR hi;have split:∀ {k},k∈lv (mkS x.S i n p)→k∈lv x.S∨k=hdl x.S i:=λhk=>by
  rw[hl] at hk;rcases List.mem_append.1 hk with q | q
  ·exact .inl q
  ·exact .inr (List.mem_singleton.1 q)
 have rep:∀v∈List.replicate n (0:Int),v=0:=λv hv=>(List.mem_replicate.1 hv).2;have ntgt:∀j (hj:j<x.a8.length),x.a8[j].Target≠hdl x.S i:=λj hj e=>by
  obtain⟨q,hq⟩:=(hx.sh.cl j hj).2.2.2.1 (by rw[e];omega);rw[e] at hq;have:q=i:=by
   have a:=hq.2.2;have b:=hq.1;unfold hdl at a;have:=hR.len;omega
  exact b9n hR hi h0 hn hp hq this
 refine⟨⟨hS,hx.sh.hr,hx.sh.r6,hx.sh.c6,hx.sh.cap,hx.sh.q30,λt ht=>?_,hx.sh.td,λh hh=>mem0 (hx.sh.rt h hh),λh hh v hv=>?_,λk v hk=>?_,λj hj=>?_⟩,λj hj ht=>?_,λh hh hs=>?_⟩
 ·obtain⟨a,b,c⟩:=hx.sh.tk t ht;refine⟨a,b,c.imp (λ⟨d,e,f⟩=>⟨d,mem e,?_⟩) id⟩;show (ob (mkS x.S i n p) t.At).Started=true;rw[b47 hR hi h0 hn hp e];exact f
 ·rcases split hh with q | q
  ·have hv':v∈(ob (mkS x.S i n p) h).Fields:=hv;rw[b47 hR hi h0 hn hp q] at hv';exact mem0 (hx.sh.fl h q v hv')
  ·subst q;have hv':v∈(ob (mkS x.S i n p) (hdl x.S i)).Fields:=hv;rw[b03 hR hi h0 hn hp] at hv';exact .inl (rep v hv')
 ·obtain⟨a,b⟩:=hx.sh.pr k v hk;exact⟨mem a,mem b⟩
 ·obtain⟨a,b,c,d,e⟩:=hx.sh.cl j hj;refine⟨a,b,c,λq=>?_,λq=>⟨mem (e q).1,(e q).2⟩⟩;obtain⟨m,hm⟩:=d q;exact⟨m,(c9o hR hi h0 hn hp).2 (.inl hm)⟩
 ·have hj':j<x.S.S.a8.length:=by have:j<(mkS x.S i n p).S.a8.length:=hj;rwa [a4H hR hi h0 hn hp] at this
  show (ce (mkS x.S i n p) j).Val.Weak=(nmg x.a8 (1+(j:Int)+32*(ce (mkS x.S i n p) j).Gen):Int)∧_;have ht':Th (ce (mkS x.S i n p) j):=ht;rw[a6t hR hi h0 hn hp] at ht' ⊢;by_cases e:j=i
  ·subst e;rw[if_pos rfl];refine⟨?_,λq=>absurd (show (1:Int)=2 from q) (by decide)⟩;show (0:Int)=(nmg x.a8 (hdl x.S j):Int);have:nmg x.a8 (hdl x.S j)=0:=by
    unfold nmg;rw[List.countP_eq_zero];intro c hc;obtain⟨m,hm,rfl⟩:=List.getElem_of_mem hc;have:=ntgt m hm;simp[this]
   rw[this];rfl
  ·rw[if_neg e] at ht' ⊢;exact hx.wk j hj' ht'
 ·have hinn:∀y,inn (mkS x.S i n p) y=inn x.S y:=λy=>by
   unfold inn;rw[hl,List.map_append,List.sum_append];have e1:(lv x.S).map (λk=>W0 (outs (mkS x.S i n p) k) y)=(lv x.S).map λk=>W0 (outs x.S k) y:=List.map_congr_left λk hk=>by
    unfold outs;rw[b47 hR hi h0 hn hp hk]
   rw[e1];have e2:outs (mkS x.S i n p) (hdl x.S i) = []:=by
    refine List.eq_nil_iff_forall_not_mem.2 λv hv=>?_;have h1:=a5S.1 hv;rw[b03 hR hi h0 hn hp] at h1;exact h1.2 (rep v h1.1)
   simp[e2,M9]
  have hnm:∀y,nms (wS x (mkS x.S i n p)) y=nms x y:=λy=>by
   unfold nms;show inn (mkS x.S i n p) y+own x.T y+W0 (otr x) y=_;rw[hinn]
  rw[hnm];have hs':(ob (mkS x.S i n p) h).Strong<12:=hs;show (ob (mkS x.S i n p) h).Strong=_;rcases split hh with q | q
  ·rw[b47 hR hi h0 hn hp q] at hs' ⊢;exact hx.fair h q hs'
  ·subst q;rw[b03 hR hi h0 hn hp];have h1:nms x (hdl x.S i)=0:=by
    unfold nms;have a1:inn x.S (hdl x.S i)=0:=by
     unfold inn;have:=b6S (λk=>W0 (outs x.S k) (hdl x.S i)) 0 (lv x.S) λk hk=>Nat.le_of_eq<|c1m λq=>by
      have q2:=a5S.1 q;rcases hx.sh.fl k hk _ q2.1 with e | e
      ·exact q2.2 e
      ·exact hnew e
     omega
    have a2:own x.T (hdl x.S i)=0:=by
     unfold own;rw[List.countP_eq_zero];intro c hc;have:=(hx.sh.pr _ _ (a27.1 hc)).2;have hne:c.Val≠hdl x.S i:=λe=>hnew (e▸this);simp[hne]
    have a3:W0 (otr x) (hdl x.S i)=0:=c1m λq=>by
     unfold otr at q;rcases List.mem_append.1 q with q | q
     ·have q2:=a5S.1 q;rcases hx.sh.rt _ q2.1 with e | e
      ·exact q2.2 e
      ·exact hnew e
     ·obtain⟨t,ht,k1,k2⟩:=a99.1 q;rcases (hx.sh.tk t ht).2.2 with ⟨_,b,_⟩ | ⟨b,_⟩;·exact hnew (k2▸b)
      ·omega
    omega
   rw[h1,M9];rfl
end Go.Sh
namespace Go.Sh
structure Ev (x y:Hp):Prop where
 lv:∀h∈lv y.S,(h∈Sh.lv x.S∧(ob y.S h).Serial=(ob x.S h).Serial)∨(h∉Sh.lv x.S∧(ob y.S h).Serial=x.S.Serial+1)
 s1:x.S.Serial≤y.S.Serial
 s2:y.S.Serial≤x.S.Serial+1
theorem Ev.refl(x:Hp):Ev x x:=⟨λh hh=>.inl ⟨hh,rfl⟩,by omega,by omega⟩
theorem Ks.ev{x y:Hp}(k:Ks x.S y.S):Ev x y:=⟨λh hh=>by
 rw[k.lv] at hh;exact .inl ⟨hh,k.ob h hh⟩,by rw[k.T3];omega,by rw[k.T3];omega⟩
theorem Ev.ks{x y z:Hp}(e:Ev x y)(k:Ks y.S z.S):Ev x z:=⟨λh hh=>by
 rw[k.lv] at hh;rw[k.ob h hh];exact e.lv h hh,by rw[k.T3];exact e.s1,by rw[k.T3];exact e.s2⟩
theorem Ev.stl{x y z:Hp}(e:Ev x y)(s:Stl y z):Ev x z:=⟨λh hh=>by
 rw[(s.ob h hh).1];exact e.lv h (s.lv h hh),by rw[s.T3];exact e.s1,by rw[s.T3];exact e.s2⟩
theorem d09{x:Hp}(hx:H7 x){i:Nat}(hi:i<x.S.S.a8.length)(h0:(ce x.S i).State=0){n:Nat}(hn:n≤4){p:Int}(hp : -1≤p∧p≤5):Ev x (wS x (mkS x.S i n p)):=⟨λh hh=>by
 have hR:=hx.sh.sr;have hh':h∈lv (mkS x.S i n p):=hh;show (_∧(ob (mkS x.S i n p) h).Serial=_)∨_∧(ob (mkS x.S i n p) h).Serial=_;rw[c0L hR hi h0 hn hp] at hh';rcases List.mem_append.1 hh' with q | q
 ·exact .inl ⟨q,by rw[b47 hR hi h0 hn hp q]⟩
 ·rw[List.mem_singleton.1 q];exact .inr ⟨c3P hR hi h0 hn hp,by rw[b03 hR hi h0 hn hp]⟩,by show _≤x.S.Serial+1;omega,Int.le_refl _⟩
def Cw(x y:Hp)(w:Int):Prop:=∀i:Nat,(i:Int)≠w→(y.a8.getD i cz).Target=(x.a8.getD i cz).Target∧((y.a8.getD i cz).Intact=true→(x.a8.getD i cz).Intact=true)
theorem Cw.refl(x:Hp)(w:Int):Cw x x w:=λi _=>⟨rfl,id⟩
theorem Cw.same{x y:Hp}(h:y.a8=x.a8)(w:Int):Cw x y w:=λi _=>by rw[h];exact⟨rfl,id⟩
theorem Cw.trans{x y z:Hp}{w:Int}(a:Cw x y w)(b:Cw y z w):Cw x z w:=λi hi=>⟨(b i hi).1.trans (a i hi).1,λq=>(a i hi).2 ((b i hi).2 q)⟩
theorem Stl.cw{x y:Hp}(s:Stl x y)(w:Int):Cw x y w:=λi _=>by
 by_cases h:i<x.a8.length
 ·have h':i<y.a8.length:=by rw[s.cn];exact h
  rw[c0u h,c0u h',s.cl i h' h];exact⟨rfl,λq=>(Bool.and_eq_true _ _▸q).1⟩
 ·have h':¬i<y.a8.length:=by rw[s.cn];exact h
  rw[List.getD_eq_getElem?_getD,List.getD_eq_getElem?_getD,List.getElem?_eq_none (by omega),List.getElem?_eq_none (by omega)];exact⟨rfl,id⟩
theorem Cw.set{x y:Hp}{w:Nat}{c:c5}(h:y.a8=x.a8.set w c):Cw x y w:=λi hi=>by
 rw[h,List.getD_eq_getElem?_getD,List.getD_eq_getElem?_getD,List.getElem?_set_ne (by omega)];exact⟨rfl,id⟩
end Go.Sh
namespace Go.Sh
def Fst(s:a7)(i:Nat):Prop:=i<s.S.a8.length∧(ce s i).State=0∧∀j,j<i→(ce s j).State≠0
theorem d06{s:a7}(hR:SR s)(hb:s.Serial<9223372036854775807)(a p:Int) :
  (¬(0≤a∧a≤4)∧P4 s a p=some (s,0,1)) ∨
  ((0≤a∧a≤4)∧¬(-1≤p∧p≤5)∧P4 s a p=some (s,0,13)) ∨
  ((0≤a∧a≤4)∧(-1≤p∧p≤5)∧(∀i,i<s.S.a8.length→(ce s i).State≠0)∧P4 s a p=some (s,0,4)) ∨
  ((0≤a∧a≤4)∧(-1≤p∧p≤5)∧∃i,Fst s i∧P4 s a p=some (mkS s i a.toNat p,hdl s i,0)):=by
 have hs':=hR.T3;have hR':=p6.2 hR;unfold P4 b6Y;by_cases ha:0≤a∧a≤4
 ·right;obtain⟨ha1,ha2⟩:=ha;obtain⟨n,rfl⟩:∃n:Nat,a=n:=⟨a.toNat,by omega⟩;rw[if_neg (by simp;omega),a69 (by omega) (by omega)];simp only[d2P];by_cases hp : -1≤p∧p≤5
  ·right;unfold O3;simp only[d2P];have e1:(decide (p ≥ -1)&&decide (p<6))=true:=by simp;omega
   rw[e1];have hl:SlO s.S:=⟨a1D hR',hR'.l0,hR'.l9,λi hi=>b6F hR' i hi⟩;rcases b6U hl ⟨s.Serial+1,0,0,p,false,List.replicate n 0⟩ with ⟨i,hi,h0,hf,e⟩ | ⟨hf,e⟩
   ·right;refine⟨⟨ha1,ha2⟩,hp,i,⟨hi,by rw[B3 hi];exact h0,λj hj=>by rw[B3 (by omega)];exact hf j hj⟩,?_⟩;simp only[bne_self_eq_false,Bool.false_eq_true,if_false,Bool.not_true];rw[show r8 (s.Serial+1)=s.Serial+1 from B0 (by omega) (by omega),e];unfold mkS hdl;rw[B3 hi];simp
   ·left;refine⟨⟨ha1,ha2⟩,hp,λi hi=>by rw[B3 hi];exact hf i hi,?_⟩;simp only[bne_self_eq_false,Bool.false_eq_true,if_false,Bool.not_true];rw[show r8 (s.Serial+1)=s.Serial+1 from B0 (by omega) (by omega),e];simp
  ·left;refine⟨⟨ha1,ha2⟩,hp,?_⟩;unfold O3;simp only[d2P];have e1:(decide (p ≥ -1)&&decide (p<6))=false:=by rw[Bool.eq_false_iff];simp;omega
   rw[e1];simp
 ·left;refine⟨ha,?_⟩;rw[if_pos (by simp;omega)];simp
end Go.Sh
namespace Go.Sh
def sd(x:Hp)(r:Int):Int:=if r<0 then 0 else x.Roots.getD r.toNat 0
def asd(x:Hp)(r:Int):Int × Int:=if sd x r=0 then (0,2) else (sd x r,0)
def T3(x:Hp)(h:Int):Int:=(ob x.S h).Serial
theorem in0{n l m e:Int}(he:e≠0)(h:I2 n l m e=0):l≤n∧n≤m:=by
 unfold I2 at h;split at h;·exact absurd h he
 ·omega
theorem b89{a b c:Int}(h:a0g a b c=0):a=0∧b=0∧c=0:=by
 unfold a0g at h;split at h;·contradiction
 ·split at h;·contradiction
  ·omega
theorem b59{k a b c:Int}(h:w8 k a b c=0):1≤k∧k≤12:=by
 refine Decidable.byContradiction λq=>?_;have:w8 k a b c=14:=by
  unfold w8;repeat rw[if_neg (by omega)]
 omega
theorem d0H{a b c:Int}(h:w8 1 a b c=0):(0≤a∧a≤5)∧(0≤b∧b≤4) ∧ -1≤c∧c≤5:=by
 obtain⟨h1,h2,h3⟩:=b89 (show a0g (I2 a 0 5 6) (I2 b 0 4 1) (I2 c (-1) 5 13)=0 from h);exact⟨in0 (by decide) h1,in0 (by decide) h2,in0 (by decide) h3⟩
theorem c5M{a b c:Int}(h:w8 2 a b c=0):(0≤a∧a≤5)∧(0≤b∧b≤5):=by
 obtain⟨h1,h2,_⟩:=b89 (show a0g (I2 a 0 5 6) (I2 b 0 5 6) 0=0 from h);exact⟨in0 (by decide) h1,in0 (by decide) h2⟩
theorem d0J{a b c:Int}(h:w8 3 a b c=0):0≤a∧a≤5:=in0 (by decide) (show I2 a 0 5 6=0 from h)
theorem d0K{a b c:Int}(h:w8 4 a b c=0):(0≤a∧a≤5)∧(0≤b∧b≤5)∧0≤c∧c≤3:=by
 obtain⟨h1,h2,h3⟩:=b89 (show a0g (I2 a 0 5 6) (I2 b 0 5 6) (I2 c 0 3 5)=0 from h);exact⟨in0 (by decide) h1,in0 (by decide) h2,in0 (by decide) h3⟩
theorem d1T{a b c:Int}(h:w8 5 a b c=0):(0≤a∧a≤5)∧(0≤b∧b≤3) ∧ -1≤c∧c≤5:=by
 obtain⟨h1,h2,h3⟩:=b89 (show a0g (I2 a 0 5 6) (I2 b 0 3 5) (I2 c (-1) 5 6)=0 from h);exact⟨in0 (by decide) h1,in0 (by decide) h2,in0 (by decide) h3⟩
theorem c8E{a b c:Int}(h:w8 6 a b c=0):(0≤a∧a≤5)∧(-1≤b∧b≤5) ∧ -1≤c∧c≤5:=by
 obtain⟨h1,h2,h3⟩:=b89 (show a0g (I2 a 0 5 7) (I2 b (-1) 5 6) (I2 c (-1) 5 13)=0 from h);exact⟨in0 (by decide) h1,in0 (by decide) h2,in0 (by decide) h3⟩
theorem d0L{a b c:Int}(h:w8 7 a b c=0):(0≤a∧a≤5)∧(0≤b∧b≤5):=by
 obtain⟨h1,h2,_⟩:=b89 (show a0g (I2 a 0 5 6) (I2 b 0 5 7) 0=0 from h);exact⟨in0 (by decide) h1,in0 (by decide) h2⟩
theorem d1U{a b c:Int}(h:w8 8 a b c=0):(0≤a∧a≤5)∧(-1≤b∧b≤5):=by
 obtain⟨h1,h2,_⟩:=b89 (show a0g (I2 a 0 5 6) (I2 b (-1) 5 6) 0=0 from h);exact⟨in0 (by decide) h1,in0 (by decide) h2⟩
theorem d0M{a b c:Int}(h:w8 9 a b c=0):(0≤a∧a≤5)∧(0≤b∧b≤5):=c5M (show w8 2 a b c=0 from h)
theorem d0I{a b c:Int}(h:w8 10 a b c=0):(0≤a∧a≤5)∧(0≤b∧b≤5):=c5M (show w8 2 a b c=0 from h)
section
variable{x:Hp}(hx:HpS x)
include hx
theorem b1K{r:Int}(h:0≤r∧r≤5):ix x.Roots r=some (sd x r):=by
 have:=hx.r6;obtain⟨n,rfl⟩:∃n:Nat,r=n:=⟨r.toNat,by omega⟩;have hn:n<x.Roots.length:=by omega
 rw[n8 hn];unfold sd;rw[if_neg (by omega),Int.toNat_natCast,List.getD_eq_getElem?_getD,List.getElem?_eq_getElem hn];rfl
theorem b3S{r:Int}(h:¬(0≤r∧r≤5)):sd x r=0:=by
 have:=hx.r6;unfold sd;split;·rfl
 ·rw[List.getD_eq_getElem?_getD,List.getElem?_eq_none (by omega)];rfl
theorem b0t(r:Int):sd x r=0∨sd x r∈lv x.S:=by
 by_cases h:0≤r∧r≤5
 ·have e:=b1K hx h;unfold ix at e;rw[if_pos h.1] at e;exact hx.rt _ (List.mem_of_getElem? e)
 ·exact .inl (b3S hx h)
theorem b1L(r:Int):sd x r≤9223372036854775807:=by
 rcases b0t hx r with h | h
 ·omega
 ·have:=D5 hx.sr h;omega
theorem a58(r:Int):I4 x r=some (sd x r):=by
 have h6:=hx.r6;unfold I4;by_cases h:0≤r∧r≤5
 ·rw[if_neg (by simp;omega),b1K hx h];rfl
 ·rw[if_pos (by simp;omega),b3S hx h]
theorem c4K{r:Int}(h:r≤5):a47 (hO x) r=some (sd x r):=by
 unfold a47;by_cases q:r<0
 ·rw[if_pos (by simpa using q),b3S hx (by omega)]
 ·rw[if_neg (by simpa using q),show (hO x).Roots=x.Roots from rfl,b1K hx (by omega)];rfl
theorem a4Z(r:Int):J1 x r=some (asd x r):=by
 unfold J1 asd;rw[a58 hx,d2P];by_cases h:sd x r=0
 ·rw[if_pos (by simpa using h),if_pos h]
 ·rw[if_neg (by simpa using h),if_neg h]
theorem a9x{r:Int}(h:0≤r∧r≤5):U7 (hO x) r=some (asd x r):=by
 unfold U7 asd;rw[show (hO x).Roots=x.Roots from rfl,b1K hx h,d2P];by_cases h:sd x r=0
 ·rw[if_pos (by simpa using h),if_pos h]
 ·rw[if_neg (by simpa using h),if_neg h]
theorem c4N{h:Int}(hh:h≤9223372036854775807):Y2 x h=some (T3 x h):=by
 obtain⟨e,h1,_⟩:=O8 (p6.2 hx.sr) hh;unfold Y2;rw[h1];rfl
theorem c70{h:Int}(hh:h≤9223372036854775807):a3O (hO x) h=some (T3 x h):=by
 obtain⟨e,h1,_⟩:=O8 (p6.2 hx.sr) hh;unfold a3O;rw[show (hO x).S=sO x.S from rfl,a4S x.S (by have:=hx.sr.len;omega) hh,h1];rfl
theorem c0j(r:Int):a0Q x r=some (T3 x (sd x r)):=by
 unfold a0Q;rw[a58 hx,d2P,c4N hx (b1L hx r)];rfl
theorem c1h:T3 x 0=0:=by
 unfold T3;rw[a8I (p6.2 hx.sr) (by omega) (a5N hx.sr)]
theorem d0F(r:Int):b1h (hO x) r=some (T3 x (sd x r)):=by
 unfold b1h;by_cases h:0≤r∧r≤5
 ·rw[if_neg (by simp;omega),show (hO x).Roots=x.Roots from rfl,b1K hx h,d2P,c70 hx (b1L hx r)];rfl
 ·rw[if_pos (by simp;omega),b3S hx h,c1h hx]
end
theorem c97{x z:Hp}(hx:HpS x)(k:Ks x.S z.S){h:Int}(hh:h=0∨h∈lv x.S):T3 z h=T3 x h:=by
 rcases hh with e | e
 ·subst e;unfold T3;rw[a8I (p6.2 hx.sr) (by omega) (a5N hx.sr),a8I (p6.2 k.sr) (by omega) (a5N k.sr)]
 ·exact k.ob h e
theorem c65{x z:Hp}(h:z.Roots=x.Roots)(r:Int):sd z r=sd x r:=by unfold sd;rw[h]
noncomputable def doR(x:Hp)(o:c9)(v:Hp × Int):Option (Hp × Int × Int):=
 if (v.2 != 0) then some (x,0,v.2) else (L7 v.1).bind λv5=>(Q7 v.1 v5 o).bind λv6=>some (v5,v6,0)
theorem a8A{x:Hp}{o:c9}{n:Option Nat}(hc:w8 o.Kind o.A o.B o.C=0)(hk:∃l,a2m=some l∧y8 l o.Kind=some n):o9 x o=(b2e n ⟨x,o⟩).bind (doR x o):=by
 obtain⟨l,h1,h2⟩:=hk;unfold o9;rw[a6Q,hc,d2P,if_neg (by simp),h1,d2P,h2,if_neg (by simp)];rfl
theorem b8Y{x:Hp}{o:c9}(hc:w8 o.Kind o.A o.B o.C≠0):o9 x o=some (x,0,w8 o.Kind o.A o.B o.C)∧A9 (hO x) ⟨o.Kind,o.A,o.B,o.C⟩=some (hO x,0,w8 o.Kind o.A o.B o.C):=by
 constructor
 ·unfold o9;rw[a6Q,d2P,if_pos (by simpa using hc)]
 ·unfold A9;rw[a38,d2P,if_pos (by simpa using hc)]
section
variable{x:Hp}{a b c:Int}
theorem d1V(hc:w8 1 a b c=0):o9 x ⟨1,a,b,c⟩=(P6 ⟨x,⟨1,a,b,c⟩⟩).bind (doR x ⟨1,a,b,c⟩):=a8A (o:=⟨1,a,b,c⟩) (n:=some 65) hc ⟨_,rfl,rfl⟩
theorem d1W(hc:w8 2 a b c=0):o9 x ⟨2,a,b,c⟩=(F6 ⟨x,⟨2,a,b,c⟩⟩).bind (doR x ⟨2,a,b,c⟩):=a8A (o:=⟨2,a,b,c⟩) (n:=some 66) hc ⟨_,rfl,rfl⟩
theorem d1X(hc:w8 3 a b c=0):o9 x ⟨3,a,b,c⟩=(W5 ⟨x,⟨3,a,b,c⟩⟩).bind (doR x ⟨3,a,b,c⟩):=a8A (o:=⟨3,a,b,c⟩) (n:=some 67) hc ⟨_,rfl,rfl⟩
theorem d1Y(hc:w8 4 a b c=0):o9 x ⟨4,a,b,c⟩=(W6 ⟨x,⟨4,a,b,c⟩⟩).bind (doR x ⟨4,a,b,c⟩):=a8A (o:=⟨4,a,b,c⟩) (n:=some 68) hc ⟨_,rfl,rfl⟩
theorem d1Z(hc:w8 5 a b c=0):o9 x ⟨5,a,b,c⟩=(T2 ⟨x,⟨5,a,b,c⟩⟩).bind (doR x ⟨5,a,b,c⟩):=a8A (o:=⟨5,a,b,c⟩) (n:=some 69) hc ⟨_,rfl,rfl⟩
theorem d2a(hc:w8 6 a b c=0):o9 x ⟨6,a,b,c⟩=(P7 ⟨x,⟨6,a,b,c⟩⟩).bind (doR x ⟨6,a,b,c⟩):=a8A (o:=⟨6,a,b,c⟩) (n:=some 70) hc ⟨_,rfl,rfl⟩
theorem d2b(hc:w8 7 a b c=0):o9 x ⟨7,a,b,c⟩=(T9 ⟨x,⟨7,a,b,c⟩⟩).bind (doR x ⟨7,a,b,c⟩):=a8A (o:=⟨7,a,b,c⟩) (n:=some 71) hc ⟨_,rfl,rfl⟩
theorem d2c(hc:w8 8 a b c=0):o9 x ⟨8,a,b,c⟩=(W7 ⟨x,⟨8,a,b,c⟩⟩).bind (doR x ⟨8,a,b,c⟩):=a8A (o:=⟨8,a,b,c⟩) (n:=some 72) hc ⟨_,rfl,rfl⟩
theorem d2d(hc:w8 9 a b c=0):o9 x ⟨9,a,b,c⟩=(Z7 ⟨x,⟨9,a,b,c⟩⟩).bind (doR x ⟨9,a,b,c⟩):=a8A (o:=⟨9,a,b,c⟩) (n:=some 73) hc ⟨_,rfl,rfl⟩
theorem d0R(hc:w8 10 a b c=0):o9 x ⟨10,a,b,c⟩=(M0 ⟨x,⟨10,a,b,c⟩⟩).bind (doR x ⟨10,a,b,c⟩):=a8A (o:=⟨10,a,b,c⟩) (n:=some 74) hc ⟨_,rfl,rfl⟩
theorem b0P{k:Int}(hk:k=11∨k=12)(hc:w8 k a b c=0):o9 x ⟨k,a,b,c⟩=some (x,0,14)∧A9 (hO x) ⟨k,a,b,c⟩=some (hO x,0,14):=by
 constructor
 ·unfold o9;rw[a6Q,hc,d2P,if_neg (by simp)];rcases hk with rfl | rfl <;> rfl
 ·unfold A9 U6;rw[a38,hc,d2P,if_neg (by simp)];rcases hk with rfl | rfl <;> rfl
variable{y:g7}
def rT(y:g7)(a:Int)(v:Int × Int):Option (g7 × Int × Int):=
 if (v.2 != 0) then some (y,0,v.2) else (U0 y a v.1).bind λv15=>(M4 v15.1).bind λv16=>(b1h v16 a).bind λv17=>some (v16,v17,0)
def rO(y:g7)(v:g7 × Int × Int):Option (g7 × Int × Int):=
 if (v.2.2 != 0) then some (y,0,v.2.2) else (M4 v.1).bind λv8=>(a3O y v.2.1).bind λv9=>some (v8,v9,0)
theorem c04{k:Int}(hk:k=2∨k=3∨k=4∨k=7∨k=9)(hc:w8 k a b c=0):A9 y ⟨k,a,b,c⟩=(a2a y ⟨k,a,b,c⟩).bind (rT y a):=by
 unfold A9 U6;rw[a38,hc,d2P,if_neg (by simp)];rcases hk with rfl | rfl | rfl | rfl | rfl <;> rfl
theorem c03{k:Int}(hk:k=5∨k=6∨k=8)(hc:w8 k a b c=0):A9 y ⟨k,a,b,c⟩=(a06 y ⟨k,a,b,c⟩).bind (rO y):=by
 unfold A9 U6;rw[a38,hc,d2P,if_neg (by simp)];rcases hk with rfl | rfl | rfl <;> rfl
theorem d1s(hc:w8 1 a b c=0):A9 y ⟨1,a,b,c⟩=(a2E y.S b c).bind λv10=>if (v10.2.2 != 0) then some (y,0,v10.2.2) else (U0 ⟨v10.1,y.Roots,y.a8,y.T,y.Q⟩ a v10.2.1).bind λv11=>(M4 v11.1).bind λv12=>(b1h v12 a).bind λv13=>some (v12,v13,0):=by
 unfold A9 U6;rw[a38,hc,d2P,if_neg (by simp)];rfl
theorem c90(hc:w8 10 a b c=0):A9 y ⟨10,a,b,c⟩=(ix y.Roots a).bind λv3=>(ix y.Roots b).bind λv4=>if (v3==v4) then some (y,1,0) else some (y,0,0):=by
 unfold A9 U6;rw[a38,hc,d2P,if_neg (by simp)];rfl
end
end Go.Sh
namespace Go.Sh
section
variable{s:a7}(hR:SR s){i:Nat}(hi:i<s.S.a8.length)
include hR hi
theorem d0l(st g:Int):a0S (sO s) ⟨(pl (sO s)).a8.set i ⟨st,g,0⟩,(pl (sO s)).Last⟩=some ⟨(sO s).a8.set i ⟨st,g,oo (ce s i).Val⟩,s.S.Last,s.Serial⟩:=by
 have hlen:=hR.len;have J9:i<(pl (sO s)).a8.length:=by rw[a0R,A2];exact hi
 rw[b31 _ _ (by rw[A2];omega) (by simp[a0R])];congr 1;congr 1;refine List.ext_getElem (by simp) λk h1 h2=>?_;have hk:k<s.S.a8.length:=by simpa[A2] using h1
 have hk2:k<(sO s).a8.length:=by rw[A2];exact hk
 have hk3:k<(pl (sO s)).a8.length:=by rw[a0R];exact hk2
 simp only[List.getElem_map,List.getElem_range,List.getElem_set];have e1:(sO s).a8.getD k ⟨0,0,oo z0⟩=cO (ce s k):=by
  rw[List.getD_eq_getElem?_getD,List.getElem?_eq_getElem hk2,B3 hk];simp[sO]
 have e2:((pl (sO s)).a8.set i ⟨st,g,0⟩).getD k ⟨0,0,0⟩=if k=i then ⟨st,g,0⟩ else plc k (cO (ce s k)):=by
  rw[a2w J9];split;·rfl
  ·rw[List.getD_eq_getElem?_getD,List.getElem?_eq_getElem hk3,B3 hk];simp[pl,sO]
 rw[e1,e2];by_cases e:k=i
 ·subst e;rw[if_pos rfl,if_pos rfl];rfl
 ·rw[if_neg e,if_neg (Ne.symm e)];rw[B3 hk];simp[sO,plc,cO]
theorem d0m(st g:Int)(o:L3):a2F ⟨(sO s).a8.set i ⟨st,g,oo (ce s i).Val⟩,s.S.Last,s.Serial⟩ (i:Int) o=some ⟨(sO s).a8.set i ⟨st,g,o⟩,s.S.Last,s.Serial⟩:=by
 have hlen:=hR.len;unfold a2F;have hi2:i<((sO s).a8.set i ⟨st,g,oo (ce s i).Val⟩).length:=by simp[A2];exact hi
 rw[J8 (by omega) (by simp[A2];omega),d2P,n8 hi2,d2P];simp[List.set_set]
theorem c4m:∃h:i<(pl (sO s)).a8.length,(pl (sO s)).a8[i]=⟨(ce s i).State,(ce s i).Gen,(i:Int)⟩:=by
 have J9:i<(pl (sO s)).a8.length:=by rw[a0R,A2];exact hi
 refine⟨J9,?_⟩;rw[B3 hi];simp[pl,sO,plc,cO]
end
theorem d0h{s:a7}(hR:SR s):(∀i,i<s.S.a8.length→(ce s i).State≠0)→a7e (pl (sO s)) 0=some (pl (sO s),0,4):=λhf=>by
 have hlen:=hR.len;have el:(pl (sO s)).a8.length=s.S.a8.length:=by rw[a0R,A2]
 unfold a7e;simp only[jn];refine a14 (pl (sO s)).a8.length (λk=>True) (by omega) trivial (λk hk _=>?_) (λhP=>⟨.inr (),by simp,rfl⟩);refine .inl ⟨?_,trivial⟩;obtain⟨h1,h2⟩:=c4m hR (show k<s.S.a8.length by omega);have:=hf k (by omega);simp only[Int.ofNat_lt,hk,decide_true,if_true,n8 hk,d2P];rw[h2,if_neg (by simpa using this),k8]
theorem c7e{s:a7}(hR:SR s){i:Nat}(hF:Fst s i):a7e (pl (sO s)) 0=some (⟨(pl (sO s)).a8.set i ⟨1,(ce s i).Gen,0⟩,(pl (sO s)).Last⟩,hdl s i,0):=by
 have hlen:=hR.len;have el:(pl (sO s)).a8.length=s.S.a8.length:=by rw[a0R,A2]
 obtain⟨hi,h0,hmin⟩:=hF;have hc:=hR.cell i hi;have l9:=hR.l9;unfold a7e;simp only[jn];refine a14 (pl (sO s)).a8.length (λk=>k≤i) (by omega) (by omega) (λk hk hP=>?_) (λhP=>by omega);obtain⟨h1,h2⟩:=c4m hR (show k<s.S.a8.length by omega);rcases Nat.lt_or_ge k i with g | g
 ·refine .inl ⟨?_,g⟩;have:=hmin k g;simp only[Int.ofNat_lt,hk,decide_true,if_true,n8 hk,d2P];rw[h2,if_neg (by simpa using this),k8]
 ·have:k=i:=by omega
  subst this;refine .inr ⟨.inl _,?_,rfl⟩;simp only[Int.ofNat_lt,hk,decide_true,if_true,n8 hk,d2P];rw[h2,if_pos (by simpa using h0)];have w3:∀c:K4,a0z (pl (sO s)) (k:Int) c=some ⟨(pl (sO s)).a8.set k c,(pl (sO s)).Last⟩:=λc=>by
   unfold a0z;rw[J8 (by omega) (by omega),d2P,n8 hk,d2P,Int.toNat_natCast]
  rw[w3,d2P,a7b,if_pos (by dsimp only;omega),d2P];rfl
theorem d07{s:a7}(hR:SR s)(hb:s.Serial<9223372036854775807)(a p:Int) :
  (∃e,e≠0∧P4 s a p=some (s,0,e)∧a2E (sO s) a p=some (sO s,0,e)) ∨
  ((0≤a∧a≤4)∧(-1≤p∧p≤5)∧∃i,Fst s i∧P4 s a p=some (mkS s i a.toNat p,hdl s i,0)∧a2E (sO s) a p=some (sO (mkS s i a.toNat p),hdl s i,0)):=by
 have hser:=hR.T3;have hlen:=hR.len;have r1:∀n:Nat,n≤4→b2s (n:Int)=some (List.replicate n 0,0):=λn hn=>by
  unfold b2s;rw[if_neg (by simp;omega),a69 (by omega) (by omega)];rfl
 rcases d06 hR hb a p with ⟨h1,e⟩ | ⟨h1,h2,e⟩ | ⟨h1,h2,h3,e⟩ | ⟨h1,h2,i,h3,e⟩
 ·refine .inl ⟨1,by decide,e,?_⟩;unfold a2E b2s;rw[if_pos (by simp;omega)];rfl
 ·refine .inl ⟨13,by decide,e,?_⟩;obtain⟨n,rfl⟩:∃n:Nat,a=n:=⟨a.toNat,by omega⟩;unfold a2E;rw[r1 n (by omega),d2P,if_neg (by simp),if_pos (by simp;omega)]
 ·refine .inl ⟨4,by decide,e,?_⟩;obtain⟨n,rfl⟩:∃n:Nat,a=n:=⟨a.toNat,by omega⟩;unfold a2E;rw[r1 n (by omega),d2P,if_neg (by simp),if_neg (by simp;omega),a4o _ (by rw[A2];omega),d2P,d0h hR h3,d2P,if_pos (by simp)]
 ·refine .inr ⟨h1,h2,i,h3,e,?_⟩;obtain⟨n,rfl⟩:∃n:Nat,a=n:=⟨a.toNat,by omega⟩;have hi:=h3.1;have hc:=hR.cell i hi;have l9:=hR.l9;unfold a2E;rw[r1 n (by omega),d2P,if_neg (by simp),if_neg (by simp;omega),a4o _ (by rw[A2];omega),d2P,c7e hR h3,d2P,if_neg (by simp),d0l hR hi,d2P,a7d,if_pos (by unfold Hnd hdl;dsimp only;omega),d2P,
   show (hdl s i-1) % 32=(i:Int) by unfold hdl;omega,d0m hR hi,d2P,B0 (by show _≤s.Serial+1;omega) (by show s.Serial+1≤_;omega)]
  unfold mkS;rw[Int.toNat_natCast];simp only[sO,List.map_set];rfl
end Go.Sh
namespace Go.Sh
abbrev opR(o:c9):M5:=⟨o.Kind,o.A,o.B,o.C⟩
structure Dn (x:Hp) (o:c9) (z:Hp) (v:Int):Prop where
 rt:H7 z
 sl:SL z
 ev:Ev x z
 cw:Cw x z (if o.Kind=6 then o.A else -1)
 mc:o9 x o=some (V9 z,v,0)
 rf:A9 (hO x) (opR o)=some (hO (V9 z),v,0)
def Er(x:Hp)(o:c9)(e:Int):Prop:=e≠0∧o9 x o=some (x,0,e)∧A9 (hO x) (opR o)=some (hO x,0,e)
theorem d1a{x:Hp}(hx:H7 x)(hS:SL x){i:Nat}(hi:i<x.S.S.a8.length)(h0:(ce x.S i).State=0){n:Nat}(hn:n≤4){p:Int}(hp : -1≤p∧p≤5):SL (wS x (mkS x.S i n p)):=λk hk=>by
 have hR:=hx.sh.sr;have hk':k∈lv (mkS x.S i n p):=hk;show (ob (mkS x.S i n p) k).Strong≤_;rw[c0L hR hi h0 hn hp] at hk';rcases List.mem_append.1 hk' with q | q
 ·rw[b47 hR hi h0 hn hp q];exact hS k q
 ·rw[List.mem_singleton.1 q,b03 hR hi h0 hn hp];show (0:Int)≤_;decide
theorem a8a{y:Hp}(hy:H7 y){a:Int}(ha:0≤a∧a≤5){h:Int}(hh:h=0∨h∈lv y.S):sd (V9 (A3 y a.toNat h)) a=h∧T3 (V9 (A3 y a.toNat h)) h=T3 y h:=by
 have hz:=J2 hy (r:=a.toNat) (by omega) hh;have st:=a3V hz;have w:=a2e hz;have e1:(V9 (A3 y a.toNat h)).Roots=y.Roots.set a.toNat h:=st.rt.trans (P1 y a.toNat h).1;have h6:=hy.sh.r6;have e2:sd (V9 (A3 y a.toNat h)) a=h:=by
  unfold sd;rw[if_neg (by omega),e1,List.getD_eq_getElem?_getD,List.getElem?_set_self (by omega)];rfl
 refine⟨e2,?_⟩;have k:=R3 hy.sh.sr a.toNat h;rcases b0t w.sh a with q | q
 ·rw[e2] at q;subst q;rw[c1h w.sh,c1h hy.sh]
 ·rw[e2] at q;have h1:=(st.ob h q).1;have h2:=st.lv h q;rw[k.lv] at h2;exact h1.trans (k.ob h h2)
section
variable{x:Hp}{a b c:Int}
theorem a6m{o:c9}{y:Hp}{e:Int}(he:e≠0):doR x o (y,e)=some (x,0,e):=by
 unfold doR;rw[if_pos (by simpa using he)]
theorem c7z{z:Hp}(hz:H7 z)(hS:SL z){k:Int}(hk:k≠5∧k≠6∧k≠8∧k≠10):doR x ⟨k,a,b,c⟩ (z,0)=some (V9 z,T3 (V9 z) (sd (V9 z) a),0):=by
 unfold doR Q7;rw[if_neg (by simp),a3r hz hS,d2P];simp only[jn];rw[if_neg (by simp;omega),if_neg (by simp;omega)];have:(k==8)=false:=by simp;omega
 rw[this,if_neg (by simp),if_neg (by simp;omega),c0j (a2e hz).sh];rfl
theorem b9X{o:c9}{v e:Int}(he:e≠0):z7 ⟨x,o⟩ v e=some (x,e):=by
 unfold z7;rw[if_pos (by simpa using he)]
theorem c4s{y:g7}{v e:Int}(he:e≠0):rT y a (v,e)=some (y,0,e):=by
 unfold rT;rw[if_pos (by simpa using he)]
theorem c10{y z:g7}{v e:Int}(he:e≠0):rO y (z,v,e)=some (y,0,e):=by
 unfold rO;rw[if_pos (by simpa using he)]
variable(hx:H7 x)(hS:SL x)
include hx hS
theorem a8h{k:Int}(ha:0≤a∧a≤5){h:Int}(hh:h=0∨h∈lv x.S):z7 ⟨x,⟨k,a,b,c⟩⟩ h 0=some (A3 x a.toNat h,0):=by
 unfold z7;rw[if_neg (by simp),c1b hx hS a (a95 hx hS hh),if_neg (by omega),if_pos hh];rfl
theorem d1p(ha:0≤a∧a≤5){h:Int}(hh:h=0∨h∈lv x.S):rT (hO x) a (h,0)=some (hO (V9 (A3 x a.toNat h)),T3 x h,0):=by
 have hz:=J2 hx (r:=a.toNat) (by omega) hh;have zS:=a2J hx.sh.sr hS a.toNat h;obtain⟨e1,e2⟩:=a8a hx ha hh;unfold rT;rw[if_neg (by simp),b9J hx hS a (a95 hx hS hh),if_neg (by omega),if_pos hh,d2P,a5e hz zS,d2P,d0F (a2e hz).sh,e1,e2];rfl
theorem a5i{k:Int}(hk:k=2∨k=3∨k=4∨k=7∨k=9)(hc:w8 k a b c=0)(ha:0≤a∧a≤5){h:Int}(hh:h=0∨h∈lv x.S)
  (h1:o9 x ⟨k,a,b,c⟩=doR x ⟨k,a,b,c⟩ (A3 x a.toNat h,0))(h2:a2a (hO x) ⟨k,a,b,c⟩=some (h,0)):Dn x ⟨k,a,b,c⟩ (A3 x a.toNat h) (T3 x h):=by
 have hz:=J2 hx (r:=a.toNat) (by omega) hh;have zS:=a2J hx.sh.sr hS a.toNat h;obtain⟨e1,e2⟩:=a8a hx ha hh;refine⟨hz,zS,(R3 hx.sh.sr a.toNat h).ev,Cw.same (P1 x a.toNat h).2.1 _,?_,?_⟩;·rw[h1,c7z hz zS (by omega),e1,e2]
 ·show A9 (hO x) ⟨k,a,b,c⟩=_;rw[c04 hk hc,h2,d2P,d1p hx hS ha hh]
theorem d2(hc:w8 2 a b c=0):Dn x ⟨2,a,b,c⟩ (A3 x a.toNat (sd x b)) (T3 x (sd x b)):=by
 obtain⟨ha,hb⟩:=c5M hc;refine a5i hx hS (.inl rfl) hc ha (b0t hx.sh b) ?_ ?_
 ·rw[d1W hc];unfold F6;rw[a58 hx.sh,d2P,a8h hx hS ha (b0t hx.sh b)];rfl
 ·unfold a2a;rw[if_pos (by rfl),show (hO x).Roots=x.Roots from rfl,b1K hx.sh hb];rfl
theorem d3(hc:w8 3 a b c=0):Dn x ⟨3,a,b,c⟩ (A3 x a.toNat 0) 0:=by
 have ha:=d0J hc;have:=a5i (b:=b) (c:=c) hx hS (.inr (.inl rfl)) hc ha (h:=0) (.inl rfl) ?_ ?_;·rwa [c1h hx.sh] at this
 ·rw[d1X hc];unfold W5;rw[a8h hx hS ha (.inl rfl)];rfl
 ·rfl
theorem d4(hc:w8 4 a b c=0):(sd x b=0∧Er x ⟨4,a,b,c⟩ 2)∨(∃e,Y7 x.S (sd x b) c=some (0,e)∧Er x ⟨4,a,b,c⟩ e) ∨
  (sd x b∈lv x.S∧∃n:Nat,c=n∧∃hn:n<(ob x.S (sd x b)).Fields.length,Dn x ⟨4,a,b,c⟩ (A3 x a.toNat (ob x.S (sd x b)).Fields[n]) (T3 x (ob x.S (sd x b)).Fields[n])):=by
 obtain⟨ha,hb,_⟩:=d0K hc;have hm:o9 x ⟨4,a,b,c⟩=_:=d1Y hc;unfold W6 at hm;rw[a4Z hx.sh,d2P] at hm;have hr:A9 (hO x) ⟨4,a,b,c⟩=_:=c04 (by omega) hc;have hnm:a2a (hO x) ⟨4,a,b,c⟩=(U7 (hO x) b).bind λv2=>if (v2.2 != 0) then some (0,v2.2) else (a3m (hO x).S v2.1 c).bind λv3=>some (v3.1,v3.2):=rfl
 rw[a9x hx.sh hb,d2P] at hnm;by_cases h0:sd x b=0
 ·refine .inl ⟨h0,by decide,?_,?_⟩
  ·rw[hm];unfold asd;rw[if_pos h0,if_pos (by simp),d2P,a6m (by decide)]
  ·show A9 (hO x) ⟨4,a,b,c⟩=_;rw[hr,hnm];unfold asd;rw[if_pos h0,if_pos (by simp),d2P,c4s (by decide)]
 ·have has:asd x b=(sd x b,0):=by unfold asd;rw[if_neg h0]
  rw[has,if_neg (by simp)] at hm hnm;right;rcases b1A hx hS (sd x b) c (b1L hx.sh b) with ⟨e,he,f1,f2⟩ | ⟨hl,n,hn0,hn,f1,f2⟩
  ·refine .inl ⟨e,f1,he,?_,?_⟩
   ·rw[hm];dsimp only;rw[f1,d2P,b9X he,d2P,d2P,a6m he]
   ·show A9 (hO x) ⟨4,a,b,c⟩=_;rw[hr,hnm];dsimp only;rw[show (hO x).S=sO x.S from rfl,f2,d2P,d2P,c4s he]
  ·refine .inr ⟨hl,n,hn0,hn,?_⟩;have hv:=hx.sh.fl _ hl _ (List.getElem_mem hn);refine a5i hx hS (by omega) hc ha hv ?_ ?_
   ·rw[hm];dsimp only;rw[f1,d2P,a8h hx hS ha hv];rfl
   ·rw[hnm];dsimp only;rw[show (hO x).S=sO x.S from rfl,f2];rfl
theorem c6l{n:Nat}(hn:n<6):∃h:n<x.a8.length,a5k x.a8 n=some (if x.a8[n].Target=0∨x.a8[n].Intact=false then (0,9) else (x.a8[n].Target,0))∧b0f (hO x).a8 n=some (if x.a8[n].Target=0∨x.a8[n].Intact=false then (0,9) else (x.a8[n].Target,0)):=by
 have c6:=hx.sh.c6;have hl:n<x.a8.length:=by omega
 have hl2:n<(x.a8.map wcR).length:=by simp;exact hl
 refine⟨hl,?_,?_⟩
 ·unfold a5k a5l;have:(decide ((n:Int)≥0)&&decide ((n:Int)<(x.a8.length:Int)))=true:=by simp;omega
  rw[this,d2P,if_neg (by simp),n8 hl,d2P];by_cases q:x.a8[n].Target=0∨x.a8[n].Intact=false
  ·rw[if_pos q,if_pos (by rcases q with q | q <;> simp[q])]
  ·rw[if_neg q,if_neg (by simpa using q)]
 ·unfold b0f;show (if _ then _ else (ix (x.a8.map wcR) (n:Int)).bind _)=_;rw[if_neg (by simp[hO];omega),n8 hl2,d2P,List.getElem_map];by_cases q:x.a8[n].Target=0∨x.a8[n].Intact=false
  ·rw[if_pos q,if_pos (by rcases q with q | q <;> simp[wcR,q])]
  ·rw[if_neg q,if_neg (by simpa[wcR] using q)];rfl
theorem d7(hc:w8 7 a b c=0):∃h:b.toNat<x.a8.length,((x.a8[b.toNat].Intact=false∧Er x ⟨7,a,b,c⟩ 9) ∨
  (x.a8[b.toNat].Intact=true∧Dn x ⟨7,a,b,c⟩ (A3 x a.toNat x.a8[b.toNat].Target) (T3 x x.a8[b.toNat].Target))):=by
 obtain⟨ha,hb⟩:=d0L hc;obtain⟨n,rfl⟩:∃n:Nat,b=n:=⟨b.toNat,by omega⟩;obtain⟨hl,l1,l2⟩:=c6l hx hS (n:=n) (by omega);rw[Int.toNat_natCast];refine⟨hl,?_⟩;have hm:o9 x ⟨7,a,n,c⟩=_:=d2b hc;unfold T9 at hm;rw[show a5k (o5.mk x ⟨7,a,n,c⟩).x.a8 (o5.mk x ⟨7,a,n,c⟩).o.B=_ from l1,d2P] at hm;have hr:A9 (hO x) ⟨7,a,n,c⟩=_:=c04 (by omega) hc;have hnm:a2a (hO x) ⟨7,a,n,c⟩=(b0f (hO x).a8 n).bind λv4=>some (v4.1,v4.2):=rfl;rw[l2,d2P] at hnm;have cl:=hx.sh.cl n hl;cases hI:x.a8[n].Intact
 ·left;rw[if_pos (.inr hI)] at hm hnm;refine⟨rfl,by decide,?_,?_⟩
  ·rw[hm];dsimp only;rw[b9X (by decide),d2P,d2P];exact a6m (e:=9) (by decide)
  ·show A9 (hO x) ⟨7,a,n,c⟩=_;rw[hr,hnm,d2P,c4s (by decide)]
 ·right;have ht:=(cl.2.2.2.2 hI).1;have ht0:x.a8[n].Target≠0:=λe=>a5N hx.sh.sr (e▸ht);rw[if_neg (by simp[ht0,hI])] at hm hnm;refine⟨rfl,a5i hx hS (by omega) hc ha (.inr ht) ?_ hnm⟩;rw[hm];dsimp only;rw[a8h hx hS ha (.inr ht)];rfl
theorem d9(hc:w8 9 a b c=0):(sd x b=0∧Er x ⟨9,a,b,c⟩ 2)∨(sd x b∈lv x.S∧(∀v,¬Has x.T (sd x b) v)∧Er x ⟨9,a,b,c⟩ 9) ∨
  (sd x b∈lv x.S∧∃v,Has x.T (sd x b) v∧Dn x ⟨9,a,b,c⟩ (A3 x a.toNat v) (T3 x v)):=by
 obtain⟨ha,hb⟩:=d0M hc;have hT:=hx.sh.hr;have hm:o9 x ⟨9,a,b,c⟩=_:=d2d hc;unfold Z7 at hm;rw[a4Z hx.sh,d2P] at hm;have hr:A9 (hO x) ⟨9,a,b,c⟩=_:=c04 (by omega) hc;have hnm:a2a (hO x) ⟨9,a,b,c⟩=(U7 (hO x) b).bind λv2=>if (v2.2 != 0) then some (0,v2.2) else (b2u (hO x).T v2.1).bind λv3=>some (v3.1,v3.2):=rfl
 rw[a9x hx.sh hb,d2P] at hnm;by_cases h0:sd x b=0
 ·refine .inl ⟨h0,by decide,?_,?_⟩
  ·rw[hm];unfold asd;rw[if_pos h0,if_pos (by simp),d2P,a6m (by decide)]
  ·show A9 (hO x) ⟨9,a,b,c⟩=_;rw[hr,hnm];unfold asd;rw[if_pos h0,if_pos (by simp),d2P,c4s (by decide)]
 ·have has:asd x b=(sd x b,0):=by unfold asd;rw[if_neg h0]
  have hl:=(b0t hx.sh b).resolve_left h0;rw[has,if_neg (by simp)] at hm hnm;dsimp only at hm hnm;have g2:b2u (hO x).T (sd x b)=(J0 x.T (sd x b)).bind λv=>some (v.1,v.2):=by
   unfold b2u;rw[show (hO x).T=x.T.map J9 from rfl,c4y hT]
  unfold b0Q at hm;rw[g2] at hnm;right;by_cases hv:∃v,Has x.T (sd x b) v
  ·obtain⟨v,hv⟩:=hv;rw[c0v hT hv] at hm hnm;refine .inr ⟨hl,v,hv,a5i hx hS (by omega) hc ha (.inr (hx.sh.pr _ _ hv).2) ?_ hnm⟩;rw[hm,d2P,d2P];dsimp only;rw[a8h hx hS ha (.inr (hx.sh.pr _ _ hv).2)];rfl
  ·have hv':∀v,¬Has x.T (sd x b) v:=λv q=>hv ⟨v,q⟩;rw[c1K hT hv'] at hm hnm;refine .inl ⟨hl,hv',by decide,?_,?_⟩
   ·rw[hm,d2P,d2P];dsimp only;rw[b9X (by decide),d2P,d2P];exact a6m (e:=9) (by decide)
   ·show A9 (hO x) ⟨9,a,b,c⟩=_;rw[hr,hnm,d2P,d2P,d2P];exact c4s (e:=9) (by decide)
end
end Go.Sh
namespace Go.Sh
section
variable{x:Hp}{a b c:Int}
theorem d0Q{z:Hp}(hz:H7 z)(hS:SL z){k:Int}{r:Int}(hk:k=5∧r=c∨(k=6∨k=8)∧r=b):doR x ⟨k,a,b,c⟩ (z,0)=some (V9 z,T3 z (sd z r),0):=by
 unfold doR Q7;rw[if_neg (by simp),a3r hz hS,d2P];simp only[jn];rcases hk with ⟨rfl,rfl⟩ | ⟨rfl | rfl,rfl⟩
 ·rw[if_pos (by rfl),c0j hz.sh];rfl
 ·rw[if_neg (by decide),if_pos (by rfl),if_pos (by rfl),c0j hz.sh];rfl
 ·rw[if_neg (by decide),if_neg (by decide),if_pos (by rfl),c0j hz.sh];rfl
variable(hx:H7 x)(hS:SL x)
include hx hS
theorem d1o{z:Hp}(hz:H7 z)(zS:SL z){h:Int}(hh:h=0∨h∈lv x.S):rO (hO x) (hO z,h,0)=some (hO (V9 z),T3 x h,0):=by
 unfold rO;rw[if_neg (by simp),a5e hz zS,d2P,c70 hx.sh (a95 hx hS hh)];rfl
theorem a9c{z:Hp}(hz:H7 z)(zS:SL z)(k:Ks x.S z.S)(er:z.Roots=x.Roots){kd r:Int}(hk:kd=5∧r=c∨(kd=6∨kd=8)∧r=b)(hc:w8 kd a b c=0)(cw:Cw x z (if kd=6 then a else -1))
  (h1:o9 x ⟨kd,a,b,c⟩=doR x ⟨kd,a,b,c⟩ (z,0))(h2:a06 (hO x) ⟨kd,a,b,c⟩=some (hO z,sd x r,0)):Dn x ⟨kd,a,b,c⟩ z (T3 x (sd x r)):=by
 refine⟨hz,zS,k.ev,cw,?_,?_⟩;·rw[h1,d0Q hz zS hk,c65 er,c97 hx.sh k (b0t hx.sh r)]
 ·show A9 (hO x) ⟨kd,a,b,c⟩=_;rw[c03 (by omega) hc,h2,d2P,d1o hx hS hz zS (b0t hx.sh r)]
theorem d5(hc:w8 5 a b c=0):(sd x a=0∧Er x ⟨5,a,b,c⟩ 2)∨(∃e,a11 x (sd x a) b (sd x c)=some (x,e)∧Er x ⟨5,a,b,c⟩ e) ∨
  (sd x a∈lv x.S∧∃n:Nat,b=n∧n<(ob x.S (sd x a)).Fields.length∧Dn x ⟨5,a,b,c⟩ (a0K x (sd x a) n (sd x c)) (T3 x (sd x c))):=by
 obtain⟨ha,hb,hcc⟩:=d1T hc;have hm:o9 x ⟨5,a,b,c⟩=_:=d1Z hc;unfold T2 at hm;rw[a4Z hx.sh,d2P] at hm;have hr:A9 (hO x) ⟨5,a,b,c⟩=_:=c03 (by omega) hc;have hnm:a06 (hO x) ⟨5,a,b,c⟩=(U7 (hO x) a).bind λv4=>if (v4.2 != 0) then some (hO x,0,v4.2) else (a47 (hO x) c).bind λv5=>(a44 (hO x) v4.1 b v5).bind λv6=>some (v6.1,v5,v6.2):=rfl
 rw[a9x hx.sh ha,d2P,c4K hx.sh (by omega)] at hnm;by_cases h0:sd x a=0
 ·have has:asd x a=(0,2):=by unfold asd;rw[if_pos h0]
  rw[has,if_pos (by simp)] at hm hnm;refine .inl ⟨h0,by decide,?_,?_⟩
  ·rw[hm,d2P];exact a6m (e:=2) (by decide)
  ·show A9 (hO x) ⟨5,a,b,c⟩=_;rw[hr,hnm,d2P];exact c10 (e:=2) (by decide)
 ·have has:asd x a=(sd x a,0):=by unfold asd;rw[if_neg h0]
  rw[has,if_neg (by simp)] at hm hnm;dsimp only at hm hnm;rw[a58 hx.sh,d2P] at hm;rw[d2P] at hnm;right;rcases c3i hx hS (sd x a) b (sd x c) (b1L hx.sh a) (b1L hx.sh c) with ⟨e,he,f1,f2⟩ | ⟨hl,hv,n,hn0,hn,f1,f2⟩
  ·refine .inl ⟨e,f1,he,?_,?_⟩;·rw[hm,f1,d2P,d2P,a6m he]
   ·show A9 (hO x) ⟨5,a,b,c⟩=_;rw[hr,hnm,f2,d2P,d2P,c10 he]
  ·refine .inr ⟨hl,n,hn0,hn,a9c hx hS (b5S hx hl hn hv) (c1F hx.sh.sr hS hl _ _) (b4N hx.sh.sr hl hn _) (a6W _ _ _ _).1 (.inl ⟨rfl,rfl⟩) hc (Cw.same (a6W _ _ _ _).2.1 _) ?_ ?_⟩
   ·rw[hm,f1];rfl
   ·rw[hnm,f2];rfl
theorem d6(hc:w8 6 a b c=0):(sd x b=0∧Er x ⟨6,a,b,c⟩ 2)∨(∃e,Z6 x a (sd x b) c=some (x,e)∧Er x ⟨6,a,b,c⟩ e) ∨
  (wts x.Q a=false∧Dn x ⟨6,a,b,c⟩ (a1R x a.toNat (sd x b) c) (T3 x (sd x b))):=by
 obtain⟨ha,hb,hcc⟩:=c8E hc;have hm:o9 x ⟨6,a,b,c⟩=_:=d2a hc;unfold P7 at hm;have hr:A9 (hO x) ⟨6,a,b,c⟩=_:=c03 (by omega) hc;have key:(o9 x ⟨6,a,b,c⟩=(((Z6 x a (sd x b) c).bind λv1=>some (v1.1,v1.2)).bind (doR x ⟨6,a,b,c⟩))∧a06 (hO x) ⟨6,a,b,c⟩=(a3M (hO x) a (sd x b) c).bind λv1=>some (v1.1,sd x b,v1.2))∨(sd x b=0∧Er x ⟨6,a,b,c⟩ 2):=by
  by_cases h1:b = -1
  ·subst h1;left;rw[b3S hx.sh (r:=-1) (by omega)];refine⟨?_,rfl⟩;rw[hm,if_pos (by rfl)]
  ·rw[if_neg (by simpa using h1),a4Z hx.sh,d2P] at hm;have hnm:a06 (hO x) ⟨6,a,b,c⟩=(U7 (hO x) b).bind λv4=>if (v4.2 != 0) then some (hO x,0,v4.2) else (a3M (hO x) a v4.1 c).bind λv7=>some (v7.1,v4.1,v7.2):=by
    unfold a06;rw[if_neg (by simp;omega)];rfl
   rw[a9x hx.sh (by omega),d2P] at hnm;by_cases h0:sd x b=0
   ·have has:asd x b=(0,2):=by unfold asd;rw[if_pos h0]
    rw[has,if_pos (by simp)] at hm hnm;refine .inr ⟨h0,by decide,?_,?_⟩
    ·rw[hm,d2P];exact a6m (e:=2) (by decide)
    ·show A9 (hO x) ⟨6,a,b,c⟩=_;rw[hr,hnm,d2P];exact c10 (e:=2) (by decide)
   ·have has:asd x b=(sd x b,0):=by unfold asd;rw[if_neg h0]
    rw[has,if_neg (by simp)] at hm hnm;exact .inl ⟨hm,hnm⟩
 rcases key with ⟨hm,hnm⟩ | key
 ·right;rcases c7n hx a (sd x b) c (b1L hx.sh b) hcc with ⟨e,he,f1,f2⟩ | ⟨hh,n,rfl,hn,hw,f1,f2⟩
  ·refine .inl ⟨e,f1,he,?_,?_⟩;·rw[hm,f1,d2P,d2P,a6m he]
   ·show A9 (hO x) ⟨6,a,b,c⟩=_;rw[hr,hnm,f2,d2P,d2P,c10 he]
  ·rw[Int.toNat_natCast];obtain⟨r1,r2,_,_⟩:=a9o x n (sd x b) c;refine .inr ⟨hw,a9c hx hS (b8C hx hn hh hcc hw) (c40 hx hS hn _ _) (b8B hx hn _ _) r1 (.inr ⟨.inl rfl,rfl⟩) hc (by rw[if_pos rfl];exact Cw.set r2) ?_ ?_⟩
   ·rw[hm,f1];rfl
   ·rw[hnm,f2];rfl
 ·exact .inl key
theorem d8(hc:w8 8 a b c=0):(sd x a=0∧Er x ⟨8,a,b,c⟩ 2)∨(sd x a∈lv x.S∧∃e,a3j x (sd x a) (sd x b)=some (x,e)∧Er x ⟨8,a,b,c⟩ e) ∨
  (sd x a∈lv x.S∧∃r,Q2 x.T (sd x a) (sd x b)=some r∧r.2.2=0∧Dn x ⟨8,a,b,c⟩ (a41 x (sd x b) r.1 r.2.1) (T3 x (sd x b))):=by
 obtain⟨ha,hb⟩:=d1U hc;have hm:o9 x ⟨8,a,b,c⟩=_:=d2c hc;unfold W7 at hm;rw[a4Z hx.sh,d2P] at hm;have hr:A9 (hO x) ⟨8,a,b,c⟩=_:=c03 (by omega) hc;have hnm:a06 (hO x) ⟨8,a,b,c⟩=(U7 (hO x) a).bind λv4=>if (v4.2 != 0) then some (hO x,0,v4.2) else (a47 (hO x) b).bind λv8=>(a7i (hO x) v4.1 v8).bind λv9=>some (v9.1,v8,v9.2):=rfl
 rw[a9x hx.sh ha,d2P,c4K hx.sh (by omega)] at hnm;by_cases h0:sd x a=0
 ·have has:asd x a=(0,2):=by unfold asd;rw[if_pos h0]
  rw[has,if_pos (by simp)] at hm hnm;refine .inl ⟨h0,by decide,?_,?_⟩
  ·rw[hm,d2P];exact a6m (e:=2) (by decide)
  ·show A9 (hO x) ⟨8,a,b,c⟩=_;rw[hr,hnm,d2P];exact c10 (e:=2) (by decide)
 ·have has:asd x a=(sd x a,0):=by unfold asd;rw[if_neg h0]
  have hl:=(b0t hx.sh a).resolve_left h0;rw[has,if_neg (by simp)] at hm hnm;dsimp only at hm hnm;rw[a58 hx.sh,d2P] at hm;rw[d2P] at hnm;right;rcases c6L hx hS (sd x a) (sd x b) (b1L hx.sh a) (b1L hx.sh b) with ⟨e,he,f1,f2⟩ | ⟨hl,hv,r,r1,r2,f1,f2⟩
  ·refine .inl ⟨hl,e,f1,he,?_,?_⟩;·rw[hm,f1,d2P,d2P,a6m he]
   ·show A9 (hO x) ⟨8,a,b,c⟩=_;rw[hr,hnm,f2,d2P,d2P,c10 he]
  ·refine .inr ⟨hl,r,r1,r2,a9c hx hS (b7Y hx hl hv r1 r2) (c4h hx.sh.sr hS _ _ _) (b7X hx.sh.sr _ _ _) (a9d _ _ _ _).1 (.inr ⟨.inr rfl,rfl⟩) hc (Cw.same (a9d _ _ _ _).2.1 _) ?_ ?_⟩
   ·rw[hm,f1];rfl
   ·rw[hnm,f2];rfl
theorem d10(hz:zr x = [])(hc:w8 10 a b c=0):Dn x ⟨10,a,b,c⟩ x (if sd x a=sd x b then 1 else 0):=by
 obtain⟨ha,hb⟩:=d0I hc;refine⟨hx,hS,Ev.refl x,Cw.refl x _,?_,?_⟩
 ·rw[d0R hc];unfold M0 doR Q7;rw[d2P,if_neg (by simp),a3r hx hS,d2P];simp only[jn];rw[if_neg (by decide),if_neg (by decide),if_neg (by decide),if_pos (by rfl),a58 hx.sh,d2P,a58 hx.sh,d2P];by_cases q:sd x a=sd x b
  ·rw[if_pos (by simpa using q),if_pos q];rfl
  ·rw[if_neg (by simpa using q),if_neg q];rfl
 ·show A9 (hO x) ⟨10,a,b,c⟩=_;rw[c90 hc,show (hO x).Roots=x.Roots from rfl,b1K hx.sh ha,d2P,b1K hx.sh hb,d2P,b8m hz];by_cases q:sd x a=sd x b
  ·rw[if_pos (by simpa using q),if_pos q]
  ·rw[if_neg (by simpa using q),if_neg q]
theorem d1(hb:x.S.Serial<9223372036854775807)(hc:w8 1 a b c=0):(∃e,P4 x.S b c=some (x.S,0,e)∧Er x ⟨1,a,b,c⟩ e) ∨
  (b.toNat≤4∧(-1≤c∧c≤5)∧∃i,Fst x.S i∧Dn x ⟨1,a,b,c⟩ (A3 (wS x (mkS x.S i b.toNat c)) a.toNat (hdl x.S i)) (x.S.Serial+1)):=by
 obtain⟨ha,hbb,hcc⟩:=d0H hc;have hR:=hx.sh.sr;have hm:o9 x ⟨1,a,b,c⟩=_:=d1V hc;unfold P6 at hm;dsimp only at hm;have hr:A9 (hO x) ⟨1,a,b,c⟩=_:=d1s hc;rw[show (hO x).S=sO x.S from rfl] at hr;rcases d07 hR hb b c with ⟨e,he,f1,f2⟩ | ⟨_,_,i,hF,f1,f2⟩
 ·refine .inl ⟨e,f1,he,?_,?_⟩;·rw[hm,f1,d2P,if_pos (by simpa using he),d2P,a6m he]
  ·show A9 (hO x) ⟨1,a,b,c⟩=_;rw[hr,f2,d2P,if_pos (by simpa using he)]
 ·refine .inr ⟨by omega,hcc,i,hF,?_⟩;obtain⟨hi,h0,_⟩:=hF;have hn:b.toNat≤4:=by omega
  have hy:=c3Q hx hi h0 hn hcc;have yS:=d1a hx hS hi h0 hn hcc;have hh:hdl x.S i=0∨hdl x.S i∈lv (wS x (mkS x.S i b.toNat c)).S:=.inr (by
   show _∈lv (mkS x.S i b.toNat c);rw[c0L hR hi h0 hn hcc];exact List.mem_append_right _ (List.mem_singleton.2 rfl))
  have hz:=J2 hy (r:=a.toNat) (by omega) hh;have zS:=a2J hy.sh.sr yS a.toNat (hdl x.S i);obtain⟨e1,e2⟩:=a8a hy ha hh;have e3:T3 (wS x (mkS x.S i b.toNat c)) (hdl x.S i)=x.S.Serial+1:=by
   show (ob (mkS x.S i b.toNat c) (hdl x.S i)).Serial=_;rw[b03 hR hi h0 hn hcc]
  refine⟨hz,zS,(d09 hx hi h0 hn hcc).ks (R3 hy.sh.sr a.toNat _),Cw.same (P1 (wS x (mkS x.S i b.toNat c)) a.toNat _).2.1 _,?_,?_⟩
  ·rw[hm,f1,d2P,if_neg (by simp)];dsimp only;rw[show z7 ⟨⟨mkS x.S i b.toNat c,x.Roots,x.a8,x.T,x.Q⟩,⟨1,a,b,c⟩⟩ (hdl x.S i) 0=_ from a8h hy yS ha hh,d2P,d2P,c7z hz zS (by omega),e1,e2,e3]
  ·show A9 (hO x) ⟨1,a,b,c⟩=_;rw[hr,f2,d2P,if_neg (by simp)];dsimp only;rw[show U0 ⟨sO (mkS x.S i b.toNat c),(hO x).Roots,(hO x).a8,(hO x).T,(hO x).Q⟩ a (hdl x.S i)=_ from b9J hy yS a (a95 hy yS hh),if_neg (by omega),if_pos hh,d2P,a5e hz zS,d2P,d0F (a2e hz).sh,e1,e2,e3];rfl
end
theorem c8N{x:Hp}(hx:H7 x)(hS:SL x)(hz:zr x = [])(hb:x.S.Serial<9223372036854775807)(o:c9):(∃e,Er x o e)∨∃z v,Dn x o z v:=by
 obtain⟨k,a,b,c⟩:=o;by_cases hc:w8 k a b c=0
 ·have:=b59 hc;have hk:k=1∨k=2∨k=3∨k=4∨k=5∨k=6∨k=7∨k=8∨k=9∨k=10∨k=11∨k=12:=by omega
  rcases hk with rfl | rfl | rfl | rfl | rfl | rfl | rfl | rfl | rfl | rfl | rfl | rfl
  ·rcases d1 hx hS hb hc with ⟨e,_,h⟩ | ⟨_,_,i,_,h⟩;·exact .inl ⟨e,h⟩
   ·exact .inr ⟨_,_,h⟩
  ·exact .inr ⟨_,_,d2 hx hS hc⟩
  ·exact .inr ⟨_,_,d3 hx hS hc⟩
  ·rcases d4 hx hS hc with ⟨_,h⟩ | ⟨e,_,h⟩ | ⟨_,n,_,_,h⟩;·exact .inl ⟨_,h⟩
   ·exact .inl ⟨_,h⟩
   ·exact .inr ⟨_,_,h⟩
  ·rcases d5 hx hS hc with ⟨_,h⟩ | ⟨e,_,h⟩ | ⟨_,n,_,_,h⟩;·exact .inl ⟨_,h⟩
   ·exact .inl ⟨_,h⟩
   ·exact .inr ⟨_,_,h⟩
  ·rcases d6 hx hS hc with ⟨_,h⟩ | ⟨e,_,h⟩ | ⟨_,h⟩;·exact .inl ⟨_,h⟩
   ·exact .inl ⟨_,h⟩
   ·exact .inr ⟨_,_,h⟩
  ·obtain⟨_,⟨_,h⟩ | ⟨_,h⟩⟩:=d7 hx hS hc;·exact .inl ⟨_,h⟩
   ·exact .inr ⟨_,_,h⟩
  ·rcases d8 hx hS hc with ⟨_,h⟩ | ⟨_,e,_,h⟩ | ⟨_,r,_,_,h⟩;·exact .inl ⟨_,h⟩
   ·exact .inl ⟨_,h⟩
   ·exact .inr ⟨_,_,h⟩
  ·rcases d9 hx hS hc with ⟨_,h⟩ | ⟨_,_,h⟩ | ⟨_,v,_,h⟩;·exact .inl ⟨_,h⟩
   ·exact .inl ⟨_,h⟩
   ·exact .inr ⟨_,_,h⟩
  ·exact .inr ⟨_,_,d10 hx hS hz hc⟩
  ·obtain⟨h1,h2⟩:=b0P (x:=x) (a:=a) (b:=b) (c:=c) (.inl rfl) hc;exact .inl ⟨14,by decide,h1,h2⟩
  ·obtain⟨h1,h2⟩:=b0P (x:=x) (a:=a) (b:=b) (c:=c) (.inr rfl) hc;exact .inl ⟨14,by decide,h1,h2⟩
 ·obtain⟨h1,h2⟩:=b8Y (x:=x) (o:=⟨k,a,b,c⟩) hc;exact .inl ⟨_,hc,h1,h2⟩
end Go.Sh
namespace Go.Sh
noncomputable def dov(x:Hp)(o:c9):Hp × Int × Int:=(o9 x o).getD (x,0,0)
structure Nxt (x:Hp) (o:c9) (y:Hp) (v e:Int):Prop where
 rt:H7 y
 sl:SL y
 zr:zr y = []
 ev:Ev x y
 cw:Cw x y (if o.Kind=6 then o.A else -1)
 er:e≠0→y=x∧v=0
 mc:o9 x o=some (y,v,e)
 rf:A9 (hO x) (opR o)=some (hO y,v,e)
theorem Dn.nxt{x z:Hp}{o:c9}{v:Int}(d:Dn x o z v):Nxt x o (V9 z) v 0:=by
 have st:=a3V d.rt;exact⟨a2e d.rt,c1j d.rt d.sl,b5o d.rt,d.ev.stl st,d.cw.trans (st.cw _),λh=>absurd rfl h,d.mc,d.rf⟩
theorem c6x{x:Hp}(hx:H7 x)(hS:SL x)(hz:zr x = [])(hb:x.S.Serial<9223372036854775807)(o:c9):∃y v e,Nxt x o y v e:=by
 rcases c8N hx hS hz hb o with ⟨e,h1,h2,h3⟩ | ⟨z,v,d⟩;·exact⟨x,0,e,hx,hS,hz,Ev.refl x,Cw.refl x _,λ_=>⟨rfl,rfl⟩,h2,h3⟩
 ·exact⟨_,_,_,d.nxt⟩
theorem a5R{x:Hp}(hx:H7 x)(hS:SL x)(hz:zr x = [])(hb:x.S.Serial<9223372036854775807)(o:c9):Nxt x o (dov x o).1 (dov x o).2.1 (dov x o).2.2:=by
 obtain⟨y,v,e,h⟩:=c6x hx hS hz hb o;have:dov x o=(y,v,e):=by unfold dov;rw[h.mc];rfl
 rw[this];exact h
noncomputable def runs(x:Hp)(l:List c9):Hp × List Int:=l.foldl (λp o=>((dov p.1 o).1,p.2 ++ [(dov p.1 o).2.1])) (x,[])
theorem a8d(x:Hp)(l:List c9)(o:c9):runs x (l ++ [o])=((dov (runs x l).1 o).1,(runs x l).2 ++ [(dov (runs x l).1 o).2.1]):=by
 unfold runs;rw[List.foldl_append];rfl
theorem b8i{x:Hp}(hx:H7 x)(hS:SL x)(hz:zr x = [])(l:List c9)(hb:x.S.Serial+l.length<9223372036854775807)(P:Hp→Prop)(h0:P x)
  (hs:∀(y:Hp) (o:c9),o∈l→H7 y→Nxt y o (dov y o).1 (dov y o).2.1 (dov y o).2.2→P y→P (dov y o).1):∀k,k≤l.length →
  H7 (runs x (l.take k)).1∧SL (runs x (l.take k)).1∧zr (runs x (l.take k)).1 = []∧(runs x (l.take k)).1.S.Serial≤x.S.Serial+k∧(runs x (l.take k)).2.length=k∧P (runs x (l.take k)).1
 | 0,_=>⟨hx,hS,hz,by show x.S.Serial≤_;omega,rfl,h0⟩
 | k+1,hk=>by
  obtain⟨a1,a2,a3,a4,a5,a6⟩:=b8i hx hS hz l hb P h0 hs k (by omega);have hk':k<l.length:=by omega
  have n:=a5R a1 a2 a3 (by omega) l[k];rw[K1 hk',a8d];exact⟨n.rt,n.sl,n.zr,by have:=n.ev.s2;show (dov _ _).1.S.Serial≤_;omega,by simp[a5],hs _ _ (List.getElem_mem hk') a1 n a6⟩
theorem run_eq{x:Hp}(hx:H7 x)(hS:SL x)(hz:zr x = [])(l:List c9)(hl:l.length≤1000)(hb:x.S.Serial+l.length<9223372036854775807) :
  a2y x l=some (runs x l)∧b2v (hO x) (l.map opR)=some (hO (runs x l).1,(runs x l).2):=by
 have all:=b8i hx hS hz l hb (λ_=>True) trivial (λ_ _ _ _ _ _=>trivial);constructor
 ·unfold a2y;simp only[jn];refine L1 (T:=Hp × List Int) l.length (λk acc=>acc=runs x (l.take k)) (by omega) rfl (λk acc hk hP=>?_) (λacc hP=>?_)
  ·subst hP;obtain⟨a1,a2,a3,a4,a5,_⟩:=all k (by omega);have n:=a5R a1 a2 a3 (by omega) l[k];refine .inl ⟨_,?_,rfl⟩;rw[K1 hk,a8d];show (if _ then _ else _)=_;rw[if_pos (by simpa using hk),n8 hk,d2P,n.mc,d2P,x4 (by omega) (by rw[a5];simp;omega),d2P,k8]
  ·subst hP;refine⟨runs x (l.take l.length),?_,?_⟩
   ·show (if _ then _ else _)=_;rw[if_neg (by simp)]
   ·rw[List.take_length]
 ·unfold b2v;simp only[jn];refine L1 (T:=g7 × List Int) (l.map opR).length (λk acc=>acc=(hO (runs x (l.take k)).1,(runs x (l.take k)).2)) (by simp;omega) rfl (λk acc hk hP=>?_) (λacc hP=>?_)
  ·subst hP;have hk':k<l.length:=by simpa using hk
   obtain⟨a1,a2,a3,a4,a5,_⟩:=all k (by omega);have n:=a5R a1 a2 a3 (by omega) l[k];refine .inl ⟨_,?_,rfl⟩;rw[K1 hk',a8d];show (if _ then _ else _)=_;rw[if_pos (by simpa using hk'),n8 hk,d2P,List.getElem_map];dsimp only;rw[n.rf,d2P,x4 (by omega) (by rw[a5];simp;omega),d2P,k8]
  ·subst hP;refine⟨(hO (runs x (l.take (l.map opR).length)).1,(runs x (l.take (l.map opR).length)).2),?_,?_⟩
   ·show (if _ then _ else _)=_;rw[if_neg (by simp)]
   ·rw[List.length_map,List.take_length]
end Go.Sh
namespace Go.Sh
section
variable{x:Hp}(hB:HB x)
include hB
end
end Go.Sh
namespace Go.Sh
def nwH(k:Nat)(l:Int)(p:Nat):Hp:=⟨⟨⟨List.replicate k ⟨0,0,z0⟩,l⟩,0⟩,List.replicate 6 0,List.replicate 6 ⟨0,false,-1⟩,List.replicate p ⟨0,0,0⟩,⟨[],30⟩⟩
theorem c3v{k p:Nat}{l:Int}(hk:1≤k∧k≤24)(hl:0≤l∧l≤9)(hp:1≤p∧p≤8) :
  a3F k l p=some (nwH k l p)∧b0i k l p=some (hO (nwH k l p))∧H7 (nwH k l p)∧SL (nwH k l p)∧zr (nwH k l p) = []:=by
 have e1:a3s k l=some (nwH k l p).S:=by
  unfold a3s T4;rw[if_neg (by simp;omega),a69 (by omega) (by omega)];rfl
 obtain⟨a,h1,h2,h3,_⟩:=d1f k l;rw[e1] at h1;have ha:=Option.some.inj h1;subst ha;have hR:SR (nwH k l p).S:=p6.1 h3;have hce:∀i,ce (nwH k l p).S i=⟨0,0,z0⟩:=λi=>by
  unfold ce nwH;dsimp only;rw[List.getD_eq_getElem?_getD,List.getElem?_replicate];split <;> rfl
 have hlv:lv (nwH k l p).S = []:=List.eq_nil_iff_forall_not_mem.2 λh hh=>by
  obtain⟨i,q⟩:=(a1q hR).1 hh;have:=q.2.1;rw[hce] at this;cases this
 refine⟨?_,?_,⟨⟨hR,(d0k (V:=Int) (λ_ _=>True) hp.1 hp.2).1,rfl,rfl,rfl,Nat.zero_le _,(λt ht=>nomatch ht),List.Pairwise.nil,(λh hh=>.inl (List.mem_replicate.1 hh).2),λh hh=>?_,λa v hv=>?_,λi hi=>?_⟩,λi hi ht=>?_,λh hh=>?_⟩,λh hh=>?_,?_⟩
 ·unfold a3F;rw[if_neg (by simp;omega),e1,d2P,show mk 8 6 (0:Int)=some (List.replicate 6 0) from rfl,d2P];refine bnd (a:=List.replicate 6 ⟨0,false,-1⟩) (by kernel_rfl) ?_;rw[c9s hp.1 hp.2,d2P];refine bnd (a:=⟨[],30⟩) (by kernel_rfl) ?_;rfl
 ·unfold b0i;rw[if_neg (by simp;omega),h2,d2P,show mk 8 6 (0:Int)=some (List.replicate 6 0) from rfl,d2P];refine bnd (a:=List.replicate 6 ⟨0,false,-1⟩) (by kernel_rfl) ?_;unfold c0Y;rw[if_neg (by simp;omega),a69 (by omega) (by omega),d2P,d2P];refine bnd (a:=⟨[],30⟩) (by kernel_rfl) ?_;unfold hO nwH;dsimp only;rw[List.map_replicate,List.map_replicate];rfl
 ·rw[hlv] at hh;cases hh
 ·obtain⟨i,hi,_⟩:=hv;have:=hi.2.1;rw[show (nwH k l p).T=List.replicate p ⟨0,0,0⟩ from rfl,b3t] at this;cases this
 ·have:(nwH k l p).a8[i]=⟨0,false,-1⟩:=List.getElem_replicate ..;rw[this];exact⟨by decide,by decide,λ_=>rfl,λh=>absurd rfl h,λh=>by cases h⟩
 ·rw[hce] at ht;rcases ht with h | h <;> cases h
 ·rw[hlv] at hh;cases hh
 ·rw[hlv] at hh;cases hh
 ·unfold zr;rw[hlv];rfl
end Go.Sh
namespace Go.Sh
end Go.Sh
namespace Go.Sh
section
variable{x:Hp}(hB:HB x)
include hB
end
end Go.Sh
namespace Go.Sh
def b1X(o:c9):M5:=⟨o.Kind,o.A,o.B,o.C⟩
abbrev b5H(o:c9):Int:=w8 o.Kind o.A o.B o.C
theorem b2b(k a b c:Int):R9 [k,a,b,c]=some (if w8 k a b c≠0 then (⟨0,0,0,0⟩,w8 k a b c) else (⟨k,a,b,c⟩,0)):=by
 unfold R9;rw[if_neg (by simp)];show (O6 ⟨k,a,b,c⟩).bind _=_;rw[a6Q,d2P];by_cases h:w8 k a b c=0
 ·rw[if_neg (by simpa using h),if_neg (by simpa using h)]
 ·rw[if_pos (by simpa using h),if_pos h]
theorem c23(k a b c:Int):a19 [k,a,b,c]=some (if w8 k a b c≠0 then (⟨0,0,0,0⟩,w8 k a b c) else (⟨k,a,b,c⟩,0)):=by
 unfold a19;rw[if_neg (by simp)];show (a05 ⟨k,a,b,c⟩).bind _=_;rw[a38,d2P];by_cases h:w8 k a b c=0
 ·rw[if_neg (by simpa using h),if_neg (by simpa using h)]
 ·rw[if_pos (by simpa using h),if_pos h]
theorem four(l:List Int):(∃k a b c,l = [k,a,b,c])∨l.length≠4:=by
 match l with
 | []=>exact .inr (by simp)
 | [_]=>exact .inr (by simp)
 | [_,_]=>exact .inr (by simp)
 | [_,_,_]=>exact .inr (by simp)
 | [k,a,b,c]=>exact .inl ⟨k,a,b,c,rfl⟩
 | _::_::_::_::_::l=>exact .inr (by simp)
theorem b2c{l:List Int}(h:l.length≠4):R9 l=some (⟨0,0,0,0⟩,14)∧a19 l=some (⟨0,0,0,0⟩,14):=by
 unfold R9 a19;have:(((l.length:Int) != 4))=true:=by simp;omega
 rw[if_pos this,if_pos this];exact⟨rfl,rfl⟩
def G4(l:List Int):c9 × Int:=(R9 l).getD (⟨0,0,0,0⟩,0)
theorem b2V(l:List Int):R9 l=some (G4 l)∧a19 l=some (b1X (G4 l).1,(G4 l).2):=by
 unfold G4;rcases four l with ⟨k,a,b,c,rfl⟩ | h
 ·rw[b2b,c23];refine⟨rfl,?_⟩;rw[Option.getD_some];by_cases h:w8 k a b c≠0
  ·rw[if_pos h,if_pos h];rfl
  ·rw[if_neg h,if_neg h];rfl
 ·rw[(b2c h).1,(b2c h).2];exact⟨rfl,rfl⟩
theorem b7p{l:List Int}(h:(G4 l).2=0) : [(G4 l).1.Kind,(G4 l).1.A,(G4 l).1.B,(G4 l).1.C]=l:=by
 unfold G4 at h ⊢;rcases four l with ⟨k,a,b,c,rfl⟩ | hl
 ·rw[b2b,Option.getD_some] at h ⊢;by_cases q:w8 k a b c≠0
  ·rw[if_pos q] at h;exact absurd h q
  ·rw[if_neg q]
 ·rw[(b2c hl).1] at h;cases h
def b0b(o:c9):Bool:=((decide (o.Kind≥1))&&(decide (o.Kind≤10)))&&(b5H o==0)
def b1F(p:List c9):Bool:=decide (p.length≤6)&&p.all b0b
def a5W(l:List (List c9)):Bool:=decide (l.length≤6)&&l.all b1F
section
variable{l:List (List c9)}(hl:l.length≤12)(hp:∀p∈l,p.length≤12)
include hl hp
theorem c4o:a1V l=some (a5W l):=by
 unfold a1V a5W;by_cases h6:l.length > 6
 ·rw[if_pos (by simp;omega),decide_eq_false (by omega)];rfl
 ·rw[if_neg (by simp;omega),decide_eq_true (by omega),Bool.true_and];simp only[jn];have key:=b6a (f:=λ(s23:Int)=>
   if (decide (s23<(l.length:Int))) then
     (ix l s23).bind λv34=>
     if (decide ((v34.length:Int) > 6)) then
      some (.inr (.inl false))
     else
     (lp (S:=Int) (E:=Bool ⊕ Unit) (λ(s36:Int)=>
      if (decide (s36<(v34.length:Int))) then
       (ix v34 s36).bind λv38=>
       (a1U v38).bind λv39=>
       (z6 ((!v39)==false) 0 (O6 v38)).bind λv40=>
       if ((!v39)||(v40 != 0)) then
        some (.inr (.inl false))
       else
       some (.inl (r8 (s36+1)))
      else
      some (.inr (.inr ()))) 0).bind λe35=>
     match e35 with
     | .inl w=>some (.inr (.inl w))
     | .inr w=>some (Sum.inl (r8 (s23+1)))
   else
   some (.inr (.inr ()))) l b1F (.inr ()) (Sum.inl (β:=Unit) false) (by omega) (λk hk=>?_) (by simp)
  ·refine bnd key ?_;cases l.all b1F <;> rfl
  ·rw[if_pos (by simpa using hk),n8 hk,d2P];unfold b1F;have hm:=hp _ (List.getElem_mem hk);generalize l[k]=p at hm ⊢;by_cases hq:p.length > 6
   ·rw[if_pos (by simp;omega),decide_eq_false (by omega)];rfl
   ·rw[if_neg (by simp;omega),decide_eq_true (by omega),Bool.true_and];have k2:=b6a (f:=λ(s36:Int)=>
      if (decide (s36<(p.length:Int))) then
       (ix p s36).bind λv38=>
       (a1U v38).bind λv39=>
       (z6 ((!v39)==false) 0 (O6 v38)).bind λv40=>
       if ((!v39)||(v40 != 0)) then
        some (.inr (.inl false))
       else
       some (Sum.inl (r8 (s36+1)))
      else
      some (.inr (.inr ()))) p b0b (.inr ()) (Sum.inl (β:=Unit) false) (by omega) (λj hj=>?_) (by simp)
    ·refine Eq.trans (bnd k2 (r:=if p.all b0b=true then some (.inl (r8 ((k:Int)+1))) else some (.inr (.inl false))) ?_) ?_;·cases p.all b0b <;> rfl
     ·rw[k8]
    ·rw[if_pos (by simpa using hj),n8 hj,d2P,a6Q];unfold b0b a1U;rw[d2P,k8];cases ((decide (p[j].Kind≥1))&&(decide (p[j].Kind≤10)));·rfl
     ·by_cases h:b5H p[j]=0
      ·have e:w8 p[j].Kind p[j].A p[j].B p[j].C=0:=h;rw[e,h];rfl
      ·have e1:(w8 p[j].Kind p[j].A p[j].B p[j].C != 0)=true:=by simpa using h
       have e2:(b5H p[j]==0)=false:=by simpa using h
       rw[e2];refine bnd (a:=b5H p[j]) rfl ?_;rw[show (b5H p[j] != 0)=true from e1];rfl
theorem b9y:a73 (l.map (List.map b1X))=some (a5W l):=by
 unfold a73 a5W;rw[List.length_map];by_cases h6:l.length > 6
 ·rw[if_pos (by simp;omega),decide_eq_false (by omega)];rfl
 ·rw[if_neg (by simp;omega),decide_eq_true (by omega),Bool.true_and];simp only[jn];have key:=b6a (f:=λ(s23:Int)=>
   if (decide (s23<(l.length:Int))) then
     (ix (l.map (List.map b1X)) s23).bind λv34=>
     if (decide ((v34.length:Int) > 6)) then
      some (.inr (.inl false))
     else
     (lp (S:=Int) (E:=Bool ⊕ Unit) (λ(s36:Int)=>
      if (decide (s36<(v34.length:Int))) then
       (ix v34 s36).bind λv38=>
       (U6 v38).bind λv39=>
       (z6 ((!v39)==false) 0 (a05 v38)).bind λv40=>
       if ((!v39)||(v40 != 0)) then
        some (.inr (.inl false))
       else
       some (.inl (r8 (s36+1)))
      else
      some (.inr (.inr ()))) 0).bind λe35=>
     match e35 with
     | .inl w=>some (.inr (.inl w))
     | .inr w=>some (Sum.inl (r8 (s23+1)))
   else
   some (.inr (.inr ()))) l b1F (.inr ()) (Sum.inl (β:=Unit) false) (by omega) (λk hk=>?_) (by simp)
  ·refine bnd key ?_;cases l.all b1F <;> rfl
  ·rw[if_pos (by simpa using hk),a0F,n8 hk,Option.map_some,d2P,List.length_map];unfold b1F;have hm:=hp _ (List.getElem_mem hk);generalize l[k]=p at hm ⊢;by_cases hq:p.length > 6
   ·rw[if_pos (by simp;omega),decide_eq_false (by omega)];rfl
   ·rw[if_neg (by simp;omega),decide_eq_true (by omega),Bool.true_and];have k2:=b6a (f:=λ(s36:Int)=>
      if (decide (s36<(p.length:Int))) then
       (ix (p.map b1X) s36).bind λv38=>
       (U6 v38).bind λv39=>
       (z6 ((!v39)==false) 0 (a05 v38)).bind λv40=>
       if ((!v39)||(v40 != 0)) then
        some (.inr (.inl false))
       else
       some (Sum.inl (r8 (s36+1)))
      else
      some (.inr (.inr ()))) p b0b (.inr ()) (Sum.inl (β:=Unit) false) (by omega) (λj hj=>?_) (by simp)
    ·refine Eq.trans (bnd k2 (r:=if p.all b0b=true then some (.inl (r8 ((k:Int)+1))) else some (.inr (.inl false))) ?_) ?_;·cases p.all b0b <;> rfl
     ·rw[k8]
    ·rw[if_pos (by simpa using hj),a0F,n8 hj,Option.map_some,d2P,a38];unfold b0b U6;rw[d2P,k8];rw[show (b1X p[j]).Kind=p[j].Kind from rfl];cases ((decide (p[j].Kind≥1))&&(decide (p[j].Kind≤10)));·rfl
     ·by_cases h:b5H p[j]=0
      ·have e:w8 p[j].Kind (b1X p[j]).A (b1X p[j]).B (b1X p[j]).C=0:=h;rw[e,h];rfl
      ·have e1:(w8 p[j].Kind p[j].A p[j].B p[j].C != 0)=true:=by simpa using h
       have e2:(b5H p[j]==0)=false:=by simpa using h
       rw[e2];refine bnd (a:=b5H p[j]) rfl ?_;rw[show (b5H p[j] != 0)=true from e1];rfl
end
end Go.Sh
namespace Go.Sh
noncomputable def hdx(x:Hp):List Int:=hld x.S x.T
noncomputable def X8(x:Hp):List Int:=fls x.S x.T (hdx x)
theorem W4{x:Hp}{h:Int}:h∈X8 x↔h∈lv x.S∧¬a0j x.S x.T (hdx x) h:=by
 classical
 unfold X8 fls;rw[List.mem_filter,decide_eq_true_iff]
section
variable{x:Hp}(hx:H7 x)
include hx
theorem a0M:(X8 x).Nodup:=List.Pairwise.filter _ (a96 (p6.2 hx.sh.sr))
theorem X9:∀d∈X8 x,d∈lv x.S:=λd hd=>(W4.1 hd).1
theorem c1c{h:Int}(hl:h∈lv x.S)(hs:(ob x.S h).Strong<12):rst x.S x.T h=(W0 (otr x) h:Int):=c3e.2 hx.fair h hl hs
theorem c0x{h:Int}(hl:h∈lv x.S)(ho:h∈otr x):h∈hdx x:=by
 refine b2g.2 ⟨hl,?_⟩;by_cases hs:(ob x.S h).Strong<12
 ·left;rw[c1c hx hl hs];have:=a1H.2 ⟨λe=>a5N hx.sh.sr (e▸hl),ho⟩;omega
 ·exact .inr (by omega)
theorem b9g{h:Int}(hh:h∈hdx x):h∈lv x.S∧(h∈otr x∨12≤(ob x.S h).Strong):=by
 obtain⟨hl,hs⟩:=b2g.1 hh;refine⟨hl,?_⟩;by_cases q:(ob x.S h).Strong<12
 ·rcases hs with hs | hs
  ·rw[c1c hx hl q] at hs;exact .inl (a1H.1 (by omega)).2
  ·omega
 ·exact .inr (by omega)
theorem c57:∀d∈X8 x,d∉otr x:=λd hd q=>by
 obtain⟨a,b⟩:=W4.1 hd;exact b (.base (c0x hx a q) a)
theorem c56:∀h∈lv x.S,h∉X8 x→∀v∈(ob x.S h).Fields,v∉X8 x:=λh hh hn v hv q=>by
 obtain⟨a,b⟩:=W4.1 q;have hr:a0j x.S x.T (hdx x) h:=Classical.byContradiction λr=>hn (W4.2 ⟨hh,r⟩);exact b (.step hr (a5S.2 ⟨hv,λe=>a5N hx.sh.sr (e▸a)⟩) a)
theorem c58:∀k v,Has x.T k v→k∉X8 x→v∉X8 x:=λk v hk hn q=>by
 obtain⟨a,b⟩:=W4.1 q;have hr:a0j x.S x.T (hdx x) k:=Classical.byContradiction λr=>hn (W4.2 ⟨(hx.sh.pr k v hk).1,r⟩);exact b (.pair hk hr a)
theorem U3:H7 (buH x (X8 x)):=b4H hx (a0M hx) (X9 hx) (c57 hx) (c56 hx) (c58 hx)
end
theorem b3N:∀(l:List Int) {x:Hp} (hR:SR x.S) {h:Int} (hh:h∈lv x.S) (hs:12≤(ob x.S h).Strong),12≤(ob (l.foldl N5 x).S h).Strong
 | [],_,_,_,_,hs=>hs
 | v::l,x,hR,h,hh,hs=>by
  have k1:=B7 hR v (f:=a2r) λc=>F1;refine b3N l (x:=N5 x v) k1.sr (by
   show h∈lv (stO x v a2r).S;rw[k1.lv];exact hh) ?_
  show 12≤(ob (stO x v a2r).S h).Strong;rw[a7y (x:=x) hR (h:=v) (f:=a2r) (λc=>F1) hh];split
  ·unfold a2r;rw[if_pos hs];omega
  ·exact hs
section
variable{x:Hp}(hx:H7 x)
include hx
theorem b28{h:Int}:h∈lv (buH x (X8 x)).S↔a0j x.S x.T (hdx x) h:=by
 rw[b2N hx.sh.sr (a0M hx) (X9 hx),List.mem_filter,decide_eq_true_iff,W4];constructor
 ·rintro⟨a,b⟩;exact Classical.byContradiction λr=>b ⟨a,r⟩
 ·intro r;exact⟨r.live,λq=>q.2 r⟩
theorem d00{h:Int}(hh:h∈lv (buH x (X8 x)).S):(ob (buH x (X8 x)).S h).Serial=(ob x.S h).Serial∧(ob (buH x (X8 x)).S h).Prog=(ob x.S h).Prog∧(ob (buH x (X8 x)).S h).Fields=(ob x.S h).Fields∧(ob (buH x (X8 x)).S h).Started=(ob x.S h).Started:=by
 have r:=(b28 hx).1 hh;obtain⟨n,e⟩:=b2O hx.sh.sr (a0M hx) (X9 hx) r.live (λq=>(W4.1 q).2 r);rw[e];exact⟨rfl,rfl,rfl,rfl⟩
theorem c3o{h:Int}(hh:h∈lv (buH x (X8 x)).S)(hs:12≤(ob x.S h).Strong):12≤(ob (buH x (X8 x)).S h).Strong:=by
 have r:=(b28 hx).1 hh;have g:=a1l (X8 x) hx.sh.sr (a0M hx) (X9 hx);have hn:h∉X8 x:=λq=>(W4.1 q).2 r;refine b3N _ (x:=a23 x (X8 x) (wot x.T (X8 x)).1) g.sr ?_ ?_
 ·show h∈lv (gnL x.S (X8 x));rw[g.lv,List.mem_filter];exact⟨r.live,by simpa using hn⟩
 ·show 12≤(ob (gnL x.S (X8 x)) h).Strong;rw[g.ob h r.live hn];exact hs
theorem c82:otr (buH x (X8 x))=otr x:=by
 obtain⟨e1,_,_,e4⟩:=a3u hx.sh.sr (a0M hx) (X9 hx);unfold otr;rw[e1,e4,b3c _ _ _ λt ht=>by
  obtain⟨w,_,rfl,_⟩:=a26.1 ht;simp]
theorem c55{h:Int}(hh:a0j x.S x.T (hdx x) h):a0j (buH x (X8 x)).S (buH x (X8 x)).T (hdx (buH x (X8 x))) h:=by
 have w:=U3 hx;obtain⟨_,_,e3,_⟩:=a3u hx.sh.sr (a0M hx) (X9 hx);have hlen:(X8 x).length≤1000:=by
  have:=a3J (a0M hx) (X9 hx);have:=D4 (p6.2 hx.sh.sr);omega
 obtain⟨_,_,_,_,w5,_⟩:=a3Y hx.sh.hr (X8 x) hlen;induction hh with
 | base h1 h2=>
  have hl:=(b28 hx).2 (.base h1 h2);refine .base ?_ hl;rcases (b9g hx h1).2 with q | q
  ·exact c0x w hl (by rw[c82 hx];exact q)
  ·exact b2g.2 ⟨hl,.inr (c3o hx hl q)⟩
 | step q0 q1 q2 ih=>
  refine .step ih ?_ ((b28 hx).2 (.step q0 q1 q2));unfold outs at q1 ⊢;rw[(d00 hx ((b28 hx).2 q0)).2.2.1];exact q1
 | pair q1 q0 q2 ih=>
  refine .pair ?_ ih ((b28 hx).2 (.pair q1 q0 q2));rw[e3];exact (w5 _ _).2 ⟨λq=>(W4.1 q).2 q0,q1⟩
theorem b7x:X8 (buH x (X8 x)) = []:=List.eq_nil_iff_forall_not_mem.2 λh hh=>by
 obtain⟨a,b⟩:=W4.1 hh;exact b (c55 hx ((b28 hx).1 a))
end
theorem b7l{x:Hp}(hx:H7 x)(hg:X8 x = []):zr x = []:=List.eq_nil_iff_forall_not_mem.2 λh hh=>by
 have hl:=(Z0.1 hh).1;have hs:=(Z0.1 hh).2;have hf:=b63 hx hh;have h0:h≠0:=λe=>a5N hx.sh.sr (e▸hl);have r:a0j x.S x.T (hdx x) h:=Classical.byContradiction λr=>by
  have:h∈X8 x:=W4.2 ⟨hl,r⟩;rw[hg] at this;cases this
 unfold nms at hf;cases r with
 | base h1 h2=>
  rcases (b9g hx h1).2 with q | q
  ·have:=a1H.2 ⟨h0,q⟩;omega
  ·omega
 | step q0 q1 q2=>
  have:=b56 (y:=h) q0.live;have h1:=a1H.2 ⟨h0,q1⟩;omega
 | pair q1 q0 q2=>
  have:=b6l q1 h0;omega
theorem b29{x:Hp}(hx:H7 x):V9 (buH x (X8 x))=buH x (X8 x):=b8m (b7l (U3 hx) (b7x hx))
end Go.Sh
