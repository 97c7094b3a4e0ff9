/-
 More of the theory.
-/
import Derived.Test.YtlkcpapbolbjnaaGreatO20bT
set_option linter.unusedVariables false
set_option linter.unusedSimpArgs false
set_option linter.unusedSectionVars false
namespace Go.Sh
theorem a5R(x:Hp)(h:Int):(B8 x h).Roots=x.Roots∧(B8 x h).Cells=x.Cells∧(B8 x h).T=x.T∧(B8 x h).Q=x.Q:=by
 rw[b2y];exact⟨rfl,rfl,rfl,rfl⟩
theorem a3n{x:Hp}(hR:SR x.S)(h:Int):SR (B8 x h).S:=(G4 hR h λc=>E1).sr
section
variable{x:Hp}(hx:Q8 x)(hS:∀k∈lv x.S,(ob x.S k).Strong≤9223372036854775807)
include hx hS
theorem b08{h:Int}(hh:h=0∨h∈lv x.S):h≤9223372036854775807:=by
 rcases hh with q | q
 ·omega
 ·have:=J4 hx.sh.sr q;omega
theorem c2j(k:Int){h:Int}(hh:h≤9223372036854775807):a0u x k h=some (if k<0∨5<k then (x,6) else if h=0∨h∈lv x.S then (G5 x k.toNat h,0) else (x,3)):=by
 have hR:=hx.sh.sr;have r6:=hx.sh.r6;unfold a0u;by_cases hk:k<0∨5<k
 ·rw[if_pos hk,if_pos (by rw[r6];simp;omega)]
 ·rw[if_neg hk,if_neg (by rw[r6];simp;omega),a06 hR hh,d3v]
  by_cases hn:h=0∨h∈lv x.S
  ·rw[if_pos hn,decide_eq_true hn,if_neg (by simp)]
   obtain⟨n,rfl⟩:∃n:Nat,k=n:=⟨k.toNat,by omega⟩
   have hn6:n<6:=by omega
   have hnl:n<x.Roots.length:=by omega
   have old:x.Roots[n]≤9223372036854775807:=b08 hx hS (hx.sh.rt _ (List.getElem_mem hnl));have e1:=a5R x h;have hn2:n<(B8 x h).Roots.length:=by rw[e1.1];exact hnl
   rw[o0 hnl,d3v];unfold E7 P2 F2;rw[a5P hR hh hS,d3v];dsimp only;rw[P7 (by omega) (by rw[e1.1];omega),d3v,o0 hn2,d3v,d3v]
   have hrel:=a2q (x:=wR (B8 x h) (x.Roots.set n h)) (a3n hR h) old;rw[Int.toNat_natCast,e1.1,show C5 ⟨(B8 x h).S,x.Roots.set n h,(B8 x h).Cells,(B8 x h).T,(B8 x h).Q⟩ x.Roots[n]=_ from hrel];unfold G5;rw[List.getD_eq_getElem?_getD,List.getElem?_eq_getElem hnl];rfl
  ·rw[if_neg hn,decide_eq_false hn,if_pos (by simp)]
theorem c0Y(k:Int){h:Int}(hh:h≤9223372036854775807):W3 (hO x) k h=some (if k<0∨5<k then (hO x,6) else if h=0∨h∈lv x.S then (hO (G5 x k.toNat h),0) else (hO x,3)):=by
 have hR:=hx.sh.sr;have r6:=hx.sh.r6;unfold W3;by_cases hk:k<0∨5<k
 ·rw[if_pos hk,if_pos (by simp;omega)]
 ·rw[if_neg hk,if_neg (by simp;omega),a6x hR hh,d3v]
  by_cases hn:h=0∨h∈lv x.S
  ·rw[if_pos hn,decide_eq_true hn,if_neg (by simp)]
   obtain⟨n,rfl⟩:∃n:Nat,k=n:=⟨k.toNat,by omega⟩
   have hnl:n<x.Roots.length:=by omega
   have hnl':n<(hO x).Roots.length:=hnl;have old:x.Roots[n]≤9223372036854775807:=b08 hx hS (hx.sh.rt _ (List.getElem_mem hnl));have e1:=a5R x h;have r6':(hO x).Roots.length=6:=r6;rw[o0 hnl',d3v,a8g hR hh hS,d3v,P7 (by omega) (by rw[r6'];omega),d3v,o0 hnl',d3v]
   have hrel:=a3R (x:=wR (B8 x h) (x.Roots.set n h)) (a3n hR h) old;rw[Int.toNat_natCast];rw[show F0 ⟨(hO (B8 x h)).S,(hO x).Roots.set n h,(hO (B8 x h)).Cells,(hO (B8 x h)).T,(hO (B8 x h)).Q⟩ (hO x).Roots[n]=_ from hrel];unfold G5;rw[List.getD_eq_getElem?_getD,List.getElem?_eq_getElem hnl];rfl
  ·rw[if_neg hn,decide_eq_false hn,if_pos (by simp)]
omit hx hS in
theorem d07 {l:List Int} {n:Nat} (hn:n<l.length):b2L l n=some (l[n],0)∧b4P l n=some (l[n],0):=by
 constructor
 ·unfold b2L a60;rw[d3v,if_neg (by simp;omega),o0 hn,d3v]
 ·unfold b4P;rw[if_neg (by simp;omega),o0 hn,d3v]
omit hx hS in
theorem c8q {l:List Int} {k:Int} (hk:¬(0≤k∧k<l.length)):b2L l k=some (0,5)∧b4P l k=some (0,5):=by
 constructor
 ·unfold b2L a60;rw[d3v,if_pos (by simp;omega)]
 ·unfold b4P;rw[if_pos (by simp;omega)]
theorem b2S(h k:Int)(hh:h≤9223372036854775807):(∃e,e≠0∧a0n x.S h k=some (0,e)∧a3P (sO x.S) h k=some (0,e)) ∨
  (h∈lv x.S∧∃n:Nat,k=n∧∃hn:n<(ob x.S h).Fields.length,a0n x.S h k=some ((ob x.S h).Fields[n],0)∧a3P (sO x.S) h k=some ((ob x.S h).Fields[n],0)):=by
 have hR:=hx.sh.sr;obtain⟨e,h1,h2⟩:=V4 (x4.2 hR) hh;have hg:F5 (sO x.S) h=some (oo (ob x.S h),e):=by
  rw[a4M x.S (by have:=hR.len;omega) hh,h1]
  rfl
 unfold a0n a3P;rw[h1,d3v,hg,d3v];by_cases q:h∈lv x.S
 ·have:=h2.2 q;subst this;rw[if_neg (by simp),if_neg (by simp),show (oo (ob x.S h),(0:Int)).1.Fields=(ob x.S h).Fields from rfl]
  by_cases hk:0≤k∧k<(ob x.S h).Fields.length
  ·right;obtain⟨n,rfl⟩:∃n:Nat,k=n:=⟨k.toNat,by omega⟩
   have hn:n<(ob x.S h).Fields.length:=by omega
   refine⟨q,n,rfl,hn,?_,?_⟩
   ·rw[(d07 hn).1];rfl
   ·rw[(d07 hn).2];rfl
  ·left;refine⟨5,by decide,?_,?_⟩
   ·rw[(c8q hk).1];rfl
   ·rw[(c8q hk).2];rfl
 ·left;have he:(e != 0)=true:=by simpa using λc=>q (h2.1 c)
  refine⟨e,by simpa using he,?_,?_⟩
  ·simp only[he,if_true]
  ·simp only[he,if_true]
theorem c5o{s:a7}(hR:SR s){h:Int}(hh:h∈lv s){n:Nat}(hn:n<(ob s h).Fields.length)(v:Int) :
  a9d s h n v=some (seO s h (flg (ob s h) ((ob s h).Fields.set n v)),0)∧b7E (sO s) h n v=some (sO (seO s h (flg (ob s h) ((ob s h).Fields.set n v))),0):=by
 have ok:=K1 hR hh;have hf:=ok.fl;have hle:=J4 hR hh;have ho:OkO s (flg (ob s h) ((ob s h).Fields.set n v)):=⟨ok.s1,ok.s2,ok.st,ok.wk,ok.p1,ok.p2,by simpa using hf⟩
 have h1:=b1G (o:=flg (ob s h) ((ob s h).Fields.set n v)) hR hh rfl ho;have h2:=b1H (o:=flg (ob s h) ((ob s h).Fields.set n v)) hR hh rfl ho;constructor
 ·unfold a9d;rw[a7X (x4.2 hR) hh,d3v,if_neg (by simp)]
  unfold b5j a60;dsimp only;rw[d3v,if_neg (by simp;omega),b4A (by omega) (by omega),d3v]
  have e:cpy (List.replicate (ob s h).Fields.length (0:Int)) (ob s h).Fields=some (ob s h).Fields:=by
   unfold cpy;rw[if_pos (by simp)]
   simp
  rw[e,d3v,o0 hn,d3v,d3v,if_neg (by simp),Int.toNat_natCast]
  dsimp only;rw[show K3 s h ⟨(ob s h).Serial,(ob s h).Strong,(ob s h).Weak,(ob s h).Prog,(ob s h).Started,(ob s h).Fields.set n v⟩=_ from h1];rfl
 ·unfold b7E;rw[a4M s (by have:=hR.len;omega) (by omega),a7X (x4.2 hR) hh,Option.map_some,d3v,if_neg (by simp)]
  unfold b9r;have hn':n<(oo (ob s h)).Fields.length:=hn;have hf':(oo (ob s h)).Fields.length≤4:=hf;dsimp only;rw[if_neg (by simp;omega),P7 (by omega) (by omega),d3v,o0 hn',d3v,d3v,if_neg (by simp),Int.toNat_natCast]
  dsimp only;rw[show O1 (sO s) h ⟨(oo (ob s h)).Serial,(oo (ob s h)).Strong,(oo (ob s h)).Weak,(oo (ob s h)).Prog,(oo (ob s h)).Started,(oo (ob s h)).Fields.set n v⟩=_ from h2];rfl
theorem c4q(h k v:Int)(hh:h≤9223372036854775807)(hv:v≤9223372036854775807) :
  (∃e,e≠0∧a2e x h k v=some (x,e)∧a5L (hO x) h k v=some (hO x,e)) ∨
  (h∈lv x.S∧(v=0∨v∈lv x.S)∧∃n:Nat,k=n∧n<(ob x.S h).Fields.length∧a2e x h k v=some (a1z x h n v,0)∧a5L (hO x) h k v=some (hO (a1z x h n v),0)):=by
 have hR:=hx.sh.sr;unfold a2e a5L;rcases b2S hx hS h k hh with ⟨e,he,f1,f2⟩ | ⟨hl,n,rfl,hn,f1,f2⟩
 ·left;have he':(e != 0)=true:=by simpa using he
  refine⟨e,he,?_,?_⟩;·rw[f1,d3v,if_pos he']
  ·rw[show (hO x).S=sO x.S from rfl,f2,d3v,if_pos he']
 ·rw[f1,d3v,if_neg (by simp),show (hO x).S=sO x.S from rfl,f2,d3v,if_neg (by simp),a06 hR hv,d3v,a6x hR hv,d3v]
  by_cases hn2:v=0∨v∈lv x.S
  ·right;refine⟨hl,hn2,n,rfl,hn,?_⟩;rw[decide_eq_true hn2,if_neg (by simp),if_neg (by simp)]
   have kin:=G4 hR v (f:=Z4) λc=>E1;have hR1:SR (B8 x v).S:=kin.sr;have hl1:h∈lv (B8 x v).S:=by rw[show lv (B8 x v).S=lv x.S from kin.lv];exact hl
   have hof:(ob (B8 x v).S h).Fields=(ob x.S h).Fields:=by
    obtain⟨m,e⟩:=kin.ob h hh;show (ob (stO x v Z4).S h).Fields=_;rw[e]
   have hn1:n<(ob (B8 x v).S h).Fields.length:=by rw[hof];exact hn
   have old:(ob x.S h).Fields[n]≤9223372036854775807:=b08 hx hS (hx.sh.fl h hl _ (List.getElem_mem hn));have ok:=K1 hR1 hl1;have sr2:SR (seO (B8 x v).S h (flg (ob (B8 x v).S h) ((ob (B8 x v).S h).Fields.set n v))):=a1c (o:=flg (ob (B8 x v).S h) ((ob (B8 x v).S h).Fields.set n v)) hR1 hl1 rfl ⟨ok.s1,ok.s2,ok.st,ok.wk,ok.p1,ok.p2,by simpa using ok.fl⟩
   obtain⟨p1,p2⟩:=c5o hx hS hR1 hl1 hn1 v;have hd:(ob x.S h).Fields.getD n 0=(ob x.S h).Fields[n]:=by
    rw[List.getD_eq_getElem?_getD,List.getElem?_eq_getElem hn];rfl
   constructor
   ·unfold I1 a0G;rw[a5P hR hv hS,d3v];dsimp only;rw[p1,d3v,d3v];have hrel:=a2q (x:=wS (B8 x v) (seO (B8 x v).S h (flg (ob (B8 x v).S h) ((ob (B8 x v).S h).Fields.set n v)))) sr2 old;rw[show C5 ⟨seO (B8 x v).S h (flg (ob (B8 x v).S h) ((ob (B8 x v).S h).Fields.set n v)),(B8 x v).Roots,(B8 x v).Cells,(B8 x v).T,(B8 x v).Q⟩ (ob x.S h).Fields[n]=_ from hrel];unfold a1z;rw[hd,hof];rfl
   ·rw[a8g hR hv hS,d3v,show (hO (B8 x v)).S=sO (B8 x v).S from rfl,p2,d3v];have hrel:=a3R (x:=wS (B8 x v) (seO (B8 x v).S h (flg (ob (B8 x v).S h) ((ob (B8 x v).S h).Fields.set n v)))) sr2 old;dsimp only;rw[show F0 ⟨sO (seO (B8 x v).S h (flg (ob (B8 x v).S h) ((ob (B8 x v).S h).Fields.set n v))),(hO (B8 x v)).Roots,(hO (B8 x v)).Cells,(hO (B8 x v)).T,(hO (B8 x v)).Q⟩ (ob x.S h).Fields[n]=_ from hrel];unfold a1z;rw[hd,hof];rfl
  ·left;refine⟨3,by decide,?_,?_⟩
   ·rw[decide_eq_false hn2,if_pos (by simp)]
   ·rw[decide_eq_false hn2,if_pos (by simp)]
theorem c7V(k v:Int)(hk:k≤9223372036854775807)(hv:v≤9223372036854775807) :
  (∃e,e≠0∧a3N x k v=some (x,e)∧a79 (hO x) k v=some (hO x,e)) ∨
  (k∈lv x.S∧(v=0∨v∈lv x.S)∧∃r,W6 x.T k v=some r∧r.2.2=0∧a3N x k v=some (a7b x v r.1 r.2.1,0)∧a79 (hO x) k v=some (hO (a7b x v r.1 r.2.1),0)):=by
 have hR:=hx.sh.sr;unfold a3N a79;by_cases k0:k=0
 ·left;subst k0;exact⟨2,by decide,by simp,by simp⟩
 ·rw[if_neg (by simpa using k0),if_neg (by simpa using k0),a06 hR hk,d3v,a6v hR hk,d3v,a06 hR hv,a6x hR hv]
  have hkk:(k=0∨k∈lv x.S)↔k∈lv x.S:=by simp[k0]
  by_cases hl:k∈lv x.S∧(v=0∨v∈lv x.S)
  ·obtain⟨hl,hn⟩:=hl;rw[decide_eq_true (hkk.2 hl),decide_eq_true hl,decide_eq_true hn];simp only[Bool.not_true,beq_self_eq_true,E8,d3v,Bool.or_self,Bool.false_eq_true,if_false];obtain⟨r,r1,r2,r3,r4,r5⟩:=c3q hx.sh.hr k v;rw[r1,d3v,show (hO x).T=x.T.map L5 from rfl,r4,d3v];by_cases h0:r.2.2=0
   ·right;refine⟨hl,hn,r,rfl,h0,?_⟩;have e1:(r.2.2 != 0)=false:=by simpa using h0
    have old:r.2.1≤9223372036854775807:=by
     rcases r5 with ⟨_,rfl⟩ | ⟨_,_,⟨i,hi,rfl⟩ | ⟨_,rfl⟩⟩ | ⟨_,_,⟨i,hi,rfl⟩ | ⟨d,_,_,_,_,rfl⟩ | ⟨_,_,rfl⟩⟩;·simp
     ·exact b08 hx hS (.inr (hx.sh.pr k _ ⟨i,hi,rfl⟩).2)
     ·simp
     ·exact b08 hx hS (.inr (hx.sh.pr k _ ⟨i,hi,rfl⟩).2)
     ·simp
     ·simp
    constructor
    ·rw[e1];simp only[Bool.false_eq_true,if_false];unfold J3 V5;rw[a5P hR hv hS,d3v,d3v];dsimp only;have hrel:=a2q (x:=wT (B8 x v) r.1) (a3n hR v) old;rw[show C5 ⟨(B8 x v).S,(B8 x v).Roots,(B8 x v).Cells,r.1,(B8 x v).Q⟩ r.2.1=_ from hrel];rfl
    ·dsimp only;rw[e1];simp only[Bool.false_eq_true,if_false];rw[a8g hR hv hS,d3v];have hrel:=a3R (x:=wT (B8 x v) r.1) (a3n hR v) old;rw[show F0 ⟨(hO (B8 x v)).S,(hO (B8 x v)).Roots,(hO (B8 x v)).Cells,r.1.map L5,(hO (B8 x v)).Q⟩ r.2.1=_ from hrel];rfl
   ·left;have e1:(r.2.2 != 0)=true:=by simpa using h0
    refine⟨r.2.2,h0,by rw[if_pos e1],by dsimp only;rw[if_pos e1]⟩
  ·left;refine⟨3,by decide,?_,?_⟩
   ·by_cases hl2:k∈lv x.S
    ·have:¬(v=0∨v∈lv x.S):=λq=>hl ⟨hl2,q⟩;rw[decide_eq_true (hkk.2 hl2),decide_eq_false this];rfl
    ·rw[decide_eq_false λq=>hl2 (hkk.1 q)];rfl
   ·by_cases hl2:k∈lv x.S
    ·have:¬(v=0∨v∈lv x.S):=λq=>hl ⟨hl2,q⟩;rw[decide_eq_true hl2,decide_eq_false this];rfl
    ·rw[decide_eq_false hl2];rfl
end
theorem c1I{s:a7}(hR:SR s){h:Int}{i:Nat}(q:U6 s h i):N3 s.S h=some ((gvA s i).S,0):=by
 have hi:=q.1;have hc:=hR.cell i hi;have l9:=hR.l9;unfold N3 gvA;rw[a3A hR q,d3v,if_neg (by simp),b6i hi,d3v]
 by_cases g:(ce s i).Gen=s.S.Last
 ·rw[if_pos (by simpa using g),if_pos g,a52 rfl hi hR.len]
  rfl
 ·rw[if_neg (by simpa using g),if_neg g,a52 rfl hi hR.len,C9 (by omega) (by omega)]
  rfl
theorem c4G{s:a7}{i:Nat}(hi:i<s.S.Cells.length):ix (sO s).Cells (i:Int)=some (cO (ce s i)):=by
 rw[c2l,b6i hi];rfl
theorem c2m(s:a7)(i:Nat)(c:b7):sO (G8 s i c)=⟨(sO s).Cells.set i (cO c),s.S.Last,s.Serial⟩:=by
 unfold sO G8;rw[List.map_set]
theorem b5i(t:k9)(p:C1)(hl:t.Cells.length≤1000)(hp:p.Cells.length=t.Cells.length):a1a t p=some ⟨(List.range t.Cells.length).map λk=>⟨(p.Cells.getD k ⟨0,0,0⟩).State,(p.Cells.getD k ⟨0,0,0⟩).Gen,(t.Cells.getD k ⟨0,0,oo z0⟩).Val⟩,t.Last,t.Serial⟩:=by
 unfold a1a;simp only[jn];rw[c4J (b:=80) t.Cells.length (λk=>⟨(p.Cells.getD k ⟨0,0,0⟩).State,(p.Cells.getD k ⟨0,0,0⟩).Gen,(t.Cells.getD k ⟨0,0,oo z0⟩).Val⟩) (by omega) (by omega) (λk acc hk=>?_) (λacc=>by simp)]
 ·rfl
 ·have hk2:k<p.Cells.length:=by omega
  simp only[Int.ofNat_lt,hk,decide_true,if_true,o0 hk,o0 hk2,d3v];rw[List.getD_eq_getElem?_getD,List.getElem?_eq_getElem hk2,List.getD_eq_getElem?_getD,List.getElem?_eq_getElem hk];rfl
theorem c4w{s:a7}(hR:SR s){h:Int}{i:Nat}(q:U6 s h i):b1i (sO s) h=some (sO (gvA s i)):=by
 have hi:=q.1;have hc:=hR.cell i hi;have l9:=hR.l9;have hlen:=hR.len;have hr:=q.rng hR;have hH:Hnd h:=((a97 hR).2 q).2.1;have hsl:(h-1) % 32=i:=((a97 hR).2 q).2.2.1;have L5:i<(pl (sO s)).Cells.length:=by rw[a08,A7];exact hi
 have key:∀st g,(st:Int)=st→a1a (sO s) ⟨(pl (sO s)).Cells.set i ⟨st,g,0⟩,(pl (sO s)).Last⟩=some ⟨(sO s).Cells.set i ⟨st,g,oo (ce s i).Val⟩,s.S.Last,s.Serial⟩:=λst g _=>by
  rw[b5i _ _ (by rw[A7];omega) (by simp[a08])]
  congr 1;congr 1;refine List.ext_getElem (by simp) λk h1 h2=>?_
  have hk:k<s.S.Cells.length:=by simpa[A7] using h1
  have hk2:k<(sO s).Cells.length:=by rw[A7];exact hk
  have hk3:k<(pl (sO s)).Cells.length:=by rw[a08];exact hk2
  simp only[List.getElem_map,List.getElem_range,List.getElem_set];have e1:(sO s).Cells.getD k ⟨0,0,oo z0⟩=cO (ce s k):=by
   rw[List.getD_eq_getElem?_getD,List.getElem?_eq_getElem hk2,E4 hk];simp[sO]
  have e2:((pl (sO s)).Cells.set i ⟨st,g,0⟩).getD k ⟨0,0,0⟩=if k=i then ⟨st,g,0⟩ else plc k (cO (ce s k)):=by
   rw[a5w L5];split;·rfl
   ·rw[List.getD_eq_getElem?_getD,List.getElem?_eq_getElem hk3,E4 hk];simp[pl,sO]
  rw[e1,e2];by_cases e:k=i
  ·subst e;rw[if_pos rfl,if_pos rfl];rfl
  ·rw[if_neg e,if_neg (Ne.symm e)];rw[E4 hk];simp[sO,plc,cO]
 have fin:∀st g,(a23 ⟨(sO s).Cells.set i ⟨st,g,oo (ce s i).Val⟩,s.S.Last,s.Serial⟩ (i:Int) ⟨0,0,0,0,false,[]⟩)=some (sO (G8 s i ⟨st,g,z0⟩)):=λst g=>by
  unfold a23;have hi2:i<((sO s).Cells.set i ⟨st,g,oo (ce s i).Val⟩).length:=by simp[A7];exact hi
  rw[P7 (by omega) (by simp[A7];omega),d3v,o0 hi2,d3v,c2m]
  simp[cO,oo,List.set_set]
 unfold b1i b9p gvA;rw[a2J _ (by rw[A7];omega),d3v,a96 s (by omega),a3A hR q,d3v,if_neg (by simp)]
 rw[b9m (by rw[A7];exact hi),d3v]
 have hgen:(plc i ((sO s).Cells[i]'(by rw[A7];exact hi))).Gen=(ce s i).Gen:=by
  rw[E4 hi];simp[plc,sO,cO]
 have hlast:(pl (sO s)).Last=s.S.Last:=rfl;have w3:∀c:B5,a0R (pl (sO s)) (i:Int) c=some ⟨(pl (sO s)).Cells.set i c,(pl (sO s)).Last⟩:=λc=>by
  unfold a0R;rw[P7 (by omega) (by rw[a08,A7];omega),d3v,o0 L5,d3v,Int.toNat_natCast]
 rw[hgen,hlast,a72,if_pos hH,hsl];by_cases g:(ce s i).Gen=s.S.Last
 ·rw[if_pos (by simp[g]),if_pos g,w3,d3v,d3v,if_neg (by simp),key _ _ rfl,d3v,d3v,fin]
  rfl
 ·rw[if_neg (by simp;omega),if_neg g,w3,d3v,d3v,if_neg (by simp),key _ _ rfl,d3v,d3v,C9 (by omega) (by omega),fin]
  rfl
section
variable{x:Hp}(hR:SR x.S)
include hR
theorem b6n{h d:Int}(hh:h≤9223372036854775807)(hw:U6 x.S h (D0 h) → -1000≤(ce x.S (D0 h)).Val.Weak+d∧(ce x.S (D0 h)).Val.Weak+d≤1000):a1k x h d=some (mkd x h d):=by
 unfold a1k mkd;by_cases q:U6 x.S h (D0 h)
 ·have:=hw q;rw[if_pos q,a3A hR q,d3v];simp only[beq_self_eq_true,if_true];rw[b6i q.1,d3v,C9 (by omega) (by omega),b8d hR q,d3v]
  rfl
 ·have hno:∀i,¬U6 x.S h i:=λi hi=>q (by rw[hi.D0 hR];exact hi)
  rw[if_neg q,a3V hR hh hno,d3v];have:((if h=0 then 2 else 3:Int)==0)=false:=by simpa using a1y h
  simp only[this,Bool.false_eq_true,if_false]
theorem b9U{h:Int}(hh:h≤9223372036854775807)(hw:U6 x.S h (D0 h)→1≤(ce x.S (D0 h)).Val.Weak∧(ce x.S (D0 h)).Val.Weak≤1000):a2H x h=some (a8t x h):=by
 unfold a2H;rw[b6n hR hh (λq=>by have:=hw q;omega),d3v]
 unfold mkd a8t;by_cases q:U6 x.S h (D0 h)
 ·have hw:=hw q;rw[if_pos q,if_pos q];have sr1:=b4z hR q.1 q.2.1 (d:=-1) (by omega)
  have q1:U6 (mkA x.S (D0 h) (-1)) h (D0 h):=(b3q q.1 _).2 q;dsimp only;rw[a3A sr1 q1,d3v,if_neg (by simp),b6i q1.1,d3v,a3l hR q.1 q.2.1,if_pos rfl]
  dsimp only;by_cases c:(ce x.S (D0 h)).State=2∧(ce x.S (D0 h)).Val.Weak=1
  ·rw[if_pos c,if_pos (by simp[c.1,c.2]),c1I sr1 q1,d3v]
   rfl
  ·rw[if_neg c,if_neg (by simp only[Bool.and_eq_true,beq_iff_eq];omega)]
 ·have hno:∀i,¬U6 x.S h i:=λi hi=>q (by rw[hi.D0 hR];exact hi)
  rw[if_neg q,if_neg q,a3V hR hh hno,d3v];have:((if h=0 then 2 else 3:Int) != 0)=true:=by simpa using a1y h
  simp only[this,if_true]
theorem c3z{h:Int}(hh:h≤9223372036854775807)(hw:U6 x.S h (D0 h)→1≤(ce x.S (D0 h)).Val.Weak∧(ce x.S (D0 h)).Val.Weak≤1000):a1l (hO x) h=some (hO (a8t x h)):=by
 have hl:=hR.len;unfold a1l;rw[show (hO x).S=sO x.S from rfl,a2J _ (by rw[A7];omega),d3v,a96 x.S hh]
 unfold a8t;by_cases q:U6 x.S h (D0 h)
 ·have hw:=hw q;have hr:=q.rng hR;rw[if_pos q,a3A hR q,d3v,if_neg (by simp),c4G q.1,d3v]
  have sr1:=b4z hR q.1 q.2.1 (d:=-1) (by omega)
  have q1:U6 (mkA x.S (D0 h) (-1)) h (D0 h):=(b3q q.1 _).2 q;have hs:O1 (sO x.S) h (oo (wkg (ce x.S (D0 h)).Val ((ce x.S (D0 h)).Val.Weak + -1)))=some (sO (mkA x.S (D0 h) (-1)),0):=by
   rw[c5N x.S hl hh,b8d hR q];rfl
  have hw64:u9 ((cO (ce x.S (D0 h))).Val.Weak-1)=(ce x.S (D0 h)).Val.Weak + -1:=by
   show u9 ((ce x.S (D0 h)).Val.Weak-1)=_;rw[C9 (by omega) (by omega)]
   omega
  rw[hw64];rw[show O1 (sO x.S) h ⟨(cO (ce x.S (D0 h))).Val.Serial,(cO (ce x.S (D0 h))).Val.Strong,(ce x.S (D0 h)).Val.Weak + -1,(cO (ce x.S (D0 h))).Val.Prog,(cO (ce x.S (D0 h))).Val.Started,(cO (ce x.S (D0 h))).Val.Fields⟩=_ from hs,d3v,c4G q1.1,d3v,a3l hR q.1 q.2.1,if_pos rfl];by_cases c:(ce x.S (D0 h)).State=2∧(ce x.S (D0 h)).Val.Weak=1
  ·rw[if_pos c,if_pos (by simp[cO,c.1,c.2]),c4w sr1 q1,d3v]
   rfl
  ·rw[if_neg c,if_neg (by simp only[cO,Bool.and_eq_true,beq_iff_eq,decide_eq_true_eq];omega)]
   rfl
 ·have hno:∀i,¬U6 x.S h i:=λi hi=>q (by rw[hi.D0 hR];exact hi)
  rw[if_neg q,a3V hR hh hno,d3v];have:((if h=0 then 2 else 3:Int) != 0)=true:=by simpa using a1y h
  simp only[this,if_true]
end
theorem c53{l:List g5}(hl:l.length≤1000){n:Nat}(hn:n<l.length)(h call:Int):b1T l n h call=some (l.set n (wcl h call),l[n].Target,0):=by
 unfold b1T a51 a0p;simp only[d3v];rw[if_neg (by simp;omega),b4A (by omega) (by omega),d3v]
 have e:cpy (List.replicate l.length (⟨0,false,0⟩:g5)) l=some l:=by
  unfold cpy;rw[if_pos (by simp)]
  simp
 rw[e,d3v,d3v,o0 hn,d3v,d3v,Int.toNat_natCast]
theorem c1f{l:List g5}(hl:l.length≤1000){n:Nat}(hn:n<l.length)(h call:Int):b7I (l.map wcR) n h call=some ((l.set n (wcl h call)).map wcR,l[n].Target,0):=by
 unfold b7I;have hn':n<(l.map wcR).length:=by simpa using hn
 rw[if_neg (by simp;omega),P7 (by omega) (by simp;omega),d3v,o0 hn',d3v,d3v,Int.toNat_natCast,List.map_set]
 simp[wcR]
theorem c4Z(l:List g5)(h:Int):nmg l h≤l.length:=List.countP_le_length
theorem c8m{x:Hp}(hx:Q8 x)(k h call:Int)(hh:h≤9223372036854775807)(hc : -1≤call∧call≤5) :
  (∃e,e≠0∧a0v x k h call=some (x,e)∧a4e (hO x) k h call=some (hO x,e)) ∨
  ((h=0∨h∈lv x.S)∧∃n:Nat,k=n∧n<6∧wts x.Q n=false∧a0v x k h call=some (a3a x n h call,0)∧a4e (hO x) k h call=some (hO (a3a x n h call),0)):=by
 have hR:=hx.sh.sr;have c6:=hx.sh.c6;have q30:=hx.sh.q30;unfold a0v a4e;by_cases hk:k<0∨5<k
 ·left;have e1:((decide (k<0))||(decide (k≥(x.Cells.length:Int))))=true:=by rw[c6];simp;omega
  have e2:((decide (k<0))||(decide (k > 5)))=true:=by simp;omega
  refine⟨7,by decide,?_,?_⟩
  ·rw[e1];rfl
  ·rw[e2];rfl
 ·obtain⟨n,rfl⟩:∃n:Nat,k=n:=⟨k.toNat,by omega⟩
  have hn6:n<6:=by omega
  have e1:((decide ((n:Int)<0))||(decide ((n:Int)≥(x.Cells.length:Int))))=false:=by rw[c6];simp;omega
  have e2:((decide ((n:Int)<0))||(decide ((n:Int) > 5)))=false:=by simp;omega
  rw[e1,e2];simp only[beq_self_eq_true,E8,Bool.false_or];have hwq:a4q x.Q n=some (wts x.Q n):=c8d (by omega)
  have hwr:a2l (hO x).Q n=some (wts x.Q n):=c2a (by omega)
  rw[hwq,d3v,hwr,d3v,a06 hR hh,d3v,a6x hR hh,d3v];by_cases hw:wts x.Q n=true
  ·left;rw[if_pos hw,if_pos hw];exact⟨7,by decide,rfl,rfl⟩
  ·have hw:wts x.Q n=false:=by simpa using hw
   rw[hw,if_neg (show ¬(false=true) by decide),if_neg (show ¬(false=true) by decide)]
   by_cases hl:h=0∨h∈lv x.S
   ·right;refine⟨hl,n,rfl,hn6,hw,?_⟩;have hnl:n<x.Cells.length:=by omega
    rw[decide_eq_true hl,if_neg (by simp),if_neg (by simp),c53 (by omega) hnl,d3v,show (hO x).Cells=x.Cells.map wcR from rfl,c1f (by omega) hnl,d3v]
    have htg:tgt x n=x.Cells[n].Target:=by
     unfold tgt;rw[List.getD_eq_getElem?_getD,List.getElem?_eq_getElem hnl];rfl
    have wkb:∀i,i<x.S.S.Cells.length→Th (ce x.S i)→0≤(ce x.S i).Val.Weak∧(ce x.S i).Val.Weak≤6:=λi hi ht=>by
     have:=(hx.wk i hi ht).1;have:=c4Z x.Cells (1+(i:Int)+32*(ce x.S i).Gen);omega
    have mk1:∃s2,mkd (wC x (x.Cells.set n (wcl h call))) h 1=wS (wC x (x.Cells.set n (wcl h call))) s2∧SR s2∧(∀k i,U6 s2 k i↔U6 x.S k i)∧(∀i,i<x.S.S.Cells.length→Th (ce x.S i)→(ce x.S i).Val.Weak≤(ce s2 i).Val.Weak∧(ce s2 i).Val.Weak≤(ce x.S i).Val.Weak+1) ∧
      (h≠0→F5 (sO x.S) h=some (oo (ce x.S (D0 h)).Val,0)∧O1 (sO x.S) h (oo (wkg (ce x.S (D0 h)).Val ((ce x.S (D0 h)).Val.Weak+1)))=some (sO s2,0))∧(h=0→s2=x.S):=by
     unfold mkd;by_cases h0:h=0
     ·have hno:¬U6 x.S h (D0 h):=λq=>by have:=q.rng hR;omega
      rw[if_neg hno];exact⟨x.S,rfl,hR,λ_ _=>Iff.rfl,λi _ _=>by omega,λq=>absurd h0 q,λ_=>rfl⟩
     ·have hll:=hl.resolve_left h0;have hp:=y4 hR hll;have hb:=wkb _ hp.1 (.inl hp.2.1);rw[if_pos hp.d];have kn:=a6y hR hp.1 (.inl hp.2.1) (d:=1) (by omega)
      refine⟨_,rfl,kn.sr,kn.ad,λi hi ht=>?_,λ_=>⟨?_,?_⟩,λq=>absurd q h0⟩
      ·rw[a3l hR hp.1 (.inl hp.2.1)];split;·rename_i e;subst e;dsimp only;omega
       ·omega
      ·rw[a4M x.S (by have:=hR.len;omega) hh,c9k hR hp]
       rfl
      ·rw[c5N x.S hR.len hh,b8d hR hp.d];rfl
    obtain⟨s2,m1,m2,m3,m4,m5,m6⟩:=mk1;have hold:tgt x n≤9223372036854775807:=by
     by_cases q:tgt x n=0
     ·omega
     ·obtain⟨p,hp⟩:=(hx.sh.cl n hnl).2.2.2.1 (by rw[←htg];exact q)
      have:=hp.rng hR;rw[htg];omega
    have hun:U6 s2 (tgt x n) (D0 (tgt x n))→1≤(ce s2 (D0 (tgt x n))).Val.Weak∧(ce s2 (D0 (tgt x n))).Val.Weak≤1000:=λq=>by
     have q':=(m3 _ _).1 q;have r:=q'.rng hR;have:=(hx.wk _ q'.1 q'.2.1).1;have hp:0<nmg x.Cells x.Cells[n].Target:=b1c hnl (by rw[←htg];omega)
     rw[←htg,q'.2.2] at hp;have:=m4 _ q'.1 q'.2.1;have:=wkb _ q'.1 q'.2.1;omega
    have u1:=b9U (x:=wS (wC x (x.Cells.set n (wcl h call))) s2) m2 hold hun;have u2:=c3z (x:=wS (wC x (x.Cells.set n (wcl h call))) s2) m2 hold hun;have hwb:U6 x.S h (D0 h) → -1000≤(ce x.S (D0 h)).Val.Weak+1∧(ce x.S (D0 h)).Val.Weak+1≤1000:=λq=>by
     have:=wkb _ q.1 q.2.1;omega
    have mm:=b6n (x:=wC x (x.Cells.set n (wcl h call))) (d:=1) hR hh hwb;constructor
    ·dsimp only;rw[show a1k ⟨x.S,x.Roots,x.Cells.set n (wcl h call),x.T,x.Q⟩ h 1=_ from mm,d3v,m1,←htg,u1,d3v];unfold a3a;rw[m1]
    ·unfold a3a;rw[m1];dsimp only;by_cases h0:h=0
     ·rw[if_neg (by simpa using h0),←htg]
      rw[m6 h0] at u2 ⊢;rw[show a1l ⟨(hO x).S,(hO x).Roots,(x.Cells.set n (wcl h call)).map wcR,(hO x).T,(hO x).Q⟩ (tgt x n)=_ from u2,d3v]
     ·obtain⟨g1,g2⟩:=m5 h0;have hp:=y4 hR (hl.resolve_left h0);have hb:=wkb _ hp.1 (.inl hp.2.1);rw[if_pos (by simpa using h0),show (hO x).S=sO x.S from rfl,g1,d3v]
      have e:u9 ((oo (ce x.S (D0 h)).Val).Weak+1)=(ce x.S (D0 h)).Val.Weak+1:=by
       show u9 ((ce x.S (D0 h)).Val.Weak+1)=_;rw[C9 (by omega) (by omega)]
      dsimp only;rw[e];rw[show O1 (sO x.S) h ⟨(oo (ce x.S (D0 h)).Val).Serial,(oo (ce x.S (D0 h)).Val).Strong,(ce x.S (D0 h)).Val.Weak+1,(oo (ce x.S (D0 h)).Val).Prog,(oo (ce x.S (D0 h)).Val).Started,(oo (ce x.S (D0 h)).Val).Fields⟩=_ from g2,d3v,←htg];dsimp only;rw[show a1l ⟨sO s2,(hO x).Roots,(x.Cells.set n (wcl h call)).map wcR,(hO x).T,(hO x).Q⟩ (tgt x n)=_ from u2,d3v]
   ·left;rw[decide_eq_false hl];refine⟨3,by decide,?_,?_⟩ <;> rw[if_pos (by rfl)]
end Go.Sh
namespace Go.Sh
section
variable{x:Hp}(hx:Q8 x)(hS:∀k∈lv x.S,(ob x.S k).Strong≤9223372036854775807)
include hx hS
end
end Go.Sh
namespace Go.Sh
abbrev tz:c8:=⟨0,0,0⟩
abbrev cz0:g5:=⟨0,false,0⟩
theorem E5{α:Type}{l:List α}{i:Nat}(h:i<l.length)(d:α):l.getD i d=l[i]:=by
 rw[List.getD_eq_getElem?_getD,List.getElem?_eq_getElem h];rfl
theorem c58{q:TQ}{w:Int}:wts q w=true↔∃t∈q.L,t.Kind=2∧t.At=w:=by
 unfold wts;rw[List.any_eq_true];simp
def TkP(x:Hp)(t:c8):Prop:=0≤t.Prog∧t.Prog≤5∧((t.Kind=1∧t.At∈lv x.S∧(ob x.S t.At).Started=true)∨(t.Kind=2∧0≤t.At∧t.At≤5))
def TkS(a b:c8):Prop:=a.Kind=b.Kind∧a.At=b.At
instance(a b:c8):Decidable (TkS a b):=by unfold TkS;infer_instance
section
variable{x:Hp}(hR:SR x.S)
include hR
theorem c8f(hq:x.Q.L.length≤1000)(hB:∀t∈x.Q.L,t.At≤9223372036854775807):∃b,a83 (hO x)=some b∧(b=true↔((∀t∈x.Q.L,TkP x t)∧x.Q.L.Pairwise (λa b=>¬TkS a b)∧x.Q.Cap=30∧x.Q.L.length≤30)):=by
 have hlen:(hO x).Q.L.length=x.Q.L.length:=by simp[hO,tqR]
 unfold a83;simp only[jn];rw[hlen];refine b60 x.Q.L.length (λi=>TkP x (x.Q.L.getD i tz)∧∀k,k<i→¬TkS (x.Q.L.getD k tz) (x.Q.L.getD i tz)) (by omega) (λi hi=>?_) (by simp) (λhall=>?_) (λhno=>?_)
 ·have hi':i<(hO x).Q.L.length:=by rw[hlen];exact hi
  have hg:(hO x).Q.L[i]=⟨(x.Q.L.getD i tz).Kind,(x.Q.L.getD i tz).At,(x.Q.L.getD i tz).Prog⟩:=by
   rw[E5 hi];simp[hO,tqR,tkR]
  have hat:=hB _ (List.getElem_mem hi);rw[←E5 hi tz] at hat;simp only[Int.ofNat_lt,hi,decide_true,if_true,o0 hi',d3v,hg];generalize ht:x.Q.L.getD i tz=t at hat;by_cases c1:((((t.Kind != 1)&&(t.Kind != 2))||(decide (t.Prog<0)))||(decide (t.Prog > 5)))=true
  ·rw[if_pos c1];refine⟨_,rfl,.inr ⟨λq=>?_,rfl⟩⟩;obtain⟨⟨q1,q2,q3⟩,_⟩:=q;simp only[Bool.or_eq_true,Bool.and_eq_true,bne_iff_ne,ne_eq,decide_eq_true_eq] at c1;rcases q3 with q3 | q3 <;> omega
  ·rw[if_neg c1];have c1':(t.Kind=1∨t.Kind=2)∧0≤t.Prog∧t.Prog≤5:=by
    simp only[Bool.or_eq_true,Bool.and_eq_true,bne_iff_ne,ne_eq,decide_eq_true_eq] at c1;omega
   refine b60 i (λk=>¬TkS (x.Q.L.getD k tz) t) (by omega) (λk hk=>?_) (by simp) (λhall=>?_) (λhno=>?_)
   ·have hk1:k<x.Q.L.length:=by omega
    have hk':k<(hO x).Q.L.length:=by rw[hlen];exact hk1
    have hgk:(hO x).Q.L[k]=⟨(x.Q.L.getD k tz).Kind,(x.Q.L.getD k tz).At,(x.Q.L.getD k tz).Prog⟩:=by
     rw[E5 hk1];simp[hO,tqR,tkR]
    simp only[Int.ofNat_lt,hk,decide_true,if_true,o0 hk',d3v,hgk];by_cases c:TkS (x.Q.L.getD k tz) t
    ·rw[if_pos (by simpa[TkS] using c)]
     exact⟨_,rfl,.inr ⟨λq=>q c,rfl⟩⟩
    ·rw[if_neg (by simpa[TkS] using c),j5]
     exact⟨_,rfl,.inl ⟨c,rfl⟩⟩
   ·dsimp only;obtain⟨e,h1,h2⟩:=V4 (x4.2 hR) hat;rw[show (hO x).S=sO x.S from rfl,a4M x.S (by have:=hR.len;omega) hat,h1,Option.map_some,d3v]
    by_cases c2:TkP x t
    ·rw[if_neg,j5];·exact⟨_,rfl,.inl ⟨⟨c2,hall⟩,rfl⟩⟩
     ·obtain⟨_,_,q | q⟩:=c2
      ·have:=h2.2 q.2.1;simp[q.1,this,oo,q.2.2]
      ·simp[q.1];omega
    ·rw[if_pos];·exact⟨_,rfl,.inr ⟨λq=>c2 q.1,rfl⟩⟩
     ·simp only[Bool.or_eq_true,Bool.and_eq_true,beq_iff_eq,bne_iff_ne,ne_eq,Bool.not_eq_true',decide_eq_true_eq,oo];rcases c1'.1 with k1 | k2
      ·left;refine⟨k1,Classical.byContradiction λq=>c2 ⟨c1'.2.1,c1'.2.2,.inl ⟨k1,?_,?_⟩⟩⟩;·exact h2.1 (Classical.byContradiction λq2=>q (.inl q2))
       ·cases hst:(ob x.S t.At).Started;·exact absurd (.inr hst) q
        ·rfl
      ·right;refine⟨k2,?_⟩;have:¬(0≤t.At∧t.At≤5):=λq=>c2 ⟨c1'.2.1,c1'.2.2,.inr ⟨k2,q.1,q.2⟩⟩;omega
   ·exact⟨_,rfl,.inr ⟨λq=>hno q.2,rfl⟩⟩
 ·refine⟨_,rfl,?_⟩;rw[Bool.and_eq_true,beq_iff_eq,decide_eq_true_iff];constructor
  ·rintro⟨a,b⟩;refine⟨λt ht=>?_,?_,a,by first | exact_mod_cast b | (simp[hO,tqR] at b;omega)⟩
   ·obtain⟨i,hi,rfl⟩:=List.getElem_of_mem ht;have:=(hall i hi).1;rwa [E5 hi] at this
   ·rw[List.pairwise_iff_getElem];intro i j hi hj hij;have:=(hall j hj).2 i hij;rwa [E5 hi,E5 hj] at this
  ·rintro⟨_,_,a,b⟩;exact⟨a,by first | exact_mod_cast b | (simp[hO,tqR];omega)⟩
 ·refine⟨false,rfl,?_⟩;simp only[Bool.false_eq_true,false_iff];rintro⟨a,b,_⟩;refine hno λi hi=>⟨?_,λk hk=>?_⟩
  ·rw[E5 hi];exact a _ (List.getElem_mem hi)
  ·have hk1:k<x.Q.L.length:=by omega
   rw[E5 hi,E5 hk1];exact List.pairwise_iff_getElem.1 b k i hk1 hi hk
theorem c7B(hT:HR x.T)(hB:HB x)(hr:x.Roots.length≤1000):∃b,a82 (hO x)=some b∧(b=true↔((∀h∈x.Roots,h=0∨h∈lv x.S)∧(∀h∈lv x.S,∀v∈(ob x.S h).Fields,v=0∨v∈lv x.S)∧∀k v,Has x.T k v→k∈lv x.S∧v∈lv x.S)):=by
 have hlen:(hO x).Roots.length=x.Roots.length:=rfl;have h24:=a1K (x4.2 hR);unfold a82;simp only[jn];refine b60 x.Roots.length (λi=>x.Roots.getD i 0=0∨x.Roots.getD i 0∈lv x.S) (by omega) (λi hi=>?_) (by simp[hlen]) (λhall=>?_) (λhno=>?_)
 ·have hb:=hB.rb _ (List.getElem_mem hi);rw[hlen];simp only[Int.ofNat_lt,hi,decide_true,if_true];rw[show (hO x).Roots=x.Roots from rfl,o0 hi,d3v,a6x hR hb,d3v,E5 hi];by_cases c:x.Roots[i]=0∨x.Roots[i]∈lv x.S
  ·rw[decide_eq_true c,if_neg (by simp),j5]
   exact⟨_,rfl,.inl ⟨c,rfl⟩⟩
  ·rw[decide_eq_false c,if_pos (by simp)]
   exact⟨_,rfl,.inr ⟨c,rfl⟩⟩
 ·dsimp only;have hall':∀h∈x.Roots,h=0∨h∈lv x.S:=λh hh=>by
   obtain⟨i,hi,rfl⟩:=List.getElem_of_mem hh;have:=hall i hi;rwa [E5 hi] at this
  rw[show (hO x).S=sO x.S from rfl,b7m (x4.2 hR),d3v];refine b60 (lv x.S).length (λi=>∀v∈(ob x.S ((lv x.S).getD i 0)).Fields,v=0∨v∈lv x.S) (by omega) (λi hi=>?_) (by simp) (λhall2=>?_) (λhno=>?_)
  ·have hm:=List.getElem_mem hi;have hle:=c4L (x4.2 hR) hi;have hfl:=(K1 hR hm).fl;simp only[Int.ofNat_lt,hi,decide_true,if_true];rw[o0 hi,d3v,a4M x.S (by have:=hR.len;omega) hle,a7X (x4.2 hR) hm,Option.map_some,d3v,E5 hi]
   have hff:(oo (ob x.S (lv x.S)[i])).Fields=(ob x.S (lv x.S)[i]).Fields:=rfl;dsimp only;rw[hff];refine b60 (ob x.S (lv x.S)[i]).Fields.length (λk=>(ob x.S (lv x.S)[i]).Fields.getD k 0=0∨(ob x.S (lv x.S)[i]).Fields.getD k 0∈lv x.S) (by omega) (λk hk=>?_) (by simp) (λhall3=>?_) (λhno=>?_)
   ·have hp:=y4 hR hm;have hb:(ob x.S (lv x.S)[i]).Fields[k]≤9223372036854775807:=by
     have e:=O3 hR hp;exact c8z.1 hB.fb _ hp.1 _ (by rw[←e];exact List.getElem_mem hk)
    simp only[Int.ofNat_lt,hk,decide_true,if_true];rw[o0 hk,d3v,a6x hR hb,d3v,E5 hk];by_cases c:(ob x.S (lv x.S)[i]).Fields[k]=0∨(ob x.S (lv x.S)[i]).Fields[k]∈lv x.S
    ·rw[decide_eq_true c,if_neg (by simp),j5]
     exact⟨_,rfl,.inl ⟨c,rfl⟩⟩
    ·rw[decide_eq_false c,if_pos (by simp)]
     exact⟨_,rfl,.inr ⟨c,rfl⟩⟩
   ·dsimp only;rw[j5];refine⟨_,rfl,.inl ⟨λv hv=>?_,rfl⟩⟩;obtain⟨k,hk,rfl⟩:=List.getElem_of_mem hv;have:=hall3 k hk;rwa [E5 hk] at this
   ·refine⟨_,rfl,.inr ⟨λq=>hno λk hk=>?_,rfl⟩⟩;rw[E5 hk];exact q _ (List.getElem_mem hk)
  ·dsimp only;have hall2':∀h∈lv x.S,∀v∈(ob x.S h).Fields,v=0∨v∈lv x.S:=λh hh=>by
    obtain⟨i,hi,rfl⟩:=List.getElem_of_mem hh;have:=hall2 i hi;rwa [E5 hi] at this
   have h8:=b0g hT.l8;rw[show (hO x).T=x.T.map L5 from rfl,b6y hT,d3v,List.length_map];refine b60 (prs x.T).length (λi=>((prs x.T).getD i ⟨0,0⟩).Key∈lv x.S∧((prs x.T).getD i ⟨0,0⟩).Val∈lv x.S) (by omega) (λi hi=>?_) (by simp) (λhall3=>?_) (λhno=>?_)
   ·have hi':i<((prs x.T).map pp).length:=by simpa using hi
    have hb:=hB.tb.has (a4W.1 (List.getElem_mem hi));simp only[Int.ofNat_lt,hi,decide_true,if_true];rw[o0 hi',d3v,List.getElem_map,a6v hR hb.1,d3v,E5 hi];by_cases c:(prs x.T)[i].Key∈lv x.S
    ·rw[decide_eq_true c];simp only[Bool.not_true,beq_self_eq_true,E8,Bool.false_or];rw[a6v hR hb.2,d3v];by_cases c2:(prs x.T)[i].Val∈lv x.S
     ·rw[decide_eq_true c2,if_neg (by simp),j5]
      exact⟨_,rfl,.inl ⟨⟨c,c2⟩,rfl⟩⟩
     ·rw[decide_eq_false c2,if_pos (by simp)]
      exact⟨_,rfl,.inr ⟨λq=>c2 q.2,rfl⟩⟩
    ·rw[decide_eq_false c];simp only[Bool.not_false,show ((true==false):Bool)=false from rfl,b6t,d3v,Bool.true_or,if_true];exact⟨_,rfl,.inr ⟨λq=>c q.1,rfl⟩⟩
   ·refine⟨true,rfl,?_⟩;simp only[true_iff];refine⟨hall',hall2',λk v hkv=>?_⟩;obtain⟨i,hi,e⟩:=List.getElem_of_mem (a4W (p:=⟨k,v⟩).2 hkv);have:=hall3 i hi;rw[E5 hi,e] at this;exact this
   ·refine⟨false,rfl,?_⟩;simp only[Bool.false_eq_true,false_iff];rintro⟨_,_,q⟩;refine hno λi hi=>?_;rw[E5 hi];exact q _ _ (a4W.1 (List.getElem_mem hi))
  ·refine⟨false,rfl,?_⟩;simp only[Bool.false_eq_true,false_iff];rintro⟨_,q,_⟩;refine hno λi hi=>?_;rw[E5 hi];exact q _ (List.getElem_mem hi)
 ·refine⟨false,rfl,?_⟩;simp only[Bool.false_eq_true,false_iff];rintro⟨q,_⟩;refine hno λi hi=>?_;rw[E5 hi];exact q _ (List.getElem_mem hi)
def ClP(x:Hp)(i:Nat)(c:g5):Prop:=-1≤c.Call∧c.Call≤5∧(c.Target=0→c.Intact=false)∧(c.Target≠0→∃p,U6 x.S c.Target p)∧(c.Intact=true→c.Target∈lv x.S∧wts x.Q i=false)
theorem c7b(hl:x.Cells.length≤1000)(hq:x.Q.L.length≤1000)(hB:∀c∈x.Cells,c.Target≤9223372036854775807):∃b,a81 (hO x)=some b∧(b=true↔∀i (hi:i<x.Cells.length),ClP x i x.Cells[i]):=by
 have hlen:(hO x).Cells.length=x.Cells.length:=by simp[hO]
 unfold a81;simp only[jn];rw[hlen];refine b60 x.Cells.length (λi=>ClP x i (x.Cells.getD i cz0)) (by omega) (λi hi=>?_) (by simp) (λhall=>⟨true,rfl,?_⟩) (λhno=>⟨false,rfl,?_⟩)
 ·have hi':i<(hO x).Cells.length:=by rw[hlen];exact hi
  have hg:(hO x).Cells[i]=⟨(x.Cells.getD i cz0).Target,(x.Cells.getD i cz0).Intact,(x.Cells.getD i cz0).Call⟩:=by
   rw[E5 hi];simp[hO,wcR]
  have hb:=hB _ (List.getElem_mem hi);rw[←E5 hi cz0] at hb;simp only[Int.ofNat_lt,hi,decide_true,if_true,o0 hi',d3v,hg];generalize x.Cells.getD i cz0=c at hb;rw[show (hO x).S=sO x.S from rfl,a2J _ (by rw[A7];have:=hR.len;omega),d3v]
  rw[a96 x.S hb];obtain⟨z,z1,z2⟩:∃z,u4 x.S.S c.Target=some z∧(z.2=0↔∃p,U6 x.S c.Target p):=by
   by_cases q:∃p,U6 x.S c.Target p
   ·obtain⟨p,hp⟩:=q;exact⟨_,a3A hR hp,by simp;exact⟨p,hp⟩⟩
   ·refine⟨_,a3V hR hb (λp hp=>q ⟨p,hp⟩),?_⟩;simp only[q,iff_false];exact a1y _
  rw[z1,d3v];by_cases c1:((((decide (c.Call<(-1)))||(decide (c.Call > 5)))||((c.Target==0)&&c.Intact))||((c.Target != 0)&&(z.2 != 0)))=true
  ·rw[c1];simp only[show ((true==false):Bool)=false from rfl,Bool.false_and,b6t,d3v,Bool.true_or,if_true];refine⟨_,rfl,.inr ⟨λq=>?_,rfl⟩⟩;obtain⟨q1,q2,q3,q4,q5⟩:=q;simp only[Bool.or_eq_true,Bool.and_eq_true,decide_eq_true_eq,beq_iff_eq,bne_iff_ne,ne_eq] at c1;rcases c1 with ((c1 | c1) | c1) | c1
   ·omega
   ·omega
   ·have:=q3 c1.1;rw[this] at c1;exact absurd c1.2 (by decide)
   ·exact c1.2 (z2.2 (q4 c1.1))
  ·have c1:((((decide (c.Call<(-1)))||(decide (c.Call > 5)))||((c.Target==0)&&c.Intact))||((c.Target != 0)&&(z.2 != 0)))=false:=by simpa using c1
   have c1' : -1≤c.Call∧c.Call≤5∧(c.Target=0→c.Intact=false)∧(c.Target≠0→∃p,U6 x.S c.Target p):=by
    simp only[Bool.or_eq_false_iff,Bool.and_eq_false_iff,decide_eq_false_iff_not,beq_eq_false_iff_ne,ne_eq,bne_eq_false_iff_eq] at c1;refine⟨by omega,by omega,λq=>c1.1.2.resolve_left (λq2=>q2 q),λq=>z2.1 (c1.2.resolve_left q)⟩
   rw[c1];simp only[beq_self_eq_true,Bool.true_and,Bool.false_or];cases hin:c.Intact
   ·simp only[show ((false==true):Bool)=false from rfl,b6t,d3v,Bool.false_and,Bool.false_eq_true,if_false];rw[j5];exact⟨_,rfl,.inl ⟨⟨c1'.1,c1'.2.1,λ_=>hin,c1'.2.2.2,λq=>by rw[hin] at q;cases q⟩,rfl⟩⟩
   ·simp only[beq_self_eq_true,E8,Bool.true_and];rw[a6v hR hb,d3v];by_cases c2:c.Target∈lv x.S
    ·rw[decide_eq_true c2];simp only[Bool.not_true,beq_self_eq_true,E8,Bool.false_or];rw[show a2l (hO x).Q i=some (wts x.Q i) from c2a hq,d3v];cases hwt:wts x.Q i
     ·rw[if_neg (by decide),j5]
      exact⟨_,rfl,.inl ⟨⟨c1'.1,c1'.2.1,c1'.2.2.1,c1'.2.2.2,λ_=>⟨c2,hwt⟩⟩,rfl⟩⟩
     ·rw[if_pos rfl];refine⟨_,rfl,.inr ⟨λq=>?_,rfl⟩⟩;have:=(q.2.2.2.2 hin).2;rw[hwt] at this;cases this
    ·rw[decide_eq_false c2];simp only[Bool.not_false,show ((true==false):Bool)=false from rfl,b6t,d3v,Bool.true_or,if_true];exact⟨_,rfl,.inr ⟨λq=>c2 (q.2.2.2.2 hin).1,rfl⟩⟩
 ·simp only[true_iff];intro i hi;have:=hall i hi;rwa [E5 hi] at this
 ·simp only[Bool.false_eq_true,false_iff];intro q;refine hno λi hi=>?_;rw[E5 hi];exact q i hi
omit hR in
theorem c4Y (l:List g5) (hl:l.length≤1000) (h:Int):a6E (l.map wcR) h=some (nmg l h:Int):=by
 unfold a6E;simp only[jn];rw[List.length_map,b2k l (λ(b:Int) c=>if ((h != 0)&&(c.Target==h))=true then b+1 else b) id (λk b=>0≤b∧b≤k) (by omega) (by omega) (λk hk b hI=>?_) (λb _=>by simp),d3v]
 ·congr 1;have:∀(l:List g5) (n:Int),l.foldl (λ(b:Int) c=>if ((h != 0)&&(c.Target==h))=true then b+1 else b) n=n+(nmg l h:Int):=λl=>by
   induction l with
   | nil=>intro n;simp[nmg]
   | cons c l ih=>
    intro n;rw[List.foldl_cons,ih];unfold nmg;rw[List.countP_cons];split <;> simp_all <;> omega
  rw[id,this];omega
 ·have hk':k<(l.map wcR).length:=by simpa using hk
  simp only[Int.ofNat_lt,hk,decide_true,if_true,o0 hk',d3v,List.getElem_map,wcR];by_cases c:((h != 0)&&(l[k].Target==h))=true
  ·rw[if_pos c,if_pos (by rw[Bool.and_comm];exact c),C9 (by omega) (by omega),j5]
   exact⟨rfl,by omega⟩
  ·rw[if_neg c,if_neg (by rw[Bool.and_comm];exact c),j5]
   exact⟨rfl,by omega⟩
omit hR in
theorem c28 (l:List g5) (hl:l.length≤1000) (h:Int):a3b l h=some (nmg l h:Int):=by
 unfold a3b P6 a2N;simp only[jn,d3v];have key:∃e,lp (S:=Int × (List Int)) (E:=(List Int)) (λ((s17,s18):Int × (List Int))=>
   if (decide (s17<(l.length:Int))) then
     (ix l s17).bind λv26=>
     if ((h != 0)&&(v26.Target==h)) then
      (app 8 s18 [s17]).bind λv28=>
      some (.inl (u9 (s17+1),v28))
     else
     some (.inl (u9 (s17+1),s18))
   else
   some (.inr s18)) (0,[])=some e∧e.length=nmg l h:=by
  refine a1J l.length (λk (acc:List Int)=>acc.length=nmg (l.take k) h) (λ(e:List Int)=>e.length=nmg l h) (by omega) rfl (λk acc hk hP=>?_) (λacc hP=>⟨acc,by simp,by rwa [List.take_length] at hP⟩)
  left;have hle:acc.length≤k:=by
   rw[hP];exact Nat.le_trans (c4Z _ _) (by simp;omega)
  have hst:nmg (l.take (k+1)) h=nmg (l.take k) h+if ((h != 0)&&(l[k].Target==h))=true then 1 else 0:=by
   unfold nmg;rw[List.take_succ_eq_append_getElem hk,List.countP_append,List.countP_cons,List.countP_nil];omega
  simp only[Int.ofNat_lt,hk,decide_true,if_true,o0 hk,d3v];rw[j5];by_cases c:((h != 0)&&(l[k].Target==h))=true
  ·rw[if_pos c,B6 (by omega) (by simp;omega),d3v]
   exact⟨_,rfl,by rw[hst,if_pos c];simp[hP]⟩
  ·rw[if_neg c];exact⟨_,rfl,by rw[hst,if_neg c];simpa using hP⟩
 obtain⟨e,e1,e2⟩:=key;rw[show lp _ _=_ from e1,d3v,d3v,e2]
omit hR in
theorem c9Q {s:a7} {i:Nat} (hi:i<s.S.Cells.length):ix (sO s).Cells (i:Int)=some ⟨(ce s i).State,(ce s i).Gen,⟨(ce s i).Val.Serial,(ce s i).Val.Strong,(ce s i).Val.Weak,(ce s i).Val.Prog,(ce s i).Val.Started,(ce s i).Val.Fields⟩⟩:=c4G hi
theorem c8n(hl:x.Cells.length≤1000):∃b,a84 (hO x)=some b∧(b=true↔Wk x):=by
 have hlen:(hO x).S.Cells.length=x.S.S.Cells.length:=by simp[hO,sO]
 have h24:=hR.len;have l9:=hR.l9;unfold a84;simp only[jn];rw[hlen];refine b60 x.S.S.Cells.length (λi=>Th (ce x.S i)→(ce x.S i).Val.Weak=(nmg x.Cells (1+(i:Int)+32*(ce x.S i).Gen):Int)∧((ce x.S i).State=2→1≤(ce x.S i).Val.Weak∧(ce x.S i).Val.Fields = []∧(ce x.S i).Val.Strong=0)) (by omega) (λi hi=>?_) (by simp) (λhall=>⟨true,rfl,by simp only[true_iff];exact λi hi=>hall i hi⟩) (λhno=>⟨false,rfl,by simp only[Bool.false_eq_true,false_iff];exact λq=>hno λi hi=>q i hi⟩)
 have hc:=hR.cell i hi;simp only[Int.ofNat_lt,hi,decide_true,if_true];rw[show (hO x).S=sO x.S from rfl,c9Q hi,d3v];dsimp only;by_cases ht:Th (ce x.S i)
 ·rw[if_neg (by unfold Th at ht;simp only[Bool.and_eq_true,bne_iff_ne,ne_eq];omega)]
  unfold b0i;rw[a4X,if_pos ⟨by omega,by omega,hc.2.2.1,by omega⟩,d3v,d3v,show (hO x).Cells=x.Cells.map wcR from rfl,c4Y x.Cells hl,d3v]
  by_cases g:(ce x.S i).Val.Weak=(nmg x.Cells (1+(i:Int)+32*(ce x.S i).Gen):Int)∧((ce x.S i).State=2→1≤(ce x.S i).Val.Weak∧(ce x.S i).Val.Fields = []∧(ce x.S i).Val.Strong=0)
  ·rw[if_neg,j5];·exact⟨_,rfl,.inl ⟨λ_=>g,rfl⟩⟩
   ·obtain⟨g1,g2⟩:=g;simp only[Bool.or_eq_true,Bool.and_eq_true,bne_iff_ne,ne_eq,beq_iff_eq,decide_eq_true_eq,not_or,not_and,Decidable.not_not];refine⟨g1,λq=>?_⟩;obtain⟨a,b,c⟩:=g2 q;rw[b];exact⟨⟨by omega,by simp⟩,c⟩
  ·rw[if_pos];·exact⟨_,rfl,.inr ⟨λq=>g (q ht),rfl⟩⟩
   ·simp only[Bool.or_eq_true,Bool.and_eq_true,bne_iff_ne,ne_eq,beq_iff_eq,decide_eq_true_eq];by_cases g1:(ce x.S i).Val.Weak=(nmg x.Cells (1+(i:Int)+32*(ce x.S i).Gen):Int)
    ·right;refine Classical.byContradiction λq=>g ⟨g1,λq2=>?_⟩;have q:¬(((ce x.S i).Val.Weak<1∨((ce x.S i).Val.Fields.length:Int) > 0)∨¬(ce x.S i).Val.Strong=0):=λq3=>q ⟨q2,q3⟩;refine⟨by omega,List.eq_nil_of_length_eq_zero (by omega),by omega⟩
    ·exact .inl g1
 ·rw[if_pos (by unfold Th at ht;simp only[Bool.and_eq_true,bne_iff_ne,ne_eq];omega),j5]
  exact⟨_,rfl,.inl ⟨λq=>absurd q ht,rfl⟩⟩
omit hR in
theorem b4F (l:List Int) (hl:l.length≤1000):lp (S:=Int × (List Int)) (E:=(List Int)) (λ((s17,s18):Int × (List Int))=>
   if (decide (s17<(l.length:Int))) then
     (ix l s17).bind λv25=>
     if (v25 != 0) then
      (app 8 s18 [v25]).bind λv26=>
      some (.inl (u9 (s17+1),v26))
     else
     some (.inl (u9 (s17+1),s18))
   else
   some (.inr s18)) (0,[])=some (nz l):=by
 rw[P3 l (λb x=>if (x != 0)=true then b ++ [x] else b) id (λk b=>b.length≤k) (by omega) (by simp) (λk hk b hI=>?_) (λb _=>by simp)]
 ·rw[foldl_filter];rfl
 ·simp only[Int.ofNat_lt,hk,decide_true,if_true,o0 hk,d3v];rw[j5];by_cases c:(l[k] != 0)=true
  ·rw[if_pos c,if_pos c,B6 (by omega) (by simp;omega),d3v]
   exact⟨rfl,by simp;omega⟩
  ·rw[if_neg c,if_neg c];exact⟨rfl,by omega⟩
omit hR in
theorem b3A (hl:x.Roots.length≤1000) (hq:x.Q.L.length≤1000):(otr x).length≤2000:=by
 unfold otr b2i;rw[List.length_append,List.length_map];have:=c0E x.Roots;have:(x.Q.L.filter (·.Kind==1)).length≤x.Q.L.length:=List.length_filter_le ..
 omega
omit hR in
theorem c7S (hl:x.Roots.length≤1000) (hq:x.Q.L.length≤1000):a80 (hO x)=some (otr x):=by
 unfold a80;simp only[jn];rw[show (hO x).Roots=x.Roots from rfl,show lp _ _=_ from b4F x.Roots hl,d3v,show a78 (hO x).Q=some (b2i x.Q) from d0s hq,d3v];have:=b3A hl hq;unfold otr at this ⊢;rw[List.length_append] at this;rw[B6 (by omega) (by omega)]
 rfl
omit hR in
theorem c5e (hl:x.Roots.length≤1000) (hq:x.Q.L.length≤1000):a6p x=some (otr x):=by
 unfold a6p;simp only[jn];rw[show lp _ _=_ from b4F x.Roots hl,d3v,show a5W x.Q=some (b2i x.Q) from d0M hq,d3v];have:=b3A hl hq;unfold otr at this ⊢;rw[List.length_append] at this;rw[B6 (by omega) (by omega)]
 rfl
omit hR in
theorem b8U:b5X x.S x.T (otr x)↔a1f x []:=by
 constructor
 ·intro h k hk hlt;have:=h k hk hlt;unfold rst inr at this;rw[if_pos hk] at this;rw[P8];unfold nms;omega
 ·intro h k hk hlt;have:=h k hk hlt;rw[P8] at this;unfold nms at this;unfold rst inr;rw[if_pos hk];omega
end
theorem b2W(x:Hp)(hB:HB x)(hc:x.S.S.Cells.length≤1000)(hr:x.Roots.length≤1000)(hl:x.Cells.length≤1000)(ht:x.T.length≤1000)(hq:x.Q.L.length≤1000):∃b,a2m (hO x)=some b∧(b=true↔Q8 x):=by
 unfold a2m;obtain⟨b1,e1,h1⟩:=c6j (sO x.S) (by rw[A7];exact hc)
 obtain⟨b2,e2,h2⟩:=c3o x.T ht;rw[show (hO x).S=sO x.S from rfl,e1,d3v,show (hO x).T=x.T.map L5 from rfl,e2];have hno:∀ {P:Prop},¬P→(false=true↔P):=λq=>by simp[q]
 cases b1
 ·refine⟨false,by simp[n0],hno λq=>?_⟩
  have:=h1.2 (x4.2 q.sh.sr);cases this
 ·have hR:=x4.1 (h1.1 rfl);cases b2
  ·refine⟨false,by simp[n0],hno λq=>?_⟩
   have:=h2.2 q.sh.hr;cases this
  ·have hT:=h2.1 rfl;simp only[Bool.not_true,beq_self_eq_true,E8,d3v,Bool.or_self,Bool.false_or];by_cases hlen:x.Roots.length=6∧x.Cells.length=6
   ·rw[if_neg (by simp[hO];omega)]
    obtain⟨b3,e3,h3⟩:=c8f hR hq hB.qb;rw[e3,d3v];cases b3
    ·refine⟨false,by simp[n0],hno λq=>?_⟩
     have:=h3.2 ⟨q.sh.tk,q.sh.td,q.sh.cap,q.sh.q30⟩;cases this
    ·obtain⟨t1,t2,t3,t4⟩:=h3.1 rfl;obtain⟨b4,e4,h4⟩:=c7B hR hT hB hr;simp only[beq_self_eq_true,E8,Bool.true_and];rw[e4,d3v];cases b4
     ·refine⟨false,by simp[n0],hno λq=>?_⟩
      have:=h4.2 ⟨q.sh.rt,q.sh.fl,q.sh.pr⟩;cases this
     ·obtain⟨n1,n2,n3⟩:=h4.1 rfl;obtain⟨b5,e5,h5⟩:=c7b hR hl hq hB.cb;simp only[beq_self_eq_true,E8,Bool.true_and];rw[e5,d3v];cases b5
      ·refine⟨false,by simp[n0],hno λq=>?_⟩
       have:=h5.2 q.sh.cl;cases this
      ·have c1:=h5.1 rfl;obtain⟨b6,e6,h6⟩:=c8n hR hl;simp only[beq_self_eq_true,E8,Bool.true_and];rw[e6,d3v];cases b6
       ·refine⟨false,by simp[n0],hno λq=>?_⟩
        have:=h6.2 q.wk;cases this
       ·have w1:=h6.1 rfl;simp only[beq_self_eq_true,E8,Bool.true_and];rw[c7S hr hq,d3v,c2U (x4.2 hR) hT hB.sb (by have:=b3A hr hq;omega),d3v]
        refine⟨_,rfl,?_⟩;rw[decide_eq_true_iff,b8U];exact⟨λq=>⟨⟨hR,hT,hlen.1,hlen.2,t3,t4,t1,t2,n1,n2,n3,c1⟩,w1,q⟩,λq=>q.fair⟩
   ·rw[if_pos (by simp[hO];omega)]
    exact⟨false,rfl,hno λq=>hlen ⟨q.sh.r6,q.sh.c6⟩⟩
end Go.Sh
namespace Go.Sh
theorem d1r{K V:Type}[BEq K](hr:∀a:K,(a==a)=true)(he:∀a b:K,(a==b)=true→a=b)(m:List (K × V))(k:K)(v:V)(k':K):A9 (p6 m k v) k'=if k'==k then some v else A9 m k':=by
 induction m with
 | nil=>simp[p6,A9]
 | cons p m ih=>
  unfold p6;by_cases h:(k==p.1)=true
  ·have:=he _ _ h;subst this;rw[if_pos h];unfold A9;by_cases h':(k'==p.1)=true
   ·simp[h']
   ·simp[h']
  ·rw[if_neg h];unfold A9;by_cases h':(k'==p.1)=true
   ·have:=he _ _ h';subst this;have:(p.1==k)≠true:=λq=>by
     have:=he _ _ q;subst this;exact h (hr _)
    simp[h',this]
   ·simp only[h',ih];simp
theorem c3x(a:c8):(a==a)=true:=by
 show ((a.Kind==a.Kind)&&((a.At==a.At)&&((a.Prog==a.Prog)&&true)))=true;simp
section
variable{x:Hp}(hx:Q8 x)(hB:HB x)
include hx hB
theorem b4D:a0f x=some true:=by
 have hR:=hx.sh.sr;have r6:=hx.sh.r6;have h24:=a1K (x4.2 hR);unfold a0f F2;rw[P7 (by omega) (by omega),d3v]
 simp only[jn];rw[a8N (x4.2 hR),d3v];have key:∃e,lp (S:=Int × (List Int)) (E:=(List Int)) (λ((s16,s17):Int × (List Int))=>
   if (decide (s16<((lv x.S).length:Int))) then
    (ix (lv x.S) s16).bind λv20=>
    (x5 x.S v20).bind λv21=>
    (app 8 s17 v21.1.Fields).bind λv22=>
    some (.inl (u9 (s16+1),v22))
   else
   some (.inr s17)) (0,x.Roots)=some e∧(e.length≤200∧∀v∈e,v=0∨v∈lv x.S):=by
  refine a1J (lv x.S).length (λk (acc:List Int)=>acc.length≤6+4*k∧∀v∈acc,v=0∨v∈lv x.S) (λ(e:List Int)=>e.length≤200∧∀v∈e,v=0∨v∈lv x.S) (by omega) ⟨by omega,hx.sh.rt⟩ (λk acc hk hP=>?_) (λacc hP=>⟨acc,by simp,by omega,hP.2⟩)
  have hm:=List.getElem_mem hk;have hf:=(K1 hR hm).fl;left;refine⟨acc++(ob x.S (lv x.S)[k]).Fields,?_,by rw[List.length_append];omega,λv hv=>?_⟩
  ·simp only[Int.ofNat_lt,hk,decide_true,if_true,o0 hk,d3v];rw[a7X (x4.2 hR) hm,d3v];dsimp only;rw[B6 (by omega) (by omega),d3v,j5]
  ·rcases List.mem_append.1 hv with q | q
   ·exact hP.2 v q
   ·exact hx.sh.fl _ hm v q
 obtain⟨e,e1,e2⟩:=key;rw[show lp _ _=_ from e1,d3v];have:F3 e x=some true:=by
  unfold F3 a2f;simp only[jn];refine F4 e.length (λ_=>True) (by omega) trivial (λk hk _=>.inl ⟨?_,trivial⟩) (λ_=>⟨.inr (),by simp,rfl⟩)
  have hm:=e2.2 _ (List.getElem_mem hk);have hb:e[k]≤9223372036854775807:=by
   rcases hm with q | q
   ·omega
   ·have:=J4 hR q;omega
  simp only[Int.ofNat_lt,hk,decide_true,if_true,o0 hk,d3v];rw[a06 hR hb,d3v,d3v,decide_eq_true hm,if_neg (by simp),j5]
 rw[this];rfl
theorem b4H:a1G x=some true:=by
 have hR:=hx.sh.sr;have h8:=b0g hx.sh.hr.l8;unfold a1G;rw[c5k hx.sh.hr,d3v];have:C0 (prs x.T) x=some true:=by
  unfold C0 a2g;simp only[jn];refine F4 (prs x.T).length (λ_=>True) (by omega) trivial (λk hk _=>.inl ⟨?_,trivial⟩) (λ_=>⟨.inr (),by simp,rfl⟩)
  have hp:=a4W.1 (List.getElem_mem hk);have hb:=hB.tb.has hp;have hl:=hx.sh.pr _ _ hp;simp only[Int.ofNat_lt,hk,decide_true,if_true,o0 hk,d3v];rw[b04 hR hb.1,d3v,decide_eq_true hl.1];simp only[beq_self_eq_true,E8];rw[b04 hR hb.2,d3v,d3v,decide_eq_true hl.2,if_neg (by simp),j5]
 rw[this];rfl
theorem b5T:a2G x=some true:=by
 have hR:=hx.sh.sr;have q30:=hx.sh.q30;have c6:=hx.sh.c6;unfold a2G;simp only[jn];refine Y9 x.Q.L.length (λk (m:List (c8 × Bool))=>∀t:c8,t.Prog=0→((A9 m t).getD false=true→∃j,j<k∧TkS (x.Q.L.getD j tz) t)) (by omega) (λt _ q=>by simp[A9] at q) (λk m hk hP=>.inl ?_) (λm hP=>⟨.inr m,by simp,rfl⟩)
 have hm:=List.getElem_mem hk;obtain⟨t1,t2,t3⟩:=hx.sh.tk _ hm;have hb:=hB.qb _ hm;have hno:(A9 m (⟨x.Q.L[k].Kind,x.Q.L[k].At,0⟩:c8)).getD false=false:=by
  rw[Bool.eq_false_iff];intro q;obtain⟨j,hj,hs⟩:=hP ⟨x.Q.L[k].Kind,x.Q.L[k].At,0⟩ rfl q;have hj1:j<x.Q.L.length:=by omega
  rw[E5 hj1] at hs;exact List.pairwise_iff_getElem.1 hx.sh.td j k hj1 hk hj hs
 have hfor:a1I x x.Q.L[k]=some true:=by
  unfold a1I;rcases t3 with ⟨a,b,c⟩ | ⟨a,b,c⟩
  ·rw[if_pos (by simpa using a),a7X (x4.2 hR) b,d3v,c]
   rfl
  ·rw[if_neg (by simp[a]),if_pos (by simpa using a)]
   obtain⟨n,hn⟩:∃n:Nat,x.Q.L[k].At=n:=⟨x.Q.L[k].At.toNat,by omega⟩
   have hnl:n<x.Cells.length:=by omega
   have e1:((decide (x.Q.L[k].At≥0))&&(decide (x.Q.L[k].At<(x.Cells.length:Int))))=true:=by simp;omega
   rw[e1];simp only[beq_self_eq_true,E8,Bool.true_and];rw[hn,o0 hnl,d3v];have:x.Cells[n].Intact=false:=by
    rw[Bool.eq_false_iff];intro q;have:=((hx.sh.cl n hnl).2.2.2.2 q).2;rw[Bool.eq_false_iff] at this;exact this (c58.2 ⟨_,hm,a,hn⟩)
   rw[this];rfl
 refine⟨p6 m (⟨x.Q.L[k].Kind,x.Q.L[k].At,0⟩:c8) true,?_,λt ht q=>?_⟩
 ·simp only[Int.ofNat_lt,hk,decide_true,if_true,o0 hk,d3v];rw[hno,decide_eq_true (show x.Q.L[k].Prog≥0 from t1),decide_eq_true (show x.Q.L[k].Prog<6 by omega)]
  simp only[Bool.not_false,Bool.and_self,beq_self_eq_true,E8];rw[hfor,d3v,if_neg (by simp),j5]
 ·rw[d1r c3x c8.beq_eq] at q;by_cases e:(t==(⟨x.Q.L[k].Kind,x.Q.L[k].At,0⟩:c8))=true
  ·have:=c8.beq_eq _ _ e;refine⟨k,by omega,?_⟩
   rw[E5 hk,this];exact⟨rfl,rfl⟩
  ·rw[if_neg e] at q;obtain⟨j,hj,hs⟩:=hP t ht q;exact⟨j,by omega,hs⟩
theorem b5A:a2E x=some true:=by
 have hR:=hx.sh.sr;have c6:=hx.sh.c6;unfold a2E;have:D3 x.Cells x=some true:=by
  unfold D3 a3i;simp only[jn];refine F4 x.Cells.length (λ_=>True) (by omega) trivial (λk hk _=>.inl ⟨?_,trivial⟩) (λ_=>⟨.inr (),by simp,rfl⟩)
  obtain⟨a1,a2,a3,a4,a5⟩:=hx.sh.cl k hk;have hb:=hB.cb _ (List.getElem_mem hk);simp only[Int.ofNat_lt,hk,decide_true,if_true,o0 hk,d3v];rw[if_neg (by simp;omega)]
  by_cases hin:x.Cells[k].Intact=true
  ·rw[if_pos hin,b04 hR hb,d3v,d3v,decide_eq_true (a5 hin).1,if_neg (by simp),j5]
  ·rw[if_neg hin];by_cases h0:x.Cells[k].Target=0
   ·have hno:∀i,¬U6 x.S x.Cells[k].Target i:=λi q=>by have:=q.rng hR;omega
    rw[a3V hR hb hno,d3v,d3v,h0,if_neg (by simp),j5]
   ·obtain⟨p,hp⟩:=a4 h0;rw[a3A hR hp,d3v,d3v,if_neg (by simp),j5]
 rw[this];rfl
theorem b5D:a2F x=some true:=by
 have hR:=hx.sh.sr;have c6:=hx.sh.c6;have h24:=hR.len;have l9:=hR.l9;unfold a2F;simp only[jn];refine F4 x.S.S.Cells.length (λ_=>True) (by omega) trivial (λk hk _=>.inl ⟨?_,trivial⟩) (λ_=>⟨.inr (),by simp,rfl⟩)
 have hc:=hR.cell k hk;simp only[Int.ofNat_lt,hk,decide_true,if_true];rw[b6i hk,d3v];by_cases ht:Th (ce x.S k)
 ·rw[if_neg (by unfold Th at ht;simp only[Bool.and_eq_true,bne_iff_ne,ne_eq];omega),a30 (by omega) (by omega) hc.2.2.1 (by omega),d3v,c28 x.Cells (by omega),d3v]
  obtain⟨g1,g2⟩:=hx.wk k hk ht;rw[if_neg (by simpa using g1),if_neg,j5]
  simp only[Bool.or_eq_true,Bool.and_eq_true,bne_iff_ne,ne_eq,beq_iff_eq,decide_eq_true_eq,not_or,not_and,Decidable.not_not];intro q;obtain⟨a,b,c⟩:=g2 q;rw[b];exact⟨⟨by omega,by simp⟩,c⟩
 ·rw[if_pos (by unfold Th at ht;simp only[Bool.and_eq_true,bne_iff_ne,ne_eq];omega),j5]
open Classical in
theorem b3f:a6q x=some true:=by
 have hR:=hx.sh.sr;have r6:=hx.sh.r6;have q30:=hx.sh.q30;unfold a6q;have hsh:a1H x=some true:=by
  unfold a1H;have hsr:a27 x.S=some true:=by
   rw[b8j x.S (by have:=hR.len;omega)]
   congr 1;rw[decide_eq_true_iff];exact x4.2 hR
  obtain⟨b,b1,b2⟩:=c22 x.T (by have:=hx.sh.hr.l8;omega)
  rw[show b1J=some ⟨[],30⟩ from rfl,d3v,hsr,d3v];simp only[beq_self_eq_true,E8,Bool.true_and];rw[b1,d3v,b2.2 hx.sh.hr,hx.sh.r6,hx.sh.c6,hx.sh.cap];have:decide ((x.Q.L.length:Int)≤30)=true:=by simp;omega
  rw[this];rfl
 rw[hsh,d3v,if_neg (by simp)]
 simp only[jn];have f1:a0s (some 122) x=some true:=by
  unfold a0s;rw[if_pos rfl];exact b4D hx hB
 have f2:a0s (some 123) x=some true:=by
  unfold a0s;rw[if_neg (by decide),if_pos rfl]
  exact b4H hx hB
 have f3:a0s (some 124) x=some true:=by
  unfold a0s;rw[if_neg (by decide),if_neg (by decide),if_pos rfl]
  exact b5T hx hB
 have f4:a0s (some 125) x=some true:=by
  unfold a0s;rw[if_neg (by decide),if_neg (by decide),if_neg (by decide),if_pos rfl]
  exact b5A hx hB
 have f5:a0s (some 126) x=some true:=by
  unfold a0s;rw[if_neg (by decide),if_neg (by decide),if_neg (by decide),if_neg (by decide),if_pos rfl]
  exact b5D hx hB
 refine F4 5 (λ_=>True) (by omega) trivial (λk hk _=>.inl ⟨?_,trivial⟩) (λ_=>⟨.inr (),by kernel_rfl,?_⟩)
 ·match k,hk with
  | 0,_=>
   refine (if_pos (by rfl)).trans ?_
   refine bnd (a:=some 122) (by kernel_rfl) ?_
   refine bnd f1 ?_;kernel_rfl
  | 1,_=>
   refine (if_pos (by rfl)).trans ?_
   refine bnd (a:=some 123) (by kernel_rfl) ?_
   refine bnd f2 ?_;kernel_rfl
  | 2,_=>
   refine (if_pos (by rfl)).trans ?_
   refine bnd (a:=some 124) (by kernel_rfl) ?_
   refine bnd f3 ?_;kernel_rfl
  | 3,_=>
   refine (if_pos (by rfl)).trans ?_
   refine bnd (a:=some 125) (by kernel_rfl) ?_
   refine bnd f4 ?_;kernel_rfl
  | 4,_=>
   refine (if_pos (by rfl)).trans ?_
   refine bnd (a:=some 126) (by kernel_rfl) ?_
   refine bnd f5 ?_;kernel_rfl
 ·dsimp only;rw[c5e (by omega) (by omega),d3v,c7k (x4.2 hR) hx.sh.hr hB.sb (by have:=b3A (x:=x) (by omega) (by omega);omega),d3v,decide_eq_true (b8U.2 hx.fair)]
end
end Go.Sh
namespace Go.Sh
theorem d0B{l:List s6}(h:l.length≤100000):b1m l l=some true:=by
 unfold b1m;rw[if_neg (by simp)]
 simp only[jn];refine F4 l.length (λ_=>True) (by omega) trivial (λk hk _=>.inl ⟨?_,trivial⟩) (λ_=>⟨.inr (),by simp,rfl⟩)
 rw[if_pos (by simpa using hk),o0 hk,d3v,d3v,if_neg (by simp),j5 (by omega)]
def SL(x:Hp):Prop:=∀k∈lv x.S,(ob x.S k).Strong≤9223372036854775807
theorem SB.sl{x:Hp}(hR:SR x.S)(h:SB x.S):SL x:=λk hk=>c3w hR h k hk
theorem c8C{x:Hp}(hx:Q8 x)(hS:SL x):HB x:=by
 have hR:=hx.sh.sr;have bd:∀v,v=0∨v∈lv x.S→v≤9223372036854775807:=λv q=>by
  rcases q with q | q
  ·omega
  ·have:=J4 hR q;omega
 refine⟨d1Q.2 λi hi=>?_,c8z.2 λi hi v hv=>?_,λv hv=>bd v (hx.sh.rt v hv),λc hc=>?_,λp hp=>?_,λt ht=>?_⟩
 ·by_cases t:Th (ce x.S i)
  ·rcases t with t | t
   ·have q:At x.S (1+(i:Int)+32*(ce x.S i).Gen) i:=⟨hi,t,rfl⟩;have:=hS _ ((a3s hR).2 ⟨i,q⟩);rwa [O3 hR q] at this
   ·have:=((hx.wk i hi (.inr t)).2 t).2.2;omega
  ·have:=(hR.no i hi t).2.1;simp only[oo] at this;omega
 ·by_cases t:Th (ce x.S i)
  ·rcases t with t | t
   ·have q:At x.S (1+(i:Int)+32*(ce x.S i).Gen) i:=⟨hi,t,rfl⟩;have hm:=(a3s hR).2 ⟨i,q⟩;exact bd v (hx.sh.fl _ hm v (by rw[O3 hR q];exact hv))
   ·rw[((hx.wk i hi (.inr t)).2 t).2.1] at hv;cases hv
  ·have:=(hR.no i hi t).2.2.2.2.2;simp only[oo] at this;rw[List.eq_nil_of_length_eq_zero this] at hv;cases hv
 ·obtain⟨i,hi,rfl⟩:=List.getElem_of_mem hc;by_cases e:x.Cells[i].Target=0
  ·omega
  ·obtain⟨p,hp⟩:=(hx.sh.cl i hi).2.2.2.1 e;have:=hp.rng hR;omega
 ·obtain⟨i,hi,rfl⟩:=List.getElem_of_mem hp;have e:pt x.T i=x.T[i]:=by
   unfold pt;rw[List.getD_eq_getElem?_getD,List.getElem?_eq_getElem hi];rfl
  by_cases s1:(pt x.T i).State=1
  ·obtain⟨a,b⟩:=hx.sh.pr (pt x.T i).Key (pt x.T i).Val ⟨i,⟨hi,s1,rfl⟩,rfl⟩;rw[e] at a b;exact⟨bd _ (.inr a),bd _ (.inr b)⟩
  ·obtain⟨a,b⟩:=(hx.sh.hr.st i hi).2 s1;rw[e] at a b;omega
 ·obtain⟨_,_,q | q⟩:=hx.sh.tk t ht;·exact bd _ (.inr q.2.1)
  ·omega
theorem c8P{s:a7}(hR:SR s):Sm s:=by
 refine⟨by have:=hR.len;omega,λi hi=>?_⟩
 by_cases t:Th (ce s i)
 ·have:=(hR.ok i hi t).fl;rw[E4 hi] at this;omega
 ·have:=(hR.no i hi t).2.2.2.2.2;simp only[oo] at this;rw[E4 hi] at this;omega
theorem c5J{x:Hp}(h:HpS x):a8a (hO x) (hO x)=some true:=by
 have sm:=c8P h.sr;have h1:=h.r6;have h2:=h.c6;have h3:=h.hr.l8;have h4:=h.q30;unfold a8a;rw[show (hO x).S=sO x.S from rfl,c2y _ (by rw[A7];have:=sm.1;omega) (λi hi=>by
  have:=sm.2 i (by rw[A7] at hi;exact hi)
  simp only[sO,List.getElem_map,cO,oo];omega),d3v]
 simp only[beq_self_eq_true,E8,Bool.true_and];rw[show (hO x).Roots=x.Roots from rfl,b4s (by omega),d3v]
 simp only[beq_self_eq_true,E8,Bool.true_and];rw[d0B (by simp[hO];omega),d3v]
 simp only[beq_self_eq_true,E8,Bool.true_and];rw[c3p (by simp[hO];omega),d3v]
 simp only[beq_self_eq_true,E8,Bool.true_and];rw[show (hO x).Q=tqR x.Q from rfl,d0p (by omega),d3v]
theorem c7q(c:Int):Z4 c≤12:=by unfold Z4;split <;> (try split) <;> omega
theorem c7f{c:Int}(h:c≤9223372036854775807):a95 c≤9223372036854775807:=by unfold a95;split <;> (try split) <;> omega
theorem SL.of{x y:Hp}(h:SL x)(hl:lv y.S=lv x.S)(hs:∀k∈lv x.S,(ob y.S k).Strong=(ob x.S k).Strong):SL y:=λk hk=>by
 rw[hl] at hk;rw[hs k hk];exact h k hk
theorem SL.st{x:Hp}(h:SL x)(hR:SR x.S)(v:Int){f:Int→Int}(hf:∀c,0≤c→0≤f c)(hb:∀c,c≤9223372036854775807→f c≤9223372036854775807):SL (stO x v f):=λk hk=>by
 rw[(G4 hR v hf).lv] at hk;rw[b8i hR v hf hk];split;·exact hb _ (h k hk)
 ·exact h k hk
theorem SL.B8{x:Hp}(h:SL x)(hR:SR x.S)(v:Int):SL (B8 x v):=h.st hR v (λc=>E1) λc _=>by have:=c7q c;omega
theorem SL.rls{x:Hp}(h:SL x)(hR:SR x.S)(v:Int):SL (R4 x v):=h.st hR v (λc=>Q2) λc hc=>c7f hc
theorem c0X{x:Hp}(hR:SR x.S)(v:Int):SR (R4 x v).S:=(G4 hR v λc=>Q2).sr
theorem a4k{x:Hp}(hR:SR x.S)(h:SL x)(r:Nat)(v:Int):SL (G5 x r v):=by
 unfold G5;exact SL.rls (x:=wR (B8 x v) (x.Roots.set r v)) (h.B8 hR v) (a3n hR v) _
theorem c2W{x:Hp}(hR:SR x.S)(hS:SL x){h:Int}(hh:h∈lv x.S)(k:Nat)(v:Int):SL (a1z x h k v):=by
 have kin:=G4 hR v (f:=Z4) λc=>E1;have hR1:SR (B8 x v).S:=kin.sr;have hl1:h∈lv (B8 x v).S:=by rw[show lv (B8 x v).S=lv x.S from kin.lv];exact hh
 have hof:(ob (B8 x v).S h).Fields=(ob x.S h).Fields:=by
  obtain⟨m,e⟩:=kin.ob h (by have:=J4 hR hh;omega)
  show (ob (stO x v Z4).S h).Fields=_;rw[e]
 have ok:=K1 hR1 hl1;have ho:OkO (B8 x v).S (flg (ob (B8 x v).S h) ((ob x.S h).Fields.set k v)):=⟨ok.s1,ok.s2,ok.st,ok.wk,ok.p1,ok.p2,by have:=ok.fl;rw[hof] at this;simpa using this⟩
 have sr2:=a1c (o:=flg (ob (B8 x v).S h) ((ob x.S h).Fields.set k v)) hR1 hl1 rfl ho;unfold a1z;refine SL.rls (x:=wS (B8 x v) (seO (B8 x v).S h (flg (ob (B8 x v).S h) ((ob x.S h).Fields.set k v)))) ?_ sr2 _;refine (hS.B8 hR v).of (a4m hR1 hl1 rfl ho) λj hj=>?_;dsimp only;rw[a3o (o:=flg (ob (B8 x v).S h) ((ob x.S h).Fields.set k v)) hR1 hl1 rfl ho (by have:=J4 hR1 hj;omega)]
 split;·rename_i e;rw[e]
 ·rfl
theorem c5h{x:Hp}(hR:SR x.S)(hS:SL x)(v:Int)(t:Tb)(old:Int):SL (a7b x v t old):=by
 unfold a7b;exact SL.rls (x:=wT (B8 x v) t) (hS.B8 hR v) (a3n hR v) _
theorem c9W{x:Hp}(hR:SR x.S)(hS:SL x)(h:Int){d:Int}(hd:U6 x.S h (D0 h)→0≤(ce x.S (D0 h)).Val.Weak+d):SL (mkd x h d):=by
 unfold mkd;split
 ·rename_i q;exact hS.of (a6y hR q.1 q.2.1 (hd q)).lv λk hk=>a6z hR q.1 q.2.1 (hd q) hk
 ·exact hS
theorem c2u{x:Hp}(hR:SR x.S)(hS:SL x)(h:Int)(hd:U6 x.S h (D0 h)→1≤(ce x.S (D0 h)).Val.Weak):SL (a8t x h):=by
 unfold a8t;split
 ·rename_i q;have hd:=hd q;have kn:=a6y (d:=-1) hR q.1 q.2.1 (by omega)
  have s1:SL (wS x (mkA x.S (D0 h) (-1))):=hS.of kn.lv λk hk=>a6z hR q.1 q.2.1 (by omega) hk
  split
  ·rename_i c;have hi1:D0 h<(mkA x.S (D0 h) (-1)).S.Cells.length:=by rw[kn.len];exact q.1
   have hce:ce (mkA x.S (D0 h) (-1)) (D0 h)=⟨(ce x.S (D0 h)).State,(ce x.S (D0 h)).Gen,wkg (ce x.S (D0 h)).Val ((ce x.S (D0 h)).Val.Weak + -1)⟩:=by
    rw[a3l hR q.1 q.2.1,if_pos rfl]
   have h2:(ce (mkA x.S (D0 h) (-1)) (D0 h)).State=2:=by rw[hce];exact c.1
   exact s1.of (b7c kn.sr hi1 h2) λk hk=>by
    dsimp only;rw[b7d kn.sr hi1 h2 hk]
  ·exact s1
 ·exact hS
theorem c51{x:Hp}(hx:Q8 x)(hS:SL x){n:Nat}(hn:n<6)(h call:Int):SL (a3a x n h call):=by
 have hR:=hx.sh.sr;have hnl:n<x.Cells.length:=by have:=hx.sh.c6;omega
 have ok:∀k i,U6 x.S k i→0≤(ce x.S i).Val.Weak:=λk i q=>(hR.ok i q.1 q.2.1).wk;have tw:∀i,U6 x.S (tgt x n) i→1≤(ce x.S i).Val.Weak:=λi q=>by
  have htg:tgt x n=x.Cells[n].Target:=by
   unfold tgt;rw[List.getD_eq_getElem?_getD,List.getElem?_eq_getElem hnl];rfl
  have r:=q.rng hR;have p:=b1c hnl (by rw[←htg];omega)
  rw[←htg,q.2.2] at p;have:=(hx.wk i q.1 q.2.1).1;omega
 unfold a3a;have s1:SL (mkd (wC x (x.Cells.set n (wcl h call))) h 1):=c9W (x:=wC x (x.Cells.set n (wcl h call))) hR hS h λq=>by
  have:=ok _ _ q;dsimp only;omega
 by_cases q:U6 x.S h (D0 h)
 ·have e:mkd (wC x (x.Cells.set n (wcl h call))) h 1=wS (wC x (x.Cells.set n (wcl h call))) (mkA x.S (D0 h) 1):=by
   unfold mkd;rw[if_pos q]
  have hd:=ok _ _ q;have kn:=a6y (d:=1) hR q.1 q.2.1 (by omega)
  rw[e] at s1 ⊢;refine c2u kn.sr s1 _ λq2=>?_;dsimp only at q2 ⊢;have q3:=(kn.ad _ _).1 q2;have:=tw _ q3;rw[a3l hR q.1 q.2.1];split
  ·rename_i e2;rw[e2] at this;show 1≤(ce x.S (D0 h)).Val.Weak+1;omega
  ·exact this
 ·have e:mkd (wC x (x.Cells.set n (wcl h call))) h 1=wC x (x.Cells.set n (wcl h call)):=by
   unfold mkd;rw[if_neg q]
  rw[e] at s1 ⊢;exact c2u (x:=wC x (x.Cells.set n (wcl h call))) hR s1 _ λq2=>tw _ q2
section
variable{x:Hp}(hx:Q8 x)(hS:SL x)
include hx hS
end
end Go.Sh
namespace Go.Sh
end Go.Sh
namespace Go.Sh
end Go.Sh
namespace Go.Sh
def b2N(x:Hp):Prop:=Sm x.S∧x.Roots.length≤20∧x.Cells.length≤20∧x.T.length≤20∧x.Q.L.length≤60
instance(x:Hp):Decidable (b2N x):=by unfold b2N;infer_instance
theorem HpS.d1g{x:Hp}(h:HpS x):b2N x:=by
 have h1:=h.r6;have h2:=h.c6;have h3:=h.hr.l8;have h4:=h.q30;exact⟨c8P h.sr,by omega,by omega,by omega,by omega⟩
theorem b4W{x:Hp}(hx:Q8 x)(hS:SL x):a2m (hO x)=some true:=by
 obtain⟨f,f2,f3,f4,f5⟩:=hx.sh.d1g;obtain⟨b,h1,h2⟩:=b2W x (c8C hx hS) (by have:=f.1;omega) (by omega) (by omega) (by omega) (by omega)
 rw[h1,h2.2 hx]
end Go.Sh
namespace Go.Sh
def c7n:Hp:=⟨⟨⟨[],0⟩,0⟩,[],[],[],⟨[],0⟩⟩
theorem b5a(x:Hp)(h:Int)(f:Int→Int):(stO x h f).Roots=x.Roots∧(stO x h f).Cells=x.Cells∧(stO x h f).T=x.T∧(stO x h f).Q=x.Q:=by
 unfold stO;split <;> exact⟨rfl,rfl,rfl,rfl⟩
theorem a4j(x:Hp)(r:Nat)(h:Int):(G5 x r h).Roots=x.Roots.set r h∧(G5 x r h).Cells=x.Cells∧(G5 x r h).T=x.T∧(G5 x r h).Q=x.Q:=by
 obtain⟨a,b,c,d⟩:=b5a (wR (B8 x h) (x.Roots.set r h)) (x.Roots.getD r 0) a95;obtain⟨a',b',c',d'⟩:=b5a x h Z4;exact⟨a,b.trans b',c.trans c',d.trans d'⟩
section
variable{x:Hp}(hB:HB x)
include hB
end
end Go.Sh
namespace Go.Sh
abbrev ded(o:k8):k8:=⟨o.Serial,0,o.Weak,o.Prog,o.Started,[]⟩
def gnC(s:a7)(i:Nat):b7:=
 if (ce s i).Val.Weak=0 then (if (ce s i).Gen=s.S.Last then ⟨3,(ce s i).Gen,z0⟩ else ⟨0,(ce s i).Gen+1,z0⟩) else ⟨2,(ce s i).Gen,ded (ce s i).Val⟩
def gnA(s:a7)(d:Int):a7:=G8 s (D0 d) (gnC s (D0 d))
def gnL(s:a7)(ds:List Int):a7:=ds.foldl gnA s
theorem c9D(s:a7)(i:Nat):(gnC s i).State≠1:=by
 unfold gnC;split;·split <;> simp
 ·simp
theorem c0K{s:a7}(hR:SR s){a b:Int}(ha:a∈lv s)(hb:b∈lv s)(h:a≠b):D0 a≠D0 b:=λe=>by
 have h1:=y4 hR ha;have h2:=y4 hR hb;rw[e] at h1;exact h (h1.2.2.trans h2.2.2.symm)
section
variable{s:a7}(hR:SR s){d:Int}(hd:d∈lv s)
include hR hd
theorem c0t:SR (gnA s d):=by
 have q:=y4 hR hd;have hc:=hR.cell _ q.1;have ho:=hR.ok _ q.1 (.inl q.2.1);have no:b0s (oo z0):=⟨rfl,rfl,rfl,rfl,rfl,rfl⟩;unfold gnA gnC;split
 ·split;·exact hR.G8 q.1 ⟨by simp,by simp,hc.2.2.1,hc.2.2.2⟩ (λ_=>no) (λq=>absurd q (by unfold Th;simp))
  ·refine hR.G8 q.1 ⟨by simp,by simp,?_,?_⟩ (λ_=>no) (λq=>absurd q (by unfold Th;simp))
   ·show 0≤(ce s (D0 d)).Gen+1;omega
   ·show (ce s (D0 d)).Gen+1≤s.S.Last;omega
 ·exact hR.G8 q.1 ⟨by simp,by simp,hc.2.2.1,hc.2.2.2⟩ (λq=>absurd (.inr rfl) q) (λ_=>⟨⟨ho.s1,ho.s2,Int.le_refl _,ho.wk,ho.p1,ho.p2,Nat.zero_le _⟩,.inl q.2.1,rfl⟩)
theorem c4x(j:Nat):ce (gnA s d) j=if j=D0 d then gnC s (D0 d) else ce s j:=K7 (y4 hR hd).1 _ j
theorem c9B:lv (gnA s d)=(lv s).filter λh=>decide (h≠d):=by
 have hS:=c0t hR hd;unfold gnA at hS ⊢;have hc:=c9D s (D0 d);rw[c1S hR (y4 hR hd).1 hc hS];refine List.filter_congr λh hh=>decide_eq_decide.2 ⟨λq e=>q (by rw[e]),λq=>c0K hR hh hd q⟩
theorem c9C{k:Int}(hk:k∈lv s)(hne:k≠d):ob (gnA s d) k=ob s k:=by
 have hS:=c0t hR hd;unfold gnA at hS ⊢;exact c12 hR (y4 hR hd).1 hS hk (c0K hR hk hd hne)
end
structure Gn (s s':a7) (ds:List Int):Prop where
 sr:SR s'
 len:s'.S.Cells.length=s.S.Cells.length
 last:s'.S.Last=s.S.Last
 ser:s'.Serial=s.Serial
 lv:lv s'=(lv s).filter λh=>decide (h∉ds)
 ob:∀k∈Sh.lv s,k∉ds→ob s' k=ob s k
 ce:∀j,ce s' j=if j∈ds.map D0 then gnC s j else ce s j
theorem a3h:∀(ds:List Int) {s:a7} (hR:SR s),ds.Nodup→(∀d∈ds,d∈lv s)→Gn s (gnL s ds) ds
 | [],s,hR,_,_=>⟨hR,rfl,rfl,rfl,(List.filter_eq_self.2 (λa _=>by simp)).symm,λ_ _ _=>rfl,λj=>by simp[gnL]⟩
 | d::ds,s,hR,hn,hm=>by
  rw[List.nodup_cons] at hn;have hd:=hm d (List.mem_cons_self ..);have hlv:=c9B hR hd;have hm':∀e∈ds,e∈lv (gnA s d):=λe he=>by
   rw[hlv,List.mem_filter,decide_eq_true_iff];exact⟨hm e (List.mem_cons_of_mem _ he),λq=>hn.1 (q▸he)⟩
  have ih:=a3h ds (c0t hR hd) hn.2 hm';refine⟨ih.sr,ih.len.trans (W4 ..),ih.last,ih.ser,?_,λk hk hne=>?_,λj=>?_⟩
  ·show lv (gnL (gnA s d) ds)=_;rw[ih.lv,hlv,List.filter_filter];refine List.filter_congr λh hh=>?_;rw[Bool.eq_iff_iff];simp only[Bool.and_eq_true,decide_eq_true_iff,List.mem_cons,not_or];exact⟨λq=>⟨q.2,q.1⟩,λq=>⟨q.2,q.1⟩⟩
  ·show ob (gnL (gnA s d) ds) k=_;rw[List.mem_cons,not_or] at hne;rw[ih.ob k (by rw[hlv,List.mem_filter,decide_eq_true_iff];exact⟨hk,hne.1⟩) hne.2,c9C hR hd hk hne.1]
  ·show ce (gnL (gnA s d) ds) j=_;have hg:∀e∈ds,D0 e≠D0 d:=λe he=>c0K hR (hm e (List.mem_cons_of_mem _ he)) hd λq=>hn.1 (q▸he);rw[ih.ce];by_cases h1:j∈ds.map D0
   ·obtain⟨e,he,rfl⟩:=List.mem_map.1 h1;rw[if_pos h1,if_pos (by rw[List.map_cons];exact List.mem_cons_of_mem _ h1)]
    unfold gnC;rw[c4x hR hd,if_neg (hg e he)];rfl
   ·rw[if_neg h1,c4x hR hd,List.map_cons];by_cases h2:j=D0 d
    ·subst h2;rw[if_pos rfl,if_pos (List.mem_cons_self ..)]
    ·rw[if_neg h2,if_neg];rw[List.mem_cons];exact λq=>q.elim h2 h1
theorem b6D{α:Type}(p:α→Bool)(f:α→Nat):∀l:List α,(l.map f).sum=((l.filter p).map f).sum+((l.filter λx => !p x).map f).sum
 | []=>rfl
 | x::l=>by
  rw[List.map_cons,List.sum_cons,b6D p f l,List.filter_cons,List.filter_cons];cases p x <;> simp <;> omega
theorem b9Q(f:Int→List Int)(y:Int):∀l:List Int,U5 (l.flatMap f) y=(l.map λx=>U5 (f x) y).sum
 | []=>P8 y
 | x::l=>by rw[List.flatMap_cons,K4,b9Q f y l,List.map_cons,List.sum_cons]
theorem Gn.inn{s s':a7}{ds:List Int}(hR:SR s)(hn:ds.Nodup)(hm:∀d∈ds,d∈Sh.lv s)(g:Gn s s' ds)(y:Int):inn s' y+U5 (ds.flatMap (outs s)) y=inn s y:=by
 unfold Sh.inn;rw[g.lv,b6D (λh=>decide (h∉ds)) (λx=>U5 (outs s x) y) (Sh.lv s),b9Q];have h1:((Sh.lv s).filter λh=>decide (h∉ds)).map (λx=>U5 (outs s' x) y)=((Sh.lv s).filter λh=>decide (h∉ds)).map λx=>U5 (outs s x) y:=List.map_congr_left λx hx=>by
  rw[List.mem_filter,decide_eq_true_iff] at hx;unfold Sh.outs;rw[g.ob x hx.1 hx.2]
 have h2:((Sh.lv s).filter λx => !decide (x∉ds)).Perm ds:=by
  rw[List.perm_ext_iff_of_nodup ((b4y (x4.2 hR)).filter _) hn];intro a;rw[List.mem_filter];simp only[decide_not,Bool.not_not,decide_eq_true_iff];exact⟨λq=>q.2,λq=>⟨hm a q,q⟩⟩
 rw[h1,(h2.map λx=>U5 (outs s x) y).sum_nat]
theorem b9h{L:List c8}(hd:L.Pairwise λa b=>¬(a.Kind=b.Kind∧a.At=b.At))(k:Int):((L.filter (·.Kind==k)).map (·.At)).Nodup:=by
 unfold List.Nodup;rw[List.pairwise_map];refine (hd.filter _).imp_of_mem λ{a b} ha hb h e=>?_;rw[List.mem_filter,beq_iff_eq] at ha hb;exact h ⟨ha.2.trans hb.2.symm,e⟩
theorem b9O{L:List c8}{m:List Int}(hd:L.Pairwise λa b=>¬(a.Kind=b.Kind∧a.At=b.At))(h:∀t∈L,(t.Kind=1∧t.At∈m)∨(t.Kind=2∧0≤t.At∧t.At≤5)):L.length≤m.length+6:=by
 have h1:L.length=(L.filter (·.Kind==1)).length+(L.filter (·.Kind==2)).length:=by
  rw[b0M (λt:c8=>t.Kind==1) L];congr 2;refine List.filter_congr λt ht=>?_;rcases h t ht with q | q
  ·simp[q.1]
  ·simp[q.1]
 have h2:=b1d (b9h hd 1) (m:=m) λa ha=>by
  obtain⟨t,ht,rfl⟩:=List.mem_map.1 ha;rw[List.mem_filter,beq_iff_eq] at ht;rcases h t ht.1 with q | q
  ·exact q.2
  ·omega
 have h3:=b1d (b9h hd 2) (m:=[0,1,2,3,4,5]) λa ha=>by
  obtain⟨t,ht,rfl⟩:=List.mem_map.1 ha;rw[List.mem_filter,beq_iff_eq] at ht;rcases h t ht.1 with q | q
  ·omega
  ·simp only[List.mem_cons,List.not_mem_nil,or_false];omega
 rw[List.length_map] at h2 h3;simp only[List.length_cons,List.length_nil] at h3;omega
theorem a62{q:TQ}{w:Int}:wts q w=true↔∃t∈q.L,t.Kind=2∧t.At=w:=by
 unfold wts;rw[List.any_eq_true];simp
theorem b1b{q:TQ}{h:Int}:h∈b2i q↔∃t∈q.L,t.Kind=1∧t.At=h:=by
 unfold b2i;rw[List.mem_map];simp only[List.mem_filter,beq_iff_eq];exact⟨λ⟨t,⟨a,b⟩,c⟩=>⟨t,a,b,c⟩,λ⟨t,a,b,c⟩=>⟨t,⟨a,b⟩,c⟩⟩
abbrev cz:g5:=⟨0,false,0⟩
def a33(ds:List Int)(c:g5):Bool:=c.Intact&&c.Target != 0&&decide (c.Target∈ds)
def a7I(ds:List Int)(c:g5):g5:=if a33 ds c then ⟨c.Target,false,c.Call⟩ else c
def clr(l:List g5)(ds:List Int):List g5:=l.map (a7I ds)
def cls(l:List g5)(ds:List Int):List Nat:=(List.range l.length).filter λw=>a33 ds (l.getD w cz)&&decide (0≤(l.getD w cz).Call)
def clt(l:List g5)(ds:List Int):List c8:=(cls l ds).map λ(w:Nat)=>⟨2,(w:Int),(l.getD w cz).Call⟩
theorem b6T(ds:List Int)(c:g5):(a7I ds c).Target=c.Target∧(a7I ds c).Call=c.Call∧((a7I ds c).Intact=true↔c.Intact=true∧a33 ds c=false):=by
 unfold a7I;cases h:a33 ds c
 ·rw[if_neg (by simp)]
  simp
 ·rw[if_pos rfl];simp
theorem c7C(l:List g5)(ds:List Int)(h:Int):nmg (clr l ds) h=nmg l h:=by
 unfold nmg clr;rw[List.countP_map];congr 1;funext c
 simp only[Function.comp_apply,(b6T ds c).1]
theorem a8O{l:List g5}{ds:List Int}{t:c8}:t∈clt l ds↔∃w,∃hw:w<l.length,t=⟨2,(w:Int),l[w].Call⟩∧a33 ds l[w]=true∧0≤l[w].Call:=by
 unfold clt cls;rw[List.mem_map];constructor
 ·rintro⟨w,hw,rfl⟩;rw[List.mem_filter,List.mem_range] at hw;obtain⟨h1,h2⟩:=hw;have e:l.getD w cz=l[w]:=by rw[List.getD_eq_getElem?_getD,List.getElem?_eq_getElem h1];rfl
  rw[e] at h2 ⊢;rw[Bool.and_eq_true,decide_eq_true_iff] at h2;exact⟨w,h1,rfl,h2.1,h2.2⟩
 ·rintro⟨w,hw,rfl,h2,h3⟩;have e:l.getD w cz=l[w]:=by rw[List.getD_eq_getElem?_getD,List.getElem?_eq_getElem hw];rfl
  refine⟨w,?_,by rw[e]⟩
  rw[List.mem_filter,List.mem_range,e,Bool.and_eq_true,decide_eq_true_iff];exact⟨hw,h2,h3⟩
theorem c2P(l:List g5)(ds:List Int):(clt l ds).Pairwise λa b=>¬(a.Kind=b.Kind∧a.At=b.At):=by
 unfold clt cls;rw[List.pairwise_map];refine (List.Pairwise.filter _ (List.nodup_range (n:=l.length))).imp λ{a b} h=>?_;rintro⟨_,e⟩;dsimp only at e;omega
end Go.Sh
namespace Go.Sh
def a5q(x:Hp)(ds:List Int)(t:Tb):Hp:=⟨gnL x.S ds,x.Roots,clr x.Cells ds,t,⟨x.Q.L++clt x.Cells ds,x.Q.Cap⟩⟩
theorem b84(q:TQ)(l:List c8)(c:Int)(h:∀t∈l,t.Kind≠1):b2i ⟨q.L++l,c⟩=b2i q:=by
 unfold b2i;dsimp only;rw[List.filter_append];have:l.filter (λt=>t.Kind==1) = []:=by
  rw[List.filter_eq_nil_iff];intro t ht;simpa using h t ht
 rw[this,List.append_nil]
theorem c2J{x:Hp}(hx:Q8 x){ds:List Int}(hn:ds.Nodup)(hm:∀d∈ds,d∈lv x.S)
  (ho:∀d∈ds,d∉otr x)(hf:∀h∈lv x.S,h∉ds→∀v∈(ob x.S h).Fields,v∉ds)(hp:∀k v,Has x.T k v→k∉ds→v∉ds)
  {t:Tb}{vals:List Int}(ht:HR t)(h1:∀k v,Has t k v↔k∉ds∧Has x.T k v)(h2:∀y,own t y+U5 vals y=own x.T y) :
  HpS (a5q x ds t)∧Wk (a5q x ds t)∧a1f (a5q x ds t) (ds.flatMap (outs x.S)++vals):=by
 have hS:=hx.sh;have hR:=hS.sr;have g:=a3h ds hR hn hm;have hlv:∀h,h∈lv (gnL x.S ds)↔h∈lv x.S∧h∉ds:=λh=>by rw[g.lv,List.mem_filter,decide_eq_true_iff]
 have hlen:(lv x.S).length≤24:=a1K (x4.2 hR);have hcl:∀w (hw:w<x.Cells.length),a33 ds x.Cells[w]=true→x.Cells[w].Intact=true:=λw hw q=>by
  unfold a33 at q;rw[Bool.and_eq_true,Bool.and_eq_true] at q;exact q.1.1
 have htd:(x.Q.L++clt x.Cells ds).Pairwise λa b=>¬(a.Kind=b.Kind∧a.At=b.At):=by
  rw[List.pairwise_append];refine⟨hS.td,c2P ..,λa ha b hb q=>?_⟩;obtain⟨w,hw,rfl,hh,_⟩:=a8O.1 hb;have:=((hS.cl w hw).2.2.2.2 (hcl w hw hh)).2;rw[Bool.eq_false_iff] at this;exact this (a62.2 ⟨a,ha,q.1,q.2⟩)
 have htk:∀t∈x.Q.L++clt x.Cells ds,0≤t.Prog∧t.Prog≤5∧((t.Kind=1∧t.At∈lv (gnL x.S ds)∧(ob (gnL x.S ds) t.At).Started=true)∨(t.Kind=2∧0≤t.At∧t.At≤5)):=λt htt=>by
  rcases List.mem_append.1 htt with q | q
  ·obtain⟨a,b,c⟩:=hS.tk t q;refine⟨a,b,?_⟩;rcases c with ⟨c1,c2,c3⟩ | c
   ·have hnd:t.At∉ds:=λhd=>ho _ hd (List.mem_append.2 (.inr (b1b.2 ⟨t,q,c1,rfl⟩)));exact .inl ⟨c1,(hlv _).2 ⟨c2,hnd⟩,by rw[g.ob _ c2 hnd];exact c3⟩
   ·exact .inr c
  ·obtain⟨w,hw,rfl,hh,hc⟩:=a8O.1 q;have c6:=hS.c6;have:=(hS.cl w hw).2.1;exact⟨hc,this,.inr ⟨rfl,by dsimp only;omega,by dsimp only;omega⟩⟩
 have hq30:(x.Q.L++clt x.Cells ds).length≤30:=by
  have:=b9O (m:=lv x.S) htd λt htt=>by
   rcases (htk t htt).2.2 with q | q
   ·exact .inl ⟨q.1,((hlv _).1 q.2.1).1⟩
   ·exact .inr q
  omega
 have hwts:∀i:Nat,wts x.Q i=false→(∀hi:i<x.Cells.length,a33 ds x.Cells[i]=false)→wts ⟨x.Q.L++clt x.Cells ds,x.Q.Cap⟩ i=false:=λi q1 q2=>by
  rw[Bool.eq_false_iff] at q1 ⊢;intro q;obtain⟨t,ht,a,b⟩:=a62.1 q;rcases List.mem_append.1 ht with c | c
  ·exact q1 (a62.2 ⟨t,c,a,b⟩)
  ·obtain⟨w,hw,rfl,hh,_⟩:=a8O.1 c;dsimp only at b;have:w=i:=by omega
   subst this;rw[q2 hw] at hh;cases hh
 refine⟨⟨g.sr,ht,hS.r6,?_,hS.cap,hq30,htk,htd,λh hh=>?_,λh hh v hv=>?_,λk v hkv=>?_,λi hi=>?_⟩,λi hi hti=>?_,λh hh hlt=>?_⟩
 ·unfold a5q clr;rw[List.length_map];exact hS.c6
 ·rcases hS.rt h hh with q | q
  ·exact .inl q
  ·have h0:h≠0:=λe=>b2m hR (e▸q);exact .inr ((hlv h).2 ⟨q,λhd=>ho h hd (List.mem_append.2 (.inl (b0c.2 ⟨hh,h0⟩)))⟩)
 ·obtain⟨a,b⟩:=(hlv h).1 hh;have hv':v∈(ob x.S h).Fields:=by
   have e:=g.ob h a b;unfold a5q at hv;rwa [e] at hv
  rcases hS.fl h a v hv' with q | q
  ·exact .inl q
  ·exact .inr ((hlv v).2 ⟨q,hf h a b v hv'⟩)
 ·obtain⟨a,b⟩:=(h1 k v).1 hkv;obtain⟨c,d⟩:=hS.pr k v b;exact⟨(hlv k).2 ⟨c,a⟩,(hlv v).2 ⟨d,hp k v b a⟩⟩
 ·have hi':i<x.Cells.length:=by
   unfold a5q clr at hi;simpa using hi
  have e:(a5q x ds t).Cells[i]=a7I ds x.Cells[i]:=List.getElem_map _;obtain⟨a1,a2,a3,a4,a5⟩:=hS.cl i hi';obtain⟨b1,b2,b3⟩:=b6T ds x.Cells[i];rw[e,b1,b2];refine⟨a1,a2,λq=>?_,λq=>?_,λq=>?_⟩
  ·rw[Bool.eq_false_iff];intro q2;rw[a3 q] at b3;exact absurd (b3.1 q2).1 (by decide)
  ·obtain⟨p,hp1,hp2,hp3⟩:=a4 q;refine⟨p,by show p<(gnL x.S ds).S.Cells.length;rw[g.len];exact hp1,?_⟩
   show Th (ce (gnL x.S ds) p)∧_=1+(p:Int)+32*(ce (gnL x.S ds) p).Gen;rw[g.ce];split
   ·have hw:=(hx.wk p hp1 hp2).1;have:=b1c hi' q;rw[hp3] at this;unfold gnC;rw[if_neg (by omega)]
    exact⟨.inr rfl,hp3⟩
   ·exact⟨hp2,hp3⟩
  ·obtain⟨c1,c2⟩:=b3.1 q;obtain⟨d1,d2⟩:=a5 c1;have h0:x.Cells[i].Target≠0:=λe=>b2m hR (e▸d1);refine⟨(hlv _).2 ⟨d1,λhd=>?_⟩,hwts i d2 λ_=>c2⟩;have:a33 ds x.Cells[i]=true:=by
    unfold a33;simp[c1,h0,hd]
   rw[this] at c2;cases c2
 ·have hi':i<x.S.S.Cells.length:=by
   have:=g.len;have hi:i<(gnL x.S ds).S.Cells.length:=hi;omega
  show (ce (gnL x.S ds) i).Val.Weak=(nmg (clr x.Cells ds) (1+(i:Int)+32*(ce (gnL x.S ds) i).Gen):Int)∧((ce (gnL x.S ds) i).State=2→_);have hti':Th (ce (gnL x.S ds) i):=hti;show _∧((ce (gnL x.S ds) i).State=2→1≤(ce (gnL x.S ds) i).Val.Weak∧(ce (gnL x.S ds) i).Val.Fields = []∧(ce (gnL x.S ds) i).Val.Strong=0);rw[c7C];rw[g.ce] at hti' ⊢;split
  ·rename_i q;rw[if_pos q] at hti';obtain⟨d,hd,rfl⟩:=List.mem_map.1 q;have hp:=y4 hR (hm d hd);have hw:=(hx.wk _ hi' (.inl hp.2.1)).1;unfold gnC at hti' ⊢;split at hti'
   ·exfalso;unfold Th at hti';split at hti' <;> simp at hti'
   ·rename_i q2;rw[if_neg q2];have:=(hR.ok _ hi' (.inl hp.2.1)).wk;exact⟨hw,λ_=>⟨by dsimp only;omega,rfl,rfl⟩⟩
  ·rename_i q;rw[if_neg q] at hti';exact hx.wk i hi' hti'
 ·obtain⟨a,b⟩:=(hlv h).1 hh;have e:=g.ob h a b;have e':ob (a5q x ds t).S h=ob x.S h:=e;rw[e'] at hlt ⊢;have hf:=hx.fair h a hlt;rw[P8] at hf;rw[hf];have i1:=g.inn hR hn hm h;have i2:=h2 h;have i3:b2i ⟨x.Q.L++clt x.Cells ds,x.Q.Cap⟩=b2i x.Q:=b84 _ _ _ λt ht=>by
   obtain⟨w,_,rfl,_⟩:=a8O.1 ht;simp
  unfold nms otr a5q;dsimp only;rw[i3,K4 (ds.flatMap (outs x.S)),K4];omega
theorem b4X:∀(l:List Int) {x:Hp},HpS x→Wk x→a1f x l→Q8 (l.foldl R4 x)
 | [],x,h1,h2,h3=>⟨h1,h2,h3⟩
 | v::l,x,h1,h2,h3=>b4X l (h1.st v λc=>Q2) (h2.st h1.sr v λc=>Q2) (b1C h1.sr h3)
abbrev srt(o:k8):k8:=⟨o.Serial,o.Strong,o.Weak,o.Prog,true,o.Fields⟩
abbrev qtk(x:Hp)(h:Int):c8:=⟨1,h,(ob x.S h).Prog⟩
noncomputable def quH(x:Hp)(h:Int):Hp:=B8 ⟨seO x.S h (srt (ob x.S h)),x.Roots,x.Cells,x.T,⟨x.Q.L ++ [qtk x h],x.Q.Cap⟩⟩ h
theorem b6x{x:Hp}(hx:Q8 x){h:Int}(hh:h∈lv x.S)(hp:0≤(ob x.S h).Prog)(hs:(ob x.S h).Started=false):Q8 (quH x h):=by
 have hS:=hx.sh;have hR:=hS.sr;have oko:=K1 hR hh;have ho:OkO x.S (srt (ob x.S h)):=⟨oko.s1,oko.s2,oko.st,oko.wk,oko.p1,oko.p2,oko.fl⟩;have r1:=a1c (o:=srt (ob x.S h)) hR hh rfl ho;have l1:=a4m (o:=srt (ob x.S h)) hR hh rfl ho;have o1:∀j,j∈lv x.S→ob (seO x.S h (srt (ob x.S h))) j=if j=h then srt (ob x.S h) else ob x.S j:=λj hj=>by
  have:=J4 hR hj;exact a3o (o:=srt (ob x.S h)) hR hh rfl ho (by omega)
 have hlen:(lv x.S).length≤24:=a1K (x4.2 hR);have s1:HpS (wS x (seO x.S h (srt (ob x.S h)))):=hS.of r1 l1 (λk i q=>(c05 (o:=srt (ob x.S h)) hR hh rfl ho).2 q) (λk hk q=>by
  rw[o1 k hk];split;·rfl
  ·exact q) λk hk v hv=>by
  rw[o1 k hk] at hv;split at hv;·rename_i e;subst e;exact hS.fl k hk v hv
  ·exact hS.fl k hk v hv
 have w1:Wk (wS x (seO x.S h (srt (ob x.S h)))):=λi hi ht=>by
  have L5:=y4 hR hh;have hc:=b8c (o:=srt (ob x.S h)) hR hh rfl ho i;dsimp only at hi ht ⊢;rw[hc] at ht ⊢;have hi':i<x.S.S.Cells.length:=by unfold seO at hi;rwa [M3] at hi
  split at ht
  ·rename_i e;subst e;rw[if_pos rfl];dsimp only;have:=hx.wk _ hi' (.inl L5.2.1);rw[O3 hR L5];exact⟨this.1,λq=>absurd q (by rw[L5.2.1];decide)⟩
  ·rename_i e;rw[if_neg e];exact hx.wk i hi' ht
 have htd:(x.Q.L ++ [qtk x h]).Pairwise λa b=>¬(a.Kind=b.Kind∧a.At=b.At):=by
  rw[List.pairwise_append];refine⟨hS.td,by simp,λa ha b hb q=>?_⟩
  rw[List.mem_singleton] at hb;subst hb;dsimp only at q;rcases (hS.tk a ha).2.2 with c | c
  ·rw[q.2,hs] at c;exact absurd c.2.2 (by decide)
  ·omega
 have htk:∀t∈x.Q.L ++ [qtk x h],0≤t.Prog∧t.Prog≤5∧((t.Kind=1∧t.At∈lv (seO x.S h (srt (ob x.S h)))∧(ob (seO x.S h (srt (ob x.S h))) t.At).Started=true)∨(t.Kind=2∧0≤t.At∧t.At≤5)):=λt ht=>by
  rcases List.mem_append.1 ht with q | q
  ·exact s1.tk t q
  ·rw[List.mem_singleton] at q;subst q;refine⟨hp,oko.p2,.inl ⟨rfl,by rw[l1];exact hh,?_⟩⟩
   dsimp only;rw[o1 h hh,if_pos rfl]
 have hq30:(x.Q.L ++ [qtk x h]).length≤30:=by
  have:=b9O (m:=lv x.S) htd λt ht=>by
   rcases (htk t ht).2.2 with q | q
   ·exact .inl ⟨q.1,by rw[←l1];exact q.2.1⟩
   ·exact .inr q
  omega
 have s2:HpS ⟨seO x.S h (srt (ob x.S h)),x.Roots,x.Cells,x.T,⟨x.Q.L ++ [qtk x h],x.Q.Cap⟩⟩:=by
  refine⟨s1.sr,s1.hr,s1.r6,s1.c6,s1.cap,hq30,htk,htd,s1.rt,s1.fl,s1.pr,λi hi=>?_⟩;obtain⟨a,b,c,d,e⟩:=s1.cl i hi;refine⟨a,b,c,d,λq=>⟨(e q).1,?_⟩⟩;have:=(e q).2;rw[Bool.eq_false_iff] at this ⊢;intro q2;obtain⟨t,ht,k1,k2⟩:=a62.1 q2;rcases List.mem_append.1 ht with q3 | q3
  ·exact this (a62.2 ⟨t,q3,k1,k2⟩)
  ·rw[List.mem_singleton] at q3;subst q3;dsimp only at k1;omega
 have w2:Wk ⟨seO x.S h (srt (ob x.S h)),x.Roots,x.Cells,x.T,⟨x.Q.L ++ [qtk x h],x.Q.Cap⟩⟩:=w1;refine⟨s2.st h λc=>E1,w2.st s2.sr h λc=>E1,λk hk hlt=>?_⟩;have hk':k∈lv x.S:=by
  have:lv (quH x h).S=lv x.S:=(G4 s2.sr h λc=>E1).lv.trans l1;rw[←this];exact hk
 have hst:(ob (quH x h).S k).Strong=if k=h then Z4 (ob x.S k).Strong else (ob x.S k).Strong:=by
  have:=b8i (x:=⟨seO x.S h (srt (ob x.S h)),x.Roots,x.Cells,x.T,⟨x.Q.L ++ [qtk x h],x.Q.Cap⟩⟩) s2.sr h (f:=Z4) (λc=>E1) (k:=k) (by rw[←l1] at hk';exact hk')
  refine Eq.trans this ?_;dsimp only;rw[o1 k hk'];by_cases e:k=h
  ·subst e;rw[if_pos rfl,if_pos rfl,if_pos rfl]
  ·rw[if_neg e,if_neg e,if_neg e]
 have hnm:nms (quH x h) k=nms x k+if k=h then 1 else 0:=by
  have:=b3I (x:=⟨seO x.S h (srt (ob x.S h)),x.Roots,x.Cells,x.T,⟨x.Q.L ++ [qtk x h],x.Q.Cap⟩⟩) s2.sr h (f:=Z4) (λc=>E1) k;refine Eq.trans this ?_;have hi:=c1L (o:=srt (ob x.S h)) hR hh rfl ho k;dsimp only at hi;have h0:k≠0:=λe=>b2m hR (e▸hk');unfold nms otr b2i;dsimp only;rw[List.filter_append,List.map_append,K4,K4,K4];have:U5 (List.map (·.At) (List.filter (λt:c8=>t.Kind==1) [qtk x h])) k=if k=h then 1 else 0:=by
   show U5 [h] k=_;rw[G2,P8];by_cases e:k=h
   ·rw[if_pos ⟨e.symm,h0⟩,if_pos e]
   ·rw[if_neg (λq=>e q.1.symm),if_neg e]
  rw[this];omega
 rw[hst] at hlt ⊢;rw[hnm,P8];have hpos:=(K1 hR hk').st;by_cases e:k=h
 ·rw[if_pos e] at hlt ⊢;rw[if_pos e];have:=hx.fair k hk' (by unfold Z4 at hlt;split at hlt <;> omega)
  rw[P8] at this;unfold Z4 at hlt ⊢;split at hlt;·omega
  ·rename_i q;rw[if_neg q,if_neg (by omega)]
   omega
 ·rw[if_neg e] at hlt ⊢;rw[if_neg e];have:=hx.fair k hk' hlt;rw[P8] at this;exact this
end Go.Sh
namespace Go.Sh
noncomputable def zr(x:Hp):List Int:=(lv x.S).filter λh=>(ob x.S h).Strong==0
theorem a4w{x:Hp}{h:Int}:h∈zr x↔h∈lv x.S∧(ob x.S h).Strong=0:=by
 unfold zr;rw[List.mem_filter,beq_iff_eq]
theorem c2x{x:Hp}(hx:Q8 x){z:Int}(hz:z∈zr x):nms x z=0:=by
 obtain⟨a,b⟩:=a4w.1 hz;have:=hx.fair z a (by omega)
 rw[P8] at this;omega
theorem b9R{l:List Int}{h:Int}(h0:h≠0)(e:U5 l h=0):h∉l:=λq=>by
 have:=a6X.2 ⟨h0,q⟩;omega
theorem c4I{α:Type}(f:α→Nat):∀ {l:List α} {a:α},a∈l→f a≤(l.map f).sum
 | b::l,a,h=>by
  rw[List.map_cons,List.sum_cons];rcases List.mem_cons.1 h with e | e
  ·subst e;omega
  ·have:=c4I f e;omega
theorem c1K{s:a7}{a y:Int}(ha:a∈lv s):U5 (outs s a) y≤inn s y:=c4I (λx=>U5 (outs s x) y) ha
theorem c16{t:Tb}{k v:Int}(h:Has t k v)(h0:v≠0):0<own t v:=List.countP_pos_iff.2 ⟨⟨k,v⟩,a4W.2 h,by simp[h0]⟩
def wot(t:Tb)(ks:List Int):Tb × List Int:=(W7 t ks).getD (t,[])
theorem a54{t:Tb}(hT:HR t)(ks:List Int)(hks:ks.length≤1000):W7 t ks=some (wot t ks)∧HR (wot t ks).1∧(wot t ks).2.length≤ks.length∧a40 (t.map L5) ks=some ((wot t ks).1.map L5,(wot t ks).2) ∧
  (∀k v,Has (wot t ks).1 k v↔k∉ks∧Has t k v)∧∀y,own (wot t ks).1 y+U5 (wot t ks).2 y=own t y:=by
 obtain⟨a,had,h1,h2,h3,h4,h5,h6,h7,h8,h9⟩:=b92 hT ks hks;have:wot t ks=(a,had):=by unfold wot;rw[h1];rfl
 rw[this];exact⟨h1,h2,h4,h5,h6,h9⟩
noncomputable def buH(x:Hp)(ds:List Int):Hp:=(ds.flatMap (outs x.S)++(wot x.T ds).2).foldl R4 (a5q x ds (wot x.T ds).1)
theorem a5Q:∀(l:List Int) {x:Hp},SR x.S→Kin x.S (l.foldl R4 x).S∧l.foldl R4 x=wS x (l.foldl R4 x).S
 | [],x,h=>⟨Kin.refl h,rfl⟩
 | v::l,x,h=>by
  have k1:=G4 h v (f:=a95) λc=>Q2;obtain⟨k2,e⟩:=a5Q l (x:=R4 x v) k1.sr;refine⟨k1.trans k2,?_⟩;show l.foldl R4 (R4 x v)=wS x (l.foldl R4 (R4 x v)).S;rw[e,d0x x v]
theorem c2K{x:Hp}(hx:Q8 x){ds:List Int}(hn:ds.Nodup)(hm:∀d∈ds,d∈lv x.S)
  (ho:∀d∈ds,d∉otr x)(hf:∀h∈lv x.S,h∉ds→∀v∈(ob x.S h).Fields,v∉ds)(hp:∀k v,Has x.T k v→k∉ds→v∉ds):Q8 (buH x ds):=by
 have hl:ds.length≤24:=Nat.le_trans (b1d hn hm) (a1K (x4.2 hx.sh.sr));obtain⟨_,w1,_,_,w2,w3⟩:=a54 hx.sh.hr ds (by omega)
 obtain⟨a,b,c⟩:=c2J hx hn hm ho hf hp w1 w2 w3;exact b4X _ a b c
theorem c34{x:Hp}(hR:SR x.S){ds:List Int}(hn:ds.Nodup)(hm:∀d∈ds,d∈lv x.S):lv (buH x ds).S=(lv x.S).filter λh=>decide (h∉ds):=by
 have g:=a3h ds hR hn hm;exact (a5Q (ds.flatMap (outs x.S)++(wot x.T ds).2) (x:=a5q x ds (wot x.T ds).1) g.sr).1.lv.trans g.lv
theorem c35{x:Hp}(hR:SR x.S){ds:List Int}(hn:ds.Nodup)(hm:∀d∈ds,d∈lv x.S){k:Int}(hk:k∈lv x.S)(hd:k∉ds):∃n,ob (buH x ds).S k=stg (ob x.S k) n:=by
 have g:=a3h ds hR hn hm;have hr:=J4 hR hk;obtain⟨n,e⟩:=(a5Q (ds.flatMap (outs x.S)++(wot x.T ds).2) (x:=a5q x ds (wot x.T ds).1) g.sr).1.ob k (by omega)
 refine⟨n,?_⟩;have e':ob (buH x ds).S k=_:=e;have g':ob (a5q x ds (wot x.T ds).1).S k=ob x.S k:=g.ob k hk hd;rw[e',g']
theorem b8N{x:Hp}(hR:SR x.S){ds:List Int}(hn:ds.Nodup)(hm:∀d∈ds,d∈lv x.S):(buH x ds).Roots=x.Roots∧(buH x ds).Cells=clr x.Cells ds∧(buH x ds).T=(wot x.T ds).1∧(buH x ds).Q=⟨x.Q.L++clt x.Cells ds,x.Q.Cap⟩:=by
 have g:=a3h ds hR hn hm;have e:=(a5Q (ds.flatMap (outs x.S)++(wot x.T ds).2) (x:=a5q x ds (wot x.T ds).1) g.sr).2;have e':buH x ds=wS (a5q x ds (wot x.T ds).1) (buH x ds).S:=e;rw[e'];exact⟨rfl,rfl,rfl,rfl⟩
theorem b5s{x:Hp}(hx:Q8 x){z:Int}(hz:z∈zr x):Q8 (buH x [z]):=by
 obtain⟨a,b⟩:=a4w.1 hz;have h0:z≠0:=λe=>b2m hx.sh.sr (e▸a);have hn:=c2x hx hz;unfold nms at hn;refine c2K hx (by simp) (by simpa using a) (λd hd=>?_) (λh hh hne v hv q=>?_) (λk v hkv _ q=>?_)
 ·rw[List.mem_singleton] at hd;subst hd;exact b9R h0 (by omega)
 ·rw[List.mem_singleton] at q;subst q;have:=c1K (y:=v) hh;have h1:=a6X.2 ⟨h0,show v∈outs x.S h from b0c.2 ⟨hv,h0⟩⟩;omega
 ·rw[List.mem_singleton] at q;subst q;have:=c16 hkv h0;omega
def due(o:k8):Bool:=decide (0≤o.Prog) && !o.Started
noncomputable def stp(x:Hp):Hp:=match zr x with
 | []=>x
 | z::_=>if due (ob x.S z) then quH x z else buH x [z]
noncomputable def stN:Nat→Hp→Hp
 | 0,x=>x
 | n+1,x=>stN n (stp x)
theorem a1W(n:Nat)(x:Hp):stN (n+1) x=stp (stN n x):=by
 induction n generalizing x with
 | zero=>rfl
 | succ n ih=>exact ih (stp x)
theorem a9e{x:Hp}(h:zr x = []):stp x=x:=by unfold stp;rw[h]
theorem a4p{x:Hp}{z:Int}{l:List Int}(h:zr x=z::l):stp x=if due (ob x.S z) then quH x z else buH x [z]:=by unfold stp;rw[h]
theorem c3v{x:Hp}(hx:Q8 x):Q8 (stp x):=by
 cases h:zr x with
 | nil=>rw[a9e h];exact hx
 | cons z l=>
  have hz:z∈zr x:=by rw[h];exact List.mem_cons_self ..
  rw[a4p h];split
  ·rename_i q;unfold due at q;rw[Bool.and_eq_true,decide_eq_true_iff,Bool.not_eq_true'] at q;exact b6x hx (a4w.1 hz).1 q.1 q.2
  ·exact b5s hx hz
theorem a0z{x:Hp}(hx:Q8 x)(n:Nat):Q8 (stN n x):=by
 induction n with
 | zero=>exact hx
 | succ n ih=>rw[a1W];exact c3v ih
section
variable{x:Hp}(hR:SR x.S){h:Int}(hh:h∈lv x.S)
include hR hh
theorem b1e:Kin (seO x.S h (srt (ob x.S h))) (quH x h).S∧(quH x h).Roots=x.Roots∧(quH x h).Cells=x.Cells∧(quH x h).T=x.T∧(quH x h).Q=⟨x.Q.L ++ [qtk x h],x.Q.Cap⟩:=by
 have oko:=K1 hR hh;have r1:=a1c (o:=srt (ob x.S h)) hR hh rfl ⟨oko.s1,oko.s2,oko.st,oko.wk,oko.p1,oko.p2,oko.fl⟩;refine⟨G4 (x:=⟨seO x.S h (srt (ob x.S h)),x.Roots,x.Cells,x.T,⟨x.Q.L ++ [qtk x h],x.Q.Cap⟩⟩) r1 h λc=>E1,?_⟩;have e:quH x h=wS ⟨seO x.S h (srt (ob x.S h)),x.Roots,x.Cells,x.T,⟨x.Q.L ++ [qtk x h],x.Q.Cap⟩⟩ (quH x h).S:=b2y _ h;rw[e];exact⟨rfl,rfl,rfl,rfl⟩
theorem c5s:lv (quH x h).S=lv x.S:=by
 have oko:=K1 hR hh;exact (b1e hR hh).1.lv.trans (a4m (o:=srt (ob x.S h)) hR hh rfl ⟨oko.s1,oko.s2,oko.st,oko.wk,oko.p1,oko.p2,oko.fl⟩)
theorem c0P{k:Int}(hk:k∈lv x.S):∃n,ob (quH x h).S k=stg (if k=h then srt (ob x.S h) else ob x.S k) n:=by
 have oko:=K1 hR hh;have hr:=J4 hR hk;obtain⟨n,e⟩:=(b1e hR hh).1.ob k (by omega)
 refine⟨n,?_⟩;rw[e,a3o (o:=srt (ob x.S h)) hR hh rfl ⟨oko.s1,oko.s2,oko.st,oko.wk,oko.p1,oko.p2,oko.fl⟩ (by omega)]
end
noncomputable def mu(x:Hp):Nat:=(lv x.S).length+((lv x.S).filter λh => !(ob x.S h).Started).length
theorem d1w{x:Hp}(hR:SR x.S):mu x≤48:=by
 have h1:(lv x.S).length≤24:=a1K (x4.2 hR);have h2:((lv x.S).filter λh => !(ob x.S h).Started).length≤(lv x.S).length:=List.length_filter_le ..;unfold mu;omega
theorem d0J{x:Hp}(hx:Q8 x)(h:zr x ≠ []):mu (stp x)<mu x:=by
 cases hz:zr x with
 | nil=>exact absurd hz h
 | cons z l=>
  have hzm:z∈zr x:=by rw[hz];exact List.mem_cons_self ..
  have hzl:=(a4w.1 hzm).1;have hR:=hx.sh.sr;rw[a4p hz];split
  ·rename_i q;unfold due at q;rw[Bool.and_eq_true,decide_eq_true_iff,Bool.not_eq_true'] at q;unfold mu;rw[c5s hR hzl];have:=filter_lt (p:=λh => !(ob (quH x z).S h).Started) (q:=λh => !(ob x.S h).Started) (l:=lv x.S) (λk hk hp=>by
    obtain⟨n,e⟩:=c0P hR hzl hk;rw[e] at hp;split at hp;·exact absurd hp (by simp)
    ·exact hp) z hzl (by rw[q.2];rfl) (by
    obtain⟨n,e⟩:=c0P hR hzl hzl;rw[e,if_pos rfl];rfl)
   omega
  ·unfold mu;have hn:([z]:List Int).Nodup:=by simp
   have hm:∀d ∈ [z],d∈lv x.S:=by simpa using hzl
   rw[c34 hR hn hm,List.filter_filter];have h1:((lv x.S).filter λh=>decide (h ∉ [z])).length<((lv x.S).filter λ_=>true).length:=filter_lt (λ_ _ _=>rfl) z hzl rfl (by simp)
   rw[List.filter_eq_self.2 (λ_ _=>rfl)] at h1;have h2:((lv x.S).filter λa=>(!(ob (buH x [z]).S a).Started)&&decide (a ∉ [z])).length≤((lv x.S).filter λh => !(ob x.S h).Started).length:=by
    rw[←List.countP_eq_length_filter,←List.countP_eq_length_filter];refine List.countP_mono_left λa ha hp=>?_;rw[Bool.and_eq_true,decide_eq_true_iff] at hp;obtain⟨n,e⟩:=c35 hR hn hm ha hp.2;rw[e] at hp;exact hp.1
   omega
noncomputable def a1S(x:Hp):Hp:=stN 100 x
theorem b2C{x:Hp}(hx:Q8 x):∃n,n≤48∧zr (stN n x) = []∧(∀j,j<n→zr (stN j x) ≠ [])∧a1S x=stN n x:=by
 have key:∀m,(∃n,n≤m∧zr (stN n x) = [])∨mu (stN m x)+m≤mu x:=by
  intro m;induction m with
  | zero=>exact .inr (Nat.le_refl _)
  | succ m ih=>
   rcases ih with ⟨n,h1,h2⟩ | ih;·exact .inl ⟨n,by omega,h2⟩
   ·by_cases q:zr (stN m x) = []
    ·exact .inl ⟨m,by omega,q⟩
    ·have:=d0J (a0z hx m) q;rw[←a1W] at this;exact .inr (by omega)
 have h48:=d1w hx.sh.sr;have hex:∃n,n≤48∧zr (stN n x) = []:=by
  rcases key 49 with ⟨n,h1,h2⟩ | h
  ·rcases Nat.lt_or_ge n 49 with q | q
   ·exact⟨n,by omega,h2⟩
   ·rcases key 48 with h | h
    ·exact h
    ·have:mu (stN 48 x)=0:=by omega
     refine⟨48,Nat.le_refl _,?_⟩;have hl:(lv (stN 48 x).S).length=0:=by unfold mu at this;omega
     unfold zr;rw[List.eq_nil_of_length_eq_zero hl];rfl
  ·omega
 obtain⟨n,⟨hn,hz⟩,hmin⟩:=Z9 hex;refine⟨n,hn,hz,λj hj q=>?_,?_⟩
 ·have:=hmin j ⟨by omega,q⟩
  omega
 ·have:∀k,stN (n+k) x=stN n x:=λk=>by
   induction k with
   | zero=>rfl
   | succ k ih=>rw[show n+(k+1)=(n+k)+1 by omega,a1W,ih,a9e hz]
  have h100:=this (100-n);rw[show n+(100-n)=100 by omega] at h100
  exact h100
theorem a2u{x:Hp}(hx:Q8 x):Q8 (a1S x):=a0z hx 100
theorem b6C{x:Hp}(hx:Q8 x):zr (a1S x) = []:=by
 obtain⟨n,_,h,_,e⟩:=b2C hx;rw[e];exact h
theorem c5P{x:Hp}(h:zr x = []):a1S x=x:=by
 have:∀n,stN n x=x:=λn=>by
  induction n with
  | zero=>rfl
  | succ n ih=>rw[a1W,ih,a9e h]
 exact this 100
end Go.Sh
namespace Go.Sh
section
variable{x:Hp}(hR:SR x.S)
include hR
theorem a4T{h:Int}(hh:h∈lv x.S):h≤9223372036854775807:=by have:=J4 hR hh;omega
theorem b4q{h:Int}(hh:h∈lv x.S):x5 x.S h=some (ob x.S h,0):=by
 obtain⟨e,h1,h2⟩:=V4 (x4.2 hR) (a4T hR hh);rw[h1,h2.2 hh]
theorem b0R{h:Int}(hh:h∈lv x.S):F5 (sO x.S) h=some (oo (ob x.S h),0):=by
 have:=hR.len;rw[a4M x.S (by omega) (a4T hR hh),b4q hR hh]
 rfl
theorem zero_eq:a1p x=some (zr x):=by
 have h24:(lv x.S).length≤24:=a1K (x4.2 hR);unfold a1p;simp only[jn];rw[a8N (x4.2 hR),d3v];rw[P3 (lv x.S) (λb h=>if (ob x.S h).Strong==0 then b ++ [h] else b) id (λk b=>b.length≤k) (by omega) (Nat.le_refl _) (λk hk b hb=>?_) (λb hb=>by simp)]
 ·rw[foldl_filter];rfl
 ·simp only[Int.ofNat_lt,hk,decide_true,if_true,o0 hk,d3v,b4q hR (List.getElem_mem hk)];by_cases c:((ob x.S (lv x.S)[k]).Strong==0)=true
  ·rw[if_pos c,if_pos c,B6 (by omega) (by simp;omega),d3v,j5]
   exact⟨rfl,by simp;omega⟩
  ·rw[if_neg c,if_neg c,j5];exact⟨rfl,by omega⟩
theorem c1i:a5M (hO x)=some (zr x):=by
 have h24:(lv x.S).length≤24:=a1K (x4.2 hR);unfold a5M;simp only[jn];rw[show (hO x).S=sO x.S from rfl,b7m (x4.2 hR),d3v];rw[P3 (lv x.S) (λb h=>if (ob x.S h).Strong==0 then b ++ [h] else b) id (λk b=>b.length≤k) (by omega) (Nat.le_refl _) (λk hk b hb=>?_) (λb hb=>by simp)]
 ·rw[foldl_filter];rfl
 ·simp only[Int.ofNat_lt,hk,decide_true,if_true,o0 hk,d3v,b0R hR (List.getElem_mem hk)];by_cases c:((ob x.S (lv x.S)[k]).Strong==0)=true
  ·rw[show ((oo (ob x.S (lv x.S)[k])).Strong==0)=true from c,if_pos rfl,if_pos c,B6 (by omega) (by simp;omega),d3v,j5]
   exact⟨rfl,by simp;omega⟩
  ·rw[if_neg (show ¬((oo (ob x.S (lv x.S)[k])).Strong==0)=true from c),if_neg c,j5];exact⟨rfl,by omega⟩
theorem b2F:a1m (hO x)=some (decide (zr x = [])):=by
 unfold a1m;rw[c1i hR,d3v];congr 1;cases zr x <;> simp
 omega
end
noncomputable def quD(x:Hp)(h:Int):Hp:=if h∈lv x.S∧due (ob x.S h)=true then quH x h else x
theorem b8g{s:a7}(hR:SR s){h:Int}(hl:h∈lv s):OkO s (srt (ob s h)):=by
 have oko:=K1 hR hl;exact⟨oko.s1,oko.s2,oko.st,oko.wk,oko.p1,oko.p2,oko.fl⟩
theorem c15(o:k8):L7 o=some (due o):=by
 unfold L7 due;congr 1
section
variable{x:Hp}(hx:Q8 x)(hS:SL x){h:Int}(hh:h≤9223372036854775807)
include hx hS hh
theorem b4O(hl:h∈lv x.S)(hd:due (ob x.S h)=true):x.Q.L.length<30:=by
 have hb:0≤(ob x.S h).Prog∧(ob x.S h).Started=false:=by
  unfold due at hd;rw[Bool.and_eq_true,decide_eq_true_iff,Bool.not_eq_true'] at hd;exact hd
 have:=(b6x hx hl hb.1 hb.2).sh.q30;rw[(b1e hx.sh.sr hl).2.2.2.2] at this;simp at this;omega
theorem c3g:X6 x h=some (quD x h):=by
 have hR:=hx.sh.sr;have cap:=hx.sh.cap;obtain⟨e,h1,h2⟩:=V4 (x4.2 hR) hh;unfold X6 quD;rw[h1,d3v];by_cases hl:h∈lv x.S
 ·have e0:e=0:=h2.2 hl;subst e0;have e1:(((0:Int) != 0)==false)=true:=rfl;simp only[e1,E8,c15,d3v];cases hd:due (ob x.S h);·rw[if_pos (by simp),if_neg (by simp)]
  ·rw[if_neg (by simp),if_pos ⟨hl,rfl⟩]
   have hr:=b4O hx hS hh hl hd;have hok:=b8g hR hl;have l1:=a4m (o:=srt (ob x.S h)) hR hl rfl hok;have r1:=a1c (o:=srt (ob x.S h)) hR hl rfl hok;rw[b1G (o:=srt (ob x.S h)) hR hl rfl hok,d3v,c8S _ (by omega),d3v]
   have et:tad x.Q ⟨1,h,(ob x.S h).Prog⟩=(⟨x.Q.L ++ [qtk x h],x.Q.Cap⟩,0):=by
    unfold tad;rw[if_neg (by omega)]
   rw[et];dsimp only;rw[a5P r1 hh (λk hk=>?_),d3v];·rfl
   ·dsimp only at hk ⊢;rw[l1] at hk;rw[a3o (o:=srt (ob x.S h)) hR hl rfl hok (a4T hR hk)];split;·exact hS h hl
    ·exact hS k hk
 ·have e0:e≠0:=λq=>hl (h2.1 q);have e1:(e != 0)=true:=by simpa using e0
  rw[e1];simp only[show ((true==false)=true)=False by simp,n0,if_false,d3v,Bool.true_or,if_true]
  rw[if_neg (λq=>hl q.1)]
theorem c8w:b1w (hO x) h=some (decide (h∈lv x.S)&&due (ob x.S h)):=by
 have hR:=hx.sh.sr;have hlen:=hR.len;obtain⟨e,h1,h2⟩:=V4 (x4.2 hR) hh;unfold b1w;rw[show (hO x).S=sO x.S from rfl,a4M x.S (by omega) hh,h1,Option.map_some,d3v,a6v hR hh,d3v]
 unfold due oo;rw[Bool.and_assoc]
theorem c5t:a6I (hO x) h=some (hO (quD x h)):=by
 have hR:=hx.sh.sr;have cap:=hx.sh.cap;unfold a6I quD;rw[c8w hx hS hh,d3v];by_cases hl:h∈lv x.S
 ·rw[decide_eq_true hl,Bool.true_and];cases hd:due (ob x.S h);·rw[if_pos (by simp),if_neg (by simp)]
  ·rw[if_neg (by simp),if_pos ⟨hl,rfl⟩]
   have hr:=b4O hx hS hh hl hd;have hok:=b8g hR hl;have l1:=a4m (o:=srt (ob x.S h)) hR hl rfl hok;have r1:=a1c (o:=srt (ob x.S h)) hR hl rfl hok;rw[show (hO x).S=sO x.S from rfl,b0R hR hl,d3v];have es:O1 (sO x.S) h (oo (srt (ob x.S h)))=some (sO (seO x.S h (srt (ob x.S h))),0):=b1H hR hl rfl hok;have es':O1 (sO x.S) h ⟨(oo (ob x.S h)).Serial,(oo (ob x.S h)).Strong,(oo (ob x.S h)).Weak,(oo (ob x.S h)).Prog,true,(oo (ob x.S h)).Fields⟩=some (sO (seO x.S h (srt (ob x.S h))),0):=es;rw[es',d3v];have ea:a6F (hO x).Q ⟨1,h,(oo (ob x.S h)).Prog⟩=some (tqR ⟨x.Q.L ++ [qtk x h],x.Q.Cap⟩,0):=by
    have:=c8N (q:=x.Q) (qtk x h) (by omega)
    have et:tad x.Q (qtk x h)=(⟨x.Q.L ++ [qtk x h],x.Q.Cap⟩,0):=by
     unfold tad;rw[if_neg (by omega)]
    rw[et] at this;exact this
   rw[ea,d3v];have er:=a8g (x:=⟨seO x.S h (srt (ob x.S h)),x.Roots,x.Cells,x.T,⟨x.Q.L ++ [qtk x h],x.Q.Cap⟩⟩) r1 hh (λk hk=>by
    dsimp only at hk ⊢;rw[l1] at hk;rw[a3o (o:=srt (ob x.S h)) hR hl rfl hok (a4T hR hk)];split;·exact hS h hl
    ·exact hS k hk)
   have er':a1b ⟨sO (seO x.S h (srt (ob x.S h))),(hO x).Roots,(hO x).Cells,(hO x).T,tqR ⟨x.Q.L ++ [qtk x h],x.Q.Cap⟩⟩ h=_:=er;dsimp only;rw[er',d3v];rfl
 ·rw[decide_eq_false hl,Bool.false_and];rw[if_pos (by simp),if_neg (λq=>hl q.1)]
end
noncomputable def lvo(x:Hp)(l:List Int):List Int:=l.foldl (λb h=>if h∈lv x.S∧h∉b then b ++ [h] else b) []
theorem b9c{x:Hp}{z:Int}(hz:z∈lv x.S):lvo x [z] = [z]:=by
 unfold lvo;simp[hz]
section
variable{x:Hp}(hR:SR x.S)
include hR
theorem b7n(l:List Int)(hl:l.length≤1000)(hb:∀h∈l,h≤9223372036854775807):U0 x l=some (lvo x l):=by
 unfold U0;simp only[jn];have key:=P3 (f:=λ((s20,s21,s22):Int × (List (Int × Bool)) × (List Int))=>
   if (decide (s20<(l.length:Int))) then
     (ix l s20).bind λv32=>
     (x5 x.S v32).bind λv33=>
     if ((v33.2==0)==true) then
      if (!((A9 s21 v32).getD (false:Bool))) then
       (app 8 s22 [v32]).bind λv34=>
       some (Sum.inl (u9 (s20+1),(p6 s21 v32 true),v34))
      else
      some (.inl (u9 (s20+1),s21,s22))
     else
     some (.inl (u9 (s20+1),s21,s22))
   else
   some (.inr s22)) l (λ(b:List (Int × Bool) × List Int) h=>if h∈lv x.S∧h∉b.2 then (p6 b.1 h true,b.2 ++ [h]) else b) (λb=>b.2) (λk b=>b.2.length≤k∧∀d,(A9 b.1 d).getD false=decide (d∈b.2)) (b0:=([],[])) (by omega) ⟨Nat.le_refl _,λd=>by simp[A9]⟩ (λk hk b hb2=>?_) (λb hb2=>by simp)
 ·rw[key,d3v];congr 1;have:∀(l:List Int) (m:List (Int × Bool)) (b:List Int),(l.foldl (λ(b:List (Int × Bool) × List Int) h=>if h∈lv x.S∧h∉b.2 then (p6 b.1 h true,b.2 ++ [h]) else b) (m,b)).2=l.foldl (λb h=>if h∈lv x.S∧h∉b then b ++ [h] else b) b:=λl=>by
   induction l with
   | nil=>intro m b;rfl
   | cons h l ih=>
    intro m b;rw[List.foldl_cons,List.foldl_cons];by_cases c:h∈lv x.S∧h∉b
    ·rw[if_pos c,if_pos c,ih]
    ·rw[if_neg c,if_neg c,ih]
  exact this l [] []
 ·obtain⟨hb1,hb3⟩:=hb2;obtain⟨e,h1,h2⟩:=V4 (x4.2 hR) (hb _ (List.getElem_mem hk));simp only[Int.ofNat_lt,hk,decide_true,if_true,o0 hk,d3v,h1,hb3];by_cases hl:l[k]∈lv x.S
  ·have e0:e=0:=h2.2 hl;subst e0;by_cases hm:l[k]∈b.2
   ·rw[if_pos (by rfl),if_neg (by simp[hm]),if_neg (λq=>q.2 hm),j5]
    exact⟨rfl,by omega,hb3⟩
   ·rw[if_pos (by rfl),if_pos (by simp[hm]),if_pos ⟨hl,hm⟩,B6 (by omega) (by simp;omega),d3v,j5]
    refine⟨rfl,by simp;omega,λd=>?_⟩
    rw[a8P];by_cases q:d=l[k]
    ·rw[if_pos q];simp[q]
    ·rw[if_neg q,hb3];simp[q]
  ·have e0:e≠0:=λq=>hl (h2.1 q);rw[if_neg (by simp[e0]),if_neg (λq=>hl q.1),j5]
   exact⟨rfl,by omega,hb3⟩
theorem c9w(l:List Int)(hl:l.length≤1000)(hb:∀h∈l,h≤9223372036854775807):b1x (hO x) l=some (lvo x l):=by
 unfold b1x;simp only[jn];rw[P3 l (λb h=>if h∈lv x.S∧h∉b then b ++ [h] else b) id (λk b=>b.length≤k) (by omega) (Nat.le_refl _) (λk hk b hb2=>?_) (λb hb=>by simp)]
 ·rfl
 ·simp only[Int.ofNat_lt,hk,decide_true,if_true,o0 hk,d3v,a6v hR (hb _ (List.getElem_mem hk))];by_cases hl:l[k]∈lv x.S
  ·have h0:l[k]≠0:=λe=>b2m hR (e▸hl);rw[decide_eq_true hl];simp only[beq_self_eq_true,E8,c4z b _ (by omega:b.length≤1000000),d3v,Bool.true_and]
   by_cases hm:l[k]∈b
   ·rw[if_neg (by simp[hm,h0]),if_neg (λq=>q.2 hm),j5]
    exact⟨rfl,by omega⟩
   ·rw[if_pos (by simp[hm]),if_pos ⟨hl,hm⟩,B6 (by omega) (by simp;omega),d3v,j5]
    exact⟨rfl,by simp;omega⟩
  ·rw[decide_eq_false hl];simp only[show ((false==true)=true)=False by simp,n0,if_false,d3v,Bool.false_and]
   rw[if_neg (by simp),if_neg (λq=>hl q.1),j5]
   exact⟨rfl,by omega⟩
end
end Go.Sh
namespace Go.Sh
theorem b4o{α β:Type}(p:α→Bool)(f:α→β):∀(xs:List α) (acc:List β),xs.foldl (λb x=>if p x then b ++ [f x] else b) acc=acc++(xs.filter p).map f
 | [],acc=>by simp
 | x::xs,acc=>by
  rw[List.foldl_cons,b4o p f xs];by_cases h:p x=true
  ·simp[h]
  ·simp[h]
theorem a0Y{α:Type}{l:List α}{i:Nat}(h:i<l.length)(d:α):l.getD i d=l[i]:=by
 rw[List.getD_eq_getElem?_getD,List.getElem?_eq_getElem h];rfl
theorem c2M(c:g5)(ds:List Int)(hl:ds.length≤1000):a0B c ds=some (a33 ds c):=by
 unfold a0B a33;rw[contains_eq _ _ (by omega)]
 cases (c.Intact&&c.Target != 0);·rfl
 ·simp[n0]
def pks(l:List g5)(ds:List Int):List Nat:=(List.range l.length).filter λw=>a33 ds (l.getD w cz)
theorem d0g{l:List g5}{ds:List Int}{w:Nat}(h:w∈pks l ds):w<l.length:=by
 unfold pks at h;rw[List.mem_filter,List.mem_range] at h;exact h.1
theorem c7W(l:List g5)(ds:List Int):(pks l ds).length≤l.length:=by
 unfold pks;exact Nat.le_trans (List.length_filter_le ..) (by simp)
theorem d0h(l:List g5)(ds:List Int):(pks l ds).Nodup:=List.Pairwise.filter _ List.nodup_range
theorem c7d(l:List g5)(ds:List Int):cls l ds=(pks l ds).filter λw=>decide (0≤(l.getD w cz).Call):=by
 unfold cls pks;rw[List.filter_filter];refine List.filter_congr λw _=>?_;rw[Bool.and_comm]
def a6t(l:List Nat):List Int:=l.map λ(n:Nat)=>(n:Int)
theorem b7k{l:List Nat}{k:Nat}(h:k<l.length):ix (a6t l) (k:Int)=some ((l[k]:Nat):Int):=by
 unfold a6t;rw[a0Z,o0 h];rfl
theorem a5D(l:List Nat):(a6t l).length=l.length:=List.length_map ..
theorem c3f(l:List g5)(ds:List Int)(hl:l.length≤1000)(hd:ds.length≤1000):J6 l ds=some (a6t (pks l ds)):=by
 unfold J6;simp only[jn];have hr:(List.range l.length).length=l.length:=by simp
 have key:=P3 (List.range l.length) (λ(b:List Int) (w:Nat)=>if a33 ds (l.getD w cz) then b ++ [(w:Int)] else b) id (λk b=>b.length≤k) (b0:=[]) (f:=λ((s17,s18):Int × (List Int))=>
   if (decide (s17<(l.length:Int))) then
     (ix l s17).bind λv26=>
     (a0B v26 ds).bind λv27=>
     if v27 then
      (app 8 s18 [s17]).bind λv28=>
      some (Sum.inl (u9 (s17+1),v28))
     else
     some (.inl (u9 (s17+1),s18))
   else
   some (.inr s18)) (by omega) (Nat.le_refl _) (λk hk b hb=>?_) (λb hb=>by simp)
 ·rw[key,b4o];rfl
 ·rw[hr] at hk;simp only[Int.ofNat_lt,hk,decide_true,if_true,o0 hk,d3v,c2M _ _ hd,List.getElem_range,a0Y hk];by_cases c:a33 ds l[k]=true
  ·rw[if_pos c,if_pos c,B6 (by omega) (by simp;omega),d3v,j5]
   exact⟨rfl,by simp;omega⟩
  ·rw[if_neg c,if_neg c,j5];exact⟨rfl,by omega⟩
theorem c2Q(l:List g5)(hl:l.length≤1000):a0p l=some l:=by
 unfold a0p;rw[b4A (by omega) (by omega),d3v]
 unfold cpy;rw[if_pos (by simp),d3v]
 simp
def b0I(l:List g5)(K:List Nat):List g5:=(List.range l.length).map λi=>if i∈K then ⟨(l.getD i cz).Target,false,(l.getD i cz).Call⟩ else l.getD i cz
theorem a5s(l:List g5)(K:List Nat):(b0I l K).length=l.length:=by simp[b0I]
theorem b0J{l:List g5}{K:List Nat}{i:Nat}(h:i<(b0I l K).length):(b0I l K)[i]=if i∈K then ⟨(l.getD i cz).Target,false,(l.getD i cz).Call⟩ else l.getD i cz:=by simp[b0I]
theorem c4b(l:List g5):b0I l []=l:=by
 refine List.ext_getElem (a5s ..) λi h1 h2=>?_;rw[b0J,if_neg (by simp),a0Y h2]
theorem c2O{l:List g5}{K:List Nat}{w:Nat}(hw:w<l.length):b0I l (K ++ [w])=(b0I l K).set w ⟨(l.getD w cz).Target,false,(l.getD w cz).Call⟩:=by
 refine List.ext_getElem (by rw[List.length_set,a5s,a5s]) λi h1 h2=>?_
 rw[b0J,List.getElem_set];by_cases e:w=i
 ·subst e;rw[if_pos rfl,if_pos (by simp)]
 ·rw[if_neg e,b0J];by_cases q:i∈K
  ·rw[if_pos (List.mem_append_left _ q),if_pos q]
  ·rw[if_neg,if_neg q];rw[List.mem_append,List.mem_singleton];exact λq2=>q2.elim q λq3=>e q3.symm
theorem c4a(l:List g5)(ds:List Int):b0I l (pks l ds)=clr l ds:=by
 refine List.ext_getElem (by rw[a5s];simp[clr]) λi h1 h2=>?_
 have hi:i<l.length:=by rw[a5s] at h1;exact h1
 have ec:(clr l ds)[i]=a7I ds l[i]:=List.getElem_map _;rw[b0J,ec,a0Y hi];unfold a7I;by_cases c:a33 ds l[i]=true
 ·rw[if_pos c,if_pos];unfold pks;rw[List.mem_filter,List.mem_range,a0Y hi];exact⟨hi,c⟩
 ·rw[if_neg c,if_neg];unfold pks;rw[List.mem_filter,List.mem_range,a0Y hi];exact λq=>c q.2
theorem X8{α:Type}{l:List α}{k:Nat}(h:k<l.length):l.take (k+1)=l.take k ++ [l[k]]:=List.take_succ_eq_append_getElem h
theorem c39(l:List g5)(ds:List Int)(hl:l.length≤1000)(hd:ds.length≤1000):a4v l ds=some (clr l ds,a6t (cls l ds)):=by
 unfold a4v;rw[c3f l ds hl hd,d3v,c2Q l hl,d3v];simp only[jn,a5D];have hp:=c7W l ds;refine Y9 (pks l ds).length (λk (b:List g5 × List Int)=>b.1=b0I l ((pks l ds).take k)∧b.2=a6t (((pks l ds).take k).filter λw=>decide (0≤(l.getD w cz).Call))) (by omega) ⟨by simp[c4b],by simp[a6t]⟩ ?_ ?_
 ·rintro k ⟨b1,b2⟩ hk ⟨rfl,rfl⟩;left;have hw:=d0g (List.getElem_mem hk);have hnm:(pks l ds)[k]∉(pks l ds).take k:=λq=>by
   have hn:=d0h l ds;rw[←List.take_append_drop k (pks l ds),List.nodup_append] at hn;exact hn.2.2 _ q (pks l ds)[k] (by rw[List.drop_eq_getElem_cons hk];exact List.mem_cons_self ..) rfl
  have h1:(pks l ds)[k]<(b0I l ((pks l ds).take k)).length:=by rw[a5s];exact hw
  have e1:ix (b0I l ((pks l ds).take k)) (((pks l ds)[k]:Nat):Int)=some (l.getD (pks l ds)[k] cz):=by rw[o0 h1,b0J,if_neg hnm]
  have h2:(pks l ds)[k]<((b0I l ((pks l ds).take k)).set (pks l ds)[k] ⟨(l.getD (pks l ds)[k] cz).Target,false,(l.getD (pks l ds)[k] cz).Call⟩).length:=by rw[List.length_set];exact h1
  have e2:ix ((b0I l ((pks l ds).take k)).set (pks l ds)[k] ⟨(l.getD (pks l ds)[k] cz).Target,false,(l.getD (pks l ds)[k] cz).Call⟩) (((pks l ds)[k]:Nat):Int)=some ⟨(l.getD (pks l ds)[k] cz).Target,false,(l.getD (pks l ds)[k] cz).Call⟩:=by rw[o0 h2,List.getElem_set_self]
  dsimp only;simp only[Int.ofNat_lt,hk,decide_true,if_true,b7k hk,d3v,e1,Int.toNat_natCast,e2];have hle:(a6t (((pks l ds).take k).filter λw=>decide (0≤(l.getD w cz).Call))).length≤1000:=by
   rw[a5D];exact Nat.le_trans (List.length_filter_le ..) (by simp;omega)
  rw[X8 hk,c2O hw,List.filter_append];by_cases c:0≤(l.getD (pks l ds)[k] cz).Call
  ·rw[if_pos (decide_eq_true c),B6 (by omega) (by simp only[List.length_cons,List.length_nil];omega),d3v,j5]
   refine⟨_,rfl,rfl,?_⟩;rw[List.filter_cons,if_pos (decide_eq_true c)];simp[a6t]
  ·rw[if_neg (λq=>c (of_decide_eq_true q)),j5];refine⟨_,rfl,rfl,?_⟩;rw[List.filter_cons,if_neg (λq=>c (of_decide_eq_true q))];simp[a6t]
 ·rintro⟨b1,b2⟩ ⟨rfl,rfl⟩;refine⟨_,if_neg (by simp),?_⟩
  dsimp only;rw[List.take_length,c4a,←c7d]
theorem d1h(c:g5)(ds:List Int)(hd:ds.length≤1000):((n0 ((wcR c).Intact==true) 0 (T9 ds (wcR c).Target)).bind λv=>some ((wcR c).Intact&&decide (v > 0)))=some (a33 ds c):=by
 unfold a33 wcR;dsimp only;cases hI:c.Intact;·rfl
 ·simp only[beq_self_eq_true,E8];rw[a2w _ _ (by omega),d3v]
  congr 1;rw[Bool.true_and,Bool.true_and,Bool.eq_iff_iff];simp only[decide_eq_true_iff,Bool.and_eq_true,bne_iff_ne];have:=a6X (l:=ds) (h:=c.Target);constructor
  ·intro q;exact this.1 (by omega)
  ·intro q;have:=this.2 q;omega
theorem c7c(l:List g5)(ds:List Int)(hl:l.length≤1000)(hd:ds.length≤1000):b2u (l.map wcR) ds=some ((clr l ds).map wcR,a6t (cls l ds)):=by
 unfold b2u;simp only[jn,List.length_map];refine Y9 l.length (λk (b:List s6 × List Int)=>b.1=((clr l ds).take k).map wcR∧b.2=a6t ((List.range k).filter λw=>a33 ds (l.getD w cz)&&decide (0≤(l.getD w cz).Call))) (by omega) ⟨by simp,by simp[a6t]⟩ ?_ ?_
 ·rintro k ⟨b1,b2⟩ hk ⟨rfl,rfl⟩;left;have hk2:k<(clr l ds).length:=by simp[clr];exact hk
  have e1:ix (l.map wcR) (k:Int)=some (wcR l[k]):=by rw[a0Z,o0 hk];rfl
  have hle:(a6t ((List.range k).filter λw=>a33 ds (l.getD w cz)&&decide (0≤(l.getD w cz).Call))).length≤1000:=by
   rw[a5D];exact Nat.le_trans (List.length_filter_le ..) (by simp;omega)
  dsimp only;simp only[Int.ofNat_lt,hk,decide_true,if_true,e1,d3v];obtain⟨v,hv,hv2⟩:=a7H (d1h l[k] ds hd);rw[hv,d3v];have hv2:=Option.some.inj hv2;rw[hv2,X8 hk2,List.map_append,List.range_succ,List.filter_append];have ec:(clr l ds)[k]=a7I ds l[k]:=List.getElem_map _;have lc:(List.map wcR (List.take k (clr l ds))).length≤1000:=by simp[clr];omega
  rw[ec];unfold a7I;by_cases c:a33 ds l[k]=true
  ·rw[if_pos c,if_pos c];by_cases c2:0≤l[k].Call
   ·rw[if_pos (by simpa[wcR] using c2),B6 (by omega) (by simp only[List.length_cons,List.length_nil];omega),d3v,B6 (by omega) (by simp only[List.length_cons,List.length_nil];omega),d3v,j5]
    refine⟨_,rfl,rfl,?_⟩;simp only[List.filter_cons,List.filter_nil,a0Y hk,c,c2,decide_true,Bool.and_self,if_true];simp[a6t]
   ·rw[if_neg (by simpa[wcR] using c2),B6 (by omega) (by simp only[List.length_cons,List.length_nil];omega),d3v,j5]
    refine⟨_,rfl,rfl,?_⟩;simp only[List.filter_cons,List.filter_nil,a0Y hk,c,c2,decide_false,Bool.and_false,Bool.false_eq_true,if_false,List.append_nil]
  ·rw[if_neg c,if_neg c,B6 (by omega) (by simp only[List.length_cons,List.length_nil];omega),d3v,j5]
   refine⟨_,rfl,rfl,?_⟩;have c:a33 ds l[k]=false:=by simpa using c
   simp only[List.filter_cons,List.filter_nil,a0Y hk,c,Bool.false_and,Bool.false_eq_true,if_false,List.append_nil]
 ·rintro⟨b1,b2⟩ ⟨rfl,rfl⟩;refine⟨_,if_neg (by simp),?_⟩
  dsimp only;rw[List.take_of_length_le (by simp[clr])]
  rfl
end Go.Sh
namespace Go.Sh
def clH(x:Hp)(ds:List Int):Hp:=⟨x.S,x.Roots,clr x.Cells ds,x.T,⟨x.Q.L++clt x.Cells ds,x.Q.Cap⟩⟩
theorem a2B(l:List g5)(ds:List Int):(clt l ds).length=(cls l ds).length:=List.length_map ..
theorem c4c{l:List g5}{ds:List Int}{w:Nat}(h:w∈cls l ds):w<l.length:=by
 unfold cls at h;rw[List.mem_filter,List.mem_range] at h;exact h.1
theorem c4d{l:List g5}{ds:List Int}{k:Nat}(h:k<(clt l ds).length):(clt l ds)[k]=⟨2,(((cls l ds)[k]'(by rw[←a2B];exact h):Nat):Int),(l.getD ((cls l ds)[k]'(by rw[←a2B];exact h)) cz).Call⟩:=List.getElem_map _
theorem b8P{l:List g5}{ds:List Int}{w:Nat}(h:w<l.length):ix (clr l ds) (w:Int)=some (a7I ds l[w]):=by
 unfold clr;rw[a0Z,o0 h];rfl
section
variable{x:Hp}{ds:List Int}(hc:x.Cells.length≤6)(hd:ds.length≤1000)(hq:(x.Q.L++clt x.Cells ds).length≤30)(hcap:x.Q.Cap=30)
include hc hd hq hcap
theorem b58{k:Nat}(hk:k<(clt x.Cells ds).length):tad ⟨x.Q.L++(clt x.Cells ds).take k,x.Q.Cap⟩ (clt x.Cells ds)[k]=(⟨x.Q.L++(clt x.Cells ds).take (k+1),x.Q.Cap⟩,0):=by
 rw[List.length_append] at hq;unfold tad;rw[if_neg (by dsimp only;rw[List.length_append,List.length_take,hcap];omega),X8 hk,List.append_assoc]
theorem c0e:a1T x ds=some (clH x ds):=by
 unfold a1T;rw[c39 _ _ (by omega) hd,d3v]
 dsimp only;simp only[jn,a5D];have hq2:=hq;rw[List.length_append] at hq2;refine Y9 (cls x.Cells ds).length (λk (q:TQ)=>q=⟨x.Q.L++(clt x.Cells ds).take k,x.Q.Cap⟩) (by rw[←a2B];omega) (by simp) ?_ ?_
 ·rintro k q hk rfl;left;have hw:=c4c (List.getElem_mem hk);have hk2:k<(clt x.Cells ds).length:=by rw[a2B];exact hk
  simp only[Int.ofNat_lt,hk,decide_true,if_true,b7k hk,d3v,b8P hw];have et:(⟨2,(((cls x.Cells ds)[k]:Nat):Int),(a7I ds x.Cells[(cls x.Cells ds)[k]]).Call⟩:c8)=(clt x.Cells ds)[k]:=by
   rw[c4d,(b6T ds _).2.1,a0Y hw]
  rw[et,c8S _ (by dsimp only;rw[List.length_append,List.length_take];omega),b58 hc hd hq hcap hk2,d3v,j5 (by rw[←a2B] at hk;omega)]
  exact⟨_,rfl,rfl⟩
 ·rintro q rfl;refine⟨_,if_neg (by simp),?_⟩
  rw[←a2B,List.take_length];rfl
theorem c9h{K:w7→Option g9}:((lp (S:=Int × w7) (E:=w7) (λ((s68,s69):Int × w7)=>
   if (decide (s68<((a6t (cls x.Cells ds)).length:Int))) then
    (ix (a6t (cls x.Cells ds)) s68).bind λv72=>
    (ix ((clr x.Cells ds).map wcR) v72).bind λv73=>
    (a6F s69 (⟨2,v72,v73.Call⟩:r8)).bind λv74=>
    some (.inl (u9 (s68+1),v74.1))
   else
   some (.inr s69)) (0,tqR x.Q)).bind K)=K (tqR (clH x ds).Q):=by
 have hq2:=hq;rw[List.length_append] at hq2;have key:=a1J (f:=λ((s68,s69):Int × w7)=>
   if (decide (s68<((a6t (cls x.Cells ds)).length:Int))) then
    (ix (a6t (cls x.Cells ds)) s68).bind λv72=>
    (ix ((clr x.Cells ds).map wcR) v72).bind λv73=>
    (a6F s69 (⟨2,v72,v73.Call⟩:r8)).bind λv74=>
    some (Sum.inl (u9 (s68+1),v74.1))
   else
   some (.inr s69)) (t0:=tqR x.Q) (cls x.Cells ds).length (λk (q:w7)=>q=tqR ⟨x.Q.L++(clt x.Cells ds).take k,x.Q.Cap⟩) (λq=>q=tqR (clH x ds).Q) (by rw[←a2B];omega) (by simp) ?_ ?_
 ·obtain⟨e,h1,h2⟩:=key;rw[h1,d3v,h2]
 ·rintro k q hk rfl;left;have hw:=c4c (List.getElem_mem hk);have hk2:k<(clt x.Cells ds).length:=by rw[a2B];exact hk
  have ei:ix ((clr x.Cells ds).map wcR) (((cls x.Cells ds)[k]:Nat):Int)=some (wcR (a7I ds x.Cells[(cls x.Cells ds)[k]])):=by rw[a0Z,b8P hw];rfl
  simp only[a5D,Int.ofNat_lt,hk,decide_true,if_true,b7k hk,d3v,ei];have et:(⟨2,(((cls x.Cells ds)[k]:Nat):Int),(wcR (a7I ds x.Cells[(cls x.Cells ds)[k]])).Call⟩:r8)=tkR (clt x.Cells ds)[k]:=by
   rw[c4d,a0Y hw];show (⟨2,_,(a7I ds x.Cells[(cls x.Cells ds)[k]]).Call⟩:r8)=_;rw[(b6T ds _).2.1];rfl
  rw[et,c8N _ (by dsimp only;rw[List.length_append,List.length_take];omega),b58 hc hd hq hcap hk2,d3v,j5 (by rw[←a2B] at hk;omega)]
  exact⟨_,rfl,rfl⟩
 ·rintro q rfl;refine⟨_,if_neg (by rw[a5D];simp),?_⟩
  rw[←a2B,List.take_length];rfl
end
theorem b2B(s:a7)(i:Nat)(c d:b7):G8 (G8 s i c) i d=G8 s i d:=by
 unfold G8;dsimp only;rw[List.set_set]
section
variable{s:a7}(hR:SR s){d:Int}(hd:d∈lv s)
include hR hd
def k1(s:a7)(d:Int):a7:=G8 s (D0 d) ⟨1,(ce s (D0 d)).Gen,ded (ob s d)⟩
def k2(s:a7)(d:Int):a7:=G8 s (D0 d) ⟨2,(ce s (D0 d)).Gen,ded (ob s d)⟩
theorem b61:OkO s (ded (ob s d)):=by
 have ho:=K1 hR hd;exact⟨ho.s1,ho.s2,Int.le_refl _,ho.wk,ho.p1,ho.p2,Nat.zero_le _⟩
theorem c0x:seO s d (ded (ob s d))=k1 s d:=by
 have q:=y4 hR hd;unfold seO a1O k1 G8;rw[q.2.1]
theorem c8F:At (k1 s d) d (D0 d):=by
 have q:=y4 hR hd;refine⟨by unfold k1;rw[W4];exact q.1,?_,?_⟩
 ·unfold k1;rw[K7 q.1,if_pos rfl]
 ·unfold k1;rw[K7 q.1,if_pos rfl];exact q.2.2
theorem c8G:SR (k1 s d):=by rw[←c0x hR hd];exact a1c (o:=ded (ob s d)) hR hd rfl (b61 hR hd)
theorem c8J:SR (k2 s d):=by
 have q:=y4 hR hd;have hc:=hR.cell _ q.1;unfold k2;refine hR.G8 q.1 ⟨by simp,by simp,hc.2.2.1,hc.2.2.2⟩ (λq=>absurd (.inr rfl) q) (λ_=>⟨b61 hR hd,.inl q.2.1,?_⟩)
 show (ob s d).Serial=_;rw[O3 hR q]
theorem c8H:U6 (k2 s d) d (D0 d):=by
 have q:=y4 hR hd;refine⟨by unfold k2;rw[W4];exact q.1,?_,?_⟩
 ·unfold k2;rw[K7 q.1,if_pos rfl];exact .inr rfl
 ·unfold k2;rw[K7 q.1,if_pos rfl];exact q.2.2
theorem c7t:R9 (k1 s d).S d=some ((k2 s d).S,0):=by
 have q:=y4 hR hd;have hR1:=c8G hR hd;have q1:=c8F hR hd;have hr:=J4 hR hd;have hlen:=hR1.len;have hH:Hnd d:=((a97 hR1).2 q1.d).2.1;have hsl:(d-1) % 32=(D0 d:Nat):=((a97 hR1).2 q1.d).2.2.1;have hg:(d-1) / 32=(ce s (D0 d)).Gen:=by
  have:=q.2.2;have h24:=hR.len;have:=q.1;omega
 unfold R9 D5;rw[a3A hR1 q1.d,d3v,if_neg (by simp),b6i q1.1,d3v,q1.2.1,if_neg (by simp),d3v,if_neg (by simp),a32 (by omega),d3v,if_pos hH,hsl,a5g (by omega),d3v,if_pos hH,hg,a52 rfl q1.1 hlen,d3v]
 have e:(ce (k1 s d) (D0 d)).Val=ded (ob s d):=by unfold k1;rw[K7 q.1,if_pos rfl]
 rw[e];congr 2;show (G8 (k1 s d) (D0 d) _).S=(k2 s d).S;unfold k1 k2;rw[b2B]
theorem c8B(hw:(ob s d).Weak=0):gvA (k2 s d) (D0 d)=gnA s d:=by
 have q:=y4 hR hd;have e:ce (k2 s d) (D0 d)=⟨2,(ce s (D0 d)).Gen,ded (ob s d)⟩:=by unfold k2;rw[K7 q.1,if_pos rfl]
 unfold gvA gnA gnC;rw[e];rw[O3 hR q] at hw;rw[if_pos hw];unfold k2;rw[b2B];rfl
theorem c8I(hw:(ob s d).Weak≠0):k2 s d=gnA s d:=by
 have q:=y4 hR hd;unfold k2 gnA gnC;rw[O3 hR q] at hw ⊢;rw[if_neg hw]
end
theorem c25{x:Hp}(hR:SR x.S){d:Int}(hd:d∈lv x.S):X7 x d=some (wS x (gnA x.S d)):=by
 unfold X7;rw[b4q hR hd,d3v];have e1:K3 x.S d (⟨(ob x.S d).Serial,0,(ob x.S d).Weak,(ob x.S d).Prog,(ob x.S d).Started,[]⟩:k8)=some (k1 x.S d,0):=by
  rw[←c0x hR hd];exact b1G (o:=ded (ob x.S d)) hR hd rfl (b61 hR hd)
 rw[e1,d3v,c7t hR hd,d3v];by_cases hw:(ob x.S d).Weak=0
 ·rw[if_pos (by simpa using hw),c1I (c8J hR hd) (c8H hR hd),d3v,c8B hR hd hw]
  rfl
 ·rw[if_neg (by simpa using hw)]
  show some (wS x (k2 x.S d))=_;rw[c8I hR hd hw]
theorem c9R{s:a7}(hR:SR s){d:Int}(hd:d∈lv s):b4Q (sO (k1 s d)) d=some (sO (k2 s d)):=by
 have q:=y4 hR hd;have hR1:=c8G hR hd;have q1:=c8F hR hd;have hlen:=hR1.len;have hr:=J4 hR hd;have hi:=q1.1;have hi2:D0 d<(sO (k1 s d)).Cells.length:=by rw[A7];exact hi
 have L5:D0 d<(pl (sO (k1 s d))).Cells.length:=by rw[a08];exact hi2
 have hlen2:(sO (k1 s d)).Cells.length≤24:=by rw[A7];exact hlen
 unfold b4Q b9q b1h;rw[a2J _ (by omega),d3v,a96 (k1 s d) (by omega),a3A hR1 q1.d,d3v,if_neg (by simp),b9m hi2,d3v]
 have hst:(plc (D0 d) (sO (k1 s d)).Cells[D0 d]).State=1:=by
  have:=q1.2.1;rw[E4 hi] at this;simpa[plc,sO,cO] using this
 have hgen:(plc (D0 d) (sO (k1 s d)).Cells[D0 d]).Gen=(ce s (D0 d)).Gen:=by
  have:(ce (k1 s d) (D0 d)).Gen=(ce s (D0 d)).Gen:=by unfold k1;rw[K7 q.1,if_pos rfl]
  rw[E4 hi] at this;simpa[plc,sO,cO] using this
 rw[hst,if_neg (by simp),d3v,if_neg (by simp),d3v]
 dsimp only;rw[b9m hi2,d3v];have w3:∀c:B5,a0R (pl (sO (k1 s d))) ((D0 d:Nat):Int) c=some ⟨(pl (sO (k1 s d))).Cells.set (D0 d) c,(pl (sO (k1 s d))).Last⟩:=λc=>by
  unfold a0R;rw[P7 (by omega) (by rw[a08];omega),d3v,o0 L5,d3v,Int.toNat_natCast]
 rw[w3,d3v,d3v,b5i _ _ (by omega) (by simp[a08]),d3v,hgen]
 unfold k2;rw[←b2B s (D0 d) ⟨1,(ce s (D0 d)).Gen,ded (ob s d)⟩,c2m];show some _=some (⟨(sO (k1 s d)).Cells.set (D0 d) _,_,_⟩:k9);congr 1;congr 1;refine List.ext_getElem (by simp) λk h1 h2=>?_
 have hk:k<(k1 s d).S.Cells.length:=by simpa[A7] using h1
 have hk2:k<(sO (k1 s d)).Cells.length:=by rw[A7];exact hk
 have hk3:k<(pl (sO (k1 s d))).Cells.length:=by rw[a08];exact hk2
 simp only[List.getElem_map,List.getElem_range,List.getElem_set];rw[a5w L5,a0Y hk2,a0Y hk3];by_cases e:k=D0 d
 ·subst e;rw[if_pos rfl,if_pos rfl];have e2:(sO (k1 s d)).Cells[D0 d].Val=oo (ded (ob s d)):=by
   have:(ce (k1 s d) (D0 d)).Val=ded (ob s d):=by unfold k1;rw[K7 q.1,if_pos rfl]
   rw[←this,E4 hi];simp[sO,cO]
  rw[e2];rfl
 ·rw[if_neg e,if_neg (Ne.symm e)];simp[sO,pl,plc,cO]
theorem c9E{x:Hp}(hR:SR x.S){d:Int}(hd:d∈lv x.S):a8b (hO x) d=some (hO (wS x (gnA x.S d))):=by
 unfold a8b;rw[show (hO x).S=sO x.S from rfl,b0R hR hd,d3v];have e1:O1 (sO x.S) d (⟨(oo (ob x.S d)).Serial,0,(oo (ob x.S d)).Weak,(oo (ob x.S d)).Prog,(oo (ob x.S d)).Started,[]⟩:B2)=some (sO (k1 x.S d),0):=by
  rw[←c0x hR hd];exact b1H (o:=ded (ob x.S d)) hR hd rfl (b61 hR hd)
 rw[e1,d3v,c9R hR hd,d3v];by_cases hw:(ob x.S d).Weak=0
 ·rw[if_pos (by simpa[oo] using hw),c4w (c8J hR hd) (c8H hR hd),d3v,c8B hR hd hw]
  rfl
 ·rw[if_neg (by simpa[oo] using hw)]
  show some (hO (wS x (k2 x.S d)))=_;rw[c8I hR hd hw]
end Go.Sh
namespace Go.Sh
theorem c2i:∀(l:List Int) {x:Hp},SR x.S→SR (l.foldl R4 x).S
 | [],x,h=>h
 | v::l,x,h=>c2i l (x:=R4 x v) (c0X h v)
theorem b73:∀(l:List Int) {x:Hp},SR x.S→SL x→SL (l.foldl R4 x)
 | [],x,_,h=>h
 | v::l,x,hR,h=>b73 l (x:=R4 x v) (c0X hR v) (h.rls hR v)
theorem c3k(l:List Int){k:Nat}(hk:k<l.length)(x:Hp):(l.take (k+1)).foldl R4 x=R4 ((l.take k).foldl R4 x) l[k]:=by
 rw[X8 hk,List.foldl_append];rfl
theorem b70{y:Hp}(hR:SR y.S)(l:List Int)(hl:l.length≤1000000)(hb:∀v∈l,v≤9223372036854775807){K:Hp→Option Hp}:((lp (S:=Int × a8) (E:=a8) (λ((s35,s36):Int × a8)=>
     if (decide (s35<(l.length:Int))) then
      (ix l s35).bind λv39=>
      (C5 s36 v39).bind λv40=>
      some (.inl (u9 (s35+1),v40))
     else
     some (.inr s36)) (0,y)).bind K)=K (l.foldl R4 y):=by
 have key:=P3 l R4 id (λk z=>SR z.S) (b0:=y) (f:=λ((s35,s36):Int × a8)=>
     if (decide (s35<(l.length:Int))) then
      (ix l s35).bind λv39=>
      (C5 s36 v39).bind λv40=>
      some (Sum.inl (u9 (s35+1),v40))
     else
     some (.inr s36)) (by omega) hR (λk hk z hz=>?_) (λz hz=>by simp)
 ·rw[key,d3v];rfl
 ·simp only[Int.ofNat_lt,hk,decide_true,if_true,o0 hk,d3v,a2q hz (hb _ (List.getElem_mem hk))];rw[j5];exact⟨rfl,c0X hz _⟩
theorem b4T{y:Hp}(hR:SR y.S)(l:List Int)(hl:l.length≤1000000)(hb:∀v∈l,v≤9223372036854775807){K:g9→Option g9}:((lp (S:=Int × g9) (E:=g9) (λ((s45,s46):Int × g9)=>
      if (decide (s45<(l.length:Int))) then
       (ix l s45).bind λv49=>
       (F0 s46 v49).bind λv50=>
       some (.inl (u9 (s45+1),v50))
      else
      some (.inr s46)) (0,hO y)).bind K)=K (hO (l.foldl R4 y)):=by
 have key:=a1J (f:=λ((s45,s46):Int × g9)=>
      if (decide (s45<(l.length:Int))) then
       (ix l s45).bind λv49=>
       (F0 s46 v49).bind λv50=>
       some (Sum.inl (u9 (s45+1),v50))
      else
      some (.inr s46)) (t0:=hO y) l.length (λk z=>z=hO ((l.take k).foldl R4 y)) (λz=>z=hO (l.foldl R4 y)) (by omega) rfl ?_ ?_
 ·obtain⟨e,h1,h2⟩:=key;rw[h1,d3v,h2]
 ·rintro k z hk rfl;left;have hz:=c2i (l.take k) hR;simp only[Int.ofNat_lt,hk,decide_true,if_true,o0 hk,d3v,a3R hz (hb _ (List.getElem_mem hk))];rw[j5,←c3k l hk];exact⟨_,rfl,rfl⟩
 ·rintro z rfl;exact⟨_,if_neg (by simp),by rw[List.take_length]⟩
theorem b81(s:a7)(ds:List Int){k:Nat}(hk:k<ds.length):gnL s (ds.take (k+1))=gnA (gnL s (ds.take k)) ds[k]:=by
 unfold gnL;rw[X8 hk,List.foldl_append];rfl
section
variable{y:Hp}(hR:SR y.S){ds:List Int}(hn:ds.Nodup)(hm:∀d∈ds,d∈lv y.S)
include hR hn hm
theorem b4v{k:Nat}(hk:k<ds.length):SR (gnL y.S (ds.take k))∧ds[k]∈lv (gnL y.S (ds.take k)):=by
 have g:=a3h (ds.take k) hR ((List.take_sublist k ds).nodup hn) λd hd=>hm d (List.mem_of_mem_take hd);refine⟨g.sr,?_⟩;rw[g.lv,List.mem_filter,decide_eq_true_iff];refine⟨hm _ (List.getElem_mem hk),λq=>?_⟩;rw[←List.take_append_drop k ds,List.nodup_append] at hn;exact hn.2.2 _ q ds[k] (by rw[List.drop_eq_getElem_cons hk];exact List.mem_cons_self ..) rfl
theorem c24(hl:ds.length≤1000){K:Hp→Option Hp}:((lp (S:=Int × a8) (E:=a8) (λ((s42,s43):Int × a8)=>
    if (decide (s42<(ds.length:Int))) then
     (ix ds s42).bind λv46=>
     (X7 s43 v46).bind λv47=>
     some (.inl (u9 (s42+1),v47))
    else
    some (.inr s43)) (0,y)).bind K)=K (wS y (gnL y.S ds)):=by
 have key:=a1J (f:=λ((s42,s43):Int × a8)=>
    if (decide (s42<(ds.length:Int))) then
     (ix ds s42).bind λv46=>
     (X7 s43 v46).bind λv47=>
     some (Sum.inl (u9 (s42+1),v47))
    else
    some (.inr s43)) (t0:=y) ds.length (λk z=>z=wS y (gnL y.S (ds.take k))) (λz=>z=wS y (gnL y.S ds)) (by omega) rfl ?_ ?_
 ·obtain⟨e,h1,h2⟩:=key;rw[h1,d3v,h2]
 ·rintro k z hk rfl;left;obtain⟨h1,h2⟩:=b4v hR hn hm hk;simp only[Int.ofNat_lt,hk,decide_true,if_true,o0 hk,d3v,c25 (x:=wS y (gnL y.S (ds.take k))) h1 h2];rw[j5,b81 _ _ hk];exact⟨_,rfl,rfl⟩
 ·rintro z rfl;exact⟨_,if_neg (by simp),by rw[List.take_length]⟩
theorem b9a(hl:ds.length≤1000){K:g9→Option g9}:((lp (S:=Int × g9) (E:=g9) (λ((s52,s53):Int × g9)=>
     if (decide (s52<(ds.length:Int))) then
      (ix ds s52).bind λv56=>
      (a8b s53 v56).bind λv57=>
      some (.inl (u9 (s52+1),v57))
     else
     some (.inr s53)) (0,hO y)).bind K)=K (hO (wS y (gnL y.S ds))):=by
 have key:=a1J (f:=λ((s52,s53):Int × g9)=>
     if (decide (s52<(ds.length:Int))) then
      (ix ds s52).bind λv56=>
      (a8b s53 v56).bind λv57=>
      some (Sum.inl (u9 (s52+1),v57))
     else
     some (.inr s53)) (t0:=hO y) ds.length (λk z=>z=hO (wS y (gnL y.S (ds.take k)))) (λz=>z=hO (wS y (gnL y.S ds))) (by omega) rfl ?_ ?_
 ·obtain⟨e,h1,h2⟩:=key;rw[h1,d3v,h2]
 ·rintro k z hk rfl;left;obtain⟨h1,h2⟩:=b4v hR hn hm hk;simp only[Int.ofNat_lt,hk,decide_true,if_true,o0 hk,d3v,c9E (x:=wS y (gnL y.S (ds.take k))) h1 h2];rw[j5,b81 _ _ hk];exact⟨_,rfl,rfl⟩
 ·rintro z rfl;exact⟨_,if_neg (by simp),by rw[List.take_length]⟩
end
section
variable{x:Hp}(hx:Q8 x){ds:List Int}(hn:ds.Nodup)(hm:∀d∈ds,d∈lv x.S)
include hx hn hm
theorem b64:ds.length≤24:=Nat.le_trans (b1d hn hm) (a1K (x4.2 hx.sh.sr))
theorem b68{d:Int}(hd:d∈lv x.S):(ob x.S d).Fields.length≤4:=(K1 hx.sh.sr hd).fl
theorem b7u{d:Int}(hd:d∈lv x.S):(outs x.S d).length≤4:=Nat.le_trans (c0E _) (b68 hx hn hm hd)
theorem a8K:∀(l:List Int),(∀d∈l,d∈lv x.S)→(l.flatMap (outs x.S)).length≤4*l.length
 | [],_=>by simp
 | d::l,h=>by
  rw[List.flatMap_cons,List.length_append,List.length_cons];have:=a8K l λe he=>h e (List.mem_cons_of_mem _ he);have:=b7u hx hn hm (h d (List.mem_cons_self ..));omega
theorem c14:∀v∈ds.flatMap (outs x.S)++(wot x.T ds).2,v≤9223372036854775807:=λv hv=>by
 rcases List.mem_append.1 hv with q | q
 ·obtain⟨d,hd,q⟩:=List.mem_flatMap.1 q;obtain⟨q,_⟩:=b0c.1 q;rcases hx.sh.fl d (hm d hd) v q with e | e
  ·omega
  ·exact a4T hx.sh.sr e
 ·by_cases h0:v=0
  ·omega
  ·have hl:=b64 hx hn hm;have h3:=(a54 hx.sh.hr ds (by omega)).2.2.2.2.2 v
   have h4:=a6X.2 ⟨h0,q⟩;have h5:0<own x.T v:=by omega
   obtain⟨p,hp,hq⟩:=List.countP_pos_iff.1 h5;have hq:(v != 0&&p.Val==v)=true:=hq;rw[Bool.and_eq_true,beq_iff_eq] at hq;have:=(hx.sh.pr _ _ (a4W.1 hp)).2;rw[hq.2] at this;exact a4T hx.sh.sr this
theorem b9k:(ds.flatMap (outs x.S)++(wot x.T ds).2).length≤200:=by
 have hl:=b64 hx hn hm;have h1:=a8K hx hn hm ds hm;have h2:=(a54 hx.sh.hr ds (by omega)).2.2.1
 rw[List.length_append];omega
theorem c7a(hq:(x.Q.L++clt x.Cells ds).length≤30){l:List Int}(h1:U0 x l=some ds):a1o x l=some (buH x ds):=by
 have hl:=b64 hx hn hm;have hR:=hx.sh.sr;obtain⟨w1,w2,w3,w4,w5,w6⟩:=a54 hx.sh.hr ds (by omega)
 have ol:=b9k hx hn hm;have fl:=a8K hx hn hm ds hm;unfold a1o;rw[h1,d3v,c0e (by have:=hx.sh.c6;omega) (by omega) hq hx.sh.cap,d3v]
 simp only[jn];have key:=P3 ds (λb d=>b++outs x.S d) id (λk b=>b.length≤4*k) (b0:=[]) (f:=λ((s49,s50):Int × (List Int))=>
   if (decide (s49<(ds.length:Int))) then
    (ix ds s49).bind λv53=>
    (x5 (clH x ds).S v53).bind λv54=>
    (a3S v54.1.Fields).bind λv55=>
    (app 8 s50 v55).bind λv56=>
    some (Sum.inl (u9 (s49+1),v56))
   else
   some (.inr s50)) (by omega) (by simp) (λk hk b hb=>?_) (λb hb=>by simp)
 ·rw[key,d3v,a98,List.nil_append];dsimp only[id];rw[show (clH x ds).T=x.T from rfl,w1,d3v];have ol2:=ol;rw[List.length_append] at ol2;rw[B6 (by omega) (by omega),d3v]
  have k1:=c24 (y:=⟨(clH x ds).S,(clH x ds).Roots,(clH x ds).Cells,(wot x.T ds).1,(clH x ds).Q⟩) hR hn hm (by omega) (K:=λe=>(lp (S:=Int × a8) (E:=a8) (λ((s35,s36):Int × a8)=>
     if (decide (s35<((ds.flatMap (outs x.S)++(wot x.T ds).2).length:Int))) then
      (ix (ds.flatMap (outs x.S)++(wot x.T ds).2) s35).bind λv39=>
      (C5 s36 v39).bind λv40=>
      some (.inl (u9 (s35+1),v40))
     else
     some (.inr s36)) (0,e)).bind λe34=>some e34)
  refine Eq.trans k1 ?_;have g:=a3h ds hR hn hm;have k2:=b70 (y:=wS (⟨(clH x ds).S,(clH x ds).Roots,(clH x ds).Cells,(wot x.T ds).1,(clH x ds).Q⟩:Hp) (gnL x.S ds)) g.sr _ (by omega) (c14 hx hn hm) (K:=λe34=>some e34)
  refine Eq.trans k2 ?_;rfl
 ·have hd:=hm _ (List.getElem_mem hk);have f4:=b68 hx hn hm hd;have o4:=b7u hx hn hm hd;simp only[Int.ofNat_lt,hk,decide_true,if_true,o0 hk,d3v,show (clH x ds).S=x.S from rfl,b4q hR hd,b9g _ (by omega:(ob x.S ds[k]).Fields.length≤1000000)]
  have e:nz (ob x.S ds[k]).Fields=outs x.S ds[k]:=rfl;rw[e,B6 (by omega) (by omega),d3v,j5]
  exact⟨rfl,by rw[List.length_append];omega⟩
theorem c2L(hq:(x.Q.L++clt x.Cells ds).length≤30){l:List Int}(h1:b1x (hO x) l=some ds):b1v (hO x) l=some (hO (buH x ds)):=by
 have hl:=b64 hx hn hm;have hR:=hx.sh.sr;obtain⟨w1,w2,w3,w4,w5,w6⟩:=a54 hx.sh.hr ds (by omega)
 have ol:=b9k hx hn hm;have fl:=a8K hx hn hm ds hm;have c6:=hx.sh.c6;unfold b1v;rw[h1,d3v,show (hO x).Cells=x.Cells.map wcR from rfl,c7c _ _ (by omega) (by omega),d3v]
 simp only[jn];rw[show (hO x).Q=tqR x.Q from rfl,c9h (by omega) (by omega) hq hx.sh.cap]
 have key:=P3 ds (λb d=>b++outs x.S d) id (λk b=>b.length≤4*k) (b0:=[]) (f:=λ((s59,s60):Int × (List Int))=>
    if (decide (s59<(ds.length:Int))) then
     (ix ds s59).bind λv63=>
     (F5 (hO x).S v63).bind λv64=>
     (a2k v64.1.Fields).bind λv65=>
     (app 8 s60 v65).bind λv66=>
     some (Sum.inl (u9 (s59+1),v66))
    else
    some (.inr s60)) (by omega) (by simp) (λk hk b hb=>?_) (λb hb=>by simp)
 ·rw[key,d3v,a98,List.nil_append];dsimp only[id];rw[show (hO x).T=x.T.map L5 from rfl,w4,d3v];dsimp only;have ol2:=ol;rw[List.length_append] at ol2;rw[B6 (by omega) (by omega),d3v]
  have k1:=b9a (y:=⟨(clH x ds).S,(clH x ds).Roots,(clH x ds).Cells,(wot x.T ds).1,(clH x ds).Q⟩) hR hn hm (by omega) (K:=λe=>(lp (S:=Int × g9) (E:=g9) (λ((s45,s46):Int × g9)=>
      if (decide (s45<((ds.flatMap (outs x.S)++(wot x.T ds).2).length:Int))) then
       (ix (ds.flatMap (outs x.S)++(wot x.T ds).2) s45).bind λv49=>
       (F0 s46 v49).bind λv50=>
       some (.inl (u9 (s45+1),v50))
      else
      some (.inr s46)) (0,e)).bind λe44=>some e44)
  refine Eq.trans k1 ?_;have g:=a3h ds hR hn hm;have k2:=b4T (y:=wS (⟨(clH x ds).S,(clH x ds).Roots,(clH x ds).Cells,(wot x.T ds).1,(clH x ds).Q⟩:Hp) (gnL x.S ds)) g.sr _ (by omega) (c14 hx hn hm) (K:=λe44=>some e44)
  refine Eq.trans k2 ?_;rfl
 ·have hd:=hm _ (List.getElem_mem hk);have f4:=b68 hx hn hm hd;have o4:=b7u hx hn hm hd;simp only[Int.ofNat_lt,hk,decide_true,if_true,o0 hk,d3v,show (hO x).S=sO x.S from rfl,b0R hR hd];have e:a2k (oo (ob x.S ds[k])).Fields=some (outs x.S ds[k]):=b4C _ (by show (ob x.S ds[k]).Fields.length≤_;omega)
  rw[e,d3v,B6 (by omega) (by omega),d3v,j5]
  exact⟨rfl,by rw[List.length_append];omega⟩
end
end Go.Sh
namespace Go.Sh
theorem c68{x:Hp}(hR:SR x.S)(hS:SL x){ds:List Int}(hn:ds.Nodup)(hm:∀d∈ds,d∈lv x.S)(t:Tb):SL (a5q x ds t):=λk hk=>by
 have g:=a3h ds hR hn hm;have hk:k∈lv (gnL x.S ds):=hk;rw[g.lv,List.mem_filter,decide_eq_true_iff] at hk;have e:ob (a5q x ds t).S k=ob x.S k:=g.ob k hk.1 hk.2;rw[e];exact hS k hk.1
theorem c9l{x:Hp}(hR:SR x.S)(hS:SL x){ds:List Int}(hn:ds.Nodup)(hm:∀d∈ds,d∈lv x.S):SL (buH x ds):=
 b73 _ (x:=a5q x ds (wot x.T ds).1) (a3h ds hR hn hm).sr (c68 hR hS hn hm _)
theorem d0q{x:Hp}(hR:SR x.S)(hS:SL x){h:Int}(hh:h∈lv x.S):SL (quH x h):=by
 have hok:=b8g hR hh;have r1:=a1c (o:=srt (ob x.S h)) hR hh rfl hok;refine SL.B8 (x:=⟨seO x.S h (srt (ob x.S h)),x.Roots,x.Cells,x.T,⟨x.Q.L ++ [qtk x h],x.Q.Cap⟩⟩) (λk hk=>?_) r1 h;dsimp only at hk ⊢;rw[a4m (o:=srt (ob x.S h)) hR hh rfl hok] at hk;rw[a3o (o:=srt (ob x.S h)) hR hh rfl hok (a4T hR hk)];split;·exact hS h hh
 ·exact hS k hk
theorem d0K{x:Hp}(hx:Q8 x)(hS:SL x):SL (stp x):=by
 cases h:zr x with
 | nil=>rw[a9e h];exact hS
 | cons z l=>
  have hz:=(a4w.1 (show z∈zr x by rw[h];exact List.mem_cons_self ..)).1
  rw[a4p h];split;·exact d0q hx.sh.sr hS hz
  ·exact c9l hx.sh.sr hS (by simp) (by simpa using hz)
theorem b8h{x:Hp}(hx:Q8 x)(hS:SL x)(n:Nat):SL (stN n x):=by
 induction n with
 | zero=>exact hS
 | succ n ih=>rw[a1W];exact d0K (a0z hx n) ih
theorem c2q{x:Hp}(hx:Q8 x)(hS:SL x):SL (a1S x):=b8h hx hS 100
section
variable{x:Hp}(hx:Q8 x)(hS:SL x)
include hx hS
theorem b6H{z:Int}(hz:z∈zr x):(x.Q.L++clt x.Cells [z]).length≤30:=by
 have h1:=(b5s hx hz).sh.q30;have hzl:=(a4w.1 hz).1;rw[(b8N hx.sh.sr (ds:=[z]) (by simp) (by simpa using hzl)).2.2.2] at h1
 exact h1
theorem c3l(h:zr x = []):((a1p x).bind λv4=>
  if ((v4.length:Int)==0) then
   some (Sum.inr x)
  else
  (ix v4 0).bind λv5=>
  (x5 x.S v5).bind λv6=>
  (L7 v6.1).bind λv7=>
  if v7 then
   (X6 x v5).bind λv8=>
   some (.inl v8)
  else
  (cut v4 0 1).bind λv9=>
  (a1o x v9).bind λv10=>
  some (Sum.inl (α:=Hp) (β:=Hp) v10))=some (.inr x):=by
 rw[zero_eq hx.sh.sr,d3v,h];rfl
theorem d1b(z:Int)(l:List Int):cut (z::l) 0 1=some [z]:=by
 unfold cut;rw[if_pos (by simp;omega)]
 simp
theorem c0Z(h:zr x ≠ []):((a1p x).bind λv4=>
  if ((v4.length:Int)==0) then
   some (Sum.inr x)
  else
  (ix v4 0).bind λv5=>
  (x5 x.S v5).bind λv6=>
  (L7 v6.1).bind λv7=>
  if v7 then
   (X6 x v5).bind λv8=>
   some (.inl v8)
  else
  (cut v4 0 1).bind λv9=>
  (a1o x v9).bind λv10=>
  some (Sum.inl (α:=Hp) (β:=Hp) v10))=some (.inl (stp x)):=by
 cases hz:zr x with
 | nil=>exact absurd hz h
 | cons z l=>
  have hzm:z∈zr x:=by rw[hz];exact List.mem_cons_self ..
  have hzl:=(a4w.1 hzm).1;have hR:=hx.sh.sr;rw[zero_eq hR,d3v,hz,if_neg (by simp;omega),show ix (z::l) 0=some z from rfl,d3v,b4q hR hzl,d3v,c15,d3v,a4p hz]
  by_cases hd:due (ob x.S z)=true
  ·rw[if_pos hd,if_pos hd,c3g hx hS (a4T hR hzl),d3v];unfold quD;rw[if_pos ⟨hzl,hd⟩]
  ·rw[if_neg hd,if_neg hd,d1b hx hS,d3v,c7a hx (ds:=[z]) (by simp) (by simpa using hzl) (b6H hx hS hzm) (by rw[b7n hR [z] (by simp) (by simpa using a4T hR hzl),b9c hzl]),d3v]
theorem a5U:R5 x=some (a1S x):=by
 obtain⟨n,hn,h1,h2,h3⟩:=b2C hx;unfold R5;refine a5E (λj=>stN j x) rfl n (λ_=>True) (by omega) trivial (λk hk _=>.inl ⟨?_,trivial⟩) (λ_=>⟨stN n x,?_,by rw[h3]⟩)
 ·have:=c0Z (a0z hx k) (b8h hx hS k) (h2 k hk);rw[←a1W] at this;exact this
 ·exact c3l (a0z hx n) (b8h hx hS n) h1
theorem c73{k:Nat}(hk:k<100)(h:zr x ≠ []){E:Type}{e:E}:((a5M (hO x)).bind λv35=>
     if ((v35.length:Int)==0) then
      some (Sum.inr e)
     else
     (ix v35 0).bind λv36=>
     (b1w (hO x) v36).bind λv37=>
     if v37 then
      (a6I (hO x) v36).bind λv38=>
      some (.inl (u9 ((k:Int)+1),v38))
     else
     (cut v35 0 1).bind λv39=>
     (b1v (hO x) v39).bind λv40=>
     some (Sum.inl (u9 ((k:Int)+1),v40)))=some (.inl (((k+1:Nat):Int),hO (stp x))):=by
 cases hz:zr x with
 | nil=>exact absurd hz h
 | cons z l=>
  have hzm:z∈zr x:=by rw[hz];exact List.mem_cons_self ..
  have hzl:=(a4w.1 hzm).1;have hR:=hx.sh.sr;rw[c1i hR,d3v,hz,if_neg (by simp;omega),show ix (z::l) 0=some z from rfl,d3v,c8w hx hS (a4T hR hzl),d3v,decide_eq_true hzl,Bool.true_and,a4p hz,j5]
  by_cases hd:due (ob x.S z)=true
  ·rw[if_pos hd,if_pos hd,c5t hx hS (a4T hR hzl),d3v];unfold quD;rw[if_pos ⟨hzl,hd⟩]
  ·rw[if_neg hd,if_neg hd,d1b hx hS,d3v,c2L hx (ds:=[z]) (by simp) (by simpa using hzl) (b6H hx hS hzm) (by rw[c9w hR [z] (by simp) (by simpa using a4T hR hzl),b9c hzl]),d3v]
theorem a8p:R2 (hO x)=some (hO (a1S x)):=by
 obtain⟨n,hn,h1,h2,h3⟩:=b2C hx;unfold R2;simp only[jn];refine a5E (λj=>((j:Int),hO (stN j x))) (by rfl) n (λ_=>True) (by omega) trivial (λk hk _=>.inl ⟨?_,trivial⟩) (λ_=>⟨.inl (hO (stN n x)),?_,by rw[h3]⟩)
 ·dsimp only;rw[if_pos (by simp;omega)]
  have:=c73 (a0z hx k) (b8h hx hS k) (k:=k) (by omega) (h2 k hk) (e:=(Sum.inl (hO (stN k x)):g9 ⊕ g9))
  rw[←a1W] at this;exact this
 ·dsimp only;rw[if_pos (by simp;omega),c1i (a0z hx n).sh.sr,d3v,h1]
  rfl
end
end Go.Sh
namespace Go.Sh
def M8(n l m e:Int):Int:=if n<l∨n > m then e else 0
def a0C(a b c:Int):Int:=if a≠0 then a else if b≠0 then b else c
def C3(k a b c:Int):Int:=
 if k=1 then a0C (M8 a 0 5 6) (M8 b 0 4 1) (M8 c (-1) 5 13)
 else if k=2∨k=9∨k=10 then a0C (M8 a 0 5 6) (M8 b 0 5 6) 0
 else if k=3 then M8 a 0 5 6
 else if k=4 then a0C (M8 a 0 5 6) (M8 b 0 5 6) (M8 c 0 3 5)
 else if k=5 then a0C (M8 a 0 5 6) (M8 b 0 3 5) (M8 c (-1) 5 6)
 else if k=6 then a0C (M8 a 0 5 7) (M8 b (-1) 5 6) (M8 c (-1) 5 13)
 else if k=7 then a0C (M8 a 0 5 6) (M8 b 0 5 7) 0
 else if k=8 then a0C (M8 a 0 5 6) (M8 b (-1) 5 6) 0
 else if k=11 then 0
 else if k=12 then M8 a 0 200 12
 else 14
def b7Y:j2:=⟨some 307,0,5,6⟩
def c70:j2:=⟨some 308,0,5,6⟩
def d1x:j2:=⟨some 308,-1,5,6⟩
def d1C:j2:=⟨some 310,-1,5,13⟩
def b2R:List (Int × List j2):=[(1,[b7Y,⟨some 308,0,4,1⟩,d1C]),(2,[b7Y,c70]),(3,[b7Y]),(4,[b7Y,c70,⟨some 310,0,3,5⟩]),
 (5,[b7Y,⟨some 308,0,3,5⟩,⟨some 310,-1,5,6⟩]),(6,[⟨some 307,0,5,7⟩,d1x,d1C]),(7,[b7Y,⟨some 308,0,5,7⟩]),(8,[b7Y,d1x]),(9,[b7Y,c70]),(10,[b7Y,c70]),(11,[]),(12,[⟨some 307,0,200,12⟩])]
theorem c0f:a6i=some b2R:=by kernel_rfl
def a2X(o:j1)(d:j2):Int:=if d.part=some 307 then o.A else if d.part=some 308 then o.B else o.C
def a9z(o:j1)(d:j2):Bool:=decide (a2X o d<d.least)||decide (a2X o d > d.most)
def b0O(o:j1):List j2→Int ⊕ Unit
 | []=>.inr ()
 | d::ds=>if a9z o d then .inl d.e else b0O o ds
theorem b8Z(o:j1)(d:j2)(ds:List j2):b0O o (d::ds)=if a9z o d then .inl d.e else b0O o ds:=rfl
def c1j(d:j2):Prop:=d.part=some 307∨d.part=some 308∨d.part=some 310
theorem d0j(o:j1){d:j2}(h:c1j d):b0P d.part o=some (a2X o d):=by
 unfold a2X;rcases h with h | h | h
 ·rw[h];rfl
 ·rw[h];rfl
 ·rw[h];rfl
theorem c9T(o:j1)(ds:List j2)(hl:ds.length≤10)(hp:∀d∈ds,c1j d):lp (S:=Int) (E:=Int ⊕ Unit) (λ(s11:Int)=>
   if (decide (s11<(ds.length:Int))) then
    (ix ds s11).bind λv13=>
    (b0P v13.part o).bind λv14=>
    if ((decide (v14<v13.least))||(decide (v14 > v13.most))) then
     some (.inr (.inl v13.e))
    else
    some (.inl (u9 (s11+1)))
   else
   some (.inr (.inr ()))) 0=some (b0O o ds):=by
 refine a3H (b6m ds.length (λk=>b0O o ds=b0O o (ds.drop k)) (λe=>e=b0O o ds) (by omega) rfl (λk hk hP=>?_) (λhP=>?_))
 ·rw[if_pos (by simpa using hk),o0 hk,d3v,d0j o (hp _ (List.getElem_mem hk)),d3v]
  rw[List.drop_eq_getElem_cons hk,b8Z] at hP;by_cases c:a9z o ds[k]=true
  ·rw[if_pos (show ((decide (a2X o ds[k]<ds[k].least))||(decide (a2X o ds[k] > ds[k].most)))=true from c)];rw[if_pos c] at hP;exact .inr ⟨_,rfl,hP.symm⟩
  ·rw[if_neg (show ¬((decide (a2X o ds[k]<ds[k].least))||(decide (a2X o ds[k] > ds[k].most)))=true from c),j5];rw[if_neg c] at hP;exact .inl ⟨rfl,hP⟩
 ·rw[List.drop_length] at hP;exact⟨_,if_neg (by simp),hP.symm⟩
theorem c7g:∀p∈b2R,p.2.length≤10∧∀d∈p.2,c1j d:=by
 have:b2R.all (λp=>decide (p.2.length≤10)&&p.2.all λd=>(d.part==some 307)||(d.part==some 308)||(d.part==some 310))=true:=by kernel_rfl
 intro p hp;have:=List.all_eq_true.1 this p hp;rw[Bool.and_eq_true,decide_eq_true_iff,List.all_eq_true] at this;refine⟨this.1,λd hd=>?_⟩;have:=this.2 d hd;simp only[Bool.or_eq_true,beq_iff_eq] at this;unfold c1j;rcases this with (h | h) | h
 ·exact .inl h
 ·exact .inr (.inl h)
 ·exact .inr (.inr h)
theorem c1T{m:List (Int × List j2)}{k:Int}{v:List j2}(h:A9 m k=some v):(k,v)∈m:=by
 induction m with
 | nil=>cases h
 | cons p m ih=>
  unfold A9 at h;split at h
  ·rename_i c;have:k=p.1:=by simpa using c
   cases h;subst this;exact List.mem_cons_self ..
  ·exact List.mem_cons_of_mem _ (ih h)
def b1P(o:j1)(ds:List j2):Int:=match b0O o ds with
 | .inl e=>e
 | .inr _=>0
theorem c8l(o:j1):b1P o []=0:=rfl
theorem b1Q(o:j1)(d:j2)(ds:List j2):b1P o (d::ds)=if a9z o d then d.e else b1P o ds:=by
 unfold b1P;rw[b8Z];cases a9z o d <;> rfl
theorem b7j(o:j1)(d:j2):M8 (a2X o d) d.least d.most d.e=if a9z o d then d.e else 0:=by
 unfold M8 a9z;by_cases h:a2X o d<d.least∨a2X o d > d.most
 ·rw[if_pos h,if_pos (by simpa using h)]
 ·rw[if_neg h,if_neg (by simpa using h)]
theorem c8j(o:j1)(d:j2):b1P o [d]=M8 (a2X o d) d.least d.most d.e:=by rw[b1Q,c8l,b7j]
theorem c5Z(o:j1)(d e:j2)(h1:d.e≠0):b1P o [d,e]=a0C (M8 (a2X o d) d.least d.most d.e) (M8 (a2X o e) e.least e.most e.e) 0:=by
 rw[b1Q,c8j,b7j o d];unfold a0C;cases a9z o d
 ·simp only[Bool.false_eq_true,if_false,ne_eq,not_true_eq_false];split;·rfl
  ·rename_i h;simpa using h
 ·simp[h1]
theorem c8k(o:j1)(d e f:j2)(h1:d.e≠0)(h2:e.e≠0):b1P o [d,e,f]=a0C (M8 (a2X o d) d.least d.most d.e) (M8 (a2X o e) e.least e.most e.e) (M8 (a2X o f) f.least f.most f.e):=by
 rw[b1Q,b1Q,c8j,b7j o d,b7j o e];unfold a0C;cases a9z o d <;> cases a9z o e <;> simp[h1,h2]
theorem c4H(o:j1):(match A9 b2R o.Kind with
  | none=>14
  | some ds=>b1P o ds)=C3 o.Kind o.A o.B o.C:=by
 obtain⟨k,a,b,c⟩:=o;dsimp only;by_cases h:1≤k∧k≤12
 ·have:k=1∨k=2∨k=3∨k=4∨k=5∨k=6∨k=7∨k=8∨k=9∨k=10∨k=11∨k=12:=by omega
  rcases this with rfl | rfl | rfl | rfl | rfl | rfl | rfl | rfl | rfl | rfl | rfl | rfl
  ·exact c8k _ _ _ _ (by decide) (by decide)
  ·exact c5Z _ _ _ (by decide)
  ·exact c8j _ _
  ·exact c8k _ _ _ _ (by decide) (by decide)
  ·exact c8k _ _ _ _ (by decide) (by decide)
  ·exact c8k _ _ _ _ (by decide) (by decide)
  ·exact c5Z _ _ _ (by decide)
  ·exact c5Z _ _ _ (by decide)
  ·exact c5Z _ _ _ (by decide)
  ·exact c5Z _ _ _ (by decide)
  ·rfl
  ·exact c8j _ _
 ·have e:A9 b2R k=none:=by
   cases hm:A9 b2R k with
   | none=>rfl
   | some v=>
    have:=c1T hm;simp only[b2R,List.mem_cons,Prod.mk.injEq,List.not_mem_nil,or_false] at this;omega
  rw[e];unfold C3;repeat rw[if_neg (by omega)]
theorem b38(o:j1):a3W o=some (C3 o.Kind o.A o.B o.C):=by
 rw[←c4H];unfold a3W;rw[c0f,d3v];cases h:A9 b2R o.Kind with
 | none=>rfl
 | some ds=>
  obtain⟨h1,h2⟩:=c7g _ (c1T h);rw[if_neg (by simp)]
  simp only[jn,Option.getD_some];rw[c9T o ds h1 h2,d3v];unfold b1P;cases b0O o ds <;> rfl
theorem c7p(n l m e:Int):a0J n l m e=some (M8 n l m e):=by
 unfold a0J M8;by_cases h:n<l∨n > m
 ·rw[if_pos h,if_pos (by simpa using h)]
 ·rw[if_neg h,if_neg (by simpa using h)]
theorem c4u(a b c:Int):X4 a b c=some (a0C a b c):=by
 unfold X4 a0C;by_cases h:a=0
 ·by_cases g:b=0
  ·rw[if_neg (by simpa using h),if_neg (by simpa using g),if_neg (by simpa using h),if_neg (by simpa using g)]
  ·rw[if_neg (by simpa using h),if_pos (by simpa using g),if_neg (by simpa using h),if_pos (by simpa using g)]
 ·rw[if_pos (by simpa using h),if_pos (by simpa using h)]
theorem a6h(o:w9):a2n o=some (C3 o.Kind o.A o.B o.C):=by
 unfold a2n C3;simp only[c7p,c4u,d3v,jn];by_cases h:1≤o.Kind∧o.Kind≤12
 ·have:o.Kind=1∨o.Kind=2∨o.Kind=3∨o.Kind=4∨o.Kind=5∨o.Kind=6∨o.Kind=7∨o.Kind=8∨o.Kind=9∨o.Kind=10∨o.Kind=11∨o.Kind=12:=by omega
  rcases this with h | h | h | h | h | h | h | h | h | h | h | h <;> rw[h] <;> rfl
 ·have n:∀j:Int,1≤j→j≤12→(o.Kind==j)=false:=λj h1 h2=>by
   rw[beq_eq_false_iff_ne];omega
  simp only[n 1 (by omega) (by omega),n 2 (by omega) (by omega),n 3 (by omega) (by omega),n 4 (by omega) (by omega),n 5 (by omega) (by omega),n 6 (by omega) (by omega),n 7 (by omega) (by omega),n 8 (by omega) (by omega),n 9 (by omega) (by omega),n 10 (by omega) (by omega),n 11 (by omega) (by omega),n 12 (by omega) (by omega),Bool.false_eq_true,if_false]
  repeat rw[if_neg (by omega)]
end Go.Sh
namespace Go.Sh
end Go.Sh
namespace Go.Sh
end Go.Sh
namespace Go.Sh
end Go.Sh
namespace Go.Sh
def ooI(o:B2):k8:=⟨o.Serial,o.Strong,o.Weak,o.Prog,o.Started,o.Fields⟩
def sOI(s:k9):a7:=⟨⟨s.Cells.map λc=>⟨c.State,c.Gen,ooI c.Val⟩,s.Last⟩,s.Serial⟩
def hOI(x:g9):Hp:=⟨sOI x.S,x.Roots,x.Cells.map λc=>⟨c.Target,c.Intact,c.Call⟩,x.T.map λp=>⟨p.State,p.Key,p.Val⟩,⟨x.Q.L.map λt=>⟨t.Kind,t.At,t.Prog⟩,x.Q.Cap⟩⟩
theorem c0u(x:Hp):hOI (hO x)=x:=by
 obtain⟨⟨⟨cs,l⟩,n⟩,r,w,t,⟨q,c⟩⟩:=x;unfold hOI hO sOI sO tqR;dsimp only;have a1:(cs.map cO).map (λc=>(⟨c.State,c.Gen,ooI c.Val⟩:b7))=cs:=by
  rw[List.map_map];refine Eq.trans (List.map_congr_left λa _=>?_) (List.map_id cs);rfl
 have a2:(w.map wcR).map (λc=>(⟨c.Target,c.Intact,c.Call⟩:g5))=w:=by
  rw[List.map_map];refine Eq.trans (List.map_congr_left λa _=>?_) (List.map_id w);rfl
 have a3:(t.map L5).map (λp=>(⟨p.State,p.Key,p.Val⟩:c7))=t:=by
  rw[List.map_map];refine Eq.trans (List.map_congr_left λa _=>?_) (List.map_id t);rfl
 have a4:(q.map tkR).map (λt=>(⟨t.Kind,t.At,t.Prog⟩:c8))=q:=by
  rw[List.map_map];refine Eq.trans (List.map_congr_left λa _=>?_) (List.map_id q);rfl
 rw[a1,a2,a3,a4]
section
variable{x:Hp}(hB:HB x)
include hB
end
end Go.Sh
namespace Go.Sh
structure Stl (x y:Hp):Prop where
 lv:∀h∈lv y.S,h∈lv x.S
 ser:y.S.Serial=x.S.Serial
 len:y.S.S.Cells.length=x.S.S.Cells.length
 ob:∀h∈Sh.lv y.S,(ob y.S h).Serial=(ob x.S h).Serial∧(Sh.ob y.S h).Prog=(Sh.ob x.S h).Prog∧(Sh.ob y.S h).Fields=(Sh.ob x.S h).Fields∧((Sh.ob x.S h).Started=true→(Sh.ob y.S h).Started=true)
 rt:y.Roots=x.Roots
 cn:y.Cells.length=x.Cells.length
 cl:∀i (h:i<y.Cells.length) (h':i<x.Cells.length),y.Cells[i]=⟨x.Cells[i].Target,x.Cells[i].Intact&&decide (x.Cells[i].Target∈Sh.lv y.S),x.Cells[i].Call⟩
 q:∃l,y.Q=⟨x.Q.L++l,x.Q.Cap⟩∧(∀t∈l,t.Kind=1→t.At∈Sh.lv x.S∧(Sh.ob x.S t.At).Started=false)∧∀h∈Sh.lv y.S,(Sh.ob y.S h).Started=true→(Sh.ob x.S h).Started=false→∃t∈l,t.Kind=1∧t.At=h
 rc:∀h,b29 x.S x.T (otr x) h→b29 y.S y.T (otr y) h
 has:∀k v,Has y.T k v→Has x.T k v
theorem Stl.refl{x:Hp}(hx:HpS x):Stl x x:=by
 refine⟨λ_ h=>h,rfl,rfl,λh _=>⟨rfl,rfl,rfl,id⟩,rfl,rfl,λi h h'=>?_,⟨[],by simp,by simp,λh _ a b=>?_⟩,λ_ h=>h,λ_ _ h=>h⟩
 ·have:=(hx.cl i h).2.2.2.2;cases hI:x.Cells[i].Intact;·rw[Bool.false_and,←hI]
  ·rw[decide_eq_true (this hI).1,Bool.and_self,←hI]
 ·rw[a] at b;cases b
theorem Stl.trans{x y z:Hp}(a:Stl x y)(b:Stl y z):Stl x z:=by
 obtain⟨l1,q1,q2,q3⟩:=a.q;obtain⟨l2,r1,r2,r3⟩:=b.q;refine⟨λh hh=>a.lv h (b.lv h hh),b.ser.trans a.ser,b.len.trans a.len,λh hh=>?_,b.rt.trans a.rt,b.cn.trans a.cn,λi h h'=>?_,⟨l1++l2,?_,λt ht hk=>?_,λh hh s1 s2=>?_⟩,λh hh=>b.rc h (a.rc h hh),λk v hh=>a.has k v (b.has k v hh)⟩
 ·obtain⟨b1,b2,b3,b4⟩:=b.ob h hh;obtain⟨a1,a2,a3,a4⟩:=a.ob h (b.lv h hh);exact⟨b1.trans a1,b2.trans a2,b3.trans a3,λq=>b4 (a4 q)⟩
 ·have hy:i<y.Cells.length:=by rw[a.cn];exact h'
  rw[b.cl i h hy,a.cl i hy h'];dsimp only;congr 1;rw[Bool.and_assoc];congr 1;by_cases q:x.Cells[i].Target∈Sh.lv z.S
  ·rw[decide_eq_true q,decide_eq_true (b.lv _ q)];rfl
  ·rw[decide_eq_false q,Bool.and_false]
 ·rw[r1,q1,List.append_assoc]
 ·rcases List.mem_append.1 ht with q | q
  ·exact q2 t q hk
  ·obtain⟨e1,e2⟩:=r2 t q hk;refine⟨a.lv _ e1,?_⟩;cases hs:(Sh.ob x.S t.At).Started;·rfl
   ·rw[(a.ob _ e1).2.2.2 hs] at e2;cases e2
 ·cases hs:(Sh.ob y.S h).Started
  ·obtain⟨t,ht,e⟩:=r3 h hh s1 hs;exact⟨t,List.mem_append_right _ ht,e⟩
  ·obtain⟨t,ht,e⟩:=q3 h (b.lv h hh) hs s2;exact⟨t,List.mem_append_left _ ht,e⟩
theorem c2n(s:a7)(h:Int)(o:k8):(seO s h o).S.Cells.length=s.S.Cells.length:=M3 ..
theorem c7Z{x:Hp}(hx:Q8 x){z:Int}(hz:z∈lv x.S)(hs:(ob x.S z).Started=false):Stl x (quH x z):=by
 have hR:=hx.sh.sr;obtain⟨k,e1,e2,e3,e4⟩:=b1e hR hz;have l1:=c5s hR hz;have hob:∀h∈lv x.S,(ob (quH x z).S h).Serial=(ob x.S h).Serial∧(ob (quH x z).S h).Prog=(ob x.S h).Prog∧(ob (quH x z).S h).Fields=(ob x.S h).Fields∧((ob (quH x z).S h).Started=true↔(ob x.S h).Started=true∨h=z):=λh hh=>by
  obtain⟨n,e⟩:=c0P hR hz hh;rw[e];by_cases q:h=z
  ·subst q;rw[if_pos rfl];exact⟨rfl,rfl,rfl,by simp⟩
  ·rw[if_neg q];exact⟨rfl,rfl,rfl,by simp[q]⟩
 have hot:∀h∈otr x,h∈otr (quH x z):=λh hh=>by
  unfold otr at hh ⊢;rw[e1,e4];rcases List.mem_append.1 hh with q | q
  ·exact List.mem_append_left _ q
  ·refine List.mem_append_right _ ?_;obtain⟨t,ht,a,b⟩:=b1b.1 q;exact b1b.2 ⟨t,List.mem_append_left _ ht,a,b⟩
 have rf:=Stl.refl hx.sh;refine⟨λh hh=>by rw[l1] at hh;exact hh,k.ser,k.len.trans (c2n ..),λh hh=>?_,e1,by rw[e2],λi h h'=>?_,⟨[qtk x z],by rw[e4],λt ht hk=>?_,λh hh s1 s2=>?_⟩,λh hh=>?_,λk v hh=>by rw[e3] at hh;exact hh⟩
 ·rw[l1] at hh;obtain⟨a,b,c,d⟩:=hob h hh;exact⟨a,b,c,λq=>d.2 (.inl q)⟩
 ·have e5:(quH x z).Cells[i]=x.Cells[i]:=by simp only[e2]
  rw[e5,l1];exact rf.cl i h' h'
 ·rw[List.mem_singleton] at ht;subst ht;exact⟨hz,hs⟩
 ·rw[l1] at hh;rcases (hob h hh).2.2.2.1 s1 with q | q
  ·rw[q] at s2;cases s2
  ·exact⟨qtk x z,List.mem_singleton_self _,rfl,q.symm⟩
 ·induction hh with
  | base h1 h2=>exact .base (hot _ h1) (by rw[l1];exact h2)
  | step h0 h1 h2 ih=>
   refine .step ih ?_ (by rw[l1];exact h2)
   unfold outs at h1 ⊢;rw[(hob _ h0.live).2.2.1];exact h1
  | pair h1 h0 h2 ih=>exact .pair (by rw[e3];exact h1) ih (by rw[l1];exact h2)
theorem c69{x:Hp}(hx:Q8 x){z:Int}(hz:z∈zr x):Stl x (buH x [z]):=by
 have hR:=hx.sh.sr;have hzl:=(a4w.1 hz).1;have h0:z≠0:=λe=>b2m hR (e▸hzl);have hfree:=c2x hx hz;have hn:([z]:List Int).Nodup:=by simp
 have hm:∀d ∈ [z],d∈lv x.S:=by simpa using hzl
 have g:=a3h [z] hR hn hm;have k:=(a5Q ([z].flatMap (outs x.S)++(wot x.T [z]).2) (x:=a5q x [z] (wot x.T [z]).1) g.sr).1;obtain⟨e1,e2,e3,e4⟩:=b8N hR hn hm;obtain⟨_,w2,_,_,w5,w6⟩:=a54 hx.sh.hr [z] (by simp)
 have l1:∀h,h∈lv (buH x [z]).S↔h∈lv x.S∧h≠z:=λh=>by
  rw[c34 hR hn hm,List.mem_filter,decide_eq_true_iff,List.mem_singleton]
 have hob:∀h∈lv (buH x [z]).S,(ob (buH x [z]).S h).Serial=(ob x.S h).Serial∧(ob (buH x [z]).S h).Prog=(ob x.S h).Prog∧(ob (buH x [z]).S h).Fields=(ob x.S h).Fields∧(ob (buH x [z]).S h).Started=(ob x.S h).Started:=λh hh=>by
  obtain⟨a,b⟩:=(l1 h).1 hh;obtain⟨n,e⟩:=c35 hR hn hm a (by simpa using b)
  rw[e];exact⟨rfl,rfl,rfl,rfl⟩
 refine⟨λh hh=>((l1 h).1 hh).1,k.ser.trans g.ser,k.len.trans g.len,λh hh=>?_,e1,by rw[e2];simp[clr],λi h h'=>?_,⟨clt x.Cells [z],by rw[e4],λt ht hk=>?_,λh hh s1 s2=>?_⟩,λh hh=>?_,λk v hh=>?_⟩
 ·obtain⟨a,b,c,d⟩:=hob h hh;exact⟨a,b,c,λq=>d.trans q⟩
 ·have e5:(buH x [z]).Cells[i]=a7I [z] x.Cells[i]:=by
   simp only[e2];exact List.getElem_map _
  rw[e5];have hc:=(hx.sh.cl i h').2.2.2.2;unfold a7I a33;cases hI:x.Cells[i].Intact;·rw[if_neg (by simp),Bool.false_and,←hI]
  ·have ht:=(hc hI).1;have ht0:x.Cells[i].Target≠0:=λe=>b2m hR (e▸ht);by_cases q:x.Cells[i].Target=z
   ·rw[if_pos (by simp[q,h0]),decide_eq_false (λr=>((l1 _).1 r).2 q)]
    rfl
   ·rw[if_neg (by simp[q]),decide_eq_true ((l1 _).2 ⟨ht,q⟩),Bool.and_self,←hI]
 ·obtain⟨w,hw,rfl,_,_⟩:=a8O.1 ht;simp at hk
 ·rw[(hob h hh).2.2.2,s2] at s1;cases s1
 ·unfold nms at hfree;have key:b29 (buH x [z]).S (buH x [z]).T (otr (buH x [z])) h∧h≠z:=by
   induction hh with
   | base h1 h2=>
    rename_i a;have hne:a≠z:=λe=>by
     subst e;exact b9R h0 (by omega:U5 (otr x) a=0) h1
    refine⟨.base ?_ ((l1 _).2 ⟨h2,hne⟩),hne⟩;unfold otr at h1 ⊢;rw[e1,e4,b84 _ _ _ λt ht=>by
     obtain⟨w,_,rfl,_⟩:=a8O.1 ht;simp]
    exact h1
   | step q0 q1 q2 ih=>
    rename_i a b;have hne:b≠z:=λe=>by
     subst e;have:=c1K (y:=b) q0.live;have h1:=a6X.2 ⟨h0,q1⟩;omega
    refine⟨.step ih.1 ?_ ((l1 _).2 ⟨q2,hne⟩),hne⟩;unfold outs at q1 ⊢;rw[(hob _ ((l1 _).2 ⟨q0.live,ih.2⟩)).2.2.1];exact q1
   | pair q1 q0 q2 ih=>
    rename_i a b;have hne:b≠z:=λe=>by
     subst e;have:=c16 q1 h0;omega
    exact⟨.pair (by rw[e3];exact (w5 _ _).2 ⟨by simpa using ih.2,q1⟩) ih.1 ((l1 _).2 ⟨q2,hne⟩),hne⟩
  exact key.1
 ·rw[e3] at hh;exact ((w5 _ _).1 hh).2
theorem c8c{x:Hp}(hx:Q8 x):Stl x (stp x):=by
 cases h:zr x with
 | nil=>rw[a9e h];exact Stl.refl hx.sh
 | cons z l=>
  have hz:z∈zr x:=by rw[h];exact List.mem_cons_self ..
  rw[a4p h];split
  ·rename_i q;unfold due at q;rw[Bool.and_eq_true,decide_eq_true_iff,Bool.not_eq_true'] at q;exact c7Z hx (a4w.1 hz).1 q.2
  ·exact c69 hx hz
theorem c8b{x:Hp}(hx:Q8 x)(n:Nat):Stl x (stN n x):=by
 induction n with
 | zero=>exact Stl.refl hx.sh
 | succ n ih=>rw[a1W];exact ih.trans (c8c (a0z hx n))
theorem a8o{x:Hp}(hx:Q8 x):Stl x (a1S x):=c8b hx 100
end Go.Sh
namespace Go.Sh
section
variable{x:Hp}(hB:HB x)
include hB
end
end Go.Sh
namespace Go.Sh
end Go.Sh
namespace Go.Sh
end Go.Sh
namespace Go.Sh
end Go.Sh
namespace Go.Sh
structure Ks (s s':a7):Prop where
 sr:SR s'
 ser:s'.Serial=s.Serial
 lv:lv s'=lv s
 ob:∀h∈Sh.lv s,(ob s' h).Serial=(ob s h).Serial
theorem Ks.refl{s:a7}(hR:SR s):Ks s s:=⟨hR,rfl,rfl,λ_ _=>rfl⟩
theorem Ks.trans{a b c:a7}(h:Ks a b)(q:Ks b c):Ks a c:=⟨q.sr,q.ser.trans h.ser,q.lv.trans h.lv,λk hk=>(q.ob k (by rw[h.lv];exact hk)).trans (h.ob k hk)⟩
theorem Kin.ks{s s':a7}(hR:SR s)(k:Kin s s'):Ks s s':=⟨k.sr,k.ser,k.lv,λh hh=>by
 obtain⟨n,e⟩:=k.ob h (by have:=J4 hR hh;omega)
 rw[e]⟩
theorem Kn.ks{s s':a7}(k:Kn s s')(e:s'.Serial=s.Serial):Ks s s':=⟨k.sr,e,k.lv,λh hh=>by
 obtain⟨n,m,e⟩:=k.ob h hh;rw[e]⟩
theorem d0C{s:a7}(hR:SR s){h:Int}(hh:h∈lv s){o:k8}(hs:o.Serial=(ob s h).Serial)(ho:OkO s o):Ks s (seO s h o):=⟨a1c hR hh hs ho,rfl,a4m hR hh hs ho,λk hk=>by
 rw[a3o hR hh hs ho (by have:=J4 hR hk;omega)]
 split;·rename_i e;subst e;exact hs
 ·rfl⟩
theorem b78{x:Hp}(hR:SR x.S)(h:Int):Ks x.S (B8 x h).S:=(G4 hR h λc=>E1).ks hR
theorem b74{x:Hp}(hR:SR x.S)(h:Int):Ks x.S (R4 x h).S:=(G4 hR h λc=>Q2).ks hR
theorem b4Y(x:Hp)(h:Int):(R4 x h).Roots=x.Roots∧(R4 x h).Cells=x.Cells∧(R4 x h).T=x.T∧(R4 x h).Q=x.Q:=b5a x h a95
theorem a1Q{x:Hp}(hR:SR x.S)(r:Nat)(h:Int):Ks x.S (G5 x r h).S:=
 (b78 hR h).trans (b74 (x:=wR (B8 x h) (x.Roots.set r h)) (a3n hR h) _)
theorem c2V{x:Hp}(hR:SR x.S){h:Int}(hh:h∈lv x.S){n:Nat}(hn:n<(ob x.S h).Fields.length)(v:Int):Ks x.S (a1z x h n v).S:=by
 have k1:=b78 hR v;have hh1:h∈lv (B8 x v).S:=by rw[k1.lv];exact hh
 have hof:(ob (B8 x v).S h).Fields=(ob x.S h).Fields:=by
  obtain⟨n,e⟩:=(G4 hR v (f:=Z4) λc=>E1).ob h (by have:=J4 hR hh;omega)
  show (ob (stO x v Z4).S h).Fields=_;rw[e]
 have ho:OkO (B8 x v).S (flg (ob (B8 x v).S h) ((ob x.S h).Fields.set n v)):=by
  have:=K1 k1.sr hh1;refine⟨this.s1,this.s2,this.st,this.wk,this.p1,this.p2,?_⟩;have h4:=this.fl;rw[hof] at h4;simpa using h4
 have k2:=d0C (o:=flg (ob (B8 x v).S h) ((ob x.S h).Fields.set n v)) k1.sr hh1 rfl ho;exact (k1.trans k2).trans (b74 (x:=wS (B8 x v) (seO (B8 x v).S h (flg (ob (B8 x v).S h) ((ob x.S h).Fields.set n v)))) k2.sr _)
theorem a7M(x:Hp)(h:Int)(n:Nat)(v:Int):(a1z x h n v).Roots=x.Roots∧(a1z x h n v).Cells=x.Cells∧(a1z x h n v).T=x.T∧(a1z x h n v).Q=x.Q:=by
 obtain⟨a,b,c,d⟩:=b4Y (wS (B8 x v) (seO (B8 x v).S h (flg (ob (B8 x v).S h) ((ob x.S h).Fields.set n v)))) ((ob x.S h).Fields.getD n 0);obtain⟨a',b',c',d'⟩:=a5R x v;exact⟨a.trans a',b.trans b',c.trans c',d.trans d'⟩
theorem c5g{x:Hp}(hR:SR x.S)(v:Int)(t:Tb)(old:Int):Ks x.S (a7b x v t old).S:=
 (b78 hR v).trans (b74 (x:=wT (B8 x v) t) (a3n hR v) old)
theorem b0e(x:Hp)(v:Int)(t:Tb)(old:Int):(a7b x v t old).Roots=x.Roots∧(a7b x v t old).Cells=x.Cells∧(a7b x v t old).T=t∧(a7b x v t old).Q=x.Q:=by
 obtain⟨a,b,c,d⟩:=b4Y (wT (B8 x v) t) old;obtain⟨a',b',c',d'⟩:=a5R x v;exact⟨a.trans a',b.trans b',c,d.trans d'⟩
end Go.Sh
namespace Go.Sh
theorem c9G{s:a7}(hR:SR s){i:Nat}(hi:i<s.S.Cells.length)(h2:(ce s i).State=2):Ks s (gvA s i):=⟨b7e hR hi,rfl,b7c hR hi h2,λh hh=>by rw[b7d hR hi h2 hh]⟩
theorem c9V{x:Hp}(hR:SR x.S)(h:Int){d:Int}(hd:U6 x.S h (D0 h)→0≤(ce x.S (D0 h)).Val.Weak+d):Ks x.S (mkd x h d).S:=by
 unfold mkd;split
 ·rename_i q;exact (a6y hR q.1 q.2.1 (hd q)).ks rfl
 ·exact Ks.refl hR
theorem c4U(x:Hp)(h d:Int):(mkd x h d).Roots=x.Roots∧(mkd x h d).Cells=x.Cells∧(mkd x h d).T=x.T∧(mkd x h d).Q=x.Q:=by
 unfold mkd;split <;> exact⟨rfl,rfl,rfl,rfl⟩
theorem c3y(x:Hp)(h:Int):(a8t x h).Roots=x.Roots∧(a8t x h).Cells=x.Cells∧(a8t x h).T=x.T∧(a8t x h).Q=x.Q:=by
 unfold a8t;split;·split <;> exact⟨rfl,rfl,rfl,rfl⟩
 ·exact⟨rfl,rfl,rfl,rfl⟩
theorem c2t{x:Hp}(hR:SR x.S)(h:Int)(hd:U6 x.S h (D0 h)→1≤(ce x.S (D0 h)).Val.Weak):Ks x.S (a8t x h).S:=by
 unfold a8t;split
 ·rename_i q;have hd:=hd q;have kn:=a6y (d:=-1) hR q.1 q.2.1 (by omega)
  split
  ·rename_i c;have hi1:D0 h<(mkA x.S (D0 h) (-1)).S.Cells.length:=by rw[kn.len];exact q.1
   have hce:ce (mkA x.S (D0 h) (-1)) (D0 h)=⟨(ce x.S (D0 h)).State,(ce x.S (D0 h)).Gen,wkg (ce x.S (D0 h)).Val ((ce x.S (D0 h)).Val.Weak + -1)⟩:=by
    rw[a3l hR q.1 q.2.1,if_pos rfl]
   have h2:(ce (mkA x.S (D0 h) (-1)) (D0 h)).State=2:=by rw[hce];exact c.1
   exact (kn.ks rfl).trans (c9G kn.sr hi1 h2)
  ·exact kn.ks rfl
 ·exact Ks.refl hR
theorem c50{x:Hp}(hx:Q8 x){n:Nat}(hn:n<6)(h call:Int):Ks x.S (a3a x n h call).S:=by
 have hR:=hx.sh.sr;have hnl:n<x.Cells.length:=by have:=hx.sh.c6;omega
 have ok:∀k i,U6 x.S k i→0≤(ce x.S i).Val.Weak:=λk i q=>(hR.ok i q.1 q.2.1).wk;have tw:∀i,U6 x.S (tgt x n) i→1≤(ce x.S i).Val.Weak:=λi q=>by
  have htg:tgt x n=x.Cells[n].Target:=by
   unfold tgt;rw[List.getD_eq_getElem?_getD,List.getElem?_eq_getElem hnl];rfl
  have r:=q.rng hR;have p:=b1c hnl (by rw[←htg];omega)
  rw[←htg,q.2.2] at p;have:=(hx.wk i q.1 q.2.1).1;omega
 unfold a3a;have s1:Ks x.S (mkd (wC x (x.Cells.set n (wcl h call))) h 1).S:=c9V (x:=wC x (x.Cells.set n (wcl h call))) hR h λq=>by
  have:=ok _ _ q;dsimp only;omega
 by_cases q:U6 x.S h (D0 h)
 ·have e:mkd (wC x (x.Cells.set n (wcl h call))) h 1=wS (wC x (x.Cells.set n (wcl h call))) (mkA x.S (D0 h) 1):=by
   unfold mkd;rw[if_pos q]
  have hd:=ok _ _ q;have kn:=a6y (d:=1) hR q.1 q.2.1 (by omega)
  rw[e] at s1 ⊢;refine s1.trans (c2t (x:=wS (wC x (x.Cells.set n (wcl h call))) (mkA x.S (D0 h) 1)) kn.sr _ λq2=>?_);dsimp only at q2 ⊢;have q3:=(kn.ad _ _).1 q2;have:=tw _ q3;rw[a3l hR q.1 q.2.1];split
  ·rename_i e2;rw[e2] at this;show 1≤(ce x.S (D0 h)).Val.Weak+1;omega
  ·exact this
 ·have e:mkd (wC x (x.Cells.set n (wcl h call))) h 1=wC x (x.Cells.set n (wcl h call)):=by
   unfold mkd;rw[if_neg q]
  rw[e] at s1 ⊢;exact s1.trans (c2t (x:=wC x (x.Cells.set n (wcl h call))) hR _ λq2=>tw _ q2)
theorem b5m(x:Hp)(n:Nat)(h call:Int):(a3a x n h call).Roots=x.Roots∧(a3a x n h call).Cells=x.Cells.set n (wcl h call)∧(a3a x n h call).T=x.T∧(a3a x n h call).Q=x.Q:=by
 obtain⟨a,b,c,d⟩:=c3y (mkd (wC x (x.Cells.set n (wcl h call))) h 1) (tgt x n);obtain⟨a',b',c',d'⟩:=c4U (wC x (x.Cells.set n (wcl h call))) h 1;exact⟨a.trans a',b.trans b',c.trans c',d.trans d'⟩
end Go.Sh
namespace Go.Sh
abbrev nwo(s:a7)(n:Nat)(p:Int):k8:=⟨s.Serial+1,0,0,p,false,List.replicate n 0⟩
def mkS(s:a7)(i n:Nat)(p:Int):a7:=⟨⟨s.S.Cells.set i ⟨1,(ce s i).Gen,nwo s n p⟩,s.S.Last⟩,s.Serial+1⟩
section
variable{s:a7}(hR:SR s){i:Nat}(hi:i<s.S.Cells.length)(h0:(ce s i).State=0){n:Nat}(hn:n≤4){p:Int}(hp : -1≤p∧p≤5)
include hR hi h0 hn hp
theorem a5h:(mkS s i n p).S.Cells.length=s.S.Cells.length:=by simp[mkS]
theorem a7a(j:Nat):ce (mkS s i n p) j=if j=i then ⟨1,(ce s i).Gen,nwo s n p⟩ else ce s j:=a5w hi _ _ j
theorem b9f:SR (mkS s i n p):=by
 have hser:=hR.ser;have hc:=hR.cell i hi;have hnt:¬Th (ce s i):=λh=>by
  rcases h with h | h <;> omega
 refine⟨by rw[a5h hR hi h0 hn hp];exact hR.len,hR.l0,hR.l9,by show 0≤s.Serial+1;omega,λj hj=>?_,λj hj ht=>?_,λj hj ht=>?_,λj k hj hk a b e=>?_⟩
 ·rw[a5h hR hi h0 hn hp] at hj;rw[a7a hR hi h0 hn hp];split;·exact⟨show (0:Int)≤1 by decide,show (1:Int)≤3 by decide,hc.2.2.1,hc.2.2.2⟩
  ·exact hR.cell j hj
 ·rw[a5h hR hi h0 hn hp] at hj;rw[a7a hR hi h0 hn hp] at ht ⊢;split at ht;·exact absurd (.inl rfl) ht
  ·rename_i e;rw[if_neg e];exact hR.no j hj ht
 ·rw[a5h hR hi h0 hn hp] at hj;rw[a7a hR hi h0 hn hp] at ht ⊢;split at ht
  ·rename_i e;rw[if_pos e];exact⟨by show 1≤s.Serial+1;omega,Int.le_refl _,Int.le_refl 0,Int.le_refl 0,hp.1,hp.2,by simpa using hn⟩
  ·rename_i e;rw[if_neg e];have:=hR.ok j hj ht;exact⟨this.s1,by show _≤s.Serial+1;have:=this.s2;omega,this.st,this.wk,this.p1,this.p2,this.fl⟩
 ·rw[a5h hR hi h0 hn hp] at hj hk;rw[a7a hR hi h0 hn hp] at a e;rw[a7a hR hi h0 hn hp] at b e;have old:∀m,m<s.S.Cells.length→Th (ce s m)→(ce s m).Val.Serial≠s.Serial+1:=λm hm t q=>by
   have:=(hR.ok m hm t).s2;omega
  by_cases ej:j=i <;> by_cases ek:k=i
  ·rw[ej,ek]
  ·rw[if_neg ek] at b e;rw[if_pos ej] at e;exact absurd e.symm (old k hk b)
  ·rw[if_neg ej] at a e;rw[if_pos ek] at e;exact absurd e (old j hj a)
  ·rw[if_neg ej] at a e;rw[if_neg ek] at b e;exact hR.dif j k hj hk a b e
theorem c0C{k:Int}{j:Nat}(q:U6 s k j):j≠i:=λe=>by
 subst e;rcases q.2.1 with h | h <;> omega
theorem c9U{k:Int}{j:Nat}:U6 (mkS s i n p) k j↔U6 s k j∨(j=i∧k=hdl s i):=by
 unfold U6;rw[a5h hR hi h0 hn hp,a7a hR hi h0 hn hp];by_cases e:j=i
 ·rw[if_pos e];subst e;constructor
  ·rintro⟨a,b,c⟩;exact .inr ⟨rfl,c⟩
  ·rintro (⟨a,b,c⟩ | ⟨_,c⟩);·exact absurd rfl (c0C hR hi h0 hn hp ⟨a,b,c⟩)
   ·exact⟨hi,.inl rfl,c⟩
 ·rw[if_neg e];constructor;·exact .inl
  ·rintro (h | ⟨h,_⟩);·exact h
   ·exact absurd h e
theorem c1U:lv (mkS s i n p)=lv s ++ [hdl s i]:=by
 have e:=c0B (s:=s) (x4.2 hR) hi (by rw[←E4 hi];exact h0) (nwo s n p) rfl (a8N (x4.2 hR))
 unfold mkS;rw[show (ce s i).Gen=s.S.Cells[i].Gen by rw[E4 hi]]
 have e2:hdl s i=1+(i:Int)+32*s.S.Cells[i].Gen:=by unfold hdl;rw[E4 hi]
 rw[e2];have:=a8N (x4.2 (by have:=b9f hR hi h0 hn hp;unfold mkS at this;rw[show (ce s i).Gen=s.S.Cells[i].Gen by rw[E4 hi]] at this;exact this))
 rw[e] at this;exact (Option.some.inj this).symm
theorem c4S:hdl s i∉lv s:=λh=>by
 obtain⟨j,q⟩:=(a3s hR).1 h;have:i=j:=by
  have a:=q.2.2;have b:=q.1;unfold hdl at a;have:=hR.len;omega
 subst this;have:=q.2.1;omega
theorem b6q{k:Int}(hk:k∈lv s):ob (mkS s i n p) k=ob s k:=by
 obtain⟨j,q⟩:=(a3s hR).1 hk;have hj:=c0C hR hi h0 hn hp q.d;have q2:At (mkS s i n p) k j:=by
  refine⟨by rw[a5h hR hi h0 hn hp];exact q.1,?_,?_⟩ <;> rw[a7a hR hi h0 hn hp,if_neg hj]
  ·exact q.2.1
  ·exact q.2.2
 rw[O3 (b9f hR hi h0 hn hp) q2,O3 hR q,a7a hR hi h0 hn hp,if_neg hj]
theorem b2q:ob (mkS s i n p) (hdl s i)=nwo s n p:=by
 have q2:At (mkS s i n p) (hdl s i) i:=by
  refine⟨by rw[a5h hR hi h0 hn hp];exact hi,?_,?_⟩ <;> rw[a7a hR hi h0 hn hp,if_pos rfl]
  rfl
 rw[O3 (b9f hR hi h0 hn hp) q2,a7a hR hi h0 hn hp,if_pos rfl]
end
theorem b3J{l:List Int}{h:Int}(e:h∉l):U5 l h=0:=Nat.eq_zero_of_not_pos λq=>e (a6X.1 q).2
theorem c4T{x:Hp}(hx:Q8 x){i:Nat}(hi:i<x.S.S.Cells.length)(h0:(ce x.S i).State=0){n:Nat}(hn:n≤4){p:Int}(hp : -1≤p∧p≤5):Q8 (wS x (mkS x.S i n p)):=by
 have hR:=hx.sh.sr;have hS:=b9f hR hi h0 hn hp;have hl:=c1U hR hi h0 hn hp;have hnew:=c4S hR hi h0 hn hp;have mem:∀ {k},k∈lv x.S→k∈lv (mkS x.S i n p):=λhk=>by rw[hl];exact List.mem_append_left _ hk
 have mem0:∀ {k},k=0∨k∈lv x.S→k=0∨k∈lv (mkS x.S i n p):=λhk=>hk.imp id mem;have hpos:=b3u hR hi;have split:∀ {k},k∈lv (mkS x.S i n p)→k∈lv x.S∨k=hdl x.S i:=λhk=>by
  rw[hl] at hk;rcases List.mem_append.1 hk with q | q
  ·exact .inl q
  ·exact .inr (List.mem_singleton.1 q)
 have rep:∀v∈List.replicate n (0:Int),v=0:=λv hv=>(List.mem_replicate.1 hv).2;have ntgt:∀j (hj:j<x.Cells.length),x.Cells[j].Target≠hdl x.S i:=λj hj e=>by
  obtain⟨q,hq⟩:=(hx.sh.cl j hj).2.2.2.1 (by rw[e];omega)
  rw[e] at hq;have:q=i:=by
   have a:=hq.2.2;have b:=hq.1;unfold hdl at a;have:=hR.len;omega
  exact c0C hR hi h0 hn hp hq this
 refine⟨⟨hS,hx.sh.hr,hx.sh.r6,hx.sh.c6,hx.sh.cap,hx.sh.q30,λt ht=>?_,hx.sh.td,λh hh=>mem0 (hx.sh.rt h hh),λh hh v hv=>?_,λk v hk=>?_,λj hj=>?_⟩,λj hj ht=>?_,λh hh hs=>?_⟩
 ·obtain⟨a,b,c⟩:=hx.sh.tk t ht;refine⟨a,b,c.imp (λ⟨d,e,f⟩=>⟨d,mem e,?_⟩) id⟩;show (ob (mkS x.S i n p) t.At).Started=true;rw[b6q hR hi h0 hn hp e];exact f
 ·rcases split hh with q | q
  ·have hv':v∈(ob (mkS x.S i n p) h).Fields:=hv;rw[b6q hR hi h0 hn hp q] at hv';exact mem0 (hx.sh.fl h q v hv')
  ·subst q;have hv':v∈(ob (mkS x.S i n p) (hdl x.S i)).Fields:=hv;rw[b2q hR hi h0 hn hp] at hv';exact .inl (rep v hv')
 ·obtain⟨a,b⟩:=hx.sh.pr k v hk;exact⟨mem a,mem b⟩
 ·obtain⟨a,b,c,d,e⟩:=hx.sh.cl j hj;refine⟨a,b,c,λq=>?_,λq=>⟨mem (e q).1,(e q).2⟩⟩;obtain⟨m,hm⟩:=d q;exact⟨m,(c9U hR hi h0 hn hp).2 (.inl hm)⟩
 ·have hj':j<x.S.S.Cells.length:=by have:j<(mkS x.S i n p).S.Cells.length:=hj;rwa [a5h hR hi h0 hn hp] at this
  show (ce (mkS x.S i n p) j).Val.Weak=(nmg x.Cells (1+(j:Int)+32*(ce (mkS x.S i n p) j).Gen):Int)∧_;have ht':Th (ce (mkS x.S i n p) j):=ht;rw[a7a hR hi h0 hn hp] at ht' ⊢;by_cases e:j=i
  ·subst e;rw[if_pos rfl];refine⟨?_,λq=>absurd (show (1:Int)=2 from q) (by decide)⟩
   show (0:Int)=(nmg x.Cells (hdl x.S j):Int);have:nmg x.Cells (hdl x.S j)=0:=by
    unfold nmg;rw[List.countP_eq_zero];intro c hc;obtain⟨m,hm,rfl⟩:=List.getElem_of_mem hc;have:=ntgt m hm;simp[this]
   rw[this];rfl
  ·rw[if_neg e] at ht' ⊢;exact hx.wk j hj' ht'
 ·have hinn:∀y,inn (mkS x.S i n p) y=inn x.S y:=λy=>by
   unfold inn;rw[hl,List.map_append,List.sum_append];have e1:(lv x.S).map (λk=>U5 (outs (mkS x.S i n p) k) y)=(lv x.S).map λk=>U5 (outs x.S k) y:=List.map_congr_left λk hk=>by
    unfold outs;rw[b6q hR hi h0 hn hp hk]
   rw[e1];have e2:outs (mkS x.S i n p) (hdl x.S i) = []:=by
    refine List.eq_nil_iff_forall_not_mem.2 λv hv=>?_;have h1:=b0c.1 hv;rw[b2q hR hi h0 hn hp] at h1;exact h1.2 (rep v h1.1)
   simp[e2,P8]
  have hnm:∀y,nms (wS x (mkS x.S i n p)) y=nms x y:=λy=>by
   unfold nms;show inn (mkS x.S i n p) y+own x.T y+U5 (otr x) y=_;rw[hinn]
  rw[hnm];have hs':(ob (mkS x.S i n p) h).Strong<12:=hs;show (ob (mkS x.S i n p) h).Strong=_;rcases split hh with q | q
  ·rw[b6q hR hi h0 hn hp q] at hs' ⊢;exact hx.fair h q hs'
  ·subst q;rw[b2q hR hi h0 hn hp];have h1:nms x (hdl x.S i)=0:=by
    unfold nms;have a1:inn x.S (hdl x.S i)=0:=by
     unfold inn;have:=c08 (λk=>U5 (outs x.S k) (hdl x.S i)) 0 (lv x.S) λk hk=>Nat.le_of_eq<|b3J λq=>by
      have q2:=b0c.1 q;rcases hx.sh.fl k hk _ q2.1 with e | e
      ·exact q2.2 e
      ·exact hnew e
     omega
    have a2:own x.T (hdl x.S i)=0:=by
     unfold own;rw[List.countP_eq_zero];intro c hc;have:=(hx.sh.pr _ _ (a4W.1 hc)).2;have hne:c.Val≠hdl x.S i:=λe=>hnew (e▸this);simp[hne]
    have a3:U5 (otr x) (hdl x.S i)=0:=b3J λq=>by
     unfold otr at q;rcases List.mem_append.1 q with q | q
     ·have q2:=b0c.1 q;rcases hx.sh.rt _ q2.1 with e | e
      ·exact q2.2 e
      ·exact hnew e
     ·obtain⟨t,ht,k1,k2⟩:=b1b.1 q;rcases (hx.sh.tk t ht).2.2 with ⟨_,b,_⟩ | ⟨b,_⟩;·exact hnew (k2▸b)
      ·omega
    omega
   rw[h1,P8];rfl
end Go.Sh
namespace Go.Sh
structure Ev (x y:Hp):Prop where
 lv:∀h∈lv y.S,(h∈Sh.lv x.S∧(ob y.S h).Serial=(ob x.S h).Serial)∨(h∉Sh.lv x.S∧(ob y.S h).Serial=x.S.Serial+1)
 s1:x.S.Serial≤y.S.Serial
 s2:y.S.Serial≤x.S.Serial+1
theorem Ev.refl(x:Hp):Ev x x:=⟨λh hh=>.inl ⟨hh,rfl⟩,by omega,by omega⟩
theorem Ks.ev{x y:Hp}(k:Ks x.S y.S):Ev x y:=⟨λh hh=>by
 rw[k.lv] at hh;exact .inl ⟨hh,k.ob h hh⟩,by rw[k.ser];omega,by rw[k.ser];omega⟩
theorem Ev.ks{x y z:Hp}(e:Ev x y)(k:Ks y.S z.S):Ev x z:=⟨λh hh=>by
 rw[k.lv] at hh;rw[k.ob h hh];exact e.lv h hh,by rw[k.ser];exact e.s1,by rw[k.ser];exact e.s2⟩
theorem Ev.stl{x y z:Hp}(e:Ev x y)(s:Stl y z):Ev x z:=⟨λh hh=>by
 rw[(s.ob h hh).1];exact e.lv h (s.lv h hh),by rw[s.ser];exact e.s1,by rw[s.ser];exact e.s2⟩
theorem d1s{x:Hp}(hx:Q8 x){i:Nat}(hi:i<x.S.S.Cells.length)(h0:(ce x.S i).State=0){n:Nat}(hn:n≤4){p:Int}(hp : -1≤p∧p≤5):Ev x (wS x (mkS x.S i n p)):=⟨λh hh=>by
 have hR:=hx.sh.sr;have hh':h∈lv (mkS x.S i n p):=hh;show (_∧(ob (mkS x.S i n p) h).Serial=_)∨_∧(ob (mkS x.S i n p) h).Serial=_;rw[c1U hR hi h0 hn hp] at hh';rcases List.mem_append.1 hh' with q | q
 ·exact .inl ⟨q,by rw[b6q hR hi h0 hn hp q]⟩
 ·rw[List.mem_singleton.1 q];exact .inr ⟨c4S hR hi h0 hn hp,by rw[b2q hR hi h0 hn hp]⟩,by show _≤x.S.Serial+1;omega,Int.le_refl _⟩
def Cw(x y:Hp)(w:Int):Prop:=∀i:Nat,(i:Int)≠w→(y.Cells.getD i cz).Target=(x.Cells.getD i cz).Target∧((y.Cells.getD i cz).Intact=true→(x.Cells.getD i cz).Intact=true)
theorem Cw.refl(x:Hp)(w:Int):Cw x x w:=λi _=>⟨rfl,id⟩
theorem Cw.same{x y:Hp}(h:y.Cells=x.Cells)(w:Int):Cw x y w:=λi _=>by rw[h];exact⟨rfl,id⟩
theorem Cw.trans{x y z:Hp}{w:Int}(a:Cw x y w)(b:Cw y z w):Cw x z w:=λi hi=>⟨(b i hi).1.trans (a i hi).1,λq=>(a i hi).2 ((b i hi).2 q)⟩
theorem Stl.cw{x y:Hp}(s:Stl x y)(w:Int):Cw x y w:=λi _=>by
 by_cases h:i<x.Cells.length
 ·have h':i<y.Cells.length:=by rw[s.cn];exact h
  rw[E5 h,E5 h',s.cl i h' h];exact⟨rfl,λq=>(Bool.and_eq_true _ _▸q).1⟩
 ·have h':¬i<y.Cells.length:=by rw[s.cn];exact h
  rw[List.getD_eq_getElem?_getD,List.getD_eq_getElem?_getD,List.getElem?_eq_none (by omega),List.getElem?_eq_none (by omega)]
  exact⟨rfl,id⟩
theorem Cw.set{x y:Hp}{w:Nat}{c:g5}(h:y.Cells=x.Cells.set w c):Cw x y w:=λi hi=>by
 rw[h,List.getD_eq_getElem?_getD,List.getD_eq_getElem?_getD,List.getElem?_set_ne (by omega)]
 exact⟨rfl,id⟩
end Go.Sh
namespace Go.Sh
def Fst(s:a7)(i:Nat):Prop:=i<s.S.Cells.length∧(ce s i).State=0∧∀j,j<i→(ce s j).State≠0
theorem d1m{s:a7}(hR:SR s)(hb:s.Serial<9223372036854775807)(a p:Int) :
  (¬(0≤a∧a≤4)∧R6 s a p=some (s,0,1)) ∨
  ((0≤a∧a≤4)∧¬(-1≤p∧p≤5)∧R6 s a p=some (s,0,13)) ∨
  ((0≤a∧a≤4)∧(-1≤p∧p≤5)∧(∀i,i<s.S.Cells.length→(ce s i).State≠0)∧R6 s a p=some (s,0,4)) ∨
  ((0≤a∧a≤4)∧(-1≤p∧p≤5)∧∃i,Fst s i∧R6 s a p=some (mkS s i a.toNat p,hdl s i,0)):=by
 have hs':=hR.ser;have hR':=x4.2 hR;unfold R6 b8s;by_cases ha:0≤a∧a≤4
 ·right;obtain⟨ha1,ha2⟩:=ha;obtain⟨n,rfl⟩:∃n:Nat,a=n:=⟨a.toNat,by omega⟩
  rw[if_neg (by simp;omega),b4A (by omega) (by omega)]
  simp only[d3v];by_cases hp : -1≤p∧p≤5
  ·right;unfold I7;simp only[d3v];have e1:(decide (p ≥ -1)&&decide (p<6))=true:=by simp;omega
   rw[e1];have hl:SlO s.S:=⟨a2s hR',hR'.l0,hR'.l9,λi hi=>b76 hR' i hi⟩;rcases b8m hl ⟨s.Serial+1,0,0,p,false,List.replicate n 0⟩ with ⟨i,hi,h0,hf,e⟩ | ⟨hf,e⟩
   ·right;refine⟨⟨ha1,ha2⟩,hp,i,⟨hi,by rw[E4 hi];exact h0,λj hj=>by rw[E4 (by omega)];exact hf j hj⟩,?_⟩
    simp only[bne_self_eq_false,Bool.false_eq_true,if_false,Bool.not_true];rw[show u9 (s.Serial+1)=s.Serial+1 from C9 (by omega) (by omega),e]
    unfold mkS hdl;rw[E4 hi];simp
   ·left;refine⟨⟨ha1,ha2⟩,hp,λi hi=>by rw[E4 hi];exact hf i hi,?_⟩
    simp only[bne_self_eq_false,Bool.false_eq_true,if_false,Bool.not_true];rw[show u9 (s.Serial+1)=s.Serial+1 from C9 (by omega) (by omega),e]
    simp
  ·left;refine⟨⟨ha1,ha2⟩,hp,?_⟩;unfold I7;simp only[d3v];have e1:(decide (p ≥ -1)&&decide (p<6))=false:=by rw[Bool.eq_false_iff];simp;omega
   rw[e1];simp
 ·left;refine⟨ha,?_⟩;rw[if_pos (by simp;omega)]
  simp
end Go.Sh
namespace Go.Sh
def sd(x:Hp)(r:Int):Int:=if r<0 then 0 else x.Roots.getD r.toNat 0
def asd(x:Hp)(r:Int):Int × Int:=if sd x r=0 then (0,2) else (sd x r,0)
def ser(x:Hp)(h:Int):Int:=(ob x.S h).Serial
theorem in0{n l m e:Int}(he:e≠0)(h:M8 n l m e=0):l≤n∧n≤m:=by
 unfold M8 at h;split at h;·exact absurd h he
 ·omega
theorem c0l{a b c:Int}(h:a0C a b c=0):a=0∧b=0∧c=0:=by
 unfold a0C at h;split at h;·contradiction
 ·split at h;·contradiction
  ·omega
theorem c1O{k a b c:Int}(h:C3 k a b c=0):1≤k∧k≤12:=by
 refine Decidable.byContradiction λq=>?_;have:C3 k a b c=14:=by
  unfold C3;repeat rw[if_neg (by omega)]
 omega
theorem d2t{a b c:Int}(h:C3 1 a b c=0):(0≤a∧a≤5)∧(0≤b∧b≤4) ∧ -1≤c∧c≤5:=by
 obtain⟨h1,h2,h3⟩:=c0l (show a0C (M8 a 0 5 6) (M8 b 0 4 1) (M8 c (-1) 5 13)=0 from h);exact⟨in0 (by decide) h1,in0 (by decide) h2,in0 (by decide) h3⟩
theorem c9p{a b c:Int}(h:C3 2 a b c=0):(0≤a∧a≤5)∧(0≤b∧b≤5):=by
 obtain⟨h1,h2,_⟩:=c0l (show a0C (M8 a 0 5 6) (M8 b 0 5 6) 0=0 from h);exact⟨in0 (by decide) h1,in0 (by decide) h2⟩
theorem d2u{a b c:Int}(h:C3 3 a b c=0):0≤a∧a≤5:=in0 (by decide) (show M8 a 0 5 6=0 from h)
theorem d2v{a b c:Int}(h:C3 4 a b c=0):(0≤a∧a≤5)∧(0≤b∧b≤5)∧0≤c∧c≤3:=by
 obtain⟨h1,h2,h3⟩:=c0l (show a0C (M8 a 0 5 6) (M8 b 0 5 6) (M8 c 0 3 5)=0 from h);exact⟨in0 (by decide) h1,in0 (by decide) h2,in0 (by decide) h3⟩
theorem d2w{a b c:Int}(h:C3 5 a b c=0):(0≤a∧a≤5)∧(0≤b∧b≤3) ∧ -1≤c∧c≤5:=by
 obtain⟨h1,h2,h3⟩:=c0l (show a0C (M8 a 0 5 6) (M8 b 0 3 5) (M8 c (-1) 5 6)=0 from h);exact⟨in0 (by decide) h1,in0 (by decide) h2,in0 (by decide) h3⟩
theorem d2x{a b c:Int}(h:C3 6 a b c=0):(0≤a∧a≤5)∧(-1≤b∧b≤5) ∧ -1≤c∧c≤5:=by
 obtain⟨h1,h2,h3⟩:=c0l (show a0C (M8 a 0 5 7) (M8 b (-1) 5 6) (M8 c (-1) 5 13)=0 from h);exact⟨in0 (by decide) h1,in0 (by decide) h2,in0 (by decide) h3⟩
theorem d2y{a b c:Int}(h:C3 7 a b c=0):(0≤a∧a≤5)∧(0≤b∧b≤5):=by
 obtain⟨h1,h2,_⟩:=c0l (show a0C (M8 a 0 5 6) (M8 b 0 5 7) 0=0 from h);exact⟨in0 (by decide) h1,in0 (by decide) h2⟩
theorem d2z{a b c:Int}(h:C3 8 a b c=0):(0≤a∧a≤5)∧(-1≤b∧b≤5):=by
 obtain⟨h1,h2,_⟩:=c0l (show a0C (M8 a 0 5 6) (M8 b (-1) 5 6) 0=0 from h);exact⟨in0 (by decide) h1,in0 (by decide) h2⟩
theorem d2A{a b c:Int}(h:C3 9 a b c=0):(0≤a∧a≤5)∧(0≤b∧b≤5):=c9p (show C3 2 a b c=0 from h)
theorem d09{a b c:Int}(h:C3 10 a b c=0):(0≤a∧a≤5)∧(0≤b∧b≤5):=c9p (show C3 2 a b c=0 from h)
section
variable{x:Hp}(hx:HpS x)
include hx
theorem b1F{r:Int}(h:0≤r∧r≤5):ix x.Roots r=some (sd x r):=by
 have:=hx.r6;obtain⟨n,rfl⟩:∃n:Nat,r=n:=⟨r.toNat,by omega⟩
 have hn:n<x.Roots.length:=by omega
 rw[o0 hn];unfold sd;rw[if_neg (by omega),Int.toNat_natCast,List.getD_eq_getElem?_getD,List.getElem?_eq_getElem hn]
 rfl
theorem b45{r:Int}(h:¬(0≤r∧r≤5)):sd x r=0:=by
 have:=hx.r6;unfold sd;split;·rfl
 ·rw[List.getD_eq_getElem?_getD,List.getElem?_eq_none (by omega)]
  rfl
theorem b23(r:Int):sd x r=0∨sd x r∈lv x.S:=by
 by_cases h:0≤r∧r≤5
 ·have e:=b1F hx h;unfold ix at e;rw[if_pos h.1] at e;exact hx.rt _ (List.mem_of_getElem? e)
 ·exact .inl (b45 hx h)
theorem b24(r:Int):sd x r≤9223372036854775807:=by
 rcases b23 hx r with h | h
 ·omega
 ·have:=J4 hx.sr h;omega
theorem a6O(r:Int):L0 x r=some (sd x r):=by
 have h6:=hx.r6;unfold L0;by_cases h:0≤r∧r≤5
 ·rw[if_neg (by simp;omega),b1F hx h]
  rfl
 ·rw[if_pos (by simp;omega),b45 hx h]
theorem c5K{r:Int}(h:r≤5):a5N (hO x) r=some (sd x r):=by
 unfold a5N;by_cases q:r<0
 ·rw[if_pos (by simpa using q),b45 hx (by omega)]
 ·rw[if_neg (by simpa using q),show (hO x).Roots=x.Roots from rfl,b1F hx (by omega)]
  rfl
theorem a5F(r:Int):L6 x r=some (asd x r):=by
 unfold L6 asd;rw[a6O hx,d3v];by_cases h:sd x r=0
 ·rw[if_pos (by simpa using h),if_pos h]
 ·rw[if_neg (by simpa using h),if_neg h]
theorem b0C{r:Int}(h:0≤r∧r≤5):X5 (hO x) r=some (asd x r):=by
 unfold X5 asd;rw[show (hO x).Roots=x.Roots from rfl,b1F hx h,d3v];by_cases h:sd x r=0
 ·rw[if_pos (by simpa using h),if_pos h]
 ·rw[if_neg (by simpa using h),if_neg h]
theorem d0E{h:Int}(hh:h≤9223372036854775807):a1L x h=some (ser x h):=by
 obtain⟨e,h1,_⟩:=V4 (x4.2 hx.sr) hh;unfold a1L;rw[h1];rfl
theorem c8O{h:Int}(hh:h≤9223372036854775807):a4g (hO x) h=some (ser x h):=by
 obtain⟨e,h1,_⟩:=V4 (x4.2 hx.sr) hh;unfold a4g;rw[show (hO x).S=sO x.S from rfl,a4M x.S (by have:=hx.sr.len;omega) hh,h1]
 rfl
theorem c1D(r:Int):V6 x r=some (ser x (sd x r)):=by
 unfold V6;rw[a6O hx,d3v,d0E hx (b24 hx r)];rfl
theorem c2o:ser x 0=0:=by
 unfold ser;rw[a9O (x4.2 hx.sr) (by omega) (b2m hx.sr)]
theorem d08(r:Int):b2v (hO x) r=some (ser x (sd x r)):=by
 unfold b2v;by_cases h:0≤r∧r≤5
 ·rw[if_neg (by simp;omega),show (hO x).Roots=x.Roots from rfl,b1F hx h,d3v,c8O hx (b24 hx r)]
  rfl
 ·rw[if_pos (by simp;omega),b45 hx h,c2o hx]
end
theorem d0F{x z:Hp}(hx:HpS x)(k:Ks x.S z.S){h:Int}(hh:h=0∨h∈lv x.S):ser z h=ser x h:=by
 rcases hh with e | e
 ·subst e;unfold ser;rw[a9O (x4.2 hx.sr) (by omega) (b2m hx.sr),a9O (x4.2 k.sr) (by omega) (b2m k.sr)]
 ·exact k.ob h e
theorem c77{x z:Hp}(h:z.Roots=x.Roots)(r:Int):sd z r=sd x r:=by unfold sd;rw[h]
noncomputable def doR(x:Hp)(o:j1)(v:Hp × Int):Option (Hp × Int × Int):=
 if (v.2 != 0) then some (x,0,v.2) else (R5 v.1).bind λv5=>(T6 v.1 v5 o).bind λv6=>some (v5,v6,0)
theorem a9E{x:Hp}{o:j1}{n:Option Nat}(hc:C3 o.Kind o.A o.B o.C=0)(hk:∃l,a2I=some l∧A9 l o.Kind=some n):u7 x o=(b3s n ⟨x,o⟩).bind (doR x o):=by
 obtain⟨l,h1,h2⟩:=hk;unfold u7;rw[b38,hc,d3v,if_neg (by simp),h1,d3v,h2,if_neg (by simp)]
 rfl
theorem c4h{x:Hp}{o:j1}(hc:C3 o.Kind o.A o.B o.C≠0):u7 x o=some (x,0,C3 o.Kind o.A o.B o.C)∧C8 (hO x) ⟨o.Kind,o.A,o.B,o.C⟩=some (hO x,0,C3 o.Kind o.A o.B o.C):=by
 constructor
 ·unfold u7;rw[b38,d3v,if_pos (by simpa using hc)]
 ·unfold C8;rw[a6h,d3v,if_pos (by simpa using hc)]
section
variable{x:Hp}{a b c:Int}
theorem d2B(hc:C3 1 a b c=0):u7 x ⟨1,a,b,c⟩=(R7 ⟨x,⟨1,a,b,c⟩⟩).bind (doR x ⟨1,a,b,c⟩):=a9E (o:=⟨1,a,b,c⟩) (n:=some 242) hc ⟨_,rfl,rfl⟩
theorem d2C(hc:C3 2 a b c=0):u7 x ⟨2,a,b,c⟩=(I2 ⟨x,⟨2,a,b,c⟩⟩).bind (doR x ⟨2,a,b,c⟩):=a9E (o:=⟨2,a,b,c⟩) (n:=some 243) hc ⟨_,rfl,rfl⟩
theorem d2D(hc:C3 3 a b c=0):u7 x ⟨3,a,b,c⟩=(Z0 ⟨x,⟨3,a,b,c⟩⟩).bind (doR x ⟨3,a,b,c⟩):=a9E (o:=⟨3,a,b,c⟩) (n:=some 244) hc ⟨_,rfl,rfl⟩
theorem d2E(hc:C3 4 a b c=0):u7 x ⟨4,a,b,c⟩=(Z1 ⟨x,⟨4,a,b,c⟩⟩).bind (doR x ⟨4,a,b,c⟩):=a9E (o:=⟨4,a,b,c⟩) (n:=some 245) hc ⟨_,rfl,rfl⟩
theorem d2F(hc:C3 5 a b c=0):u7 x ⟨5,a,b,c⟩=(V7 ⟨x,⟨5,a,b,c⟩⟩).bind (doR x ⟨5,a,b,c⟩):=a9E (o:=⟨5,a,b,c⟩) (n:=some 246) hc ⟨_,rfl,rfl⟩
theorem d2G(hc:C3 6 a b c=0):u7 x ⟨6,a,b,c⟩=(R8 ⟨x,⟨6,a,b,c⟩⟩).bind (doR x ⟨6,a,b,c⟩):=a9E (o:=⟨6,a,b,c⟩) (n:=some 247) hc ⟨_,rfl,rfl⟩
theorem d2H(hc:C3 7 a b c=0):u7 x ⟨7,a,b,c⟩=(W2 ⟨x,⟨7,a,b,c⟩⟩).bind (doR x ⟨7,a,b,c⟩):=a9E (o:=⟨7,a,b,c⟩) (n:=some 248) hc ⟨_,rfl,rfl⟩
theorem d2I(hc:C3 8 a b c=0):u7 x ⟨8,a,b,c⟩=(Z2 ⟨x,⟨8,a,b,c⟩⟩).bind (doR x ⟨8,a,b,c⟩):=a9E (o:=⟨8,a,b,c⟩) (n:=some 249) hc ⟨_,rfl,rfl⟩
theorem d2J(hc:C3 9 a b c=0):u7 x ⟨9,a,b,c⟩=(a0w ⟨x,⟨9,a,b,c⟩⟩).bind (doR x ⟨9,a,b,c⟩):=a9E (o:=⟨9,a,b,c⟩) (n:=some 250) hc ⟨_,rfl,rfl⟩
theorem d1e(hc:C3 10 a b c=0):u7 x ⟨10,a,b,c⟩=(P4 ⟨x,⟨10,a,b,c⟩⟩).bind (doR x ⟨10,a,b,c⟩):=a9E (o:=⟨10,a,b,c⟩) (n:=some 251) hc ⟨_,rfl,rfl⟩
theorem b63{k:Int}(hk:k=11∨k=12)(hc:C3 k a b c=0):u7 x ⟨k,a,b,c⟩=some (x,0,14)∧C8 (hO x) ⟨k,a,b,c⟩=some (hO x,0,14):=by
 constructor
 ·unfold u7;rw[b38,hc,d3v,if_neg (by simp)]
  rcases hk with rfl | rfl <;> rfl
 ·unfold C8 Q1;rw[a6h,hc,d3v,if_neg (by simp)]
  rcases hk with rfl | rfl <;> rfl
variable{y:g9}
def rT(y:g9)(a:Int)(v:Int × Int):Option (g9 × Int × Int):=
 if (v.2 != 0) then some (y,0,v.2) else (W3 y a v.1).bind λv15=>(R2 v15.1).bind λv16=>(b2v v16 a).bind λv17=>some (v16,v17,0)
def rO(y:g9)(v:g9 × Int × Int):Option (g9 × Int × Int):=
 if (v.2.2 != 0) then some (y,0,v.2.2) else (R2 v.1).bind λv8=>(a4g y v.2.1).bind λv9=>some (v8,v9,0)
theorem c2e{k:Int}(hk:k=2∨k=3∨k=4∨k=7∨k=9)(hc:C3 k a b c=0):C8 y ⟨k,a,b,c⟩=(a2o y ⟨k,a,b,c⟩).bind (rT y a):=by
 unfold C8 Q1;rw[a6h,hc,d3v,if_neg (by simp)]
 rcases hk with rfl | rfl | rfl | rfl | rfl <;> rfl
theorem c2d{k:Int}(hk:k=5∨k=6∨k=8)(hc:C3 k a b c=0):C8 y ⟨k,a,b,c⟩=(a1n y ⟨k,a,b,c⟩).bind (rO y):=by
 unfold C8 Q1;rw[a6h,hc,d3v,if_neg (by simp)]
 rcases hk with rfl | rfl | rfl <;> rfl
theorem d1L(hc:C3 1 a b c=0):C8 y ⟨1,a,b,c⟩=(a21 y.S b c).bind λv10=>if (v10.2.2 != 0) then some (y,0,v10.2.2) else (W3 ⟨v10.1,y.Roots,y.Cells,y.T,y.Q⟩ a v10.2.1).bind λv11=>(R2 v11.1).bind λv12=>(b2v v12 a).bind λv13=>some (v12,v13,0):=by
 unfold C8 Q1;rw[a6h,hc,d3v,if_neg (by simp)]
 rfl
theorem d0v(hc:C3 10 a b c=0):C8 y ⟨10,a,b,c⟩=(ix y.Roots a).bind λv3=>(ix y.Roots b).bind λv4=>if (v3==v4) then some (y,1,0) else some (y,0,0):=by
 unfold C8 Q1;rw[a6h,hc,d3v,if_neg (by simp)]
 rfl
end
end Go.Sh
namespace Go.Sh
section
variable{s:a7}(hR:SR s){i:Nat}(hi:i<s.S.Cells.length)
include hR hi
theorem d0P(st g:Int):a1a (sO s) ⟨(pl (sO s)).Cells.set i ⟨st,g,0⟩,(pl (sO s)).Last⟩=some ⟨(sO s).Cells.set i ⟨st,g,oo (ce s i).Val⟩,s.S.Last,s.Serial⟩:=by
 have hlen:=hR.len;have L5:i<(pl (sO s)).Cells.length:=by rw[a08,A7];exact hi
 rw[b5i _ _ (by rw[A7];omega) (by simp[a08])]
 congr 1;congr 1;refine List.ext_getElem (by simp) λk h1 h2=>?_
 have hk:k<s.S.Cells.length:=by simpa[A7] using h1
 have hk2:k<(sO s).Cells.length:=by rw[A7];exact hk
 have hk3:k<(pl (sO s)).Cells.length:=by rw[a08];exact hk2
 simp only[List.getElem_map,List.getElem_range,List.getElem_set];have e1:(sO s).Cells.getD k ⟨0,0,oo z0⟩=cO (ce s k):=by
  rw[List.getD_eq_getElem?_getD,List.getElem?_eq_getElem hk2,E4 hk];simp[sO]
 have e2:((pl (sO s)).Cells.set i ⟨st,g,0⟩).getD k ⟨0,0,0⟩=if k=i then ⟨st,g,0⟩ else plc k (cO (ce s k)):=by
  rw[a5w L5];split;·rfl
  ·rw[List.getD_eq_getElem?_getD,List.getElem?_eq_getElem hk3,E4 hk];simp[pl,sO]
 rw[e1,e2];by_cases e:k=i
 ·subst e;rw[if_pos rfl,if_pos rfl];rfl
 ·rw[if_neg e,if_neg (Ne.symm e)];rw[E4 hk];simp[sO,plc,cO]
theorem d0Q(st g:Int)(o:B2):a23 ⟨(sO s).Cells.set i ⟨st,g,oo (ce s i).Val⟩,s.S.Last,s.Serial⟩ (i:Int) o=some ⟨(sO s).Cells.set i ⟨st,g,o⟩,s.S.Last,s.Serial⟩:=by
 have hlen:=hR.len;unfold a23;have hi2:i<((sO s).Cells.set i ⟨st,g,oo (ce s i).Val⟩).length:=by simp[A7];exact hi
 rw[P7 (by omega) (by simp[A7];omega),d3v,o0 hi2,d3v]
 simp[List.set_set]
theorem c5m:∃h:i<(pl (sO s)).Cells.length,(pl (sO s)).Cells[i]=⟨(ce s i).State,(ce s i).Gen,(i:Int)⟩:=by
 have L5:i<(pl (sO s)).Cells.length:=by rw[a08,A7];exact hi
 refine⟨L5,?_⟩;rw[E4 hi];simp[pl,sO,plc,cO]
end
theorem d0N{s:a7}(hR:SR s):(∀i,i<s.S.Cells.length→(ce s i).State≠0)→a74 (pl (sO s)) 0=some (pl (sO s),0,4):=λhf=>by
 have hlen:=hR.len;have el:(pl (sO s)).Cells.length=s.S.Cells.length:=by rw[a08,A7]
 unfold a74;simp only[jn];refine F4 (pl (sO s)).Cells.length (λk=>True) (by omega) trivial (λk hk _=>?_) (λhP=>⟨.inr (),by simp,rfl⟩)
 refine .inl ⟨?_,trivial⟩;obtain⟨h1,h2⟩:=c5m hR (show k<s.S.Cells.length by omega)
 have:=hf k (by omega)
 simp only[Int.ofNat_lt,hk,decide_true,if_true,o0 hk,d3v];rw[h2,if_neg (by simpa using this),j5]
theorem c8e{s:a7}(hR:SR s){i:Nat}(hF:Fst s i):a74 (pl (sO s)) 0=some (⟨(pl (sO s)).Cells.set i ⟨1,(ce s i).Gen,0⟩,(pl (sO s)).Last⟩,hdl s i,0):=by
 have hlen:=hR.len;have el:(pl (sO s)).Cells.length=s.S.Cells.length:=by rw[a08,A7]
 obtain⟨hi,h0,hmin⟩:=hF;have hc:=hR.cell i hi;have l9:=hR.l9;unfold a74;simp only[jn];refine F4 (pl (sO s)).Cells.length (λk=>k≤i) (by omega) (by omega) (λk hk hP=>?_) (λhP=>by omega)
 obtain⟨h1,h2⟩:=c5m hR (show k<s.S.Cells.length by omega)
 rcases Nat.lt_or_ge k i with g | g
 ·refine .inl ⟨?_,g⟩;have:=hmin k g;simp only[Int.ofNat_lt,hk,decide_true,if_true,o0 hk,d3v];rw[h2,if_neg (by simpa using this),j5]
 ·have:k=i:=by omega
  subst this;refine .inr ⟨.inl _,?_,rfl⟩;simp only[Int.ofNat_lt,hk,decide_true,if_true,o0 hk,d3v];rw[h2,if_pos (by simpa using h0)]
  have w3:∀c:B5,a0R (pl (sO s)) (k:Int) c=some ⟨(pl (sO s)).Cells.set k c,(pl (sO s)).Last⟩:=λc=>by
   unfold a0R;rw[P7 (by omega) (by omega),d3v,o0 hk,d3v,Int.toNat_natCast]
  rw[w3,d3v,a4X,if_pos (by dsimp only;omega),d3v]
  rfl
theorem d1o{s:a7}(hR:SR s)(hb:s.Serial<9223372036854775807)(a p:Int) :
  (∃e,e≠0∧R6 s a p=some (s,0,e)∧a21 (sO s) a p=some (sO s,0,e)) ∨
  ((0≤a∧a≤4)∧(-1≤p∧p≤5)∧∃i,Fst s i∧R6 s a p=some (mkS s i a.toNat p,hdl s i,0)∧a21 (sO s) a p=some (sO (mkS s i a.toNat p),hdl s i,0)):=by
 have hser:=hR.ser;have hlen:=hR.len;have r1:∀n:Nat,n≤4→b3E (n:Int)=some (List.replicate n 0,0):=λn hn=>by
  unfold b3E;rw[if_neg (by simp;omega),b4A (by omega) (by omega)]
  rfl
 rcases d1m hR hb a p with ⟨h1,e⟩ | ⟨h1,h2,e⟩ | ⟨h1,h2,h3,e⟩ | ⟨h1,h2,i,h3,e⟩
 ·refine .inl ⟨1,by decide,e,?_⟩
  unfold a21 b3E;rw[if_pos (by simp;omega)]
  rfl
 ·refine .inl ⟨13,by decide,e,?_⟩
  obtain⟨n,rfl⟩:∃n:Nat,a=n:=⟨a.toNat,by omega⟩
  unfold a21;rw[r1 n (by omega),d3v,if_neg (by simp),if_pos (by simp;omega)]
 ·refine .inl ⟨4,by decide,e,?_⟩
  obtain⟨n,rfl⟩:∃n:Nat,a=n:=⟨a.toNat,by omega⟩
  unfold a21;rw[r1 n (by omega),d3v,if_neg (by simp),if_neg (by simp;omega),a2J _ (by rw[A7];omega),d3v,d0N hR h3,d3v,if_pos (by simp)]
 ·refine .inr ⟨h1,h2,i,h3,e,?_⟩;obtain⟨n,rfl⟩:∃n:Nat,a=n:=⟨a.toNat,by omega⟩
  have hi:=h3.1;have hc:=hR.cell i hi;have l9:=hR.l9;unfold a21;rw[r1 n (by omega),d3v,if_neg (by simp),if_neg (by simp;omega),a2J _ (by rw[A7];omega),d3v,c8e hR h3,d3v,if_neg (by simp),d0P hR hi,d3v,a72,if_pos (by unfold Hnd hdl;dsimp only;omega),d3v,
   show (hdl s i-1) % 32=(i:Int) by unfold hdl;omega,d0Q hR hi,d3v,C9 (by show _≤s.Serial+1;omega) (by show s.Serial+1≤_;omega)]
  unfold mkS;rw[Int.toNat_natCast];simp only[sO,List.map_set];rfl
end Go.Sh
namespace Go.Sh
abbrev opR(o:j1):w9:=⟨o.Kind,o.A,o.B,o.C⟩
structure Dn (x:Hp) (o:j1) (z:Hp) (v:Int):Prop where
 rt:Q8 z
 sl:SL z
 ev:Ev x z
 cw:Cw x z (if o.Kind=6 then o.A else -1)
 mc:u7 x o=some (a1S z,v,0)
 rf:C8 (hO x) (opR o)=some (hO (a1S z),v,0)
def Er(x:Hp)(o:j1)(e:Int):Prop:=e≠0∧u7 x o=some (x,0,e)∧C8 (hO x) (opR o)=some (hO x,0,e)
theorem d1t{x:Hp}(hx:Q8 x)(hS:SL x){i:Nat}(hi:i<x.S.S.Cells.length)(h0:(ce x.S i).State=0){n:Nat}(hn:n≤4){p:Int}(hp : -1≤p∧p≤5):SL (wS x (mkS x.S i n p)):=λk hk=>by
 have hR:=hx.sh.sr;have hk':k∈lv (mkS x.S i n p):=hk;show (ob (mkS x.S i n p) k).Strong≤_;rw[c1U hR hi h0 hn hp] at hk';rcases List.mem_append.1 hk' with q | q
 ·rw[b6q hR hi h0 hn hp q];exact hS k q
 ·rw[List.mem_singleton.1 q,b2q hR hi h0 hn hp];show (0:Int)≤_;decide
theorem a88{y:Hp}(hy:Q8 y){a:Int}(ha:0≤a∧a≤5){h:Int}(hh:h=0∨h∈lv y.S):sd (a1S (G5 y a.toNat h)) a=h∧ser (a1S (G5 y a.toNat h)) h=ser y h:=by
 have hz:=a0j hy (r:=a.toNat) (by omega) hh
 have st:=a8o hz;have w:=a2u hz;have e1:(a1S (G5 y a.toNat h)).Roots=y.Roots.set a.toNat h:=st.rt.trans (a4j y a.toNat h).1;have h6:=hy.sh.r6;have e2:sd (a1S (G5 y a.toNat h)) a=h:=by
  unfold sd;rw[if_neg (by omega),e1,List.getD_eq_getElem?_getD,List.getElem?_set_self (by omega)]
  rfl
 refine⟨e2,?_⟩;have k:=a1Q hy.sh.sr a.toNat h;rcases b23 w.sh a with q | q
 ·rw[e2] at q;subst q;rw[c2o w.sh,c2o hy.sh]
 ·rw[e2] at q;have h1:=(st.ob h q).1;have h2:=st.lv h q;rw[k.lv] at h2;exact h1.trans (k.ob h h2)
section
variable{x:Hp}{a b c:Int}
theorem a63{o:j1}{y:Hp}{e:Int}(he:e≠0):doR x o (y,e)=some (x,0,e):=by
 unfold doR;rw[if_pos (by simpa using he)]
theorem c8t{z:Hp}(hz:Q8 z)(hS:SL z){k:Int}(hk:k≠5∧k≠6∧k≠8∧k≠10):doR x ⟨k,a,b,c⟩ (z,0)=some (a1S z,ser (a1S z) (sd (a1S z) a),0):=by
 unfold doR T6;rw[if_neg (by simp),a5U hz hS,d3v]
 simp only[jn];rw[if_neg (by simp;omega),if_neg (by simp;omega)]
 have:(k==8)=false:=by simp;omega
 rw[this,if_neg (by simp),if_neg (by simp;omega),c1D (a2u hz).sh]
 rfl
theorem c1a{o:j1}{v e:Int}(he:e≠0):B1 ⟨x,o⟩ v e=some (x,e):=by
 unfold B1;rw[if_pos (by simpa using he)]
theorem c5u{y:g9}{v e:Int}(he:e≠0):rT y a (v,e)=some (y,0,e):=by
 unfold rT;rw[if_pos (by simpa using he)]
theorem c3i{y z:g9}{v e:Int}(he:e≠0):rO y (z,v,e)=some (y,0,e):=by
 unfold rO;rw[if_pos (by simpa using he)]
variable(hx:Q8 x)(hS:SL x)
include hx hS
theorem a9g{k:Int}(ha:0≤a∧a≤5){h:Int}(hh:h=0∨h∈lv x.S):B1 ⟨x,⟨k,a,b,c⟩⟩ h 0=some (G5 x a.toNat h,0):=by
 unfold B1;rw[if_neg (by simp),c2j hx hS a (b08 hx hS hh),if_neg (by omega),if_pos hh]
 rfl
theorem d1G(ha:0≤a∧a≤5){h:Int}(hh:h=0∨h∈lv x.S):rT (hO x) a (h,0)=some (hO (a1S (G5 x a.toNat h)),ser x h,0):=by
 have hz:=a0j hx (r:=a.toNat) (by omega) hh
 have zS:=a4k hx.sh.sr hS a.toNat h;obtain⟨e1,e2⟩:=a88 hx ha hh;unfold rT;rw[if_neg (by simp),c0Y hx hS a (b08 hx hS hh),if_neg (by omega),if_pos hh,d3v,a8p hz zS,d3v,d08 (a2u hz).sh,e1,e2]
 rfl
theorem a5X{k:Int}(hk:k=2∨k=3∨k=4∨k=7∨k=9)(hc:C3 k a b c=0)(ha:0≤a∧a≤5){h:Int}(hh:h=0∨h∈lv x.S)
  (h1:u7 x ⟨k,a,b,c⟩=doR x ⟨k,a,b,c⟩ (G5 x a.toNat h,0))(h2:a2o (hO x) ⟨k,a,b,c⟩=some (h,0)):Dn x ⟨k,a,b,c⟩ (G5 x a.toNat h) (ser x h):=by
 have hz:=a0j hx (r:=a.toNat) (by omega) hh
 have zS:=a4k hx.sh.sr hS a.toNat h;obtain⟨e1,e2⟩:=a88 hx ha hh;refine⟨hz,zS,(a1Q hx.sh.sr a.toNat h).ev,Cw.same (a4j x a.toNat h).2.1 _,?_,?_⟩;·rw[h1,c8t hz zS (by omega),e1,e2]
 ·show C8 (hO x) ⟨k,a,b,c⟩=_;rw[c2e hk hc,h2,d3v,d1G hx hS ha hh]
theorem d2(hc:C3 2 a b c=0):Dn x ⟨2,a,b,c⟩ (G5 x a.toNat (sd x b)) (ser x (sd x b)):=by
 obtain⟨ha,hb⟩:=c9p hc;refine a5X hx hS (.inl rfl) hc ha (b23 hx.sh b) ?_ ?_
 ·rw[d2C hc];unfold I2;rw[a6O hx.sh,d3v,a9g hx hS ha (b23 hx.sh b)];rfl
 ·unfold a2o;rw[if_pos (by rfl),show (hO x).Roots=x.Roots from rfl,b1F hx.sh hb]
  rfl
theorem d3(hc:C3 3 a b c=0):Dn x ⟨3,a,b,c⟩ (G5 x a.toNat 0) 0:=by
 have ha:=d2u hc;have:=a5X (b:=b) (c:=c) hx hS (.inr (.inl rfl)) hc ha (h:=0) (.inl rfl) ?_ ?_;·rwa [c2o hx.sh] at this
 ·rw[d2D hc];unfold Z0;rw[a9g hx hS ha (.inl rfl)];rfl
 ·rfl
theorem d4(hc:C3 4 a b c=0):(sd x b=0∧Er x ⟨4,a,b,c⟩ 2)∨(∃e,a0n x.S (sd x b) c=some (0,e)∧Er x ⟨4,a,b,c⟩ e) ∨
  (sd x b∈lv x.S∧∃n:Nat,c=n∧∃hn:n<(ob x.S (sd x b)).Fields.length,Dn x ⟨4,a,b,c⟩ (G5 x a.toNat (ob x.S (sd x b)).Fields[n]) (ser x (ob x.S (sd x b)).Fields[n])):=by
 obtain⟨ha,hb,_⟩:=d2v hc;have hm:u7 x ⟨4,a,b,c⟩=_:=d2E hc;unfold Z1 at hm;rw[a5F hx.sh,d3v] at hm;have hr:C8 (hO x) ⟨4,a,b,c⟩=_:=c2e (by omega) hc
 have hnm:a2o (hO x) ⟨4,a,b,c⟩=(X5 (hO x) b).bind λv2=>if (v2.2 != 0) then some (0,v2.2) else (a3P (hO x).S v2.1 c).bind λv3=>some (v3.1,v3.2):=rfl
 rw[b0C hx.sh hb,d3v] at hnm;by_cases h0:sd x b=0
 ·refine .inl ⟨h0,by decide,?_,?_⟩
  ·rw[hm];unfold asd;rw[if_pos h0,if_pos (by simp),d3v,a63 (by decide)]
  ·show C8 (hO x) ⟨4,a,b,c⟩=_;rw[hr,hnm];unfold asd;rw[if_pos h0,if_pos (by simp),d3v,c5u (by decide)]
 ·have has:asd x b=(sd x b,0):=by unfold asd;rw[if_neg h0]
  rw[has,if_neg (by simp)] at hm hnm
  right;rcases b2S hx hS (sd x b) c (b24 hx.sh b) with ⟨e,he,f1,f2⟩ | ⟨hl,n,hn0,hn,f1,f2⟩
  ·refine .inl ⟨e,f1,he,?_,?_⟩
   ·rw[hm];dsimp only;rw[f1,d3v,c1a he,d3v,d3v,a63 he]
   ·show C8 (hO x) ⟨4,a,b,c⟩=_;rw[hr,hnm];dsimp only;rw[show (hO x).S=sO x.S from rfl,f2,d3v,d3v,c5u he]
  ·refine .inr ⟨hl,n,hn0,hn,?_⟩;have hv:=hx.sh.fl _ hl _ (List.getElem_mem hn);refine a5X hx hS (by omega) hc ha hv ?_ ?_
   ·rw[hm];dsimp only;rw[f1,d3v,a9g hx hS ha hv];rfl
   ·rw[hnm];dsimp only;rw[show (hO x).S=sO x.S from rfl,f2];rfl
theorem c7v{n:Nat}(hn:n<6):∃h:n<x.Cells.length,a5Z x.Cells n=some (if x.Cells[n].Target=0∨x.Cells[n].Intact=false then (0,9) else (x.Cells[n].Target,0))∧b1l (hO x).Cells n=some (if x.Cells[n].Target=0∨x.Cells[n].Intact=false then (0,9) else (x.Cells[n].Target,0)):=by
 have c6:=hx.sh.c6;have hl:n<x.Cells.length:=by omega
 have hl2:n<(x.Cells.map wcR).length:=by simp;exact hl
 refine⟨hl,?_,?_⟩
 ·unfold a5Z a51;have:(decide ((n:Int)≥0)&&decide ((n:Int)<(x.Cells.length:Int)))=true:=by simp;omega
  rw[this,d3v,if_neg (by simp),o0 hl,d3v]
  by_cases q:x.Cells[n].Target=0∨x.Cells[n].Intact=false
  ·rw[if_pos q,if_pos (by rcases q with q | q <;> simp[q])]
  ·rw[if_neg q,if_neg (by simpa using q)]
 ·unfold b1l;show (if _ then _ else (ix (x.Cells.map wcR) (n:Int)).bind _)=_
  rw[if_neg (by simp[hO];omega),o0 hl2,d3v,List.getElem_map]
  by_cases q:x.Cells[n].Target=0∨x.Cells[n].Intact=false
  ·rw[if_pos q,if_pos (by rcases q with q | q <;> simp[wcR,q])]
  ·rw[if_neg q,if_neg (by simpa[wcR] using q)]
   rfl
theorem d7(hc:C3 7 a b c=0):∃h:b.toNat<x.Cells.length,((x.Cells[b.toNat].Intact=false∧Er x ⟨7,a,b,c⟩ 9) ∨
  (x.Cells[b.toNat].Intact=true∧Dn x ⟨7,a,b,c⟩ (G5 x a.toNat x.Cells[b.toNat].Target) (ser x x.Cells[b.toNat].Target))):=by
 obtain⟨ha,hb⟩:=d2y hc;obtain⟨n,rfl⟩:∃n:Nat,b=n:=⟨b.toNat,by omega⟩
 obtain⟨hl,l1,l2⟩:=c7v hx hS (n:=n) (by omega)
 rw[Int.toNat_natCast];refine⟨hl,?_⟩;have hm:u7 x ⟨7,a,n,c⟩=_:=d2H hc;unfold W2 at hm;rw[show a5Z (p8.mk x ⟨7,a,n,c⟩).x.Cells (p8.mk x ⟨7,a,n,c⟩).o.B=_ from l1,d3v] at hm;have hr:C8 (hO x) ⟨7,a,n,c⟩=_:=c2e (by omega) hc
 have hnm:a2o (hO x) ⟨7,a,n,c⟩=(b1l (hO x).Cells n).bind λv4=>some (v4.1,v4.2):=rfl;rw[l2,d3v] at hnm;have cl:=hx.sh.cl n hl;cases hI:x.Cells[n].Intact
 ·left;rw[if_pos (.inr hI)] at hm hnm;refine⟨rfl,by decide,?_,?_⟩
  ·rw[hm];dsimp only;rw[c1a (by decide),d3v,d3v]
   exact a63 (e:=9) (by decide)
  ·show C8 (hO x) ⟨7,a,n,c⟩=_;rw[hr,hnm,d3v,c5u (by decide)]
 ·right;have ht:=(cl.2.2.2.2 hI).1;have ht0:x.Cells[n].Target≠0:=λe=>b2m hx.sh.sr (e▸ht);rw[if_neg (by simp[ht0,hI])] at hm hnm
  refine⟨rfl,a5X hx hS (by omega) hc ha (.inr ht) ?_ hnm⟩
  rw[hm];dsimp only;rw[a9g hx hS ha (.inr ht)];rfl
theorem d9(hc:C3 9 a b c=0):(sd x b=0∧Er x ⟨9,a,b,c⟩ 2)∨(sd x b∈lv x.S∧(∀v,¬Has x.T (sd x b) v)∧Er x ⟨9,a,b,c⟩ 9) ∨
  (sd x b∈lv x.S∧∃v,Has x.T (sd x b) v∧Dn x ⟨9,a,b,c⟩ (G5 x a.toNat v) (ser x v)):=by
 obtain⟨ha,hb⟩:=d2A hc;have hT:=hx.sh.hr;have hm:u7 x ⟨9,a,b,c⟩=_:=d2J hc;unfold a0w at hm;rw[a5F hx.sh,d3v] at hm;have hr:C8 (hO x) ⟨9,a,b,c⟩=_:=c2e (by omega) hc
 have hnm:a2o (hO x) ⟨9,a,b,c⟩=(X5 (hO x) b).bind λv2=>if (v2.2 != 0) then some (0,v2.2) else (b3G (hO x).T v2.1).bind λv3=>some (v3.1,v3.2):=rfl
 rw[b0C hx.sh hb,d3v] at hnm;by_cases h0:sd x b=0
 ·refine .inl ⟨h0,by decide,?_,?_⟩
  ·rw[hm];unfold asd;rw[if_pos h0,if_pos (by simp),d3v,a63 (by decide)]
  ·show C8 (hO x) ⟨9,a,b,c⟩=_;rw[hr,hnm];unfold asd;rw[if_pos h0,if_pos (by simp),d3v,c5u (by decide)]
 ·have has:asd x b=(sd x b,0):=by unfold asd;rw[if_neg h0]
  have hl:=(b23 hx.sh b).resolve_left h0;rw[has,if_neg (by simp)] at hm hnm
  dsimp only at hm hnm;have g2:b3G (hO x).T (sd x b)=(L4 x.T (sd x b)).bind λv=>some (v.1,v.2):=by
   unfold b3G;rw[show (hO x).T=x.T.map L5 from rfl,c5z hT]
  unfold b2a at hm;rw[g2] at hnm;right;by_cases hv:∃v,Has x.T (sd x b) v
  ·obtain⟨v,hv⟩:=hv;rw[c1H hT hv] at hm hnm;refine .inr ⟨hl,v,hv,a5X hx hS (by omega) hc ha (.inr (hx.sh.pr _ _ hv).2) ?_ hnm⟩
   rw[hm,d3v,d3v];dsimp only;rw[a9g hx hS ha (.inr (hx.sh.pr _ _ hv).2)];rfl
  ·have hv':∀v,¬Has x.T (sd x b) v:=λv q=>hv ⟨v,q⟩;rw[c21 hT hv'] at hm hnm;refine .inl ⟨hl,hv',by decide,?_,?_⟩
   ·rw[hm,d3v,d3v];dsimp only;rw[c1a (by decide),d3v,d3v]
    exact a63 (e:=9) (by decide)
   ·show C8 (hO x) ⟨9,a,b,c⟩=_;rw[hr,hnm,d3v,d3v,d3v];exact c5u (e:=9) (by decide)
end
end Go.Sh
