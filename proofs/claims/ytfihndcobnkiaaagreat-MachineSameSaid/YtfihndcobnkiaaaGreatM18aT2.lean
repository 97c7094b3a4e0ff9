/-
 More of the theory.
-/
import Derived.Test.YtfihndcobnkiaaaGreatM18aT
set_option linter.unusedVariables false
set_option linter.unusedSimpArgs false
set_option linter.unusedSectionVars false
namespace Go.Sh
theorem b0a(x:Hp)(h:Int):(C9 x h).Roots=x.Roots∧(C9 x h).Cells=x.Cells∧(C9 x h).T=x.T∧(C9 x h).Q=x.Q:=by
 rw[b3p]
 exact⟨rfl,rfl,rfl,rfl⟩
theorem a6Z{x:Hp}(hR:SR x.S)(h:Int):SR (C9 x h).S:=(I2 hR h λc=>D9).sr
section
variable{x:Hp}(hx:R7 x)(hS:∀k∈lv x.S,(ob x.S k).Strong≤9223372036854775807)
include hx hS
theorem a9D{h:Int}(hh:h=0∨h∈lv x.S):h≤9223372036854775807:=by
 rcases hh with q | q
 ·omega
 ·have:=J9 hx.sh.sr q;omega
theorem c5a(k:Int){h:Int}(hh:h≤9223372036854775807):a7q x k h=some (if k<0∨5<k then (x,6) else if h=0∨h∈lv x.S then (L9 x k.toNat h,0) else (x,3)):=by
 have hR:=hx.sh.sr
 have r6:=hx.sh.r6
 unfold a7q
 by_cases hk:k<0∨5<k
 ·rw[if_pos hk,if_pos (by rw[r6];simp;omega)]
 ·rw[if_neg hk,if_neg (by rw[r6];simp;omega),a1t hR hh,d1q]
  by_cases hn:h=0∨h∈lv x.S
  ·rw[if_pos hn,decide_eq_true hn,if_neg (by simp)]
   obtain⟨n,rfl⟩:∃n:Nat,k=n:=⟨k.toNat,by omega⟩
   have hn6:n<6:=by omega
   have hnl:n<x.Roots.length:=by omega
   have old:x.Roots[n]≤9223372036854775807:=a9D hx hS (hx.sh.rt _ (List.getElem_mem hnl))
   have e1:=b0a x h
   have hn2:n<(C9 x h).Roots.length:=by rw[e1.1];exact hnl
   rw[l5 hnl,d1q]
   unfold G6 Q6 E5
   rw[a7M hR hh hS,d1q]
   dsimp only
   rw[N4 (by omega) (by rw[e1.1];omega),d1q,l5 hn2,d1q,d1q]
   have hrel:=a5C (x:=wR (C9 x h) (x.Roots.set n h)) (a6Z hR h) old
   rw[Int.toNat_natCast,e1.1,show D1 ⟨(C9 x h).S,x.Roots.set n h,(C9 x h).Cells,(C9 x h).T,(C9 x h).Q⟩ x.Roots[n]=_ from hrel]
   unfold L9
   rw[List.getD_eq_getElem?_getD,List.getElem?_eq_getElem hnl]
   rfl
  ·rw[if_neg hn,decide_eq_false hn,if_pos (by simp)]
theorem c3s(k:Int){h:Int}(hh:h≤9223372036854775807):a18 (hO x) k h=some (if k<0∨5<k then (hO x,6) else if h=0∨h∈lv x.S then (hO (L9 x k.toNat h),0) else (hO x,3)):=by
 have hR:=hx.sh.sr
 have r6:=hx.sh.r6
 unfold a18
 by_cases hk:k<0∨5<k
 ·rw[if_pos hk,if_pos (by simp;omega)]
 ·rw[if_neg hk,if_neg (by simp;omega),a7r hR hh,d1q]
  by_cases hn:h=0∨h∈lv x.S
  ·rw[if_pos hn,decide_eq_true hn,if_neg (by simp)]
   obtain⟨n,rfl⟩:∃n:Nat,k=n:=⟨k.toNat,by omega⟩
   have hnl:n<x.Roots.length:=by omega
   have hnl':n<(hO x).Roots.length:=hnl
   have old:x.Roots[n]≤9223372036854775807:=a9D hx hS (hx.sh.rt _ (List.getElem_mem hnl))
   have e1:=b0a x h
   have r6':(hO x).Roots.length=6:=r6
   rw[l5 hnl',d1q,a99 hR hh hS,d1q,N4 (by omega) (by rw[r6'];omega),d1q,l5 hnl',d1q]
   have hrel:=a7L (x:=wR (C9 x h) (x.Roots.set n h)) (a6Z hR h) old
   rw[Int.toNat_natCast]
   rw[show E3 ⟨(hO (C9 x h)).S,(hO x).Roots.set n h,(hO (C9 x h)).Cells,(hO (C9 x h)).T,(hO (C9 x h)).Q⟩ (hO x).Roots[n]=_ from hrel]
   unfold L9
   rw[List.getD_eq_getElem?_getD,List.getElem?_eq_getElem hnl]
   rfl
  ·rw[if_neg hn,decide_eq_false hn,if_pos (by simp)]
omit hx hS in
theorem c8d {l:List Int} {n:Nat} (hn:n<l.length):b09 l n=some (l[n],0)∧b0U l n=some (l[n],0):=by
 constructor
 ·unfold b09 a5S
  rw[d1q,if_neg (by simp;omega),l5 hn,d1q]
 ·unfold b0U
  rw[if_neg (by simp;omega),l5 hn,d1q]
omit hx hS in
theorem c5A {l:List Int} {k:Int} (hk:¬(0≤k∧k<l.length)):b09 l k=some (0,5)∧b0U l k=some (0,5):=by
 constructor
 ·unfold b09 a5S
  rw[d1q,if_pos (by simp;omega)]
 ·unfold b0U
  rw[if_pos (by simp;omega)]
theorem b1g(h k:Int)(hh:h≤9223372036854775807):(∃e,e≠0∧W7 x.S h k=some (0,e)∧a1y (sO x.S) h k=some (0,e)) ∨
  (h∈lv x.S∧∃n:Nat,k=n∧∃hn:n<(ob x.S h).Fields.length,W7 x.S h k=some ((ob x.S h).Fields[n],0)∧a1y (sO x.S) h k=some ((ob x.S h).Fields[n],0)):=by
 have hR:=hx.sh.sr
 obtain⟨e,h1,h2⟩:=Q4 (p8.2 hR) hh
 have hg:D3 (sO x.S) h=some (oo (ob x.S h),e):=by
  rw[a3F x.S (by have:=hR.len;omega) hh,h1]
  rfl
 unfold W7 a1y
 rw[h1,d1q,hg,d1q]
 by_cases q:h∈lv x.S
 ·have:=h2.2 q
  subst this
  rw[if_neg (by simp),if_neg (by simp),show (oo (ob x.S h),(0:Int)).1.Fields=(ob x.S h).Fields from rfl]
  by_cases hk:0≤k∧k<(ob x.S h).Fields.length
  ·right
   obtain⟨n,rfl⟩:∃n:Nat,k=n:=⟨k.toNat,by omega⟩
   have hn:n<(ob x.S h).Fields.length:=by omega
   refine⟨q,n,rfl,hn,?_,?_⟩
   ·rw[(c8d hn).1]
    rfl
   ·rw[(c8d hn).2]
    rfl
  ·left
   refine⟨5,by decide,?_,?_⟩
   ·rw[(c5A hk).1]
    rfl
   ·rw[(c5A hk).2]
    rfl
 ·left
  have he:(e != 0)=true:=by simpa using λc=>q (h2.1 c)
  refine⟨e,by simpa using he,?_,?_⟩
  ·simp only[he,if_true]
  ·simp only[he,if_true]
theorem c3e{s:store_Store}(hR:SR s){h:Int}(hh:h∈lv s){n:Nat}(hn:n<(ob s h).Fields.length)(v:Int) :
  a7P s h n v=some (seO s h (flg (ob s h) ((ob s h).Fields.set n v)),0)∧b15 (sO s) h n v=some (sO (seO s h (flg (ob s h) ((ob s h).Fields.set n v))),0):=by
 have ok:=J8 hR hh
 have hf:=ok.fl
 have hle:=J9 hR hh
 have ho:OkO s (flg (ob s h) ((ob s h).Fields.set n v)):=⟨ok.s1,ok.s2,ok.st,ok.wk,ok.p1,ok.p2,by simpa using hf⟩
 have h1:=b0d (o:=flg (ob s h) ((ob s h).Fields.set n v)) hR hh rfl ho
 have h2:=b0e (o:=flg (ob s h) ((ob s h).Fields.set n v)) hR hh rfl ho
 constructor
 ·unfold a7P
  rw[a6G (p8.2 hR) hh,d1q,if_neg (by simp)]
  unfold b3J a5S
  dsimp only
  rw[d1q,if_neg (by simp;omega),b7j (by omega) (by omega),d1q]
  have e:cpy (List.replicate (ob s h).Fields.length (0:Int)) (ob s h).Fields=some (ob s h).Fields:=by
   unfold cpy
   rw[if_pos (by simp)]
   simp
  rw[e,d1q,l5 hn,d1q,d1q,if_neg (by simp),Int.toNat_natCast]
  dsimp only
  rw[show H6 s h ⟨(ob s h).Serial,(ob s h).Strong,(ob s h).Weak,(ob s h).Prog,(ob s h).Started,(ob s h).Fields.set n v⟩=_ from h1]
  rfl
 ·unfold b15
  rw[a3F s (by have:=hR.len;omega) (by omega),a6G (p8.2 hR) hh,Option.map_some,d1q,if_neg (by simp)]
  unfold b3c
  have hn':n<(oo (ob s h)).Fields.length:=hn
  have hf':(oo (ob s h)).Fields.length≤4:=hf
  dsimp only
  rw[if_neg (by simp;omega),N4 (by omega) (by omega),d1q,l5 hn',d1q,d1q,if_neg (by simp),Int.toNat_natCast]
  dsimp only
  rw[show J4 (sO s) h ⟨(oo (ob s h)).Serial,(oo (ob s h)).Strong,(oo (ob s h)).Weak,(oo (ob s h)).Prog,(oo (ob s h)).Started,(oo (ob s h)).Fields.set n v⟩=_ from h2]
  rfl
theorem c2f(h k v:Int)(hh:h≤9223372036854775807)(hv:v≤9223372036854775807) :
  (∃e,e≠0∧a1p x h k v=some (x,e)∧a2M (hO x) h k v=some (hO x,e)) ∨
  (h∈lv x.S∧(v=0∨v∈lv x.S)∧∃n:Nat,k=n∧n<(ob x.S h).Fields.length∧a1p x h k v=some (a1o x h n v,0)∧a2M (hO x) h k v=some (hO (a1o x h n v),0)):=by
 have hR:=hx.sh.sr
 unfold a1p a2M
 rcases b1g hx hS h k hh with ⟨e,he,f1,f2⟩ | ⟨hl,n,rfl,hn,f1,f2⟩
 ·left
  have he':(e != 0)=true:=by simpa using he
  refine⟨e,he,?_,?_⟩
  ·rw[f1,d1q,if_pos he']
  ·rw[show (hO x).S=sO x.S from rfl,f2,d1q,if_pos he']
 ·rw[f1,d1q,if_neg (by simp),show (hO x).S=sO x.S from rfl,f2,d1q,if_neg (by simp),a1t hR hv,d1q,a7r hR hv,d1q]
  by_cases hn2:v=0∨v∈lv x.S
  ·right
   refine⟨hl,hn2,n,rfl,hn,?_⟩
   rw[decide_eq_true hn2,if_neg (by simp),if_neg (by simp)]
   have kin:=I2 hR v (f:=a0J) λc=>D9
   have hR1:SR (C9 x v).S:=kin.sr
   have hl1:h∈lv (C9 x v).S:=by rw[show lv (C9 x v).S=lv x.S from kin.lv];exact hl
   have hof:(ob (C9 x v).S h).Fields=(ob x.S h).Fields:=by
    obtain⟨m,e⟩:=kin.ob h hh
    show (ob (stO x v a0J).S h).Fields=_
    rw[e]
   have hn1:n<(ob (C9 x v).S h).Fields.length:=by rw[hof];exact hn
   have old:(ob x.S h).Fields[n]≤9223372036854775807:=a9D hx hS (hx.sh.fl h hl _ (List.getElem_mem hn))
   have ok:=J8 hR1 hl1
   have sr2:SR (seO (C9 x v).S h (flg (ob (C9 x v).S h) ((ob (C9 x v).S h).Fields.set n v))):=a1E (o:=flg (ob (C9 x v).S h) ((ob (C9 x v).S h).Fields.set n v)) hR1 hl1 rfl ⟨ok.s1,ok.s2,ok.st,ok.wk,ok.p1,ok.p2,by simpa using ok.fl⟩
   obtain⟨p1,p2⟩:=c3e hx hS hR1 hl1 hn1 v
   have hd:(ob x.S h).Fields.getD n 0=(ob x.S h).Fields[n]:=by
    rw[List.getD_eq_getElem?_getD,List.getElem?_eq_getElem hn]
    rfl
   constructor
   ·unfold F2 Z2
    rw[a7M hR hv hS,d1q]
    dsimp only
    rw[p1,d1q,d1q]
    have hrel:=a5C (x:=wS (C9 x v) (seO (C9 x v).S h (flg (ob (C9 x v).S h) ((ob (C9 x v).S h).Fields.set n v)))) sr2 old
    rw[show D1 ⟨seO (C9 x v).S h (flg (ob (C9 x v).S h) ((ob (C9 x v).S h).Fields.set n v)),(C9 x v).Roots,(C9 x v).Cells,(C9 x v).T,(C9 x v).Q⟩ (ob x.S h).Fields[n]=_ from hrel]
    unfold a1o
    rw[hd,hof]
    rfl
   ·rw[a99 hR hv hS,d1q,show (hO (C9 x v)).S=sO (C9 x v).S from rfl,p2,d1q]
    have hrel:=a7L (x:=wS (C9 x v) (seO (C9 x v).S h (flg (ob (C9 x v).S h) ((ob (C9 x v).S h).Fields.set n v)))) sr2 old
    dsimp only
    rw[show E3 ⟨sO (seO (C9 x v).S h (flg (ob (C9 x v).S h) ((ob (C9 x v).S h).Fields.set n v))),(hO (C9 x v)).Roots,(hO (C9 x v)).Cells,(hO (C9 x v)).T,(hO (C9 x v)).Q⟩ (ob x.S h).Fields[n]=_ from hrel]
    unfold a1o
    rw[hd,hof]
    rfl
  ·left
   refine⟨3,by decide,?_,?_⟩
   ·rw[decide_eq_false hn2,if_pos (by simp)]
   ·rw[decide_eq_false hn2,if_pos (by simp)]
theorem c43(k v:Int)(hk:k≤9223372036854775807)(hv:v≤9223372036854775807) :
  (∃e,e≠0∧a2J x k v=some (x,e)∧a4L (hO x) k v=some (hO x,e)) ∨
  (k∈lv x.S∧(v=0∨v∈lv x.S)∧∃r,T1 x.T k v=some r∧r.2.2=0∧a2J x k v=some (a6I x v r.1 r.2.1,0)∧a4L (hO x) k v=some (hO (a6I x v r.1 r.2.1),0)):=by
 have hR:=hx.sh.sr
 unfold a2J a4L
 by_cases k0:k=0
 ·left
  subst k0
  exact⟨2,by decide,by simp,by simp⟩
 ·rw[if_neg (by simpa using k0),if_neg (by simpa using k0),a1t hR hk,d1q,a5n hR hk,d1q,a1t hR hv,a7r hR hv]
  have hkk:(k=0∨k∈lv x.S)↔k∈lv x.S:=by simp[k0]
  by_cases hl:k∈lv x.S∧(v=0∨v∈lv x.S)
  ·obtain⟨hl,hn⟩:=hl
   rw[decide_eq_true (hkk.2 hl),decide_eq_true hl,decide_eq_true hn]
   simp only[Bool.not_true,beq_self_eq_true,F5,d1q,Bool.or_self,Bool.false_eq_true,if_false]
   obtain⟨r,r1,r2,r3,r4,r5⟩:=c1c hx.sh.hr k v
   rw[r1,d1q,show (hO x).T=x.T.map J0 from rfl,r4,d1q]
   by_cases h0:r.2.2=0
   ·right
    refine⟨hl,hn,r,rfl,h0,?_⟩
    have e1:(r.2.2 != 0)=false:=by simpa using h0
    have old:r.2.1≤9223372036854775807:=by
     rcases r5 with ⟨_,rfl⟩ | ⟨_,_,⟨i,hi,rfl⟩ | ⟨_,rfl⟩⟩ | ⟨_,_,⟨i,hi,rfl⟩ | ⟨d,_,_,_,_,rfl⟩ | ⟨_,_,rfl⟩⟩
     ·simp
     ·exact a9D hx hS (.inr (hx.sh.pr k _ ⟨i,hi,rfl⟩).2)
     ·simp
     ·exact a9D hx hS (.inr (hx.sh.pr k _ ⟨i,hi,rfl⟩).2)
     ·simp
     ·simp
    constructor
    ·rw[e1]
     simp only[Bool.false_eq_true,if_false]
     unfold G5 Q5
     rw[a7M hR hv hS,d1q,d1q]
     dsimp only
     have hrel:=a5C (x:=wT (C9 x v) r.1) (a6Z hR v) old
     rw[show D1 ⟨(C9 x v).S,(C9 x v).Roots,(C9 x v).Cells,r.1,(C9 x v).Q⟩ r.2.1=_ from hrel]
     rfl
    ·dsimp only
     rw[e1]
     simp only[Bool.false_eq_true,if_false]
     rw[a99 hR hv hS,d1q]
     have hrel:=a7L (x:=wT (C9 x v) r.1) (a6Z hR v) old
     rw[show E3 ⟨(hO (C9 x v)).S,(hO (C9 x v)).Roots,(hO (C9 x v)).Cells,r.1.map J0,(hO (C9 x v)).Q⟩ r.2.1=_ from hrel]
     rfl
   ·left
    have e1:(r.2.2 != 0)=true:=by simpa using h0
    refine⟨r.2.2,h0,by rw[if_pos e1],by dsimp only;rw[if_pos e1]⟩
  ·left
   refine⟨3,by decide,?_,?_⟩
   ·by_cases hl2:k∈lv x.S
    ·have:¬(v=0∨v∈lv x.S):=λq=>hl ⟨hl2,q⟩
     rw[decide_eq_true (hkk.2 hl2),decide_eq_false this]
     rfl
    ·rw[decide_eq_false λq=>hl2 (hkk.1 q)]
     rfl
   ·by_cases hl2:k∈lv x.S
    ·have:¬(v=0∨v∈lv x.S):=λq=>hl ⟨hl2,q⟩
     rw[decide_eq_true hl2,decide_eq_false this]
     rfl
    ·rw[decide_eq_false hl2]
     rfl
end
theorem b9L{s:store_Store}(hR:SR s){h:Int}{i:Nat}(q:P6 s h i):K2 s.S h=some ((gvA s i).S,0):=by
 have hi:=q.1
 have hc:=hR.cell i hi
 have l9:=hR.l9
 unfold K2 gvA
 rw[a2y hR q,d1q,if_neg (by simp),b4z hi,d1q]
 by_cases g:(ce s i).Gen=s.S.Last
 ·rw[if_pos (by simpa using g),if_pos g,a4Z rfl hi hR.len]
  rfl
 ·rw[if_neg (by simpa using g),if_neg g,a4Z rfl hi hR.len,E0 (by omega) (by omega)]
  rfl
theorem c2y{s:store_Store}{i:Nat}(hi:i<s.S.Cells.length):ix (sO s).Cells (i:Int)=some (cO (ce s i)):=by
 rw[c0h,b4z hi]
 rfl
theorem c0i(s:store_Store)(i:Nat)(c:slab_Cell_store_Obj):sO (E4 s i c)=⟨(sO s).Cells.set i (cO c),s.S.Last,s.Serial⟩:=by
 unfold sO E4
 rw[List.map_set]
theorem b3I(t:g6)(p:p9)(hl:t.Cells.length≤1000)(hp:p.Cells.length=t.Cells.length):V9 t p=some ⟨(List.range t.Cells.length).map λk=>⟨(p.Cells.getD k ⟨0,0,0⟩).State,(p.Cells.getD k ⟨0,0,0⟩).Gen,(t.Cells.getD k ⟨0,0,oo z0⟩).Val⟩,t.Last,t.Serial⟩:=by
 unfold V9
 simp only[jn]
 rw[c2B (b:=80) t.Cells.length (λk=>⟨(p.Cells.getD k ⟨0,0,0⟩).State,(p.Cells.getD k ⟨0,0,0⟩).Gen,(t.Cells.getD k ⟨0,0,oo z0⟩).Val⟩) (by omega) (by omega) (λk acc hk=>?_) (λacc=>by simp)]
 ·rfl
 ·have hk2:k<p.Cells.length:=by omega
  simp only[Int.ofNat_lt,hk,decide_true,if_true,l5 hk,l5 hk2,d1q]
  rw[List.getD_eq_getElem?_getD,List.getElem?_eq_getElem hk2,List.getD_eq_getElem?_getD,List.getElem?_eq_getElem hk]
  rfl
theorem c2l{s:store_Store}(hR:SR s){h:Int}{i:Nat}(q:P6 s h i):a6L (sO s) h=some (sO (gvA s i)):=by
 have hi:=q.1
 have hc:=hR.cell i hi
 have l9:=hR.l9
 have hlen:=hR.len
 have hr:=q.rng hR
 have hH:Hnd h:=((a8H hR).2 q).2.1
 have hsl:(h-1) % 32=i:=((a8H hR).2 q).2.2.1
 have J0:i<(pl (sO s)).Cells.length:=by rw[a0u,y5];exact hi
 have key:∀st g,(st:Int)=st→V9 (sO s) ⟨(pl (sO s)).Cells.set i ⟨st,g,0⟩,(pl (sO s)).Last⟩=some ⟨(sO s).Cells.set i ⟨st,g,oo (ce s i).Val⟩,s.S.Last,s.Serial⟩:=λst g _=>by
  rw[b3I _ _ (by rw[y5];omega) (by simp[a0u])]
  congr 1
  congr 1
  refine List.ext_getElem (by simp) λk h1 h2=>?_
  have hk:k<s.S.Cells.length:=by simpa[y5] using h1
  have hk2:k<(sO s).Cells.length:=by rw[y5];exact hk
  have hk3:k<(pl (sO s)).Cells.length:=by rw[a0u];exact hk2
  simp only[List.getElem_map,List.getElem_range,List.getElem_set]
  have e1:(sO s).Cells.getD k ⟨0,0,oo z0⟩=cO (ce s k):=by
   rw[List.getD_eq_getElem?_getD,List.getElem?_eq_getElem hk2,C7 hk]
   simp[sO]
  have e2:((pl (sO s)).Cells.set i ⟨st,g,0⟩).getD k ⟨0,0,0⟩=if k=i then ⟨st,g,0⟩ else plc k (cO (ce s k)):=by
   rw[a4s J0]
   split
   ·rfl
   ·rw[List.getD_eq_getElem?_getD,List.getElem?_eq_getElem hk3,C7 hk]
    simp[pl,sO]
  rw[e1,e2]
  by_cases e:k=i
  ·subst e
   rw[if_pos rfl,if_pos rfl]
   rfl
  ·rw[if_neg e,if_neg (Ne.symm e)]
   rw[C7 hk]
   simp[sO,plc,cO]
 have fin:∀st g,(a0b ⟨(sO s).Cells.set i ⟨st,g,oo (ce s i).Val⟩,s.S.Last,s.Serial⟩ (i:Int) ⟨0,0,0,0,false,[]⟩)=some (sO (E4 s i ⟨st,g,z0⟩)):=λst g=>by
  unfold a0b
  have hi2:i<((sO s).Cells.set i ⟨st,g,oo (ce s i).Val⟩).length:=by simp[y5];exact hi
  rw[N4 (by omega) (by simp[y5];omega),d1q,l5 hi2,d1q,c0i]
  simp[cO,oo,List.set_set]
 unfold a6L b3a gvA
 rw[a1S _ (by rw[y5];omega),d1q,a8G s (by omega),a2y hR q,d1q,if_neg (by simp)]
 rw[b7r (by rw[y5];exact hi),d1q]
 have hgen:(plc i ((sO s).Cells[i]'(by rw[y5];exact hi))).Gen=(ce s i).Gen:=by
  rw[C7 hi]
  simp[plc,sO,cO]
 have hlast:(pl (sO s)).Last=s.S.Last:=rfl
 have w3:∀c:o9,S9 (pl (sO s)) (i:Int) c=some ⟨(pl (sO s)).Cells.set i c,(pl (sO s)).Last⟩:=λc=>by
  unfold S9
  rw[N4 (by omega) (by rw[a0u,y5];omega),d1q,l5 J0,d1q,Int.toNat_natCast]
 rw[hgen,hlast,a6J,if_pos hH,hsl]
 by_cases g:(ce s i).Gen=s.S.Last
 ·rw[if_pos (by simp[g]),if_pos g,w3,d1q,d1q,if_neg (by simp),key _ _ rfl,d1q,d1q,fin]
  rfl
 ·rw[if_neg (by simp;omega),if_neg g,w3,d1q,d1q,if_neg (by simp),key _ _ rfl,d1q,d1q,E0 (by omega) (by omega),fin]
  rfl
section
variable{x:Hp}(hR:SR x.S)
include hR
theorem b4E{h d:Int}(hh:h≤9223372036854775807)(hw:P6 x.S h (B4 h) → -1000≤(ce x.S (B4 h)).Val.Weak+d∧(ce x.S (B4 h)).Val.Weak+d≤1000):a0z x h d=some (mkd x h d):=by
 unfold a0z mkd
 by_cases q:P6 x.S h (B4 h)
 ·have:=hw q
  rw[if_pos q,a2y hR q,d1q]
  simp only[beq_self_eq_true,if_true]
  rw[b4z q.1,d1q,E0 (by omega) (by omega),b58 hR q,d1q]
  rfl
 ·have hno:∀i,¬P6 x.S h i:=λi hi=>q (by rw[hi.B4 hR];exact hi)
  rw[if_neg q,a2R hR hh hno,d1q]
  have:((if h=0 then 2 else 3:Int)==0)=false:=by simpa using a0L h
  simp only[this,Bool.false_eq_true,if_false]
theorem b71{h:Int}(hh:h≤9223372036854775807)(hw:P6 x.S h (B4 h)→1≤(ce x.S (B4 h)).Val.Weak∧(ce x.S (B4 h)).Val.Weak≤1000):a1P x h=some (a8X x h):=by
 unfold a1P
 rw[b4E hR hh (λq=>by have:=hw q;omega),d1q]
 unfold mkd a8X
 by_cases q:P6 x.S h (B4 h)
 ·have hw:=hw q
  rw[if_pos q,if_pos q]
  have sr1:=b5t hR q.1 q.2.1 (d:=-1) (by omega)
  have q1:P6 (mkA x.S (B4 h) (-1)) h (B4 h):=(b1R q.1 _).2 q
  dsimp only
  rw[a2y sr1 q1,d1q,if_neg (by simp),b4z q1.1,d1q,a3a hR q.1 q.2.1,if_pos rfl]
  dsimp only
  by_cases c:(ce x.S (B4 h)).State=2∧(ce x.S (B4 h)).Val.Weak=1
  ·rw[if_pos c,if_pos (by simp[c.1,c.2]),b9L sr1 q1,d1q]
   rfl
  ·rw[if_neg c,if_neg (by simp only[Bool.and_eq_true,beq_iff_eq];omega)]
 ·have hno:∀i,¬P6 x.S h i:=λi hi=>q (by rw[hi.B4 hR];exact hi)
  rw[if_neg q,if_neg q,a2R hR hh hno,d1q]
  have:((if h=0 then 2 else 3:Int) != 0)=true:=by simpa using a0L h
  simp only[this,if_true]
theorem c1m{h:Int}(hh:h≤9223372036854775807)(hw:P6 x.S h (B4 h)→1≤(ce x.S (B4 h)).Val.Weak∧(ce x.S (B4 h)).Val.Weak≤1000):W1 (hO x) h=some (hO (a8X x h)):=by
 have hl:=hR.len
 unfold W1
 rw[show (hO x).S=sO x.S from rfl,a1S _ (by rw[y5];omega),d1q,a8G x.S hh]
 unfold a8X
 by_cases q:P6 x.S h (B4 h)
 ·have hw:=hw q
  have hr:=q.rng hR
  rw[if_pos q,a2y hR q,d1q,if_neg (by simp),c2y q.1,d1q]
  have sr1:=b5t hR q.1 q.2.1 (d:=-1) (by omega)
  have q1:P6 (mkA x.S (B4 h) (-1)) h (B4 h):=(b1R q.1 _).2 q
  have hs:J4 (sO x.S) h (oo (wkg (ce x.S (B4 h)).Val ((ce x.S (B4 h)).Val.Weak + -1)))=some (sO (mkA x.S (B4 h) (-1)),0):=by
   rw[c3E x.S hl hh,b58 hR q]
   rfl
  have hw64:s6 ((cO (ce x.S (B4 h))).Val.Weak-1)=(ce x.S (B4 h)).Val.Weak + -1:=by
   show s6 ((ce x.S (B4 h)).Val.Weak-1)=_
   rw[E0 (by omega) (by omega)]
   omega
  rw[hw64]
  rw[show J4 (sO x.S) h ⟨(cO (ce x.S (B4 h))).Val.Serial,(cO (ce x.S (B4 h))).Val.Strong,(ce x.S (B4 h)).Val.Weak + -1,(cO (ce x.S (B4 h))).Val.Prog,(cO (ce x.S (B4 h))).Val.Started,(cO (ce x.S (B4 h))).Val.Fields⟩=_ from hs,d1q,c2y q1.1,d1q,a3a hR q.1 q.2.1,if_pos rfl]
  by_cases c:(ce x.S (B4 h)).State=2∧(ce x.S (B4 h)).Val.Weak=1
  ·rw[if_pos c,if_pos (by simp[cO,c.1,c.2]),c2l sr1 q1,d1q]
   rfl
  ·rw[if_neg c,if_neg (by simp only[cO,Bool.and_eq_true,beq_iff_eq,decide_eq_true_eq];omega)]
   rfl
 ·have hno:∀i,¬P6 x.S h i:=λi hi=>q (by rw[hi.B4 hR];exact hi)
  rw[if_neg q,a2R hR hh hno,d1q]
  have:((if h=0 then 2 else 3:Int) != 0)=true:=by simpa using a0L h
  simp only[this,if_true]
end
theorem c3Q{l:List weak_Cell}(hl:l.length≤1000){n:Nat}(hn:n<l.length)(h call:Int):b0q l n h call=some (l.set n (wcl h call),l[n].Target,0):=by
 unfold b0q a4Y X0
 simp only[d1q]
 rw[if_neg (by simp;omega),b7j (by omega) (by omega),d1q]
 have e:cpy (List.replicate l.length (⟨0,false,0⟩:weak_Cell)) l=some l:=by
  unfold cpy
  rw[if_pos (by simp)]
  simp
 rw[e,d1q,d1q,l5 hn,d1q,d1q,Int.toNat_natCast]
theorem b9x{l:List weak_Cell}(hl:l.length≤1000){n:Nat}(hn:n<l.length)(h call:Int):b18 (l.map wcR) n h call=some ((l.set n (wcl h call)).map wcR,l[n].Target,0):=by
 unfold b18
 have hn':n<(l.map wcR).length:=by simpa using hn
 rw[if_neg (by simp;omega),N4 (by omega) (by simp;omega),d1q,l5 hn',d1q,d1q,Int.toNat_natCast,List.map_set]
 simp[wcR]
theorem c2O(l:List weak_Cell)(h:Int):nmg l h≤l.length:=List.countP_le_length
theorem c5w{x:Hp}(hx:R7 x)(k h call:Int)(hh:h≤9223372036854775807)(hc : -1≤call∧call≤5) :
  (∃e,e≠0∧X8 x k h call=some (x,e)∧a03 (hO x) k h call=some (hO x,e)) ∨
  ((h=0∨h∈lv x.S)∧∃n:Nat,k=n∧n<6∧wts x.Q n=false∧X8 x k h call=some (a3q x n h call,0)∧a03 (hO x) k h call=some (hO (a3q x n h call),0)):=by
 have hR:=hx.sh.sr
 have c6:=hx.sh.c6
 have q30:=hx.sh.q30
 unfold X8 a03
 by_cases hk:k<0∨5<k
 ·left
  have e1:((decide (k<0))||(decide (k≥(x.Cells.length:Int))))=true:=by rw[c6];simp;omega
  have e2:((decide (k<0))||(decide (k > 5)))=true:=by simp;omega
  refine⟨7,by decide,?_,?_⟩
  ·rw[e1];rfl
  ·rw[e2];rfl
 ·obtain⟨n,rfl⟩:∃n:Nat,k=n:=⟨k.toNat,by omega⟩
  have hn6:n<6:=by omega
  have e1:((decide ((n:Int)<0))||(decide ((n:Int)≥(x.Cells.length:Int))))=false:=by rw[c6];simp;omega
  have e2:((decide ((n:Int)<0))||(decide ((n:Int) > 5)))=false:=by simp;omega
  rw[e1,e2]
  simp only[beq_self_eq_true,F5,Bool.false_or]
  have hwq:a3o x.Q n=some (wts x.Q n):=c5o (by omega)
  have hwr:a1A (hO x).Q n=some (wts x.Q n):=b96 (by omega)
  rw[hwq,d1q,hwr,d1q,a1t hR hh,d1q,a7r hR hh,d1q]
  by_cases hw:wts x.Q n=true
  ·left
   rw[if_pos hw,if_pos hw]
   exact⟨7,by decide,rfl,rfl⟩
  ·have hw:wts x.Q n=false:=by simpa using hw
   rw[hw,if_neg (show ¬(false=true) by decide),if_neg (show ¬(false=true) by decide)]
   by_cases hl:h=0∨h∈lv x.S
   ·right
    refine⟨hl,n,rfl,hn6,hw,?_⟩
    have hnl:n<x.Cells.length:=by omega
    rw[decide_eq_true hl,if_neg (by simp),if_neg (by simp),c3Q (by omega) hnl,d1q,show (hO x).Cells=x.Cells.map wcR from rfl,b9x (by omega) hnl,d1q]
    have htg:tgt x n=x.Cells[n].Target:=by
     unfold tgt
     rw[List.getD_eq_getElem?_getD,List.getElem?_eq_getElem hnl]
     rfl
    have wkb:∀i,i<x.S.S.Cells.length→Th (ce x.S i)→0≤(ce x.S i).Val.Weak∧(ce x.S i).Val.Weak≤6:=λi hi ht=>by
     have:=(hx.wk i hi ht).1
     have:=c2O x.Cells (1+(i:Int)+32*(ce x.S i).Gen)
     omega
    have mk1:∃s2,mkd (wC x (x.Cells.set n (wcl h call))) h 1=wS (wC x (x.Cells.set n (wcl h call))) s2∧SR s2∧(∀k i,P6 s2 k i↔P6 x.S k i)∧(∀i,i<x.S.S.Cells.length→Th (ce x.S i)→(ce x.S i).Val.Weak≤(ce s2 i).Val.Weak∧(ce s2 i).Val.Weak≤(ce x.S i).Val.Weak+1) ∧
      (h≠0→D3 (sO x.S) h=some (oo (ce x.S (B4 h)).Val,0)∧J4 (sO x.S) h (oo (wkg (ce x.S (B4 h)).Val ((ce x.S (B4 h)).Val.Weak+1)))=some (sO s2,0))∧(h=0→s2=x.S):=by
     unfold mkd
     by_cases h0:h=0
     ·have hno:¬P6 x.S h (B4 h):=λq=>by have:=q.rng hR;omega
      rw[if_neg hno]
      exact⟨x.S,rfl,hR,λ_ _=>Iff.rfl,λi _ _=>by omega,λq=>absurd h0 q,λ_=>rfl⟩
     ·have hll:=hl.resolve_left h0
      have hp:=u6 hR hll
      have hb:=wkb _ hp.1 (.inl hp.2.1)
      rw[if_pos hp.d]
      have kn:=a5r hR hp.1 (.inl hp.2.1) (d:=1) (by omega)
      refine⟨_,rfl,kn.sr,kn.ad,λi hi ht=>?_,λ_=>⟨?_,?_⟩,λq=>absurd q h0⟩
      ·rw[a3a hR hp.1 (.inl hp.2.1)]
       split
       ·rename_i e;subst e;dsimp only;omega
       ·omega
      ·rw[a3F x.S (by have:=hR.len;omega) hh,c6j hR hp]
       rfl
      ·rw[c3E x.S hR.len hh,b58 hR hp.d]
       rfl
    obtain⟨s2,m1,m2,m3,m4,m5,m6⟩:=mk1
    have hold:tgt x n≤9223372036854775807:=by
     by_cases q:tgt x n=0
     ·omega
     ·obtain⟨p,hp⟩:=(hx.sh.cl n hnl).2.2.2.1 (by rw[←htg];exact q)
      have:=hp.rng hR
      rw[htg];omega
    have hun:P6 s2 (tgt x n) (B4 (tgt x n))→1≤(ce s2 (B4 (tgt x n))).Val.Weak∧(ce s2 (B4 (tgt x n))).Val.Weak≤1000:=λq=>by
     have q':=(m3 _ _).1 q
     have r:=q'.rng hR
     have:=(hx.wk _ q'.1 q'.2.1).1
     have hp:0<nmg x.Cells x.Cells[n].Target:=a9G hnl (by rw[←htg];omega)
     rw[←htg,q'.2.2] at hp
     have:=m4 _ q'.1 q'.2.1
     have:=wkb _ q'.1 q'.2.1
     omega
    have u1:=b71 (x:=wS (wC x (x.Cells.set n (wcl h call))) s2) m2 hold hun
    have u2:=c1m (x:=wS (wC x (x.Cells.set n (wcl h call))) s2) m2 hold hun
    have hwb:P6 x.S h (B4 h) → -1000≤(ce x.S (B4 h)).Val.Weak+1∧(ce x.S (B4 h)).Val.Weak+1≤1000:=λq=>by
     have:=wkb _ q.1 q.2.1
     omega
    have mm:=b4E (x:=wC x (x.Cells.set n (wcl h call))) (d:=1) hR hh hwb
    constructor
    ·dsimp only
     rw[show a0z ⟨x.S,x.Roots,x.Cells.set n (wcl h call),x.T,x.Q⟩ h 1=_ from mm,d1q,m1,←htg,u1,d1q]
     unfold a3q
     rw[m1]
    ·unfold a3q
     rw[m1]
     dsimp only
     by_cases h0:h=0
     ·rw[if_neg (by simpa using h0),←htg]
      rw[m6 h0] at u2 ⊢
      rw[show W1 ⟨(hO x).S,(hO x).Roots,(x.Cells.set n (wcl h call)).map wcR,(hO x).T,(hO x).Q⟩ (tgt x n)=_ from u2,d1q]
     ·obtain⟨g1,g2⟩:=m5 h0
      have hp:=u6 hR (hl.resolve_left h0)
      have hb:=wkb _ hp.1 (.inl hp.2.1)
      rw[if_pos (by simpa using h0),show (hO x).S=sO x.S from rfl,g1,d1q]
      have e:s6 ((oo (ce x.S (B4 h)).Val).Weak+1)=(ce x.S (B4 h)).Val.Weak+1:=by
       show s6 ((ce x.S (B4 h)).Val.Weak+1)=_
       rw[E0 (by omega) (by omega)]
      dsimp only
      rw[e]
      rw[show J4 (sO x.S) h ⟨(oo (ce x.S (B4 h)).Val).Serial,(oo (ce x.S (B4 h)).Val).Strong,(ce x.S (B4 h)).Val.Weak+1,(oo (ce x.S (B4 h)).Val).Prog,(oo (ce x.S (B4 h)).Val).Started,(oo (ce x.S (B4 h)).Val).Fields⟩=_ from g2,d1q,←htg]
      dsimp only
      rw[show W1 ⟨sO s2,(hO x).Roots,(x.Cells.set n (wcl h call)).map wcR,(hO x).T,(hO x).Q⟩ (tgt x n)=_ from u2,d1q]
   ·left
    rw[decide_eq_false hl]
    refine⟨3,by decide,?_,?_⟩ <;> rw[if_pos (by rfl)]
end Go.Sh
namespace Go.Sh
section
variable{x:Hp}(hx:R7 x)(hS:∀k∈lv x.S,(ob x.S k).Strong≤9223372036854775807)
include hx hS
end
end Go.Sh
namespace Go.Sh
abbrev tz:task_Task:=⟨0,0,0⟩
abbrev cz0:weak_Cell:=⟨0,false,0⟩
theorem C8{α:Type}{l:List α}{i:Nat}(h:i<l.length)(d:α):l.getD i d=l[i]:=by
 rw[List.getD_eq_getElem?_getD,List.getElem?_eq_getElem h]
 rfl
theorem c3U{q:TQ}{w:Int}:wts q w=true↔∃t∈q.L,t.Kind=2∧t.At=w:=by
 unfold wts
 rw[List.any_eq_true]
 simp
def TkP(x:Hp)(t:task_Task):Prop:=0≤t.Prog∧t.Prog≤5∧((t.Kind=1∧t.At∈lv x.S∧(ob x.S t.At).Started=true)∨(t.Kind=2∧0≤t.At∧t.At≤5))
def TkS(a b:task_Task):Prop:=a.Kind=b.Kind∧a.At=b.At
instance(a b:task_Task):Decidable (TkS a b):=by unfold TkS;infer_instance
section
variable{x:Hp}(hR:SR x.S)
include hR
theorem c5q(hq:x.Q.L.length≤1000)(hB:∀t∈x.Q.L,t.At≤9223372036854775807):∃b,a7H (hO x)=some b∧(b=true↔((∀t∈x.Q.L,TkP x t)∧x.Q.L.Pairwise (λa b=>¬TkS a b)∧x.Q.Cap=30∧x.Q.L.length≤30)):=by
 have hlen:(hO x).Q.L.length=x.Q.L.length:=by simp[hO,tqR]
 unfold a7H
 simp only[jn]
 rw[hlen]
 refine b6N x.Q.L.length (λi=>TkP x (x.Q.L.getD i tz)∧∀k,k<i→¬TkS (x.Q.L.getD k tz) (x.Q.L.getD i tz)) (by omega) (λi hi=>?_) (by simp) (λhall=>?_) (λhno=>?_)
 ·have hi':i<(hO x).Q.L.length:=by rw[hlen];exact hi
  have hg:(hO x).Q.L[i]=⟨(x.Q.L.getD i tz).Kind,(x.Q.L.getD i tz).At,(x.Q.L.getD i tz).Prog⟩:=by
   rw[C8 hi]
   simp[hO,tqR,tkR]
  have hat:=hB _ (List.getElem_mem hi)
  rw[←C8 hi tz] at hat
  simp only[Int.ofNat_lt,hi,decide_true,if_true,l5 hi',d1q,hg]
  generalize ht:x.Q.L.getD i tz=t at hat
  by_cases c1:((((t.Kind != 1)&&(t.Kind != 2))||(decide (t.Prog<0)))||(decide (t.Prog > 5)))=true
  ·rw[if_pos c1]
   refine⟨_,rfl,.inr ⟨λq=>?_,rfl⟩⟩
   obtain⟨⟨q1,q2,q3⟩,_⟩:=q
   simp only[Bool.or_eq_true,Bool.and_eq_true,bne_iff_ne,ne_eq,decide_eq_true_eq] at c1
   rcases q3 with q3 | q3 <;> omega
  ·rw[if_neg c1]
   have c1':(t.Kind=1∨t.Kind=2)∧0≤t.Prog∧t.Prog≤5:=by
    simp only[Bool.or_eq_true,Bool.and_eq_true,bne_iff_ne,ne_eq,decide_eq_true_eq] at c1
    omega
   refine b6N i (λk=>¬TkS (x.Q.L.getD k tz) t) (by omega) (λk hk=>?_) (by simp) (λhall=>?_) (λhno=>?_)
   ·have hk1:k<x.Q.L.length:=by omega
    have hk':k<(hO x).Q.L.length:=by rw[hlen];exact hk1
    have hgk:(hO x).Q.L[k]=⟨(x.Q.L.getD k tz).Kind,(x.Q.L.getD k tz).At,(x.Q.L.getD k tz).Prog⟩:=by
     rw[C8 hk1]
     simp[hO,tqR,tkR]
    simp only[Int.ofNat_lt,hk,decide_true,if_true,l5 hk',d1q,hgk]
    by_cases c:TkS (x.Q.L.getD k tz) t
    ·rw[if_pos (by simpa[TkS] using c)]
     exact⟨_,rfl,.inr ⟨λq=>q c,rfl⟩⟩
    ·rw[if_neg (by simpa[TkS] using c),g7]
     exact⟨_,rfl,.inl ⟨c,rfl⟩⟩
   ·dsimp only
    obtain⟨e,h1,h2⟩:=Q4 (p8.2 hR) hat
    rw[show (hO x).S=sO x.S from rfl,a3F x.S (by have:=hR.len;omega) hat,h1,Option.map_some,d1q]
    by_cases c2:TkP x t
    ·rw[if_neg,g7]
     ·exact⟨_,rfl,.inl ⟨⟨c2,hall⟩,rfl⟩⟩
     ·obtain⟨_,_,q | q⟩:=c2
      ·have:=h2.2 q.2.1
       simp[q.1,this,oo,q.2.2]
      ·simp[q.1]
       omega
    ·rw[if_pos]
     ·exact⟨_,rfl,.inr ⟨λq=>c2 q.1,rfl⟩⟩
     ·simp only[Bool.or_eq_true,Bool.and_eq_true,beq_iff_eq,bne_iff_ne,ne_eq,Bool.not_eq_true',decide_eq_true_eq,oo]
      rcases c1'.1 with k1 | k2
      ·left
       refine⟨k1,Classical.byContradiction λq=>c2 ⟨c1'.2.1,c1'.2.2,.inl ⟨k1,?_,?_⟩⟩⟩
       ·exact h2.1 (Classical.byContradiction λq2=>q (.inl q2))
       ·cases hst:(ob x.S t.At).Started
        ·exact absurd (.inr hst) q
        ·rfl
      ·right
       refine⟨k2,?_⟩
       have:¬(0≤t.At∧t.At≤5):=λq=>c2 ⟨c1'.2.1,c1'.2.2,.inr ⟨k2,q.1,q.2⟩⟩
       omega
   ·exact⟨_,rfl,.inr ⟨λq=>hno q.2,rfl⟩⟩
 ·refine⟨_,rfl,?_⟩
  rw[Bool.and_eq_true,beq_iff_eq,decide_eq_true_iff]
  constructor
  ·rintro⟨a,b⟩
   refine⟨λt ht=>?_,?_,a,by first | exact_mod_cast b | (simp[hO,tqR] at b;omega)⟩
   ·obtain⟨i,hi,rfl⟩:=List.getElem_of_mem ht
    have:=(hall i hi).1
    rwa [C8 hi] at this
   ·rw[List.pairwise_iff_getElem]
    intro i j hi hj hij
    have:=(hall j hj).2 i hij
    rwa [C8 hi,C8 hj] at this
  ·rintro⟨_,_,a,b⟩
   exact⟨a,by first | exact_mod_cast b | (simp[hO,tqR];omega)⟩
 ·refine⟨false,rfl,?_⟩
  simp only[Bool.false_eq_true,false_iff]
  rintro⟨a,b,_⟩
  refine hno λi hi=>⟨?_,λk hk=>?_⟩
  ·rw[C8 hi]
   exact a _ (List.getElem_mem hi)
  ·have hk1:k<x.Q.L.length:=by omega
   rw[C8 hi,C8 hk1]
   exact List.pairwise_iff_getElem.1 b k i hk1 hi hk
theorem c4H(hT:HR x.T)(hB:HB x)(hr:x.Roots.length≤1000):∃b,a7G (hO x)=some b∧(b=true↔((∀h∈x.Roots,h=0∨h∈lv x.S)∧(∀h∈lv x.S,∀v∈(ob x.S h).Fields,v=0∨v∈lv x.S)∧∀k v,Has x.T k v→k∈lv x.S∧v∈lv x.S)):=by
 have hlen:(hO x).Roots.length=x.Roots.length:=rfl
 have h24:=a0W (p8.2 hR)
 unfold a7G
 simp only[jn]
 refine b6N x.Roots.length (λi=>x.Roots.getD i 0=0∨x.Roots.getD i 0∈lv x.S) (by omega) (λi hi=>?_) (by simp[hlen]) (λhall=>?_) (λhno=>?_)
 ·have hb:=hB.rb _ (List.getElem_mem hi)
  rw[hlen]
  simp only[Int.ofNat_lt,hi,decide_true,if_true]
  rw[show (hO x).Roots=x.Roots from rfl,l5 hi,d1q,a7r hR hb,d1q,C8 hi]
  by_cases c:x.Roots[i]=0∨x.Roots[i]∈lv x.S
  ·rw[decide_eq_true c,if_neg (by simp),g7]
   exact⟨_,rfl,.inl ⟨c,rfl⟩⟩
  ·rw[decide_eq_false c,if_pos (by simp)]
   exact⟨_,rfl,.inr ⟨c,rfl⟩⟩
 ·dsimp only
  have hall':∀h∈x.Roots,h=0∨h∈lv x.S:=λh hh=>by
   obtain⟨i,hi,rfl⟩:=List.getElem_of_mem hh
   have:=hall i hi
   rwa [C8 hi] at this
  rw[show (hO x).S=sO x.S from rfl,b2P (p8.2 hR),d1q]
  refine b6N (lv x.S).length (λi=>∀v∈(ob x.S ((lv x.S).getD i 0)).Fields,v=0∨v∈lv x.S) (by omega) (λi hi=>?_) (by simp) (λhall2=>?_) (λhno=>?_)
  ·have hm:=List.getElem_mem hi
   have hle:=c2C (p8.2 hR) hi
   have hfl:=(J8 hR hm).fl
   simp only[Int.ofNat_lt,hi,decide_true,if_true]
   rw[l5 hi,d1q,a3F x.S (by have:=hR.len;omega) hle,a6G (p8.2 hR) hm,Option.map_some,d1q,C8 hi]
   have hff:(oo (ob x.S (lv x.S)[i])).Fields=(ob x.S (lv x.S)[i]).Fields:=rfl
   dsimp only
   rw[hff]
   refine b6N (ob x.S (lv x.S)[i]).Fields.length (λk=>(ob x.S (lv x.S)[i]).Fields.getD k 0=0∨(ob x.S (lv x.S)[i]).Fields.getD k 0∈lv x.S) (by omega) (λk hk=>?_) (by simp) (λhall3=>?_) (λhno=>?_)
   ·have hp:=u6 hR hm
    have hb:(ob x.S (lv x.S)[i]).Fields[k]≤9223372036854775807:=by
     have e:=O2 hR hp
     exact c5J.1 hB.fb _ hp.1 _ (by rw[←e];exact List.getElem_mem hk)
    simp only[Int.ofNat_lt,hk,decide_true,if_true]
    rw[l5 hk,d1q,a7r hR hb,d1q,C8 hk]
    by_cases c:(ob x.S (lv x.S)[i]).Fields[k]=0∨(ob x.S (lv x.S)[i]).Fields[k]∈lv x.S
    ·rw[decide_eq_true c,if_neg (by simp),g7]
     exact⟨_,rfl,.inl ⟨c,rfl⟩⟩
    ·rw[decide_eq_false c,if_pos (by simp)]
     exact⟨_,rfl,.inr ⟨c,rfl⟩⟩
   ·dsimp only
    rw[g7]
    refine⟨_,rfl,.inl ⟨λv hv=>?_,rfl⟩⟩
    obtain⟨k,hk,rfl⟩:=List.getElem_of_mem hv
    have:=hall3 k hk
    rwa [C8 hk] at this
   ·refine⟨_,rfl,.inr ⟨λq=>hno λk hk=>?_,rfl⟩⟩
    rw[C8 hk]
    exact q _ (List.getElem_mem hk)
  ·dsimp only
   have hall2':∀h∈lv x.S,∀v∈(ob x.S h).Fields,v=0∨v∈lv x.S:=λh hh=>by
    obtain⟨i,hi,rfl⟩:=List.getElem_of_mem hh
    have:=hall2 i hi
    rwa [C8 hi] at this
   have h8:=a8O hT.l8
   rw[show (hO x).T=x.T.map J0 from rfl,b4O hT,d1q,List.length_map]
   refine b6N (prs x.T).length (λi=>((prs x.T).getD i ⟨0,0⟩).Key∈lv x.S∧((prs x.T).getD i ⟨0,0⟩).Val∈lv x.S) (by omega) (λi hi=>?_) (by simp) (λhall3=>?_) (λhno=>?_)
   ·have hi':i<((prs x.T).map pp).length:=by simpa using hi
    have hb:=hB.tb.has (a3P.1 (List.getElem_mem hi))
    simp only[Int.ofNat_lt,hi,decide_true,if_true]
    rw[l5 hi',d1q,List.getElem_map,a5n hR hb.1,d1q,C8 hi]
    by_cases c:(prs x.T)[i].Key∈lv x.S
    ·rw[decide_eq_true c]
     simp only[Bool.not_true,beq_self_eq_true,F5,Bool.false_or]
     rw[a5n hR hb.2,d1q]
     by_cases c2:(prs x.T)[i].Val∈lv x.S
     ·rw[decide_eq_true c2,if_neg (by simp),g7]
      exact⟨_,rfl,.inl ⟨⟨c,c2⟩,rfl⟩⟩
     ·rw[decide_eq_false c2,if_pos (by simp)]
      exact⟨_,rfl,.inr ⟨λq=>c2 q.2,rfl⟩⟩
    ·rw[decide_eq_false c]
     simp only[Bool.not_false,show ((true==false):Bool)=false from rfl,b4J,d1q,Bool.true_or,if_true]
     exact⟨_,rfl,.inr ⟨λq=>c q.1,rfl⟩⟩
   ·refine⟨true,rfl,?_⟩
    simp only[true_iff]
    refine⟨hall',hall2',λk v hkv=>?_⟩
    obtain⟨i,hi,e⟩:=List.getElem_of_mem (a3P (p:=⟨k,v⟩).2 hkv)
    have:=hall3 i hi
    rw[C8 hi,e] at this
    exact this
   ·refine⟨false,rfl,?_⟩
    simp only[Bool.false_eq_true,false_iff]
    rintro⟨_,_,q⟩
    refine hno λi hi=>?_
    rw[C8 hi]
    exact q _ _ (a3P.1 (List.getElem_mem hi))
  ·refine⟨false,rfl,?_⟩
   simp only[Bool.false_eq_true,false_iff]
   rintro⟨_,q,_⟩
   refine hno λi hi=>?_
   rw[C8 hi]
   exact q _ (List.getElem_mem hi)
 ·refine⟨false,rfl,?_⟩
  simp only[Bool.false_eq_true,false_iff]
  rintro⟨q,_⟩
  refine hno λi hi=>?_
  rw[C8 hi]
  exact q _ (List.getElem_mem hi)
def ClP(x:Hp)(i:Nat)(c:weak_Cell):Prop:=-1≤c.Call∧c.Call≤5∧(c.Target=0→c.Intact=false)∧(c.Target≠0→∃p,P6 x.S c.Target p)∧(c.Intact=true→c.Target∈lv x.S∧wts x.Q i=false)
theorem c4i(hl:x.Cells.length≤1000)(hq:x.Q.L.length≤1000)(hB:∀c∈x.Cells,c.Target≤9223372036854775807):∃b,a7F (hO x)=some b∧(b=true↔∀i (hi:i<x.Cells.length),ClP x i x.Cells[i]):=by
 have hlen:(hO x).Cells.length=x.Cells.length:=by simp[hO]
 unfold a7F
 simp only[jn]
 rw[hlen]
 refine b6N x.Cells.length (λi=>ClP x i (x.Cells.getD i cz0)) (by omega) (λi hi=>?_) (by simp) (λhall=>⟨true,rfl,?_⟩) (λhno=>⟨false,rfl,?_⟩)
 ·have hi':i<(hO x).Cells.length:=by rw[hlen];exact hi
  have hg:(hO x).Cells[i]=⟨(x.Cells.getD i cz0).Target,(x.Cells.getD i cz0).Intact,(x.Cells.getD i cz0).Call⟩:=by
   rw[C8 hi]
   simp[hO,wcR]
  have hb:=hB _ (List.getElem_mem hi)
  rw[←C8 hi cz0] at hb
  simp only[Int.ofNat_lt,hi,decide_true,if_true,l5 hi',d1q,hg]
  generalize x.Cells.getD i cz0=c at hb
  rw[show (hO x).S=sO x.S from rfl,a1S _ (by rw[y5];have:=hR.len;omega),d1q]
  rw[a8G x.S hb]
  obtain⟨z,z1,z2⟩:∃z,o8 x.S.S c.Target=some z∧(z.2=0↔∃p,P6 x.S c.Target p):=by
   by_cases q:∃p,P6 x.S c.Target p
   ·obtain⟨p,hp⟩:=q
    exact⟨_,a2y hR hp,by simp;exact⟨p,hp⟩⟩
   ·refine⟨_,a2R hR hb (λp hp=>q ⟨p,hp⟩),?_⟩
    simp only[q,iff_false]
    exact a0L _
  rw[z1,d1q]
  by_cases c1:((((decide (c.Call<(-1)))||(decide (c.Call > 5)))||((c.Target==0)&&c.Intact))||((c.Target != 0)&&(z.2 != 0)))=true
  ·rw[c1]
   simp only[show ((true==false):Bool)=false from rfl,Bool.false_and,b4J,d1q,Bool.true_or,if_true]
   refine⟨_,rfl,.inr ⟨λq=>?_,rfl⟩⟩
   obtain⟨q1,q2,q3,q4,q5⟩:=q
   simp only[Bool.or_eq_true,Bool.and_eq_true,decide_eq_true_eq,beq_iff_eq,bne_iff_ne,ne_eq] at c1
   rcases c1 with ((c1 | c1) | c1) | c1
   ·omega
   ·omega
   ·have:=q3 c1.1
    rw[this] at c1
    exact absurd c1.2 (by decide)
   ·exact c1.2 (z2.2 (q4 c1.1))
  ·have c1:((((decide (c.Call<(-1)))||(decide (c.Call > 5)))||((c.Target==0)&&c.Intact))||((c.Target != 0)&&(z.2 != 0)))=false:=by simpa using c1
   have c1' : -1≤c.Call∧c.Call≤5∧(c.Target=0→c.Intact=false)∧(c.Target≠0→∃p,P6 x.S c.Target p):=by
    simp only[Bool.or_eq_false_iff,Bool.and_eq_false_iff,decide_eq_false_iff_not,beq_eq_false_iff_ne,ne_eq,bne_eq_false_iff_eq] at c1
    refine⟨by omega,by omega,λq=>c1.1.2.resolve_left (λq2=>q2 q),λq=>z2.1 (c1.2.resolve_left q)⟩
   rw[c1]
   simp only[beq_self_eq_true,Bool.true_and,Bool.false_or]
   cases hin:c.Intact
   ·simp only[show ((false==true):Bool)=false from rfl,b4J,d1q,Bool.false_and,Bool.false_eq_true,if_false]
    rw[g7]
    exact⟨_,rfl,.inl ⟨⟨c1'.1,c1'.2.1,λ_=>hin,c1'.2.2.2,λq=>by rw[hin] at q;cases q⟩,rfl⟩⟩
   ·simp only[beq_self_eq_true,F5,Bool.true_and]
    rw[a5n hR hb,d1q]
    by_cases c2:c.Target∈lv x.S
    ·rw[decide_eq_true c2]
     simp only[Bool.not_true,beq_self_eq_true,F5,Bool.false_or]
     rw[show a1A (hO x).Q i=some (wts x.Q i) from b96 hq,d1q]
     cases hwt:wts x.Q i
     ·rw[if_neg (by decide),g7]
      exact⟨_,rfl,.inl ⟨⟨c1'.1,c1'.2.1,c1'.2.2.1,c1'.2.2.2,λ_=>⟨c2,hwt⟩⟩,rfl⟩⟩
     ·rw[if_pos rfl]
      refine⟨_,rfl,.inr ⟨λq=>?_,rfl⟩⟩
      have:=(q.2.2.2.2 hin).2
      rw[hwt] at this
      cases this
    ·rw[decide_eq_false c2]
     simp only[Bool.not_false,show ((true==false):Bool)=false from rfl,b4J,d1q,Bool.true_or,if_true]
     exact⟨_,rfl,.inr ⟨λq=>c2 (q.2.2.2.2 hin).1,rfl⟩⟩
 ·simp only[true_iff]
  intro i hi
  have:=hall i hi
  rwa [C8 hi] at this
 ·simp only[Bool.false_eq_true,false_iff]
  intro q
  refine hno λi hi=>?_
  rw[C8 hi]
  exact q i hi
omit hR in
theorem c2N (l:List weak_Cell) (hl:l.length≤1000) (h:Int):a5y (l.map wcR) h=some (nmg l h:Int):=by
 unfold a5y
 simp only[jn]
 rw[List.length_map,b0K l (λ(b:Int) c=>if ((h != 0)&&(c.Target==h))=true then b+1 else b) id (λk b=>0≤b∧b≤k) (by omega) (by omega) (λk hk b hI=>?_) (λb _=>by simp),d1q]
 ·congr 1
  have:∀(l:List weak_Cell) (n:Int),l.foldl (λ(b:Int) c=>if ((h != 0)&&(c.Target==h))=true then b+1 else b) n=n+(nmg l h:Int):=λl=>by
   induction l with
   | nil=>intro n;simp[nmg]
   | cons c l ih=>
    intro n
    rw[List.foldl_cons,ih]
    unfold nmg
    rw[List.countP_cons]
    split <;> simp_all <;> omega
  rw[id,this]
  omega
 ·have hk':k<(l.map wcR).length:=by simpa using hk
  simp only[Int.ofNat_lt,hk,decide_true,if_true,l5 hk',d1q,List.getElem_map,wcR]
  by_cases c:((h != 0)&&(l[k].Target==h))=true
  ·rw[if_pos c,if_pos (by rw[Bool.and_comm];exact c),E0 (by omega) (by omega),g7]
   exact⟨rfl,by omega⟩
  ·rw[if_neg c,if_neg (by rw[Bool.and_comm];exact c),g7]
   exact⟨rfl,by omega⟩
omit hR in
theorem c0R (l:List weak_Cell) (hl:l.length≤1000) (h:Int):a2f l h=some (nmg l h:Int):=by
 unfold a2f M0 a1V
 simp only[jn,d1q]
 have key:∃e,lp (S:=Int × (List Int)) (E:=(List Int)) (λ((s17,s18):Int × (List Int))=>
   if (decide (s17<(l.length:Int))) then
     (ix l s17).bind λv26=>
     if ((h != 0)&&(v26.Target==h)) then
      (app 8 s18 [s17]).bind λv28=>
      some (.inl (s6 (s17+1),v28))
     else
     some (.inl (s6 (s17+1),s18))
   else
   some (.inr s18)) (0,[])=some e∧e.length=nmg l h:=by
  refine a0V l.length (λk (acc:List Int)=>acc.length=nmg (l.take k) h) (λ(e:List Int)=>e.length=nmg l h) (by omega) rfl (λk acc hk hP=>?_) (λacc hP=>⟨acc,by simp,by rwa [List.take_length] at hP⟩)
  left
  have hle:acc.length≤k:=by
   rw[hP]
   exact Nat.le_trans (c2O _ _) (by simp;omega)
  have hst:nmg (l.take (k+1)) h=nmg (l.take k) h+if ((h != 0)&&(l[k].Target==h))=true then 1 else 0:=by
   unfold nmg
   rw[List.take_succ_eq_append_getElem hk,List.countP_append,List.countP_cons,List.countP_nil]
   omega
  simp only[Int.ofNat_lt,hk,decide_true,if_true,l5 hk,d1q]
  rw[g7]
  by_cases c:((h != 0)&&(l[k].Target==h))=true
  ·rw[if_pos c,B1 (by omega) (by simp;omega),d1q]
   exact⟨_,rfl,by rw[hst,if_pos c];simp[hP]⟩
  ·rw[if_neg c]
   exact⟨_,rfl,by rw[hst,if_neg c];simpa using hP⟩
 obtain⟨e,e1,e2⟩:=key
 rw[show lp _ _=_ from e1,d1q,d1q,e2]
omit hR in
theorem c6Y {s:store_Store} {i:Nat} (hi:i<s.S.Cells.length):ix (sO s).Cells (i:Int)=some ⟨(ce s i).State,(ce s i).Gen,⟨(ce s i).Val.Serial,(ce s i).Val.Strong,(ce s i).Val.Weak,(ce s i).Val.Prog,(ce s i).Val.Started,(ce s i).Val.Fields⟩⟩:=c2y hi
theorem c5x(hl:x.Cells.length≤1000):∃b,a7I (hO x)=some b∧(b=true↔Wk x):=by
 have hlen:(hO x).S.Cells.length=x.S.S.Cells.length:=by simp[hO,sO]
 have h24:=hR.len
 have l9:=hR.l9
 unfold a7I
 simp only[jn]
 rw[hlen]
 refine b6N x.S.S.Cells.length (λi=>Th (ce x.S i)→(ce x.S i).Val.Weak=(nmg x.Cells (1+(i:Int)+32*(ce x.S i).Gen):Int)∧((ce x.S i).State=2→1≤(ce x.S i).Val.Weak∧(ce x.S i).Val.Fields = []∧(ce x.S i).Val.Strong=0)) (by omega) (λi hi=>?_) (by simp) (λhall=>⟨true,rfl,by simp only[true_iff];exact λi hi=>hall i hi⟩) (λhno=>⟨false,rfl,by simp only[Bool.false_eq_true,false_iff];exact λq=>hno λi hi=>q i hi⟩)
 have hc:=hR.cell i hi
 simp only[Int.ofNat_lt,hi,decide_true,if_true]
 rw[show (hO x).S=sO x.S from rfl,c6Y hi,d1q]
 dsimp only
 by_cases ht:Th (ce x.S i)
 ·rw[if_neg (by unfold Th at ht;simp only[Bool.and_eq_true,bne_iff_ne,ne_eq];omega)]
  unfold a8Q
  rw[a3R,if_pos ⟨by omega,by omega,hc.2.2.1,by omega⟩,d1q,d1q,show (hO x).Cells=x.Cells.map wcR from rfl,c2N x.Cells hl,d1q]
  by_cases g:(ce x.S i).Val.Weak=(nmg x.Cells (1+(i:Int)+32*(ce x.S i).Gen):Int)∧((ce x.S i).State=2→1≤(ce x.S i).Val.Weak∧(ce x.S i).Val.Fields = []∧(ce x.S i).Val.Strong=0)
  ·rw[if_neg,g7]
   ·exact⟨_,rfl,.inl ⟨λ_=>g,rfl⟩⟩
   ·obtain⟨g1,g2⟩:=g
    simp only[Bool.or_eq_true,Bool.and_eq_true,bne_iff_ne,ne_eq,beq_iff_eq,decide_eq_true_eq,not_or,not_and,Decidable.not_not]
    refine⟨g1,λq=>?_⟩
    obtain⟨a,b,c⟩:=g2 q
    rw[b]
    exact⟨⟨by omega,by simp⟩,c⟩
  ·rw[if_pos]
   ·exact⟨_,rfl,.inr ⟨λq=>g (q ht),rfl⟩⟩
   ·simp only[Bool.or_eq_true,Bool.and_eq_true,bne_iff_ne,ne_eq,beq_iff_eq,decide_eq_true_eq]
    by_cases g1:(ce x.S i).Val.Weak=(nmg x.Cells (1+(i:Int)+32*(ce x.S i).Gen):Int)
    ·right
     refine Classical.byContradiction λq=>g ⟨g1,λq2=>?_⟩
     have q:¬(((ce x.S i).Val.Weak<1∨((ce x.S i).Val.Fields.length:Int) > 0)∨¬(ce x.S i).Val.Strong=0):=λq3=>q ⟨q2,q3⟩
     refine⟨by omega,List.eq_nil_of_length_eq_zero (by omega),by omega⟩
    ·exact .inl g1
 ·rw[if_pos (by unfold Th at ht;simp only[Bool.and_eq_true,bne_iff_ne,ne_eq];omega),g7]
  exact⟨_,rfl,.inl ⟨λq=>absurd q ht,rfl⟩⟩
omit hR in
theorem b2Y (l:List Int) (hl:l.length≤1000):lp (S:=Int × (List Int)) (E:=(List Int)) (λ((s17,s18):Int × (List Int))=>
   if (decide (s17<(l.length:Int))) then
     (ix l s17).bind λv25=>
     if (v25 != 0) then
      (app 8 s18 [v25]).bind λv26=>
      some (.inl (s6 (s17+1),v26))
     else
     some (.inl (s6 (s17+1),s18))
   else
   some (.inr s18)) (0,[])=some (nz l):=by
 rw[L6 l (λb x=>if (x != 0)=true then b ++ [x] else b) id (λk b=>b.length≤k) (by omega) (by simp) (λk hk b hI=>?_) (λb _=>by simp)]
 ·rw[foldl_filter]
  rfl
 ·simp only[Int.ofNat_lt,hk,decide_true,if_true,l5 hk,d1q]
  rw[g7]
  by_cases c:(l[k] != 0)=true
  ·rw[if_pos c,if_pos c,B1 (by omega) (by simp;omega),d1q]
   exact⟨rfl,by simp;omega⟩
  ·rw[if_neg c,if_neg c]
   exact⟨rfl,by omega⟩
omit hR in
theorem b10 (hl:x.Roots.length≤1000) (hq:x.Q.L.length≤1000):(otr x).length≤2000:=by
 unfold otr b1I
 rw[List.length_append,List.length_map]
 have:=b8O x.Roots
 have:(x.Q.L.filter (·.Kind==1)).length≤x.Q.L.length:=List.length_filter_le ..
 omega
omit hR in
theorem c4X (hl:x.Roots.length≤1000) (hq:x.Q.L.length≤1000):a7E (hO x)=some (otr x):=by
 unfold a7E
 simp only[jn]
 rw[show (hO x).Roots=x.Roots from rfl,show lp _ _=_ from b2Y x.Roots hl,d1q,show a6P (hO x).Q=some (b1I x.Q) from c7y hq,d1q]
 have:=b10 hl hq
 unfold otr at this ⊢
 rw[List.length_append] at this
 rw[B1 (by omega) (by omega)]
 rfl
omit hR in
theorem c25 (hl:x.Roots.length≤1000) (hq:x.Q.L.length≤1000):a5i x=some (otr x):=by
 unfold a5i
 simp only[jn]
 rw[show lp _ _=_ from b2Y x.Roots hl,d1q,show a4U x.Q=some (b1I x.Q) from c7N hq,d1q]
 have:=b10 hl hq
 unfold otr at this ⊢
 rw[List.length_append] at this
 rw[B1 (by omega) (by omega)]
 rfl
omit hR in
theorem b6X:b4n x.S x.T (otr x)↔a2Q x []:=by
 constructor
 ·intro h k hk hlt
  have:=h k hk hlt
  unfold rst inr at this
  rw[if_pos hk] at this
  rw[R4]
  unfold nms
  omega
 ·intro h k hk hlt
  have:=h k hk hlt
  rw[R4] at this
  unfold nms at this
  unfold rst inr
  rw[if_pos hk]
  omega
end
theorem a6A(x:Hp)(hB:HB x)(hc:x.S.S.Cells.length≤1000)(hr:x.Roots.length≤1000)(hl:x.Cells.length≤1000)(ht:x.T.length≤1000)(hq:x.Q.L.length≤1000):∃b,a1B (hO x)=some b∧(b=true↔R7 x):=by
 unfold a1B
 obtain⟨b1,e1,h1⟩:=c4a (sO x.S) (by rw[y5];exact hc)
 obtain⟨b2,e2,h2⟩:=c09 x.T ht
 rw[show (hO x).S=sO x.S from rfl,e1,d1q,show (hO x).T=x.T.map J0 from rfl,e2]
 have hno:∀ {P:Prop},¬P→(false=true↔P):=λq=>by simp[q]
 cases b1
 ·refine⟨false,by simp[l6],hno λq=>?_⟩
  have:=h1.2 (p8.2 q.sh.sr)
  cases this
 ·have hR:=p8.1 (h1.1 rfl)
  cases b2
  ·refine⟨false,by simp[l6],hno λq=>?_⟩
   have:=h2.2 q.sh.hr
   cases this
  ·have hT:=h2.1 rfl
   simp only[Bool.not_true,beq_self_eq_true,F5,d1q,Bool.or_self,Bool.false_or]
   by_cases hlen:x.Roots.length=6∧x.Cells.length=6
   ·rw[if_neg (by simp[hO];omega)]
    obtain⟨b3,e3,h3⟩:=c5q hR hq hB.qb
    rw[e3,d1q]
    cases b3
    ·refine⟨false,by simp[l6],hno λq=>?_⟩
     have:=h3.2 ⟨q.sh.tk,q.sh.td,q.sh.cap,q.sh.q30⟩
     cases this
    ·obtain⟨t1,t2,t3,t4⟩:=h3.1 rfl
     obtain⟨b4,e4,h4⟩:=c4H hR hT hB hr
     simp only[beq_self_eq_true,F5,Bool.true_and]
     rw[e4,d1q]
     cases b4
     ·refine⟨false,by simp[l6],hno λq=>?_⟩
      have:=h4.2 ⟨q.sh.rt,q.sh.fl,q.sh.pr⟩
      cases this
     ·obtain⟨n1,n2,n3⟩:=h4.1 rfl
      obtain⟨b5,e5,h5⟩:=c4i hR hl hq hB.cb
      simp only[beq_self_eq_true,F5,Bool.true_and]
      rw[e5,d1q]
      cases b5
      ·refine⟨false,by simp[l6],hno λq=>?_⟩
       have:=h5.2 q.sh.cl
       cases this
      ·have c1:=h5.1 rfl
       obtain⟨b6,e6,h6⟩:=c5x hR hl
       simp only[beq_self_eq_true,F5,Bool.true_and]
       rw[e6,d1q]
       cases b6
       ·refine⟨false,by simp[l6],hno λq=>?_⟩
        have:=h6.2 q.wk
        cases this
       ·have w1:=h6.1 rfl
        simp only[beq_self_eq_true,F5,Bool.true_and]
        rw[c4X hr hq,d1q,c0E (p8.2 hR) hT hB.sb (by have:=b10 hr hq;omega),d1q]
        refine⟨_,rfl,?_⟩
        rw[decide_eq_true_iff,b6X]
        exact⟨λq=>⟨⟨hR,hT,hlen.1,hlen.2,t3,t4,t1,t2,n1,n2,n3,c1⟩,w1,q⟩,λq=>q.fair⟩
   ·rw[if_pos (by simp[hO];omega)]
    exact⟨false,rfl,hno λq=>hlen ⟨q.sh.r6,q.sh.c6⟩⟩
end Go.Sh
namespace Go.Sh
theorem c8H{K V:Type}[BEq K](hr:∀a:K,(a==a)=true)(he:∀a b:K,(a==b)=true→a=b)(m:List (K × V))(k:K)(v:V)(k':K):y7 (m7 m k v) k'=if k'==k then some v else y7 m k':=by
 induction m with
 | nil=>simp[m7,y7]
 | cons p m ih=>
  unfold m7
  by_cases h:(k==p.1)=true
  ·have:=he _ _ h
   subst this
   rw[if_pos h]
   unfold y7
   by_cases h':(k'==p.1)=true
   ·simp[h']
   ·simp[h']
  ·rw[if_neg h]
   unfold y7
   by_cases h':(k'==p.1)=true
   ·have:=he _ _ h'
    subst this
    have:(p.1==k)≠true:=λq=>by
     have:=he _ _ q
     subst this
     exact h (hr _)
    simp[h',this]
   ·simp only[h',ih]
    simp
theorem c1k(a:task_Task):(a==a)=true:=by
 show ((a.Kind==a.Kind)&&((a.At==a.At)&&((a.Prog==a.Prog)&&true)))=true
 simp
section
variable{x:Hp}(hx:R7 x)(hB:HB x)
include hx hB
theorem b2V:V7 x=some true:=by
 have hR:=hx.sh.sr
 have r6:=hx.sh.r6
 have h24:=a0W (p8.2 hR)
 unfold V7 E5
 rw[N4 (by omega) (by omega),d1q]
 simp only[jn]
 rw[a5p (p8.2 hR),d1q]
 have key:∃e,lp (S:=Int × (List Int)) (E:=(List Int)) (λ((s16,s17):Int × (List Int))=>
   if (decide (s16<((lv x.S).length:Int))) then
    (ix (lv x.S) s16).bind λv20=>
    (r7 x.S v20).bind λv21=>
    (app 8 s17 v21.1.Fields).bind λv22=>
    some (.inl (s6 (s16+1),v22))
   else
   some (.inr s17)) (0,x.Roots)=some e∧(e.length≤200∧∀v∈e,v=0∨v∈lv x.S):=by
  refine a0V (lv x.S).length (λk (acc:List Int)=>acc.length≤6+4*k∧∀v∈acc,v=0∨v∈lv x.S) (λ(e:List Int)=>e.length≤200∧∀v∈e,v=0∨v∈lv x.S) (by omega) ⟨by omega,hx.sh.rt⟩ (λk acc hk hP=>?_) (λacc hP=>⟨acc,by simp,by omega,hP.2⟩)
  have hm:=List.getElem_mem hk
  have hf:=(J8 hR hm).fl
  left
  refine⟨acc++(ob x.S (lv x.S)[k]).Fields,?_,by rw[List.length_append];omega,λv hv=>?_⟩
  ·simp only[Int.ofNat_lt,hk,decide_true,if_true,l5 hk,d1q]
   rw[a6G (p8.2 hR) hm,d1q]
   dsimp only
   rw[B1 (by omega) (by omega),d1q,g7]
  ·rcases List.mem_append.1 hv with q | q
   ·exact hP.2 v q
   ·exact hx.sh.fl _ hm v q
 obtain⟨e,e1,e2⟩:=key
 rw[show lp _ _=_ from e1,d1q]
 have:D2 e x=some true:=by
  unfold D2 a1q
  simp only[jn]
  refine D5 e.length (λ_=>True) (by omega) trivial (λk hk _=>.inl ⟨?_,trivial⟩) (λ_=>⟨.inr (),by simp,rfl⟩)
  have hm:=e2.2 _ (List.getElem_mem hk)
  have hb:e[k]≤9223372036854775807:=by
   rcases hm with q | q
   ·omega
   ·have:=J9 hR q;omega
  simp only[Int.ofNat_lt,hk,decide_true,if_true,l5 hk,d1q]
  rw[a1t hR hb,d1q,d1q,decide_eq_true hm,if_neg (by simp),g7]
 rw[this]
 rfl
theorem b22:a0S x=some true:=by
 have hR:=hx.sh.sr
 have h8:=a8O hx.sh.hr.l8
 unfold a0S
 rw[c3b hx.sh.hr,d1q]
 have:A7 (prs x.T) x=some true:=by
  unfold A7 a1r
  simp only[jn]
  refine D5 (prs x.T).length (λ_=>True) (by omega) trivial (λk hk _=>.inl ⟨?_,trivial⟩) (λ_=>⟨.inr (),by simp,rfl⟩)
  have hp:=a3P.1 (List.getElem_mem hk)
  have hb:=hB.tb.has hp
  have hl:=hx.sh.pr _ _ hp
  simp only[Int.ofNat_lt,hk,decide_true,if_true,l5 hk,d1q]
  rw[a9y hR hb.1,d1q,decide_eq_true hl.1]
  simp only[beq_self_eq_true,F5]
  rw[a9y hR hb.2,d1q,d1q,decide_eq_true hl.2,if_neg (by simp),g7]
 rw[this]
 rfl
theorem b4j:a1O x=some true:=by
 have hR:=hx.sh.sr
 have q30:=hx.sh.q30
 have c6:=hx.sh.c6
 unfold a1O
 simp only[jn]
 refine X9 x.Q.L.length (λk (m:List (task_Task × Bool))=>∀t:task_Task,t.Prog=0→((y7 m t).getD false=true→∃j,j<k∧TkS (x.Q.L.getD j tz) t)) (by omega) (λt _ q=>by simp[y7] at q) (λk m hk hP=>.inl ?_) (λm hP=>⟨.inr m,by simp,rfl⟩)
 have hm:=List.getElem_mem hk
 obtain⟨t1,t2,t3⟩:=hx.sh.tk _ hm
 have hb:=hB.qb _ hm
 have hno:(y7 m (⟨x.Q.L[k].Kind,x.Q.L[k].At,0⟩:task_Task)).getD false=false:=by
  rw[Bool.eq_false_iff]
  intro q
  obtain⟨j,hj,hs⟩:=hP ⟨x.Q.L[k].Kind,x.Q.L[k].At,0⟩ rfl q
  have hj1:j<x.Q.L.length:=by omega
  rw[C8 hj1] at hs
  exact List.pairwise_iff_getElem.1 hx.sh.td j k hj1 hk hj hs
 have hfor:a0U x x.Q.L[k]=some true:=by
  unfold a0U
  rcases t3 with ⟨a,b,c⟩ | ⟨a,b,c⟩
  ·rw[if_pos (by simpa using a),a6G (p8.2 hR) b,d1q,c]
   rfl
  ·rw[if_neg (by simp[a]),if_pos (by simpa using a)]
   obtain⟨n,hn⟩:∃n:Nat,x.Q.L[k].At=n:=⟨x.Q.L[k].At.toNat,by omega⟩
   have hnl:n<x.Cells.length:=by omega
   have e1:((decide (x.Q.L[k].At≥0))&&(decide (x.Q.L[k].At<(x.Cells.length:Int))))=true:=by simp;omega
   rw[e1]
   simp only[beq_self_eq_true,F5,Bool.true_and]
   rw[hn,l5 hnl,d1q]
   have:x.Cells[n].Intact=false:=by
    rw[Bool.eq_false_iff]
    intro q
    have:=((hx.sh.cl n hnl).2.2.2.2 q).2
    rw[Bool.eq_false_iff] at this
    exact this (c3U.2 ⟨_,hm,a,hn⟩)
   rw[this]
   rfl
 refine⟨m7 m (⟨x.Q.L[k].Kind,x.Q.L[k].At,0⟩:task_Task) true,?_,λt ht q=>?_⟩
 ·simp only[Int.ofNat_lt,hk,decide_true,if_true,l5 hk,d1q]
  rw[hno,decide_eq_true (show x.Q.L[k].Prog≥0 from t1),decide_eq_true (show x.Q.L[k].Prog<6 by omega)]
  simp only[Bool.not_false,Bool.and_self,beq_self_eq_true,F5]
  rw[hfor,d1q,if_neg (by simp),g7]
 ·rw[c8H c1k task_Task.beq_eq] at q
  by_cases e:(t==(⟨x.Q.L[k].Kind,x.Q.L[k].At,0⟩:task_Task))=true
  ·have:=task_Task.beq_eq _ _ e
   refine⟨k,by omega,?_⟩
   rw[C8 hk,this]
   exact⟨rfl,rfl⟩
  ·rw[if_neg e] at q
   obtain⟨j,hj,hs⟩:=hP t ht q
   exact⟨j,by omega,hs⟩
theorem b3Z:a1M x=some true:=by
 have hR:=hx.sh.sr
 have c6:=hx.sh.c6
 unfold a1M
 have:B7 x.Cells x=some true:=by
  unfold B7 a2i
  simp only[jn]
  refine D5 x.Cells.length (λ_=>True) (by omega) trivial (λk hk _=>.inl ⟨?_,trivial⟩) (λ_=>⟨.inr (),by simp,rfl⟩)
  obtain⟨a1,a2,a3,a4,a5⟩:=hx.sh.cl k hk
  have hb:=hB.cb _ (List.getElem_mem hk)
  simp only[Int.ofNat_lt,hk,decide_true,if_true,l5 hk,d1q]
  rw[if_neg (by simp;omega)]
  by_cases hin:x.Cells[k].Intact=true
  ·rw[if_pos hin,a9y hR hb,d1q,d1q,decide_eq_true (a5 hin).1,if_neg (by simp),g7]
  ·rw[if_neg hin]
   by_cases h0:x.Cells[k].Target=0
   ·have hno:∀i,¬P6 x.S x.Cells[k].Target i:=λi q=>by have:=q.rng hR;omega
    rw[a2R hR hb hno,d1q,d1q,h0,if_neg (by simp),g7]
   ·obtain⟨p,hp⟩:=a4 h0
    rw[a2y hR hp,d1q,d1q,if_neg (by simp),g7]
 rw[this]
 rfl
theorem b32:a1N x=some true:=by
 have hR:=hx.sh.sr
 have c6:=hx.sh.c6
 have h24:=hR.len
 have l9:=hR.l9
 unfold a1N
 simp only[jn]
 refine D5 x.S.S.Cells.length (λ_=>True) (by omega) trivial (λk hk _=>.inl ⟨?_,trivial⟩) (λ_=>⟨.inr (),by simp,rfl⟩)
 have hc:=hR.cell k hk
 simp only[Int.ofNat_lt,hk,decide_true,if_true]
 rw[b4z hk,d1q]
 by_cases ht:Th (ce x.S k)
 ·rw[if_neg (by unfold Th at ht;simp only[Bool.and_eq_true,bne_iff_ne,ne_eq];omega),a2X (by omega) (by omega) hc.2.2.1 (by omega),d1q,c0R x.Cells (by omega),d1q]
  obtain⟨g1,g2⟩:=hx.wk k hk ht
  rw[if_neg (by simpa using g1),if_neg,g7]
  simp only[Bool.or_eq_true,Bool.and_eq_true,bne_iff_ne,ne_eq,beq_iff_eq,decide_eq_true_eq,not_or,not_and,Decidable.not_not]
  intro q
  obtain⟨a,b,c⟩:=g2 q
  rw[b]
  exact⟨⟨by omega,by simp⟩,c⟩
 ·rw[if_pos (by unfold Th at ht;simp only[Bool.and_eq_true,bne_iff_ne,ne_eq];omega),g7]
open Classical in
theorem b1J:a5j x=some true:=by
 have hR:=hx.sh.sr
 have r6:=hx.sh.r6
 have q30:=hx.sh.q30
 unfold a5j
 have hsh:a0T x=some true:=by
  unfold a0T
  have hsr:a2d x.S=some true:=by
   rw[b6d x.S (by have:=hR.len;omega)]
   congr 1
   rw[decide_eq_true_iff]
   exact p8.2 hR
  obtain⟨b,b1,b2⟩:=c0L x.T (by have:=hx.sh.hr.l8;omega)
  rw[show b0h=some ⟨[],30⟩ from rfl,d1q,hsr,d1q]
  simp only[beq_self_eq_true,F5,Bool.true_and]
  rw[b1,d1q,b2.2 hx.sh.hr,hx.sh.r6,hx.sh.c6,hx.sh.cap]
  have:decide ((x.Q.L.length:Int)≤30)=true:=by simp;omega
  rw[this]
  rfl
 rw[hsh,d1q,if_neg (by simp)]
 simp only[jn]
 have f1:X6 (some 88) x=some true:=by
  unfold X6
  rw[if_pos rfl]
  exact b2V hx hB
 have f2:X6 (some 89) x=some true:=by
  unfold X6
  rw[if_neg (by decide),if_pos rfl]
  exact b22 hx hB
 have f3:X6 (some 90) x=some true:=by
  unfold X6
  rw[if_neg (by decide),if_neg (by decide),if_pos rfl]
  exact b4j hx hB
 have f4:X6 (some 91) x=some true:=by
  unfold X6
  rw[if_neg (by decide),if_neg (by decide),if_neg (by decide),if_pos rfl]
  exact b3Z hx hB
 have f5:X6 (some 92) x=some true:=by
  unfold X6
  rw[if_neg (by decide),if_neg (by decide),if_neg (by decide),if_neg (by decide),if_pos rfl]
  exact b32 hx hB
 refine D5 5 (λ_=>True) (by omega) trivial (λk hk _=>.inl ⟨?_,trivial⟩) (λ_=>⟨.inr (),by kernel_rfl,?_⟩)
 ·match k,hk with
  | 0,_=>
   refine (if_pos (by rfl)).trans ?_
   refine bnd (a:=some 88) (by kernel_rfl) ?_
   refine bnd f1 ?_
   kernel_rfl
  | 1,_=>
   refine (if_pos (by rfl)).trans ?_
   refine bnd (a:=some 89) (by kernel_rfl) ?_
   refine bnd f2 ?_
   kernel_rfl
  | 2,_=>
   refine (if_pos (by rfl)).trans ?_
   refine bnd (a:=some 90) (by kernel_rfl) ?_
   refine bnd f3 ?_
   kernel_rfl
  | 3,_=>
   refine (if_pos (by rfl)).trans ?_
   refine bnd (a:=some 91) (by kernel_rfl) ?_
   refine bnd f4 ?_
   kernel_rfl
  | 4,_=>
   refine (if_pos (by rfl)).trans ?_
   refine bnd (a:=some 92) (by kernel_rfl) ?_
   refine bnd f5 ?_
   kernel_rfl
 ·dsimp only
  rw[c25 (by omega) (by omega),d1q,c4q (p8.2 hR) hx.sh.hr hB.sb (by have:=b10 (x:=x) (by omega) (by omega);omega),d1q,decide_eq_true (b6X.2 hx.fair)]
end
end Go.Sh
namespace Go.Sh
theorem c7F{l:List g8}(h:l.length≤100000):a9T l l=some true:=by
 unfold a9T
 rw[if_neg (by simp)]
 simp only[jn]
 refine D5 l.length (λ_=>True) (by omega) trivial (λk hk _=>.inl ⟨?_,trivial⟩) (λ_=>⟨.inr (),by simp,rfl⟩)
 rw[if_pos (by simpa using hk),l5 hk,d1q,d1q,if_neg (by simp),g7 (by omega)]
def SL(x:Hp):Prop:=∀k∈lv x.S,(ob x.S k).Strong≤9223372036854775807
theorem SB.sl{x:Hp}(hR:SR x.S)(h:SB x.S):SL x:=λk hk=>c1j hR h k hk
theorem c5N{x:Hp}(hx:R7 x)(hS:SL x):HB x:=by
 have hR:=hx.sh.sr
 have bd:∀v,v=0∨v∈lv x.S→v≤9223372036854775807:=λv q=>by
  rcases q with q | q
  ·omega
  ·have:=J9 hR q;omega
 refine⟨c9a.2 λi hi=>?_,c5J.2 λi hi v hv=>?_,λv hv=>bd v (hx.sh.rt v hv),λc hc=>?_,λp hp=>?_,λt ht=>?_⟩
 ·by_cases t:Th (ce x.S i)
  ·rcases t with t | t
   ·have q:At x.S (1+(i:Int)+32*(ce x.S i).Gen) i:=⟨hi,t,rfl⟩
    have:=hS _ ((a54 hR).2 ⟨i,q⟩)
    rwa [O2 hR q] at this
   ·have:=((hx.wk i hi (.inr t)).2 t).2.2
    omega
  ·have:=(hR.no i hi t).2.1
   simp only[oo] at this
   omega
 ·by_cases t:Th (ce x.S i)
  ·rcases t with t | t
   ·have q:At x.S (1+(i:Int)+32*(ce x.S i).Gen) i:=⟨hi,t,rfl⟩
    have hm:=(a54 hR).2 ⟨i,q⟩
    exact bd v (hx.sh.fl _ hm v (by rw[O2 hR q];exact hv))
   ·rw[((hx.wk i hi (.inr t)).2 t).2.1] at hv
    cases hv
  ·have:=(hR.no i hi t).2.2.2.2.2
   simp only[oo] at this
   rw[List.eq_nil_of_length_eq_zero this] at hv
   cases hv
 ·obtain⟨i,hi,rfl⟩:=List.getElem_of_mem hc
  by_cases e:x.Cells[i].Target=0
  ·omega
  ·obtain⟨p,hp⟩:=(hx.sh.cl i hi).2.2.2.1 e
   have:=hp.rng hR
   omega
 ·obtain⟨i,hi,rfl⟩:=List.getElem_of_mem hp
  have e:pt x.T i=x.T[i]:=by
   unfold pt
   rw[List.getD_eq_getElem?_getD,List.getElem?_eq_getElem hi]
   rfl
  by_cases s1:(pt x.T i).State=1
  ·obtain⟨a,b⟩:=hx.sh.pr (pt x.T i).Key (pt x.T i).Val ⟨i,⟨hi,s1,rfl⟩,rfl⟩
   rw[e] at a b
   exact⟨bd _ (.inr a),bd _ (.inr b)⟩
  ·obtain⟨a,b⟩:=(hx.sh.hr.st i hi).2 s1
   rw[e] at a b
   omega
 ·obtain⟨_,_,q | q⟩:=hx.sh.tk t ht
  ·exact bd _ (.inr q.2.1)
  ·omega
theorem c51{s:store_Store}(hR:SR s):Sm s:=by
 refine⟨by have:=hR.len;omega,λi hi=>?_⟩
 by_cases t:Th (ce s i)
 ·have:=(hR.ok i hi t).fl
  rw[C7 hi] at this
  omega
 ·have:=(hR.no i hi t).2.2.2.2.2
  simp only[oo] at this
  rw[C7 hi] at this
  omega
theorem c3z{x:Hp}(h:HpS x):a6Q (hO x) (hO x)=some true:=by
 have sm:=c51 h.sr
 have h1:=h.r6
 have h2:=h.c6
 have h3:=h.hr.l8
 have h4:=h.q30
 unfold a6Q
 rw[show (hO x).S=sO x.S from rfl,c0r _ (by rw[y5];have:=sm.1;omega) (λi hi=>by
  have:=sm.2 i (by rw[y5] at hi;exact hi)
  simp only[sO,List.getElem_map,cO,oo]
  omega),d1q]
 simp only[beq_self_eq_true,F5,Bool.true_and]
 rw[show (hO x).Roots=x.Roots from rfl,b8G (by omega),d1q]
 simp only[beq_self_eq_true,F5,Bool.true_and]
 rw[c7F (by simp[hO];omega),d1q]
 simp only[beq_self_eq_true,F5,Bool.true_and]
 rw[c1b (by simp[hO];omega),d1q]
 simp only[beq_self_eq_true,F5,Bool.true_and]
 rw[show (hO x).Q=tqR x.Q from rfl,c7w (by omega),d1q]
theorem c4u(c:Int):a0J c≤12:=by unfold a0J;split <;> (try split) <;> omega
theorem c4m{c:Int}(h:c≤9223372036854775807):a9e c≤9223372036854775807:=by unfold a9e;split <;> (try split) <;> omega
theorem SL.of{x y:Hp}(h:SL x)(hl:lv y.S=lv x.S)(hs:∀k∈lv x.S,(ob y.S k).Strong=(ob x.S k).Strong):SL y:=λk hk=>by
 rw[hl] at hk
 rw[hs k hk]
 exact h k hk
theorem SL.st{x:Hp}(h:SL x)(hR:SR x.S)(v:Int){f:Int→Int}(hf:∀c,0≤c→0≤f c)(hb:∀c,c≤9223372036854775807→f c≤9223372036854775807):SL (stO x v f):=λk hk=>by
 rw[(I2 hR v hf).lv] at hk
 rw[b6c hR v hf hk]
 split
 ·exact hb _ (h k hk)
 ·exact h k hk
theorem SL.C9{x:Hp}(h:SL x)(hR:SR x.S)(v:Int):SL (C9 x v):=h.st hR v (λc=>D9) λc _=>by have:=c4u c;omega
theorem SL.rls{x:Hp}(h:SL x)(hR:SR x.S)(v:Int):SL (O9 x v):=h.st hR v (λc=>a0j) λc hc=>c4m hc
theorem b9d{x:Hp}(hR:SR x.S)(v:Int):SR (O9 x v).S:=(I2 hR v λc=>a0j).sr
theorem b3m{x:Hp}(hR:SR x.S)(h:SL x)(r:Nat)(v:Int):SL (L9 x r v):=by
 unfold L9
 exact SL.rls (x:=wR (C9 x v) (x.Roots.set r v)) (h.C9 hR v) (a6Z hR v) _
theorem c0G{x:Hp}(hR:SR x.S)(hS:SL x){h:Int}(hh:h∈lv x.S)(k:Nat)(v:Int):SL (a1o x h k v):=by
 have kin:=I2 hR v (f:=a0J) λc=>D9
 have hR1:SR (C9 x v).S:=kin.sr
 have hl1:h∈lv (C9 x v).S:=by rw[show lv (C9 x v).S=lv x.S from kin.lv];exact hh
 have hof:(ob (C9 x v).S h).Fields=(ob x.S h).Fields:=by
  obtain⟨m,e⟩:=kin.ob h (by have:=J9 hR hh;omega)
  show (ob (stO x v a0J).S h).Fields=_
  rw[e]
 have ok:=J8 hR1 hl1
 have ho:OkO (C9 x v).S (flg (ob (C9 x v).S h) ((ob x.S h).Fields.set k v)):=⟨ok.s1,ok.s2,ok.st,ok.wk,ok.p1,ok.p2,by have:=ok.fl;rw[hof] at this;simpa using this⟩
 have sr2:=a1E (o:=flg (ob (C9 x v).S h) ((ob x.S h).Fields.set k v)) hR1 hl1 rfl ho
 unfold a1o
 refine SL.rls (x:=wS (C9 x v) (seO (C9 x v).S h (flg (ob (C9 x v).S h) ((ob x.S h).Fields.set k v)))) ?_ sr2 _
 refine (hS.C9 hR v).of (a3j hR1 hl1 rfl ho) λj hj=>?_
 dsimp only
 rw[a2m (o:=flg (ob (C9 x v).S h) ((ob x.S h).Fields.set k v)) hR1 hl1 rfl ho (by have:=J9 hR1 hj;omega)]
 split
 ·rename_i e;rw[e]
 ·rfl
theorem c29{x:Hp}(hR:SR x.S)(hS:SL x)(v:Int)(t:Tb)(old:Int):SL (a6I x v t old):=by
 unfold a6I
 exact SL.rls (x:=wT (C9 x v) t) (hS.C9 hR v) (a6Z hR v) _
theorem c66{x:Hp}(hR:SR x.S)(hS:SL x)(h:Int){d:Int}(hd:P6 x.S h (B4 h)→0≤(ce x.S (B4 h)).Val.Weak+d):SL (mkd x h d):=by
 unfold mkd
 split
 ·rename_i q
  exact hS.of (a5r hR q.1 q.2.1 (hd q)).lv λk hk=>a5s hR q.1 q.2.1 (hd q) hk
 ·exact hS
theorem c0n{x:Hp}(hR:SR x.S)(hS:SL x)(h:Int)(hd:P6 x.S h (B4 h)→1≤(ce x.S (B4 h)).Val.Weak):SL (a8X x h):=by
 unfold a8X
 split
 ·rename_i q
  have hd:=hd q
  have kn:=a5r (d:=-1) hR q.1 q.2.1 (by omega)
  have s1:SL (wS x (mkA x.S (B4 h) (-1))):=hS.of kn.lv λk hk=>a5s hR q.1 q.2.1 (by omega) hk
  split
  ·rename_i c
   have hi1:B4 h<(mkA x.S (B4 h) (-1)).S.Cells.length:=by rw[kn.len];exact q.1
   have hce:ce (mkA x.S (B4 h) (-1)) (B4 h)=⟨(ce x.S (B4 h)).State,(ce x.S (B4 h)).Gen,wkg (ce x.S (B4 h)).Val ((ce x.S (B4 h)).Val.Weak + -1)⟩:=by
    rw[a3a hR q.1 q.2.1,if_pos rfl]
   have h2:(ce (mkA x.S (B4 h) (-1)) (B4 h)).State=2:=by rw[hce];exact c.1
   exact s1.of (b5g kn.sr hi1 h2) λk hk=>by
    dsimp only
    rw[b5h kn.sr hi1 h2 hk]
  ·exact s1
 ·exact hS
theorem c3P{x:Hp}(hx:R7 x)(hS:SL x){n:Nat}(hn:n<6)(h call:Int):SL (a3q x n h call):=by
 have hR:=hx.sh.sr
 have hnl:n<x.Cells.length:=by have:=hx.sh.c6;omega
 have ok:∀k i,P6 x.S k i→0≤(ce x.S i).Val.Weak:=λk i q=>(hR.ok i q.1 q.2.1).wk
 have tw:∀i,P6 x.S (tgt x n) i→1≤(ce x.S i).Val.Weak:=λi q=>by
  have htg:tgt x n=x.Cells[n].Target:=by
   unfold tgt
   rw[List.getD_eq_getElem?_getD,List.getElem?_eq_getElem hnl]
   rfl
  have r:=q.rng hR
  have p:=a9G hnl (by rw[←htg];omega)
  rw[←htg,q.2.2] at p
  have:=(hx.wk i q.1 q.2.1).1
  omega
 unfold a3q
 have s1:SL (mkd (wC x (x.Cells.set n (wcl h call))) h 1):=c66 (x:=wC x (x.Cells.set n (wcl h call))) hR hS h λq=>by
  have:=ok _ _ q
  dsimp only
  omega
 by_cases q:P6 x.S h (B4 h)
 ·have e:mkd (wC x (x.Cells.set n (wcl h call))) h 1=wS (wC x (x.Cells.set n (wcl h call))) (mkA x.S (B4 h) 1):=by
   unfold mkd
   rw[if_pos q]
  have hd:=ok _ _ q
  have kn:=a5r (d:=1) hR q.1 q.2.1 (by omega)
  rw[e] at s1 ⊢
  refine c0n kn.sr s1 _ λq2=>?_
  dsimp only at q2 ⊢
  have q3:=(kn.ad _ _).1 q2
  have:=tw _ q3
  rw[a3a hR q.1 q.2.1]
  split
  ·rename_i e2
   rw[e2] at this
   show 1≤(ce x.S (B4 h)).Val.Weak+1
   omega
  ·exact this
 ·have e:mkd (wC x (x.Cells.set n (wcl h call))) h 1=wC x (x.Cells.set n (wcl h call)):=by
   unfold mkd
   rw[if_neg q]
  rw[e] at s1 ⊢
  exact c0n (x:=wC x (x.Cells.set n (wcl h call))) hR s1 _ λq2=>tw _ q2
section
variable{x:Hp}(hx:R7 x)(hS:SL x)
include hx hS
end
end Go.Sh
namespace Go.Sh
end Go.Sh
namespace Go.Sh
end Go.Sh
namespace Go.Sh
def b1b(x:Hp):Prop:=Sm x.S∧x.Roots.length≤20∧x.Cells.length≤20∧x.T.length≤20∧x.Q.L.length≤60
instance(x:Hp):Decidable (b1b x):=by unfold b1b;infer_instance
theorem HpS.c8u{x:Hp}(h:HpS x):b1b x:=by
 have h1:=h.r6
 have h2:=h.c6
 have h3:=h.hr.l8
 have h4:=h.q30
 exact⟨c51 h.sr,by omega,by omega,by omega,by omega⟩
theorem b9b{x:Hp}(hx:R7 x)(hS:SL x):a1B (hO x)=some true:=by
 obtain⟨f,f2,f3,f4,f5⟩:=hx.sh.c8u
 obtain⟨b,h1,h2⟩:=a6A x (c5N hx hS) (by have:=f.1;omega) (by omega) (by omega) (by omega) (by omega)
 rw[h1,h2.2 hx]
end Go.Sh
namespace Go.Sh
def c2t:Hp:=⟨⟨⟨[],0⟩,0⟩,[],[],[],⟨[],0⟩⟩
def c8c(x:Hp):Bool:=x.S.S.Cells.all (λc=>decide (c.Val.Strong≤9223372036854775807)&&c.Val.Fields.all λv=>decide (v≤9223372036854775807))&&(x.Roots.all (λv=>decide (v≤9223372036854775807))&&(x.Cells.all (λc=>decide (c.Target≤9223372036854775807))&&(x.T.all (λp=>decide (p.Key≤9223372036854775807∧p.Val≤9223372036854775807))&&x.Q.L.all λt=>decide (t.At≤9223372036854775807))))
theorem c6R{x:Hp}(h:c8c x=true):HB x:=by
 unfold c8c at h
 simp only[Bool.and_eq_true,List.all_eq_true,decide_eq_true_iff] at h
 obtain⟨h1,h2,h3,h4,h5⟩:=h
 exact⟨λc hc=>(h1 c hc).1,λc hc=>(h1 c hc).2,h2,h3,h4,h5⟩
theorem b3C(x:Hp)(h:Int)(f:Int→Int):(stO x h f).Roots=x.Roots∧(stO x h f).Cells=x.Cells∧(stO x h f).T=x.T∧(stO x h f).Q=x.Q:=by
 unfold stO
 split <;> exact⟨rfl,rfl,rfl,rfl⟩
theorem a5D(x:Hp)(r:Nat)(h:Int):(L9 x r h).Roots=x.Roots.set r h∧(L9 x r h).Cells=x.Cells∧(L9 x r h).T=x.T∧(L9 x r h).Q=x.Q:=by
 obtain⟨a,b,c,d⟩:=b3C (wR (C9 x h) (x.Roots.set r h)) (x.Roots.getD r 0) a9e
 obtain⟨a',b',c',d'⟩:=b3C x h a0J
 exact⟨a,b.trans b',c.trans c',d.trans d'⟩
section
variable{x:Hp}(hB:HB x)
include hB
end
end Go.Sh
namespace Go.Sh
abbrev ded(o:store_Obj):store_Obj:=⟨o.Serial,0,o.Weak,o.Prog,o.Started,[]⟩
def gnC(s:store_Store)(i:Nat):slab_Cell_store_Obj:=
 if (ce s i).Val.Weak=0 then (if (ce s i).Gen=s.S.Last then ⟨3,(ce s i).Gen,z0⟩ else ⟨0,(ce s i).Gen+1,z0⟩) else ⟨2,(ce s i).Gen,ded (ce s i).Val⟩
def gnA(s:store_Store)(d:Int):store_Store:=E4 s (B4 d) (gnC s (B4 d))
def gnL(s:store_Store)(ds:List Int):store_Store:=ds.foldl gnA s
theorem c6L(s:store_Store)(i:Nat):(gnC s i).State≠1:=by
 unfold gnC
 split
 ·split <;> simp
 ·simp
theorem b8U{s:store_Store}(hR:SR s){a b:Int}(ha:a∈lv s)(hb:b∈lv s)(h:a≠b):B4 a≠B4 b:=λe=>by
 have h1:=u6 hR ha
 have h2:=u6 hR hb
 rw[e] at h1
 exact h (h1.2.2.trans h2.2.2.symm)
section
variable{s:store_Store}(hR:SR s){d:Int}(hd:d∈lv s)
include hR hd
theorem b8D:SR (gnA s d):=by
 have q:=u6 hR hd
 have hc:=hR.cell _ q.1
 have ho:=hR.ok _ q.1 (.inl q.2.1)
 have no:b0w (oo z0):=⟨rfl,rfl,rfl,rfl,rfl,rfl⟩
 unfold gnA gnC
 split
 ·split
  ·exact hR.E4 q.1 ⟨by simp,by simp,hc.2.2.1,hc.2.2.2⟩ (λ_=>no) (λq=>absurd q (by unfold Th;simp))
  ·refine hR.E4 q.1 ⟨by simp,by simp,?_,?_⟩ (λ_=>no) (λq=>absurd q (by unfold Th;simp))
   ·show 0≤(ce s (B4 d)).Gen+1;omega
   ·show (ce s (B4 d)).Gen+1≤s.S.Last;omega
 ·exact hR.E4 q.1 ⟨by simp,by simp,hc.2.2.1,hc.2.2.2⟩ (λq=>absurd (.inr rfl) q) (λ_=>⟨⟨ho.s1,ho.s2,Int.le_refl _,ho.wk,ho.p1,ho.p2,Nat.zero_le _⟩,.inl q.2.1,rfl⟩)
theorem c2m(j:Nat):ce (gnA s d) j=if j=B4 d then gnC s (B4 d) else ce s j:=J1 (u6 hR hd).1 _ j
theorem c6J:lv (gnA s d)=(lv s).filter λh=>decide (h≠d):=by
 have hS:=b8D hR hd
 unfold gnA at hS ⊢
 have hc:=c6L s (B4 d)
 rw[b9U hR (u6 hR hd).1 hc hS]
 refine List.filter_congr λh hh=>decide_eq_decide.2 ⟨λq e=>q (by rw[e]),λq=>b8U hR hh hd q⟩
theorem c6K{k:Int}(hk:k∈lv s)(hne:k≠d):ob (gnA s d) k=ob s k:=by
 have hS:=b8D hR hd
 unfold gnA at hS ⊢
 exact b9Z hR (u6 hR hd).1 hS hk (b8U hR hk hd hne)
end
structure Gn (s s':store_Store) (ds:List Int):Prop where
 sr:SR s'
 len:s'.S.Cells.length=s.S.Cells.length
 last:s'.S.Last=s.S.Last
 ser:s'.Serial=s.Serial
 lv:lv s'=(lv s).filter λh=>decide (h∉ds)
 ob:∀k∈Sh.lv s,k∉ds→ob s' k=ob s k
 ce:∀j,ce s' j=if j∈ds.map B4 then gnC s j else ce s j
theorem a2V:∀(ds:List Int) {s:store_Store} (hR:SR s),ds.Nodup→(∀d∈ds,d∈lv s)→Gn s (gnL s ds) ds
 | [],s,hR,_,_=>⟨hR,rfl,rfl,rfl,(List.filter_eq_self.2 (λa _=>by simp)).symm,λ_ _ _=>rfl,λj=>by simp[gnL]⟩
 | d::ds,s,hR,hn,hm=>by
  rw[List.nodup_cons] at hn
  have hd:=hm d (List.mem_cons_self ..)
  have hlv:=c6J hR hd
  have hm':∀e∈ds,e∈lv (gnA s d):=λe he=>by
   rw[hlv,List.mem_filter,decide_eq_true_iff]
   exact⟨hm e (List.mem_cons_of_mem _ he),λq=>hn.1 (q▸he)⟩
  have ih:=a2V ds (b8D hR hd) hn.2 hm'
  refine⟨ih.sr,ih.len.trans (W3 ..),ih.last,ih.ser,?_,λk hk hne=>?_,λj=>?_⟩
  ·show lv (gnL (gnA s d) ds)=_
   rw[ih.lv,hlv,List.filter_filter]
   refine List.filter_congr λh hh=>?_
   rw[Bool.eq_iff_iff]
   simp only[Bool.and_eq_true,decide_eq_true_iff,List.mem_cons,not_or]
   exact⟨λq=>⟨q.2,q.1⟩,λq=>⟨q.2,q.1⟩⟩
  ·show ob (gnL (gnA s d) ds) k=_
   rw[List.mem_cons,not_or] at hne
   rw[ih.ob k (by rw[hlv,List.mem_filter,decide_eq_true_iff];exact⟨hk,hne.1⟩) hne.2,c6K hR hd hk hne.1]
  ·show ce (gnL (gnA s d) ds) j=_
   have hg:∀e∈ds,B4 e≠B4 d:=λe he=>b8U hR (hm e (List.mem_cons_of_mem _ he)) hd λq=>hn.1 (q▸he)
   rw[ih.ce]
   by_cases h1:j∈ds.map B4
   ·obtain⟨e,he,rfl⟩:=List.mem_map.1 h1
    rw[if_pos h1,if_pos (by rw[List.map_cons];exact List.mem_cons_of_mem _ h1)]
    unfold gnC
    rw[c2m hR hd,if_neg (hg e he)]
    rfl
   ·rw[if_neg h1,c2m hR hd,List.map_cons]
    by_cases h2:j=B4 d
    ·subst h2
     rw[if_pos rfl,if_pos (List.mem_cons_self ..)]
    ·rw[if_neg h2,if_neg]
     rw[List.mem_cons]
     exact λq=>q.elim h2 h1
theorem b4V{α:Type}(p:α→Bool)(f:α→Nat):∀l:List α,(l.map f).sum=((l.filter p).map f).sum+((l.filter λx => !p x).map f).sum
 | []=>rfl
 | x::l=>by
  rw[List.map_cons,List.sum_cons,b4V p f l,List.filter_cons,List.filter_cons]
  cases p x <;> simp <;> omega
theorem b7Z(f:Int→List Int)(y:Int):∀l:List Int,P7 (l.flatMap f) y=(l.map λx=>P7 (f x) y).sum
 | []=>R4 y
 | x::l=>by rw[List.flatMap_cons,R3,b7Z f y l,List.map_cons,List.sum_cons]
theorem Gn.inn{s s':store_Store}{ds:List Int}(hR:SR s)(hn:ds.Nodup)(hm:∀d∈ds,d∈Sh.lv s)(g:Gn s s' ds)(y:Int):inn s' y+P7 (ds.flatMap (outs s)) y=inn s y:=by
 unfold Sh.inn
 rw[g.lv,b4V (λh=>decide (h∉ds)) (λx=>P7 (outs s x) y) (Sh.lv s),b7Z]
 have h1:((Sh.lv s).filter λh=>decide (h∉ds)).map (λx=>P7 (outs s' x) y)=((Sh.lv s).filter λh=>decide (h∉ds)).map λx=>P7 (outs s x) y:=List.map_congr_left λx hx=>by
  rw[List.mem_filter,decide_eq_true_iff] at hx
  unfold Sh.outs
  rw[g.ob x hx.1 hx.2]
 have h2:((Sh.lv s).filter λx => !decide (x∉ds)).Perm ds:=by
  rw[List.perm_ext_iff_of_nodup ((b2Q (p8.2 hR)).filter _) hn]
  intro a
  rw[List.mem_filter]
  simp only[decide_not,Bool.not_not,decide_eq_true_iff]
  exact⟨λq=>q.2,λq=>⟨hm a q,q⟩⟩
 rw[h1,(h2.map λx=>P7 (outs s x) y).sum_nat]
theorem b7m{L:List task_Task}(hd:L.Pairwise λa b=>¬(a.Kind=b.Kind∧a.At=b.At))(k:Int):((L.filter (·.Kind==k)).map (·.At)).Nodup:=by
 unfold List.Nodup
 rw[List.pairwise_map]
 refine (hd.filter _).imp_of_mem λ{a b} ha hb h e=>?_
 rw[List.mem_filter,beq_iff_eq] at ha hb
 exact h ⟨ha.2.trans hb.2.symm,e⟩
theorem b7X{L:List task_Task}{m:List Int}(hd:L.Pairwise λa b=>¬(a.Kind=b.Kind∧a.At=b.At))(h:∀t∈L,(t.Kind=1∧t.At∈m)∨(t.Kind=2∧0≤t.At∧t.At≤5)):L.length≤m.length+6:=by
 have h1:L.length=(L.filter (·.Kind==1)).length+(L.filter (·.Kind==2)).length:=by
  rw[a9i (λt:task_Task=>t.Kind==1) L]
  congr 2
  refine List.filter_congr λt ht=>?_
  rcases h t ht with q | q
  ·simp[q.1]
  ·simp[q.1]
 have h2:=a9H (b7m hd 1) (m:=m) λa ha=>by
  obtain⟨t,ht,rfl⟩:=List.mem_map.1 ha
  rw[List.mem_filter,beq_iff_eq] at ht
  rcases h t ht.1 with q | q
  ·exact q.2
  ·omega
 have h3:=a9H (b7m hd 2) (m:=[0,1,2,3,4,5]) λa ha=>by
  obtain⟨t,ht,rfl⟩:=List.mem_map.1 ha
  rw[List.mem_filter,beq_iff_eq] at ht
  rcases h t ht.1 with q | q
  ·omega
  ·simp only[List.mem_cons,List.not_mem_nil,or_false]
   omega
 rw[List.length_map] at h2 h3
 simp only[List.length_cons,List.length_nil] at h3
 omega
theorem b0r{q:TQ}{w:Int}:wts q w=true↔∃t∈q.L,t.Kind=2∧t.At=w:=by
 unfold wts
 rw[List.any_eq_true]
 simp
theorem a9F{q:TQ}{h:Int}:h∈b1I q↔∃t∈q.L,t.Kind=1∧t.At=h:=by
 unfold b1I
 rw[List.mem_map]
 simp only[List.mem_filter,beq_iff_eq]
 exact⟨λ⟨t,⟨a,b⟩,c⟩=>⟨t,a,b,c⟩,λ⟨t,a,b,c⟩=>⟨t,⟨a,b⟩,c⟩⟩
abbrev cz:weak_Cell:=⟨0,false,0⟩
def a20(ds:List Int)(c:weak_Cell):Bool:=c.Intact&&c.Target != 0&&decide (c.Target∈ds)
def a6r(ds:List Int)(c:weak_Cell):weak_Cell:=if a20 ds c then ⟨c.Target,false,c.Call⟩ else c
def clr(l:List weak_Cell)(ds:List Int):List weak_Cell:=l.map (a6r ds)
def cls(l:List weak_Cell)(ds:List Int):List Nat:=(List.range l.length).filter λw=>a20 ds (l.getD w cz)&&decide (0≤(l.getD w cz).Call)
def clt(l:List weak_Cell)(ds:List Int):List task_Task:=(cls l ds).map λ(w:Nat)=>⟨2,(w:Int),(l.getD w cz).Call⟩
theorem b42(ds:List Int)(c:weak_Cell):(a6r ds c).Target=c.Target∧(a6r ds c).Call=c.Call∧((a6r ds c).Intact=true↔c.Intact=true∧a20 ds c=false):=by
 unfold a6r
 cases h:a20 ds c
 ·rw[if_neg (by simp)]
  simp
 ·rw[if_pos rfl]
  simp
theorem c4I(l:List weak_Cell)(ds:List Int)(h:Int):nmg (clr l ds) h=nmg l h:=by
 unfold nmg clr
 rw[List.countP_map]
 congr 1
 funext c
 simp only[Function.comp_apply,(b42 ds c).1]
theorem a7s{l:List weak_Cell}{ds:List Int}{t:task_Task}:t∈clt l ds↔∃w,∃hw:w<l.length,t=⟨2,(w:Int),l[w].Call⟩∧a20 ds l[w]=true∧0≤l[w].Call:=by
 unfold clt cls
 rw[List.mem_map]
 constructor
 ·rintro⟨w,hw,rfl⟩
  rw[List.mem_filter,List.mem_range] at hw
  obtain⟨h1,h2⟩:=hw
  have e:l.getD w cz=l[w]:=by rw[List.getD_eq_getElem?_getD,List.getElem?_eq_getElem h1];rfl
  rw[e] at h2 ⊢
  rw[Bool.and_eq_true,decide_eq_true_iff] at h2
  exact⟨w,h1,rfl,h2.1,h2.2⟩
 ·rintro⟨w,hw,rfl,h2,h3⟩
  have e:l.getD w cz=l[w]:=by rw[List.getD_eq_getElem?_getD,List.getElem?_eq_getElem hw];rfl
  refine⟨w,?_,by rw[e]⟩
  rw[List.mem_filter,List.mem_range,e,Bool.and_eq_true,decide_eq_true_iff]
  exact⟨hw,h2,h3⟩
theorem c0z(l:List weak_Cell)(ds:List Int):(clt l ds).Pairwise λa b=>¬(a.Kind=b.Kind∧a.At=b.At):=by
 unfold clt cls
 rw[List.pairwise_map]
 refine (List.Pairwise.filter _ (List.nodup_range (n:=l.length))).imp λ{a b} h=>?_
 rintro⟨_,e⟩
 dsimp only at e
 omega
end Go.Sh
namespace Go.Sh
def a5a(x:Hp)(ds:List Int)(t:Tb):Hp:=⟨gnL x.S ds,x.Roots,clr x.Cells ds,t,⟨x.Q.L++clt x.Cells ds,x.Q.Cap⟩⟩
theorem b67(q:TQ)(l:List task_Task)(c:Int)(h:∀t∈l,t.Kind≠1):b1I ⟨q.L++l,c⟩=b1I q:=by
 unfold b1I
 dsimp only
 rw[List.filter_append]
 have:l.filter (λt=>t.Kind==1) = []:=by
  rw[List.filter_eq_nil_iff]
  intro t ht
  simpa using h t ht
 rw[this,List.append_nil]
theorem c0t{x:Hp}(hx:R7 x){ds:List Int}(hn:ds.Nodup)(hm:∀d∈ds,d∈lv x.S)
  (ho:∀d∈ds,d∉otr x)(hf:∀h∈lv x.S,h∉ds→∀v∈(ob x.S h).Fields,v∉ds)(hp:∀k v,Has x.T k v→k∉ds→v∉ds)
  {t:Tb}{vals:List Int}(ht:HR t)(h1:∀k v,Has t k v↔k∉ds∧Has x.T k v)(h2:∀y,own t y+P7 vals y=own x.T y) :
  HpS (a5a x ds t)∧Wk (a5a x ds t)∧a2Q (a5a x ds t) (ds.flatMap (outs x.S)++vals):=by
 have hS:=hx.sh
 have hR:=hS.sr
 have g:=a2V ds hR hn hm
 have hlv:∀h,h∈lv (gnL x.S ds)↔h∈lv x.S∧h∉ds:=λh=>by rw[g.lv,List.mem_filter,decide_eq_true_iff]
 have hlen:(lv x.S).length≤24:=a0W (p8.2 hR)
 have hcl:∀w (hw:w<x.Cells.length),a20 ds x.Cells[w]=true→x.Cells[w].Intact=true:=λw hw q=>by
  unfold a20 at q
  rw[Bool.and_eq_true,Bool.and_eq_true] at q
  exact q.1.1
 have htd:(x.Q.L++clt x.Cells ds).Pairwise λa b=>¬(a.Kind=b.Kind∧a.At=b.At):=by
  rw[List.pairwise_append]
  refine⟨hS.td,c0z ..,λa ha b hb q=>?_⟩
  obtain⟨w,hw,rfl,hh,_⟩:=a7s.1 hb
  have:=((hS.cl w hw).2.2.2.2 (hcl w hw hh)).2
  rw[Bool.eq_false_iff] at this
  exact this (b0r.2 ⟨a,ha,q.1,q.2⟩)
 have htk:∀t∈x.Q.L++clt x.Cells ds,0≤t.Prog∧t.Prog≤5∧((t.Kind=1∧t.At∈lv (gnL x.S ds)∧(ob (gnL x.S ds) t.At).Started=true)∨(t.Kind=2∧0≤t.At∧t.At≤5)):=λt htt=>by
  rcases List.mem_append.1 htt with q | q
  ·obtain⟨a,b,c⟩:=hS.tk t q
   refine⟨a,b,?_⟩
   rcases c with ⟨c1,c2,c3⟩ | c
   ·have hnd:t.At∉ds:=λhd=>ho _ hd (List.mem_append.2 (.inr (a9F.2 ⟨t,q,c1,rfl⟩)))
    exact .inl ⟨c1,(hlv _).2 ⟨c2,hnd⟩,by rw[g.ob _ c2 hnd];exact c3⟩
   ·exact .inr c
  ·obtain⟨w,hw,rfl,hh,hc⟩:=a7s.1 q
   have c6:=hS.c6
   have:=(hS.cl w hw).2.1
   exact⟨hc,this,.inr ⟨rfl,by dsimp only;omega,by dsimp only;omega⟩⟩
 have hq30:(x.Q.L++clt x.Cells ds).length≤30:=by
  have:=b7X (m:=lv x.S) htd λt htt=>by
   rcases (htk t htt).2.2 with q | q
   ·exact .inl ⟨q.1,((hlv _).1 q.2.1).1⟩
   ·exact .inr q
  omega
 have hwts:∀i:Nat,wts x.Q i=false→(∀hi:i<x.Cells.length,a20 ds x.Cells[i]=false)→wts ⟨x.Q.L++clt x.Cells ds,x.Q.Cap⟩ i=false:=λi q1 q2=>by
  rw[Bool.eq_false_iff] at q1 ⊢
  intro q
  obtain⟨t,ht,a,b⟩:=b0r.1 q
  rcases List.mem_append.1 ht with c | c
  ·exact q1 (b0r.2 ⟨t,c,a,b⟩)
  ·obtain⟨w,hw,rfl,hh,_⟩:=a7s.1 c
   dsimp only at b
   have:w=i:=by omega
   subst this
   rw[q2 hw] at hh
   cases hh
 refine⟨⟨g.sr,ht,hS.r6,?_,hS.cap,hq30,htk,htd,λh hh=>?_,λh hh v hv=>?_,λk v hkv=>?_,λi hi=>?_⟩,λi hi hti=>?_,λh hh hlt=>?_⟩
 ·unfold a5a clr
  rw[List.length_map]
  exact hS.c6
 ·rcases hS.rt h hh with q | q
  ·exact .inl q
  ·have h0:h≠0:=λe=>b0M hR (e▸q)
   exact .inr ((hlv h).2 ⟨q,λhd=>ho h hd (List.mem_append.2 (.inl (a8M.2 ⟨hh,h0⟩)))⟩)
 ·obtain⟨a,b⟩:=(hlv h).1 hh
  have hv':v∈(ob x.S h).Fields:=by
   have e:=g.ob h a b
   unfold a5a at hv
   rwa [e] at hv
  rcases hS.fl h a v hv' with q | q
  ·exact .inl q
  ·exact .inr ((hlv v).2 ⟨q,hf h a b v hv'⟩)
 ·obtain⟨a,b⟩:=(h1 k v).1 hkv
  obtain⟨c,d⟩:=hS.pr k v b
  exact⟨(hlv k).2 ⟨c,a⟩,(hlv v).2 ⟨d,hp k v b a⟩⟩
 ·have hi':i<x.Cells.length:=by
   unfold a5a clr at hi
   simpa using hi
  have e:(a5a x ds t).Cells[i]=a6r ds x.Cells[i]:=List.getElem_map _
  obtain⟨a1,a2,a3,a4,a5⟩:=hS.cl i hi'
  obtain⟨b1,b2,b3⟩:=b42 ds x.Cells[i]
  rw[e,b1,b2]
  refine⟨a1,a2,λq=>?_,λq=>?_,λq=>?_⟩
  ·rw[Bool.eq_false_iff]
   intro q2
   rw[a3 q] at b3
   exact absurd (b3.1 q2).1 (by decide)
  ·obtain⟨p,hp1,hp2,hp3⟩:=a4 q
   refine⟨p,by show p<(gnL x.S ds).S.Cells.length;rw[g.len];exact hp1,?_⟩
   show Th (ce (gnL x.S ds) p)∧_=1+(p:Int)+32*(ce (gnL x.S ds) p).Gen
   rw[g.ce]
   split
   ·have hw:=(hx.wk p hp1 hp2).1
    have:=a9G hi' q
    rw[hp3] at this
    unfold gnC
    rw[if_neg (by omega)]
    exact⟨.inr rfl,hp3⟩
   ·exact⟨hp2,hp3⟩
  ·obtain⟨c1,c2⟩:=b3.1 q
   obtain⟨d1,d2⟩:=a5 c1
   have h0:x.Cells[i].Target≠0:=λe=>b0M hR (e▸d1)
   refine⟨(hlv _).2 ⟨d1,λhd=>?_⟩,hwts i d2 λ_=>c2⟩
   have:a20 ds x.Cells[i]=true:=by
    unfold a20
    simp[c1,h0,hd]
   rw[this] at c2
   cases c2
 ·have hi':i<x.S.S.Cells.length:=by
   have:=g.len
   have hi:i<(gnL x.S ds).S.Cells.length:=hi
   omega
  show (ce (gnL x.S ds) i).Val.Weak=(nmg (clr x.Cells ds) (1+(i:Int)+32*(ce (gnL x.S ds) i).Gen):Int)∧((ce (gnL x.S ds) i).State=2→_)
  have hti':Th (ce (gnL x.S ds) i):=hti
  show _∧((ce (gnL x.S ds) i).State=2→1≤(ce (gnL x.S ds) i).Val.Weak∧(ce (gnL x.S ds) i).Val.Fields = []∧(ce (gnL x.S ds) i).Val.Strong=0)
  rw[c4I]
  rw[g.ce] at hti' ⊢
  split
  ·rename_i q
   rw[if_pos q] at hti'
   obtain⟨d,hd,rfl⟩:=List.mem_map.1 q
   have hp:=u6 hR (hm d hd)
   have hw:=(hx.wk _ hi' (.inl hp.2.1)).1
   unfold gnC at hti' ⊢
   split at hti'
   ·exfalso
    unfold Th at hti'
    split at hti' <;> simp at hti'
   ·rename_i q2
    rw[if_neg q2]
    have:=(hR.ok _ hi' (.inl hp.2.1)).wk
    exact⟨hw,λ_=>⟨by dsimp only;omega,rfl,rfl⟩⟩
  ·rename_i q
   rw[if_neg q] at hti'
   exact hx.wk i hi' hti'
 ·obtain⟨a,b⟩:=(hlv h).1 hh
  have e:=g.ob h a b
  have e':ob (a5a x ds t).S h=ob x.S h:=e
  rw[e'] at hlt ⊢
  have hf:=hx.fair h a hlt
  rw[R4] at hf
  rw[hf]
  have i1:=g.inn hR hn hm h
  have i2:=h2 h
  have i3:b1I ⟨x.Q.L++clt x.Cells ds,x.Q.Cap⟩=b1I x.Q:=b67 _ _ _ λt ht=>by
   obtain⟨w,_,rfl,_⟩:=a7s.1 ht
   simp
  unfold nms otr a5a
  dsimp only
  rw[i3,R3 (ds.flatMap (outs x.S)),R3]
  omega
theorem b3k:∀(l:List Int) {x:Hp},HpS x→Wk x→a2Q x l→R7 (l.foldl O9 x)
 | [],x,h1,h2,h3=>⟨h1,h2,h3⟩
 | v::l,x,h1,h2,h3=>b3k l (h1.st v λc=>a0j) (h2.st h1.sr v λc=>a0j) (b7P h1.sr h3)
abbrev srt(o:store_Obj):store_Obj:=⟨o.Serial,o.Strong,o.Weak,o.Prog,true,o.Fields⟩
abbrev qtk(x:Hp)(h:Int):task_Task:=⟨1,h,(ob x.S h).Prog⟩
noncomputable def quH(x:Hp)(h:Int):Hp:=C9 ⟨seO x.S h (srt (ob x.S h)),x.Roots,x.Cells,x.T,⟨x.Q.L ++ [qtk x h],x.Q.Cap⟩⟩ h
theorem b4N{x:Hp}(hx:R7 x){h:Int}(hh:h∈lv x.S)(hp:0≤(ob x.S h).Prog)(hs:(ob x.S h).Started=false):R7 (quH x h):=by
 have hS:=hx.sh
 have hR:=hS.sr
 have oko:=J8 hR hh
 have ho:OkO x.S (srt (ob x.S h)):=⟨oko.s1,oko.s2,oko.st,oko.wk,oko.p1,oko.p2,oko.fl⟩
 have r1:=a1E (o:=srt (ob x.S h)) hR hh rfl ho
 have l1:=a3j (o:=srt (ob x.S h)) hR hh rfl ho
 have o1:∀j,j∈lv x.S→ob (seO x.S h (srt (ob x.S h))) j=if j=h then srt (ob x.S h) else ob x.S j:=λj hj=>by
  have:=J9 hR hj
  exact a2m (o:=srt (ob x.S h)) hR hh rfl ho (by omega)
 have hlen:(lv x.S).length≤24:=a0W (p8.2 hR)
 have s1:HpS (wS x (seO x.S h (srt (ob x.S h)))):=hS.of r1 l1 (λk i q=>(b9k (o:=srt (ob x.S h)) hR hh rfl ho).2 q) (λk hk q=>by
  rw[o1 k hk]
  split
  ·rfl
  ·exact q) λk hk v hv=>by
  rw[o1 k hk] at hv
  split at hv
  ·rename_i e;subst e;exact hS.fl k hk v hv
  ·exact hS.fl k hk v hv
 have w1:Wk (wS x (seO x.S h (srt (ob x.S h)))):=λi hi ht=>by
  have J0:=u6 hR hh
  have hc:=b9l (o:=srt (ob x.S h)) hR hh rfl ho i
  dsimp only at hi ht ⊢
  rw[hc] at ht ⊢
  have hi':i<x.S.S.Cells.length:=by unfold seO at hi;rwa [L2] at hi
  split at ht
  ·rename_i e
   subst e
   rw[if_pos rfl]
   dsimp only
   have:=hx.wk _ hi' (.inl J0.2.1)
   rw[O2 hR J0]
   exact⟨this.1,λq=>absurd q (by rw[J0.2.1];decide)⟩
  ·rename_i e
   rw[if_neg e]
   exact hx.wk i hi' ht
 have htd:(x.Q.L ++ [qtk x h]).Pairwise λa b=>¬(a.Kind=b.Kind∧a.At=b.At):=by
  rw[List.pairwise_append]
  refine⟨hS.td,by simp,λa ha b hb q=>?_⟩
  rw[List.mem_singleton] at hb
  subst hb
  dsimp only at q
  rcases (hS.tk a ha).2.2 with c | c
  ·rw[q.2,hs] at c
   exact absurd c.2.2 (by decide)
  ·omega
 have htk:∀t∈x.Q.L ++ [qtk x h],0≤t.Prog∧t.Prog≤5∧((t.Kind=1∧t.At∈lv (seO x.S h (srt (ob x.S h)))∧(ob (seO x.S h (srt (ob x.S h))) t.At).Started=true)∨(t.Kind=2∧0≤t.At∧t.At≤5)):=λt ht=>by
  rcases List.mem_append.1 ht with q | q
  ·exact s1.tk t q
  ·rw[List.mem_singleton] at q
   subst q
   refine⟨hp,oko.p2,.inl ⟨rfl,by rw[l1];exact hh,?_⟩⟩
   dsimp only
   rw[o1 h hh,if_pos rfl]
 have hq30:(x.Q.L ++ [qtk x h]).length≤30:=by
  have:=b7X (m:=lv x.S) htd λt ht=>by
   rcases (htk t ht).2.2 with q | q
   ·exact .inl ⟨q.1,by rw[←l1];exact q.2.1⟩
   ·exact .inr q
  omega
 have s2:HpS ⟨seO x.S h (srt (ob x.S h)),x.Roots,x.Cells,x.T,⟨x.Q.L ++ [qtk x h],x.Q.Cap⟩⟩:=by
  refine⟨s1.sr,s1.hr,s1.r6,s1.c6,s1.cap,hq30,htk,htd,s1.rt,s1.fl,s1.pr,λi hi=>?_⟩
  obtain⟨a,b,c,d,e⟩:=s1.cl i hi
  refine⟨a,b,c,d,λq=>⟨(e q).1,?_⟩⟩
  have:=(e q).2
  rw[Bool.eq_false_iff] at this ⊢
  intro q2
  obtain⟨t,ht,k1,k2⟩:=b0r.1 q2
  rcases List.mem_append.1 ht with q3 | q3
  ·exact this (b0r.2 ⟨t,q3,k1,k2⟩)
  ·rw[List.mem_singleton] at q3
   subst q3
   dsimp only at k1
   omega
 have w2:Wk ⟨seO x.S h (srt (ob x.S h)),x.Roots,x.Cells,x.T,⟨x.Q.L ++ [qtk x h],x.Q.Cap⟩⟩:=w1
 refine⟨s2.st h λc=>D9,w2.st s2.sr h λc=>D9,λk hk hlt=>?_⟩
 have hk':k∈lv x.S:=by
  have:lv (quH x h).S=lv x.S:=(I2 s2.sr h λc=>D9).lv.trans l1
  rw[←this];exact hk
 have hst:(ob (quH x h).S k).Strong=if k=h then a0J (ob x.S k).Strong else (ob x.S k).Strong:=by
  have:=b6c (x:=⟨seO x.S h (srt (ob x.S h)),x.Roots,x.Cells,x.T,⟨x.Q.L ++ [qtk x h],x.Q.Cap⟩⟩) s2.sr h (f:=a0J) (λc=>D9) (k:=k) (by rw[←l1] at hk';exact hk')
  refine Eq.trans this ?_
  dsimp only
  rw[o1 k hk']
  by_cases e:k=h
  ·subst e
   rw[if_pos rfl,if_pos rfl,if_pos rfl]
  ·rw[if_neg e,if_neg e,if_neg e]
 have hnm:nms (quH x h) k=nms x k+if k=h then 1 else 0:=by
  have:=b2d (x:=⟨seO x.S h (srt (ob x.S h)),x.Roots,x.Cells,x.T,⟨x.Q.L ++ [qtk x h],x.Q.Cap⟩⟩) s2.sr h (f:=a0J) (λc=>D9) k
  refine Eq.trans this ?_
  have hi:=b9O (o:=srt (ob x.S h)) hR hh rfl ho k
  dsimp only at hi
  have h0:k≠0:=λe=>b0M hR (e▸hk')
  unfold nms otr b1I
  dsimp only
  rw[List.filter_append,List.map_append,R3,R3,R3]
  have:P7 (List.map (·.At) (List.filter (λt:task_Task=>t.Kind==1) [qtk x h])) k=if k=h then 1 else 0:=by
   show P7 [h] k=_
   rw[K5,R4]
   by_cases e:k=h
   ·rw[if_pos ⟨e.symm,h0⟩,if_pos e]
   ·rw[if_neg (λq=>e q.1.symm),if_neg e]
  rw[this]
  omega
 rw[hst] at hlt ⊢
 rw[hnm,R4]
 have hpos:=(J8 hR hk').st
 by_cases e:k=h
 ·rw[if_pos e] at hlt ⊢
  rw[if_pos e]
  have:=hx.fair k hk' (by unfold a0J at hlt;split at hlt <;> omega)
  rw[R4] at this
  unfold a0J at hlt ⊢
  split at hlt
  ·omega
  ·rename_i q
   rw[if_neg q,if_neg (by omega)]
   omega
 ·rw[if_neg e] at hlt ⊢
  rw[if_neg e]
  have:=hx.fair k hk' hlt
  rw[R4] at this
  exact this
end Go.Sh
namespace Go.Sh
noncomputable def zr(x:Hp):List Int:=(lv x.S).filter λh=>(ob x.S h).Strong==0
theorem a4j{x:Hp}{h:Int}:h∈zr x↔h∈lv x.S∧(ob x.S h).Strong=0:=by
 unfold zr
 rw[List.mem_filter,beq_iff_eq]
theorem c0q{x:Hp}(hx:R7 x){z:Int}(hz:z∈zr x):nms x z=0:=by
 obtain⟨a,b⟩:=a4j.1 hz
 have:=hx.fair z a (by omega)
 rw[R4] at this
 omega
theorem b70{l:List Int}{h:Int}(h0:h≠0)(e:P7 l h=0):h∉l:=λq=>by
 have:=a5P.2 ⟨h0,q⟩
 omega
theorem c2A{α:Type}(f:α→Nat):∀ {l:List α} {a:α},a∈l→f a≤(l.map f).sum
 | b::l,a,h=>by
  rw[List.map_cons,List.sum_cons]
  rcases List.mem_cons.1 h with e | e
  ·subst e;omega
  ·have:=c2A f e;omega
theorem b9N{s:store_Store}{a y:Int}(ha:a∈lv s):P7 (outs s a) y≤inn s y:=c2A (λx=>P7 (outs s x) y) ha
theorem b93{t:Tb}{k v:Int}(h:Has t k v)(h0:v≠0):0<own t v:=List.countP_pos_iff.2 ⟨⟨k,v⟩,a3P.2 h,by simp[h0]⟩
def wot(t:Tb)(ks:List Int):Tb × List Int:=(T2 t ks).getD (t,[])
theorem a40{t:Tb}(hT:HR t)(ks:List Int)(hks:ks.length≤1000):T2 t ks=some (wot t ks)∧HR (wot t ks).1∧(wot t ks).2.length≤ks.length∧a17 (t.map J0) ks=some ((wot t ks).1.map J0,(wot t ks).2) ∧
  (∀k v,Has (wot t ks).1 k v↔k∉ks∧Has t k v)∧∀y,own (wot t ks).1 y+P7 (wot t ks).2 y=own t y:=by
 obtain⟨a,had,h1,h2,h3,h4,h5,h6,h7,h8,h9⟩:=b77 hT ks hks
 have:wot t ks=(a,had):=by unfold wot;rw[h1];rfl
 rw[this]
 exact⟨h1,h2,h4,h5,h6,h9⟩
noncomputable def buH(x:Hp)(ds:List Int):Hp:=(ds.flatMap (outs x.S)++(wot x.T ds).2).foldl O9 (a5a x ds (wot x.T ds).1)
theorem a6Y:∀(l:List Int) {x:Hp},SR x.S→Kin x.S (l.foldl O9 x).S∧l.foldl O9 x=wS x (l.foldl O9 x).S
 | [],x,h=>⟨Kin.refl h,rfl⟩
 | v::l,x,h=>by
  have k1:=I2 h v (f:=a9e) λc=>a0j
  obtain⟨k2,e⟩:=a6Y l (x:=O9 x v) k1.sr
  refine⟨k1.trans k2,?_⟩
  show l.foldl O9 (O9 x v)=wS x (l.foldl O9 (O9 x v)).S
  rw[e,c7C x v]
theorem c0u{x:Hp}(hx:R7 x){ds:List Int}(hn:ds.Nodup)(hm:∀d∈ds,d∈lv x.S)
  (ho:∀d∈ds,d∉otr x)(hf:∀h∈lv x.S,h∉ds→∀v∈(ob x.S h).Fields,v∉ds)(hp:∀k v,Has x.T k v→k∉ds→v∉ds):R7 (buH x ds):=by
 have hl:ds.length≤24:=Nat.le_trans (a9H hn hm) (a0W (p8.2 hx.sh.sr))
 obtain⟨_,w1,_,_,w2,w3⟩:=a40 hx.sh.hr ds (by omega)
 obtain⟨a,b,c⟩:=c0t hx hn hm ho hf hp w1 w2 w3
 exact b3k _ a b c
theorem c1E{x:Hp}(hR:SR x.S){ds:List Int}(hn:ds.Nodup)(hm:∀d∈ds,d∈lv x.S):lv (buH x ds).S=(lv x.S).filter λh=>decide (h∉ds):=by
 have g:=a2V ds hR hn hm
 exact (a6Y (ds.flatMap (outs x.S)++(wot x.T ds).2) (x:=a5a x ds (wot x.T ds).1) g.sr).1.lv.trans g.lv
theorem c1F{x:Hp}(hR:SR x.S){ds:List Int}(hn:ds.Nodup)(hm:∀d∈ds,d∈lv x.S){k:Int}(hk:k∈lv x.S)(hd:k∉ds):∃n,ob (buH x ds).S k=stg (ob x.S k) n:=by
 have g:=a2V ds hR hn hm
 have hr:=J9 hR hk
 obtain⟨n,e⟩:=(a6Y (ds.flatMap (outs x.S)++(wot x.T ds).2) (x:=a5a x ds (wot x.T ds).1) g.sr).1.ob k (by omega)
 refine⟨n,?_⟩
 have e':ob (buH x ds).S k=_:=e
 have g':ob (a5a x ds (wot x.T ds).1).S k=ob x.S k:=g.ob k hk hd
 rw[e',g']
theorem b6J{x:Hp}(hR:SR x.S){ds:List Int}(hn:ds.Nodup)(hm:∀d∈ds,d∈lv x.S):(buH x ds).Roots=x.Roots∧(buH x ds).Cells=clr x.Cells ds∧(buH x ds).T=(wot x.T ds).1∧(buH x ds).Q=⟨x.Q.L++clt x.Cells ds,x.Q.Cap⟩:=by
 have g:=a2V ds hR hn hm
 have e:=(a6Y (ds.flatMap (outs x.S)++(wot x.T ds).2) (x:=a5a x ds (wot x.T ds).1) g.sr).2
 have e':buH x ds=wS (a5a x ds (wot x.T ds).1) (buH x ds).S:=e
 rw[e']
 exact⟨rfl,rfl,rfl,rfl⟩
theorem b3R{x:Hp}(hx:R7 x){z:Int}(hz:z∈zr x):R7 (buH x [z]):=by
 obtain⟨a,b⟩:=a4j.1 hz
 have h0:z≠0:=λe=>b0M hx.sh.sr (e▸a)
 have hn:=c0q hx hz
 unfold nms at hn
 refine c0u hx (by simp) (by simpa using a) (λd hd=>?_) (λh hh hne v hv q=>?_) (λk v hkv _ q=>?_)
 ·rw[List.mem_singleton] at hd
  subst hd
  exact b70 h0 (by omega)
 ·rw[List.mem_singleton] at q
  subst q
  have:=b9N (y:=v) hh
  have h1:=a5P.2 ⟨h0,show v∈outs x.S h from a8M.2 ⟨hv,h0⟩⟩
  omega
 ·rw[List.mem_singleton] at q
  subst q
  have:=b93 hkv h0
  omega
def due(o:store_Obj):Bool:=decide (0≤o.Prog) && !o.Started
noncomputable def stp(x:Hp):Hp:=match zr x with
 | []=>x
 | z::_=>if due (ob x.S z) then quH x z else buH x [z]
noncomputable def stN:Nat→Hp→Hp
 | 0,x=>x
 | n+1,x=>stN n (stp x)
theorem a2c(n:Nat)(x:Hp):stN (n+1) x=stp (stN n x):=by
 induction n generalizing x with
 | zero=>rfl
 | succ n ih=>exact ih (stp x)
theorem b0g{x:Hp}(h:zr x = []):stp x=x:=by unfold stp;rw[h]
theorem a4T{x:Hp}{z:Int}{l:List Int}(h:zr x=z::l):stp x=if due (ob x.S z) then quH x z else buH x [z]:=by unfold stp;rw[h]
theorem c1i{x:Hp}(hx:R7 x):R7 (stp x):=by
 cases h:zr x with
 | nil=>rw[b0g h];exact hx
 | cons z l=>
  have hz:z∈zr x:=by rw[h];exact List.mem_cons_self ..
  rw[a4T h]
  split
  ·rename_i q
   unfold due at q
   rw[Bool.and_eq_true,decide_eq_true_iff,Bool.not_eq_true'] at q
   exact b4N hx (a4j.1 hz).1 q.1 q.2
  ·exact b3R hx hz
theorem a0F{x:Hp}(hx:R7 x)(n:Nat):R7 (stN n x):=by
 induction n with
 | zero=>exact hx
 | succ n ih=>rw[a2c];exact c1i ih
section
variable{x:Hp}(hR:SR x.S){h:Int}(hh:h∈lv x.S)
include hR hh
theorem b11:Kin (seO x.S h (srt (ob x.S h))) (quH x h).S∧(quH x h).Roots=x.Roots∧(quH x h).Cells=x.Cells∧(quH x h).T=x.T∧(quH x h).Q=⟨x.Q.L ++ [qtk x h],x.Q.Cap⟩:=by
 have oko:=J8 hR hh
 have r1:=a1E (o:=srt (ob x.S h)) hR hh rfl ⟨oko.s1,oko.s2,oko.st,oko.wk,oko.p1,oko.p2,oko.fl⟩
 refine⟨I2 (x:=⟨seO x.S h (srt (ob x.S h)),x.Roots,x.Cells,x.T,⟨x.Q.L ++ [qtk x h],x.Q.Cap⟩⟩) r1 h λc=>D9,?_⟩
 have e:quH x h=wS ⟨seO x.S h (srt (ob x.S h)),x.Roots,x.Cells,x.T,⟨x.Q.L ++ [qtk x h],x.Q.Cap⟩⟩ (quH x h).S:=b3p _ h
 rw[e]
 exact⟨rfl,rfl,rfl,rfl⟩
theorem c3i:lv (quH x h).S=lv x.S:=by
 have oko:=J8 hR hh
 exact (b11 hR hh).1.lv.trans (a3j (o:=srt (ob x.S h)) hR hh rfl ⟨oko.s1,oko.s2,oko.st,oko.wk,oko.p1,oko.p2,oko.fl⟩)
theorem b8W{k:Int}(hk:k∈lv x.S):∃n,ob (quH x h).S k=stg (if k=h then srt (ob x.S h) else ob x.S k) n:=by
 have oko:=J8 hR hh
 have hr:=J9 hR hk
 obtain⟨n,e⟩:=(b11 hR hh).1.ob k (by omega)
 refine⟨n,?_⟩
 rw[e,a2m (o:=srt (ob x.S h)) hR hh rfl ⟨oko.s1,oko.s2,oko.st,oko.wk,oko.p1,oko.p2,oko.fl⟩ (by omega)]
end
noncomputable def mu(x:Hp):Nat:=(lv x.S).length+((lv x.S).filter λh => !(ob x.S h).Started).length
theorem c8K{x:Hp}(hR:SR x.S):mu x≤48:=by
 have h1:(lv x.S).length≤24:=a0W (p8.2 hR)
 have h2:((lv x.S).filter λh => !(ob x.S h).Started).length≤(lv x.S).length:=List.length_filter_le ..
 unfold mu
 omega
theorem c7L{x:Hp}(hx:R7 x)(h:zr x ≠ []):mu (stp x)<mu x:=by
 cases hz:zr x with
 | nil=>exact absurd hz h
 | cons z l=>
  have hzm:z∈zr x:=by rw[hz];exact List.mem_cons_self ..
  have hzl:=(a4j.1 hzm).1
  have hR:=hx.sh.sr
  rw[a4T hz]
  split
  ·rename_i q
   unfold due at q
   rw[Bool.and_eq_true,decide_eq_true_iff,Bool.not_eq_true'] at q
   unfold mu
   rw[c3i hR hzl]
   have:=filter_lt (p:=λh => !(ob (quH x z).S h).Started) (q:=λh => !(ob x.S h).Started) (l:=lv x.S) (λk hk hp=>by
    obtain⟨n,e⟩:=b8W hR hzl hk
    rw[e] at hp
    split at hp
    ·exact absurd hp (by simp)
    ·exact hp) z hzl (by rw[q.2];rfl) (by
    obtain⟨n,e⟩:=b8W hR hzl hzl
    rw[e,if_pos rfl]
    rfl)
   omega
  ·unfold mu
   have hn:([z]:List Int).Nodup:=by simp
   have hm:∀d ∈ [z],d∈lv x.S:=by simpa using hzl
   rw[c1E hR hn hm,List.filter_filter]
   have h1:((lv x.S).filter λh=>decide (h ∉ [z])).length<((lv x.S).filter λ_=>true).length:=filter_lt (λ_ _ _=>rfl) z hzl rfl (by simp)
   rw[List.filter_eq_self.2 (λ_ _=>rfl)] at h1
   have h2:((lv x.S).filter λa=>(!(ob (buH x [z]).S a).Started)&&decide (a ∉ [z])).length≤((lv x.S).filter λh => !(ob x.S h).Started).length:=by
    rw[←List.countP_eq_length_filter,←List.countP_eq_length_filter]
    refine List.countP_mono_left λa ha hp=>?_
    rw[Bool.and_eq_true,decide_eq_true_iff] at hp
    obtain⟨n,e⟩:=c1F hR hn hm ha hp.2
    rw[e] at hp
    exact hp.1
   omega
noncomputable def a2n(x:Hp):Hp:=stN 100 x
theorem b01{x:Hp}(hx:R7 x):∃n,n≤48∧zr (stN n x) = []∧(∀j,j<n→zr (stN j x) ≠ [])∧a2n x=stN n x:=by
 have key:∀m,(∃n,n≤m∧zr (stN n x) = [])∨mu (stN m x)+m≤mu x:=by
  intro m
  induction m with
  | zero=>exact .inr (Nat.le_refl _)
  | succ m ih=>
   rcases ih with ⟨n,h1,h2⟩ | ih
   ·exact .inl ⟨n,by omega,h2⟩
   ·by_cases q:zr (stN m x) = []
    ·exact .inl ⟨m,by omega,q⟩
    ·have:=c7L (a0F hx m) q
     rw[←a2c] at this
     exact .inr (by omega)
 have h48:=c8K hx.sh.sr
 have hex:∃n,n≤48∧zr (stN n x) = []:=by
  rcases key 49 with ⟨n,h1,h2⟩ | h
  ·rcases Nat.lt_or_ge n 49 with q | q
   ·exact⟨n,by omega,h2⟩
   ·rcases key 48 with h | h
    ·exact h
    ·have:mu (stN 48 x)=0:=by omega
     refine⟨48,Nat.le_refl _,?_⟩
     have hl:(lv (stN 48 x).S).length=0:=by unfold mu at this;omega
     unfold zr
     rw[List.eq_nil_of_length_eq_zero hl]
     rfl
  ·omega
 obtain⟨n,⟨hn,hz⟩,hmin⟩:=a0o hex
 refine⟨n,hn,hz,λj hj q=>?_,?_⟩
 ·have:=hmin j ⟨by omega,q⟩
  omega
 ·have:∀k,stN (n+k) x=stN n x:=λk=>by
   induction k with
   | zero=>rfl
   | succ k ih=>rw[show n+(k+1)=(n+k)+1 by omega,a2c,ih,b0g hz]
  have h100:=this (100-n)
  rw[show n+(100-n)=100 by omega] at h100
  exact h100
theorem a3k{x:Hp}(hx:R7 x):R7 (a2n x):=a0F hx 100
theorem c1d{x:Hp}(hx:R7 x):zr (a2n x) = []:=by
 obtain⟨n,_,h,_,e⟩:=b01 hx
 rw[e];exact h
theorem c3G{x:Hp}(h:zr x = []):a2n x=x:=by
 have:∀n,stN n x=x:=λn=>by
  induction n with
  | zero=>rfl
  | succ n ih=>rw[a2c,ih,b0g h]
 exact this 100
end Go.Sh
namespace Go.Sh
section
variable{x:Hp}(hR:SR x.S)
include hR
theorem a56{h:Int}(hh:h∈lv x.S):h≤9223372036854775807:=by have:=J9 hR hh;omega
theorem b2I{h:Int}(hh:h∈lv x.S):r7 x.S h=some (ob x.S h,0):=by
 obtain⟨e,h1,h2⟩:=Q4 (p8.2 hR) (a56 hR hh)
 rw[h1,h2.2 hh]
theorem a9m{h:Int}(hh:h∈lv x.S):D3 (sO x.S) h=some (oo (ob x.S h),0):=by
 have:=hR.len
 rw[a3F x.S (by omega) (a56 hR hh),b2I hR hh]
 rfl
theorem zero_eq:a0E x=some (zr x):=by
 have h24:(lv x.S).length≤24:=a0W (p8.2 hR)
 unfold a0E
 simp only[jn]
 rw[a5p (p8.2 hR),d1q]
 rw[L6 (lv x.S) (λb h=>if (ob x.S h).Strong==0 then b ++ [h] else b) id (λk b=>b.length≤k) (by omega) (Nat.le_refl _) (λk hk b hb=>?_) (λb hb=>by simp)]
 ·rw[foldl_filter]
  rfl
 ·simp only[Int.ofNat_lt,hk,decide_true,if_true,l5 hk,d1q,b2I hR (List.getElem_mem hk)]
  by_cases c:((ob x.S (lv x.S)[k]).Strong==0)=true
  ·rw[if_pos c,if_pos c,B1 (by omega) (by simp;omega),d1q,g7]
   exact⟨rfl,by simp;omega⟩
  ·rw[if_neg c,if_neg c,g7]
   exact⟨rfl,by omega⟩
theorem b6w:a3f (hO x)=some (zr x):=by
 have h24:(lv x.S).length≤24:=a0W (p8.2 hR)
 unfold a3f
 simp only[jn]
 rw[show (hO x).S=sO x.S from rfl,b2P (p8.2 hR),d1q]
 rw[L6 (lv x.S) (λb h=>if (ob x.S h).Strong==0 then b ++ [h] else b) id (λk b=>b.length≤k) (by omega) (Nat.le_refl _) (λk hk b hb=>?_) (λb hb=>by simp)]
 ·rw[foldl_filter]
  rfl
 ·simp only[Int.ofNat_lt,hk,decide_true,if_true,l5 hk,d1q,a9m hR (List.getElem_mem hk)]
  by_cases c:((ob x.S (lv x.S)[k]).Strong==0)=true
  ·rw[show ((oo (ob x.S (lv x.S)[k])).Strong==0)=true from c,if_pos rfl,if_pos c,B1 (by omega) (by simp;omega),d1q,g7]
   exact⟨rfl,by simp;omega⟩
  ·rw[if_neg (show ¬((oo (ob x.S (lv x.S)[k])).Strong==0)=true from c),if_neg c,g7]
   exact⟨rfl,by omega⟩
theorem b4T:a19 (hO x)=some (decide (zr x = [])):=by
 unfold a19
 rw[b6w hR,d1q]
 congr 1
 cases zr x <;> simp
 omega
end
noncomputable def quD(x:Hp)(h:Int):Hp:=if h∈lv x.S∧due (ob x.S h)=true then quH x h else x
theorem b6a{s:store_Store}(hR:SR s){h:Int}(hl:h∈lv s):OkO s (srt (ob s h)):=by
 have oko:=J8 hR hl
 exact⟨oko.s1,oko.s2,oko.st,oko.wk,oko.p1,oko.p2,oko.fl⟩
theorem b92(o:store_Obj):I6 o=some (due o):=by
 unfold I6 due
 congr 1
section
variable{x:Hp}(hx:R7 x)(hS:SL x){h:Int}(hh:h≤9223372036854775807)
include hx hS hh
theorem b28(hl:h∈lv x.S)(hd:due (ob x.S h)=true):x.Q.L.length<30:=by
 have hb:0≤(ob x.S h).Prog∧(ob x.S h).Started=false:=by
  unfold due at hd
  rw[Bool.and_eq_true,decide_eq_true_iff,Bool.not_eq_true'] at hd
  exact hd
 have:=(b4N hx hl hb.1 hb.2).sh.q30
 rw[(b11 hx.sh.sr hl).2.2.2.2] at this
 simp at this
 omega
theorem c0Z:T7 x h=some (quD x h):=by
 have hR:=hx.sh.sr
 have cap:=hx.sh.cap
 obtain⟨e,h1,h2⟩:=Q4 (p8.2 hR) hh
 unfold T7 quD
 rw[h1,d1q]
 by_cases hl:h∈lv x.S
 ·have e0:e=0:=h2.2 hl
  subst e0
  have e1:(((0:Int) != 0)==false)=true:=rfl
  simp only[e1,F5,b92,d1q]
  cases hd:due (ob x.S h)
  ·rw[if_pos (by simp),if_neg (by simp)]
  ·rw[if_neg (by simp),if_pos ⟨hl,rfl⟩]
   have hr:=b28 hx hS hh hl hd
   have hok:=b6a hR hl
   have l1:=a3j (o:=srt (ob x.S h)) hR hl rfl hok
   have r1:=a1E (o:=srt (ob x.S h)) hR hl rfl hok
   rw[b0d (o:=srt (ob x.S h)) hR hl rfl hok,d1q,c53 _ (by omega),d1q]
   have et:tad x.Q ⟨1,h,(ob x.S h).Prog⟩=(⟨x.Q.L ++ [qtk x h],x.Q.Cap⟩,0):=by
    unfold tad
    rw[if_neg (by omega)]
   rw[et]
   dsimp only
   rw[a7M r1 hh (λk hk=>?_),d1q]
   ·rfl
   ·dsimp only at hk ⊢
    rw[l1] at hk
    rw[a2m (o:=srt (ob x.S h)) hR hl rfl hok (a56 hR hk)]
    split
    ·exact hS h hl
    ·exact hS k hk
 ·have e0:e≠0:=λq=>hl (h2.1 q)
  have e1:(e != 0)=true:=by simpa using e0
  rw[e1]
  simp only[show ((true==false)=true)=False by simp,l6,if_false,d1q,Bool.true_or,if_true]
  rw[if_neg (λq=>hl q.1)]
theorem c5F:a7J (hO x) h=some (decide (h∈lv x.S)&&due (ob x.S h)):=by
 have hR:=hx.sh.sr
 have hlen:=hR.len
 obtain⟨e,h1,h2⟩:=Q4 (p8.2 hR) hh
 unfold a7J
 rw[show (hO x).S=sO x.S from rfl,a3F x.S (by omega) hh,h1,Option.map_some,d1q,a5n hR hh,d1q]
 unfold due oo
 rw[Bool.and_assoc]
theorem c3j:a3e (hO x) h=some (hO (quD x h)):=by
 have hR:=hx.sh.sr
 have cap:=hx.sh.cap
 unfold a3e quD
 rw[c5F hx hS hh,d1q]
 by_cases hl:h∈lv x.S
 ·rw[decide_eq_true hl,Bool.true_and]
  cases hd:due (ob x.S h)
  ·rw[if_pos (by simp),if_neg (by simp)]
  ·rw[if_neg (by simp),if_pos ⟨hl,rfl⟩]
   have hr:=b28 hx hS hh hl hd
   have hok:=b6a hR hl
   have l1:=a3j (o:=srt (ob x.S h)) hR hl rfl hok
   have r1:=a1E (o:=srt (ob x.S h)) hR hl rfl hok
   rw[show (hO x).S=sO x.S from rfl,a9m hR hl,d1q]
   have es:J4 (sO x.S) h (oo (srt (ob x.S h)))=some (sO (seO x.S h (srt (ob x.S h))),0):=b0e hR hl rfl hok
   have es':J4 (sO x.S) h ⟨(oo (ob x.S h)).Serial,(oo (ob x.S h)).Strong,(oo (ob x.S h)).Weak,(oo (ob x.S h)).Prog,true,(oo (ob x.S h)).Fields⟩=some (sO (seO x.S h (srt (ob x.S h))),0):=es
   rw[es',d1q]
   have ea:a3W (hO x).Q ⟨1,h,(oo (ob x.S h)).Prog⟩=some (tqR ⟨x.Q.L ++ [qtk x h],x.Q.Cap⟩,0):=by
    have:=c50 (q:=x.Q) (qtk x h) (by omega)
    have et:tad x.Q (qtk x h)=(⟨x.Q.L ++ [qtk x h],x.Q.Cap⟩,0):=by
     unfold tad
     rw[if_neg (by omega)]
    rw[et] at this
    exact this
   rw[ea,d1q]
   have er:=a99 (x:=⟨seO x.S h (srt (ob x.S h)),x.Roots,x.Cells,x.T,⟨x.Q.L ++ [qtk x h],x.Q.Cap⟩⟩) r1 hh (λk hk=>by
    dsimp only at hk ⊢
    rw[l1] at hk
    rw[a2m (o:=srt (ob x.S h)) hR hl rfl hok (a56 hR hk)]
    split
    ·exact hS h hl
    ·exact hS k hk)
   have er':W0 ⟨sO (seO x.S h (srt (ob x.S h))),(hO x).Roots,(hO x).Cells,(hO x).T,tqR ⟨x.Q.L ++ [qtk x h],x.Q.Cap⟩⟩ h=_:=er
   dsimp only
   rw[er',d1q]
   rfl
 ·rw[decide_eq_false hl,Bool.false_and]
  rw[if_pos (by simp),if_neg (λq=>hl q.1)]
end
noncomputable def lvo(x:Hp)(l:List Int):List Int:=l.foldl (λb h=>if h∈lv x.S∧h∉b then b ++ [h] else b) []
theorem b7f{x:Hp}{z:Int}(hz:z∈lv x.S):lvo x [z] = [z]:=by
 unfold lvo
 simp[hz]
section
variable{x:Hp}(hR:SR x.S)
include hR
theorem b5s(l:List Int)(hl:l.length≤1000)(hb:∀h∈l,h≤9223372036854775807):P0 x l=some (lvo x l):=by
 unfold P0
 simp only[jn]
 have key:=L6 (f:=λ((s20,s21,s22):Int × (List (Int × Bool)) × (List Int))=>
   if (decide (s20<(l.length:Int))) then
     (ix l s20).bind λv32=>
     (r7 x.S v32).bind λv33=>
     if ((v33.2==0)==true) then
      if (!((y7 s21 v32).getD (false:Bool))) then
       (app 8 s22 [v32]).bind λv34=>
       some (Sum.inl (s6 (s20+1),(m7 s21 v32 true),v34))
      else
      some (.inl (s6 (s20+1),s21,s22))
     else
     some (.inl (s6 (s20+1),s21,s22))
   else
   some (.inr s22)) l (λ(b:List (Int × Bool) × List Int) h=>if h∈lv x.S∧h∉b.2 then (m7 b.1 h true,b.2 ++ [h]) else b) (λb=>b.2) (λk b=>b.2.length≤k∧∀d,(y7 b.1 d).getD false=decide (d∈b.2)) (b0:=([],[])) (by omega) ⟨Nat.le_refl _,λd=>by simp[y7]⟩ (λk hk b hb2=>?_) (λb hb2=>by simp)
 ·rw[key,d1q]
  congr 1
  have:∀(l:List Int) (m:List (Int × Bool)) (b:List Int),(l.foldl (λ(b:List (Int × Bool) × List Int) h=>if h∈lv x.S∧h∉b.2 then (m7 b.1 h true,b.2 ++ [h]) else b) (m,b)).2=l.foldl (λb h=>if h∈lv x.S∧h∉b then b ++ [h] else b) b:=λl=>by
   induction l with
   | nil=>intro m b;rfl
   | cons h l ih=>
    intro m b
    rw[List.foldl_cons,List.foldl_cons]
    by_cases c:h∈lv x.S∧h∉b
    ·rw[if_pos c,if_pos c,ih]
    ·rw[if_neg c,if_neg c,ih]
  exact this l [] []
 ·obtain⟨hb1,hb3⟩:=hb2
  obtain⟨e,h1,h2⟩:=Q4 (p8.2 hR) (hb _ (List.getElem_mem hk))
  simp only[Int.ofNat_lt,hk,decide_true,if_true,l5 hk,d1q,h1,hb3]
  by_cases hl:l[k]∈lv x.S
  ·have e0:e=0:=h2.2 hl
   subst e0
   by_cases hm:l[k]∈b.2
   ·rw[if_pos (by rfl),if_neg (by simp[hm]),if_neg (λq=>q.2 hm),g7]
    exact⟨rfl,by omega,hb3⟩
   ·rw[if_pos (by rfl),if_pos (by simp[hm]),if_pos ⟨hl,hm⟩,B1 (by omega) (by simp;omega),d1q,g7]
    refine⟨rfl,by simp;omega,λd=>?_⟩
    rw[a7t]
    by_cases q:d=l[k]
    ·rw[if_pos q]
     simp[q]
    ·rw[if_neg q,hb3]
     simp[q]
  ·have e0:e≠0:=λq=>hl (h2.1 q)
   rw[if_neg (by simp[e0]),if_neg (λq=>hl q.1),g7]
   exact⟨rfl,by omega,hb3⟩
theorem c6y(l:List Int)(hl:l.length≤1000)(hb:∀h∈l,h≤9223372036854775807):a6U (hO x) l=some (lvo x l):=by
 unfold a6U
 simp only[jn]
 rw[L6 l (λb h=>if h∈lv x.S∧h∉b then b ++ [h] else b) id (λk b=>b.length≤k) (by omega) (Nat.le_refl _) (λk hk b hb2=>?_) (λb hb=>by simp)]
 ·rfl
 ·simp only[Int.ofNat_lt,hk,decide_true,if_true,l5 hk,d1q,a5n hR (hb _ (List.getElem_mem hk))]
  by_cases hl:l[k]∈lv x.S
  ·have h0:l[k]≠0:=λe=>b0M hR (e▸hl)
   rw[decide_eq_true hl]
   simp only[beq_self_eq_true,F5,c2q b _ (by omega:b.length≤1000000),d1q,Bool.true_and]
   by_cases hm:l[k]∈b
   ·rw[if_neg (by simp[hm,h0]),if_neg (λq=>q.2 hm),g7]
    exact⟨rfl,by omega⟩
   ·rw[if_pos (by simp[hm]),if_pos ⟨hl,hm⟩,B1 (by omega) (by simp;omega),d1q,g7]
    exact⟨rfl,by simp;omega⟩
  ·rw[decide_eq_false hl]
   simp only[show ((false==true)=true)=False by simp,l6,if_false,d1q,Bool.false_and]
   rw[if_neg (by simp),if_neg (λq=>hl q.1),g7]
   exact⟨rfl,by omega⟩
end
end Go.Sh
namespace Go.Sh
theorem b2G{α β:Type}(p:α→Bool)(f:α→β):∀(xs:List α) (acc:List β),xs.foldl (λb x=>if p x then b ++ [f x] else b) acc=acc++(xs.filter p).map f
 | [],acc=>by simp
 | x::xs,acc=>by
  rw[List.foldl_cons,b2G p f xs]
  by_cases h:p x=true
  ·simp[h]
  ·simp[h]
theorem a0k{α:Type}{l:List α}{i:Nat}(h:i<l.length)(d:α):l.getD i d=l[i]:=by
 rw[List.getD_eq_getElem?_getD,List.getElem?_eq_getElem h];rfl
theorem c0w(c:weak_Cell)(ds:List Int)(hl:ds.length≤1000):Y7 c ds=some (a20 ds c):=by
 unfold Y7 a20
 rw[contains_eq _ _ (by omega)]
 cases (c.Intact&&c.Target != 0)
 ·rfl
 ·simp[l6]
def pks(l:List weak_Cell)(ds:List Int):List Nat:=(List.range l.length).filter λw=>a20 ds (l.getD w cz)
theorem c7o{l:List weak_Cell}{ds:List Int}{w:Nat}(h:w∈pks l ds):w<l.length:=by
 unfold pks at h
 rw[List.mem_filter,List.mem_range] at h
 exact h.1
theorem c44(l:List weak_Cell)(ds:List Int):(pks l ds).length≤l.length:=by
 unfold pks
 exact Nat.le_trans (List.length_filter_le ..) (by simp)
theorem c7p(l:List weak_Cell)(ds:List Int):(pks l ds).Nodup:=List.Pairwise.filter _ List.nodup_range
theorem c4k(l:List weak_Cell)(ds:List Int):cls l ds=(pks l ds).filter λw=>decide (0≤(l.getD w cz).Call):=by
 unfold cls pks
 rw[List.filter_filter]
 refine List.filter_congr λw _=>?_
 rw[Bool.and_comm]
def a5l(l:List Nat):List Int:=l.map λ(n:Nat)=>(n:Int)
theorem b5p{l:List Nat}{k:Nat}(h:k<l.length):ix (a5l l) (k:Int)=some ((l[k]:Nat):Int):=by
 unfold a5l
 rw[a1Q,l5 h];rfl
theorem a4z(l:List Nat):(a5l l).length=l.length:=List.length_map ..
theorem c0Y(l:List weak_Cell)(ds:List Int)(hl:l.length≤1000)(hd:ds.length≤1000):G8 l ds=some (a5l (pks l ds)):=by
 unfold G8
 simp only[jn]
 have hr:(List.range l.length).length=l.length:=by simp
 have key:=L6 (List.range l.length) (λ(b:List Int) (w:Nat)=>if a20 ds (l.getD w cz) then b ++ [(w:Int)] else b) id (λk b=>b.length≤k) (b0:=[]) (f:=λ((s17,s18):Int × (List Int))=>
   if (decide (s17<(l.length:Int))) then
     (ix l s17).bind λv26=>
     (Y7 v26 ds).bind λv27=>
     if v27 then
      (app 8 s18 [s17]).bind λv28=>
      some (Sum.inl (s6 (s17+1),v28))
     else
     some (.inl (s6 (s17+1),s18))
   else
   some (.inr s18)) (by omega) (Nat.le_refl _) (λk hk b hb=>?_) (λb hb=>by simp)
 ·rw[key,b2G]
  rfl
 ·rw[hr] at hk
  simp only[Int.ofNat_lt,hk,decide_true,if_true,l5 hk,d1q,c0w _ _ hd,List.getElem_range,a0k hk]
  by_cases c:a20 ds l[k]=true
  ·rw[if_pos c,if_pos c,B1 (by omega) (by simp;omega),d1q,g7]
   exact⟨rfl,by simp;omega⟩
  ·rw[if_neg c,if_neg c,g7]
   exact⟨rfl,by omega⟩
theorem c0A(l:List weak_Cell)(hl:l.length≤1000):X0 l=some l:=by
 unfold X0
 rw[b7j (by omega) (by omega),d1q]
 unfold cpy
 rw[if_pos (by simp),d1q]
 simp
def a9b(l:List weak_Cell)(K:List Nat):List weak_Cell:=(List.range l.length).map λi=>if i∈K then ⟨(l.getD i cz).Target,false,(l.getD i cz).Call⟩ else l.getD i cz
theorem a4o(l:List weak_Cell)(K:List Nat):(a9b l K).length=l.length:=by simp[a9b]
theorem a9c{l:List weak_Cell}{K:List Nat}{i:Nat}(h:i<(a9b l K).length):(a9b l K)[i]=if i∈K then ⟨(l.getD i cz).Target,false,(l.getD i cz).Call⟩ else l.getD i cz:=by simp[a9b]
theorem c1J(l:List weak_Cell):a9b l []=l:=by
 refine List.ext_getElem (a4o ..) λi h1 h2=>?_
 rw[a9c,if_neg (by simp),a0k h2]
theorem c0y{l:List weak_Cell}{K:List Nat}{w:Nat}(hw:w<l.length):a9b l (K ++ [w])=(a9b l K).set w ⟨(l.getD w cz).Target,false,(l.getD w cz).Call⟩:=by
 refine List.ext_getElem (by rw[List.length_set,a4o,a4o]) λi h1 h2=>?_
 rw[a9c,List.getElem_set]
 by_cases e:w=i
 ·subst e
  rw[if_pos rfl,if_pos (by simp)]
 ·rw[if_neg e,a9c]
  by_cases q:i∈K
  ·rw[if_pos (List.mem_append_left _ q),if_pos q]
  ·rw[if_neg,if_neg q]
   rw[List.mem_append,List.mem_singleton]
   exact λq2=>q2.elim q λq3=>e q3.symm
theorem c1I(l:List weak_Cell)(ds:List Int):a9b l (pks l ds)=clr l ds:=by
 refine List.ext_getElem (by rw[a4o];simp[clr]) λi h1 h2=>?_
 have hi:i<l.length:=by rw[a4o] at h1;exact h1
 have ec:(clr l ds)[i]=a6r ds l[i]:=List.getElem_map _
 rw[a9c,ec,a0k hi]
 unfold a6r
 by_cases c:a20 ds l[i]=true
 ·rw[if_pos c,if_pos]
  unfold pks
  rw[List.mem_filter,List.mem_range,a0k hi]
  exact⟨hi,c⟩
 ·rw[if_neg c,if_neg]
  unfold pks
  rw[List.mem_filter,List.mem_range,a0k hi]
  exact λq=>c q.2
theorem a0H{α:Type}{l:List α}{k:Nat}(h:k<l.length):l.take (k+1)=l.take k ++ [l[k]]:=List.take_succ_eq_append_getElem h
theorem c1H(l:List weak_Cell)(ds:List Int)(hl:l.length≤1000)(hd:ds.length≤1000):a3r l ds=some (clr l ds,a5l (cls l ds)):=by
 unfold a3r
 rw[c0Y l ds hl hd,d1q,c0A l hl,d1q]
 simp only[jn,a4z]
 have hp:=c44 l ds
 refine X9 (pks l ds).length (λk (b:List weak_Cell × List Int)=>b.1=a9b l ((pks l ds).take k)∧b.2=a5l (((pks l ds).take k).filter λw=>decide (0≤(l.getD w cz).Call))) (by omega) ⟨by simp[c1J],by simp[a5l]⟩ ?_ ?_
 ·rintro k ⟨b1,b2⟩ hk ⟨rfl,rfl⟩
  left
  have hw:=c7o (List.getElem_mem hk)
  have hnm:(pks l ds)[k]∉(pks l ds).take k:=λq=>by
   have hn:=c7p l ds
   rw[←List.take_append_drop k (pks l ds),List.nodup_append] at hn
   exact hn.2.2 _ q (pks l ds)[k] (by rw[List.drop_eq_getElem_cons hk];exact List.mem_cons_self ..) rfl
  have h1:(pks l ds)[k]<(a9b l ((pks l ds).take k)).length:=by rw[a4o];exact hw
  have e1:ix (a9b l ((pks l ds).take k)) (((pks l ds)[k]:Nat):Int)=some (l.getD (pks l ds)[k] cz):=by rw[l5 h1,a9c,if_neg hnm]
  have h2:(pks l ds)[k]<((a9b l ((pks l ds).take k)).set (pks l ds)[k] ⟨(l.getD (pks l ds)[k] cz).Target,false,(l.getD (pks l ds)[k] cz).Call⟩).length:=by rw[List.length_set];exact h1
  have e2:ix ((a9b l ((pks l ds).take k)).set (pks l ds)[k] ⟨(l.getD (pks l ds)[k] cz).Target,false,(l.getD (pks l ds)[k] cz).Call⟩) (((pks l ds)[k]:Nat):Int)=some ⟨(l.getD (pks l ds)[k] cz).Target,false,(l.getD (pks l ds)[k] cz).Call⟩:=by rw[l5 h2,List.getElem_set_self]
  dsimp only
  simp only[Int.ofNat_lt,hk,decide_true,if_true,b5p hk,d1q,e1,Int.toNat_natCast,e2]
  have hle:(a5l (((pks l ds).take k).filter λw=>decide (0≤(l.getD w cz).Call))).length≤1000:=by
   rw[a4z]
   exact Nat.le_trans (List.length_filter_le ..) (by simp;omega)
  rw[a0H hk,c0y hw,List.filter_append]
  by_cases c:0≤(l.getD (pks l ds)[k] cz).Call
  ·rw[if_pos (decide_eq_true c),B1 (by omega) (by simp only[List.length_cons,List.length_nil];omega),d1q,g7]
   refine⟨_,rfl,rfl,?_⟩
   rw[List.filter_cons,if_pos (decide_eq_true c)]
   simp[a5l]
  ·rw[if_neg (λq=>c (of_decide_eq_true q)),g7]
   refine⟨_,rfl,rfl,?_⟩
   rw[List.filter_cons,if_neg (λq=>c (of_decide_eq_true q))]
   simp[a5l]
 ·rintro⟨b1,b2⟩ ⟨rfl,rfl⟩
  refine⟨_,if_neg (by simp),?_⟩
  dsimp only
  rw[List.take_length,c1I,←c4k]
theorem c8v(c:weak_Cell)(ds:List Int)(hd:ds.length≤1000):((l6 ((wcR c).Intact==true) 0 (a0A ds (wcR c).Target)).bind λv=>some ((wcR c).Intact&&decide (v > 0)))=some (a20 ds c):=by
 unfold a20 wcR
 dsimp only
 cases hI:c.Intact
 ·rfl
 ·simp only[beq_self_eq_true,F5]
  rw[a5O _ _ (by omega),d1q]
  congr 1
  rw[Bool.true_and,Bool.true_and,Bool.eq_iff_iff]
  simp only[decide_eq_true_iff,Bool.and_eq_true,bne_iff_ne]
  have:=a5P (l:=ds) (h:=c.Target)
  constructor
  ·intro q
   exact this.1 (by omega)
  ·intro q
   have:=this.2 q
   omega
theorem c4j(l:List weak_Cell)(ds:List Int)(hl:l.length≤1000)(hd:ds.length≤1000):a7y (l.map wcR) ds=some ((clr l ds).map wcR,a5l (cls l ds)):=by
 unfold a7y
 simp only[jn,List.length_map]
 refine X9 l.length (λk (b:List g8 × List Int)=>b.1=((clr l ds).take k).map wcR∧b.2=a5l ((List.range k).filter λw=>a20 ds (l.getD w cz)&&decide (0≤(l.getD w cz).Call))) (by omega) ⟨by simp,by simp[a5l]⟩ ?_ ?_
 ·rintro k ⟨b1,b2⟩ hk ⟨rfl,rfl⟩
  left
  have hk2:k<(clr l ds).length:=by simp[clr];exact hk
  have e1:ix (l.map wcR) (k:Int)=some (wcR l[k]):=by rw[a1Q,l5 hk];rfl
  have hle:(a5l ((List.range k).filter λw=>a20 ds (l.getD w cz)&&decide (0≤(l.getD w cz).Call))).length≤1000:=by
   rw[a4z]
   exact Nat.le_trans (List.length_filter_le ..) (by simp;omega)
  dsimp only
  simp only[Int.ofNat_lt,hk,decide_true,if_true,e1,d1q]
  obtain⟨v,hv,hv2⟩:=a6q (c8v l[k] ds hd)
  rw[hv,d1q]
  have hv2:=Option.some.inj hv2
  rw[hv2,a0H hk2,List.map_append,List.range_succ,List.filter_append]
  have ec:(clr l ds)[k]=a6r ds l[k]:=List.getElem_map _
  have lc:(List.map wcR (List.take k (clr l ds))).length≤1000:=by simp[clr];omega
  rw[ec]
  unfold a6r
  by_cases c:a20 ds l[k]=true
  ·rw[if_pos c,if_pos c]
   by_cases c2:0≤l[k].Call
   ·rw[if_pos (by simpa[wcR] using c2),B1 (by omega) (by simp only[List.length_cons,List.length_nil];omega),d1q,B1 (by omega) (by simp only[List.length_cons,List.length_nil];omega),d1q,g7]
    refine⟨_,rfl,rfl,?_⟩
    simp only[List.filter_cons,List.filter_nil,a0k hk,c,c2,decide_true,Bool.and_self,if_true]
    simp[a5l]
   ·rw[if_neg (by simpa[wcR] using c2),B1 (by omega) (by simp only[List.length_cons,List.length_nil];omega),d1q,g7]
    refine⟨_,rfl,rfl,?_⟩
    simp only[List.filter_cons,List.filter_nil,a0k hk,c,c2,decide_false,Bool.and_false,Bool.false_eq_true,if_false,List.append_nil]
  ·rw[if_neg c,if_neg c,B1 (by omega) (by simp only[List.length_cons,List.length_nil];omega),d1q,g7]
   refine⟨_,rfl,rfl,?_⟩
   have c:a20 ds l[k]=false:=by simpa using c
   simp only[List.filter_cons,List.filter_nil,a0k hk,c,Bool.false_and,Bool.false_eq_true,if_false,List.append_nil]
 ·rintro⟨b1,b2⟩ ⟨rfl,rfl⟩
  refine⟨_,if_neg (by simp),?_⟩
  dsimp only
  rw[List.take_of_length_le (by simp[clr])]
  rfl
end Go.Sh
namespace Go.Sh
def clH(x:Hp)(ds:List Int):Hp:=⟨x.S,x.Roots,clr x.Cells ds,x.T,⟨x.Q.L++clt x.Cells ds,x.Q.Cap⟩⟩
theorem a1J(l:List weak_Cell)(ds:List Int):(clt l ds).length=(cls l ds).length:=List.length_map ..
theorem c1K{l:List weak_Cell}{ds:List Int}{w:Nat}(h:w∈cls l ds):w<l.length:=by
 unfold cls at h
 rw[List.mem_filter,List.mem_range] at h
 exact h.1
theorem c1L{l:List weak_Cell}{ds:List Int}{k:Nat}(h:k<(clt l ds).length):(clt l ds)[k]=⟨2,(((cls l ds)[k]'(by rw[←a1J];exact h):Nat):Int),(l.getD ((cls l ds)[k]'(by rw[←a1J];exact h)) cz).Call⟩:=List.getElem_map _
theorem b6L{l:List weak_Cell}{ds:List Int}{w:Nat}(h:w<l.length):ix (clr l ds) (w:Int)=some (a6r ds l[w]):=by
 unfold clr
 rw[a1Q,l5 h];rfl
section
variable{x:Hp}{ds:List Int}(hc:x.Cells.length≤6)(hd:ds.length≤1000)(hq:(x.Q.L++clt x.Cells ds).length≤30)(hcap:x.Q.Cap=30)
include hc hd hq hcap
theorem b4o{k:Nat}(hk:k<(clt x.Cells ds).length):tad ⟨x.Q.L++(clt x.Cells ds).take k,x.Q.Cap⟩ (clt x.Cells ds)[k]=(⟨x.Q.L++(clt x.Cells ds).take (k+1),x.Q.Cap⟩,0):=by
 rw[List.length_append] at hq
 unfold tad
 rw[if_neg (by dsimp only;rw[List.length_append,List.length_take,hcap];omega),a0H hk,List.append_assoc]
theorem b8h:a06 x ds=some (clH x ds):=by
 unfold a06
 rw[c1H _ _ (by omega) hd,d1q]
 dsimp only
 simp only[jn,a4z]
 have hq2:=hq
 rw[List.length_append] at hq2
 refine X9 (cls x.Cells ds).length (λk (q:TQ)=>q=⟨x.Q.L++(clt x.Cells ds).take k,x.Q.Cap⟩) (by rw[←a1J];omega) (by simp) ?_ ?_
 ·rintro k q hk rfl
  left
  have hw:=c1K (List.getElem_mem hk)
  have hk2:k<(clt x.Cells ds).length:=by rw[a1J];exact hk
  simp only[Int.ofNat_lt,hk,decide_true,if_true,b5p hk,d1q,b6L hw]
  have et:(⟨2,(((cls x.Cells ds)[k]:Nat):Int),(a6r ds x.Cells[(cls x.Cells ds)[k]]).Call⟩:task_Task)=(clt x.Cells ds)[k]:=by
   rw[c1L,(b42 ds _).2.1,a0k hw]
  rw[et,c53 _ (by dsimp only;rw[List.length_append,List.length_take];omega),b4o hc hd hq hcap hk2,d1q,g7 (by rw[←a1J] at hk;omega)]
  exact⟨_,rfl,rfl⟩
 ·rintro q rfl
  refine⟨_,if_neg (by simp),?_⟩
  rw[←a1J,List.take_length]
  rfl
theorem c6f{K:p6→Option c5}:((lp (S:=Int × p6) (E:=p6) (λ((s68,s69):Int × p6)=>
   if (decide (s68<((a5l (cls x.Cells ds)).length:Int))) then
    (ix (a5l (cls x.Cells ds)) s68).bind λv72=>
    (ix ((clr x.Cells ds).map wcR) v72).bind λv73=>
    (a3W s69 (⟨2,v72,v73.Call⟩:l7)).bind λv74=>
    some (.inl (s6 (s68+1),v74.1))
   else
   some (.inr s69)) (0,tqR x.Q)).bind K)=K (tqR (clH x ds).Q):=by
 have hq2:=hq
 rw[List.length_append] at hq2
 have key:=a0V (f:=λ((s68,s69):Int × p6)=>
   if (decide (s68<((a5l (cls x.Cells ds)).length:Int))) then
    (ix (a5l (cls x.Cells ds)) s68).bind λv72=>
    (ix ((clr x.Cells ds).map wcR) v72).bind λv73=>
    (a3W s69 (⟨2,v72,v73.Call⟩:l7)).bind λv74=>
    some (Sum.inl (s6 (s68+1),v74.1))
   else
   some (.inr s69)) (t0:=tqR x.Q) (cls x.Cells ds).length (λk (q:p6)=>q=tqR ⟨x.Q.L++(clt x.Cells ds).take k,x.Q.Cap⟩) (λq=>q=tqR (clH x ds).Q) (by rw[←a1J];omega) (by simp) ?_ ?_
 ·obtain⟨e,h1,h2⟩:=key
  rw[h1,d1q,h2]
 ·rintro k q hk rfl
  left
  have hw:=c1K (List.getElem_mem hk)
  have hk2:k<(clt x.Cells ds).length:=by rw[a1J];exact hk
  have ei:ix ((clr x.Cells ds).map wcR) (((cls x.Cells ds)[k]:Nat):Int)=some (wcR (a6r ds x.Cells[(cls x.Cells ds)[k]])):=by rw[a1Q,b6L hw];rfl
  simp only[a4z,Int.ofNat_lt,hk,decide_true,if_true,b5p hk,d1q,ei]
  have et:(⟨2,(((cls x.Cells ds)[k]:Nat):Int),(wcR (a6r ds x.Cells[(cls x.Cells ds)[k]])).Call⟩:l7)=tkR (clt x.Cells ds)[k]:=by
   rw[c1L,a0k hw]
   show (⟨2,_,(a6r ds x.Cells[(cls x.Cells ds)[k]]).Call⟩:l7)=_
   rw[(b42 ds _).2.1]
   rfl
  rw[et,c50 _ (by dsimp only;rw[List.length_append,List.length_take];omega),b4o hc hd hq hcap hk2,d1q,g7 (by rw[←a1J] at hk;omega)]
  exact⟨_,rfl,rfl⟩
 ·rintro q rfl
  refine⟨_,if_neg (by rw[a4z];simp),?_⟩
  rw[←a1J,List.take_length]
  rfl
end
theorem b00(s:store_Store)(i:Nat)(c d:slab_Cell_store_Obj):E4 (E4 s i c) i d=E4 s i d:=by
 unfold E4
 dsimp only
 rw[List.set_set]
section
variable{s:store_Store}(hR:SR s){d:Int}(hd:d∈lv s)
include hR hd
def k1(s:store_Store)(d:Int):store_Store:=E4 s (B4 d) ⟨1,(ce s (B4 d)).Gen,ded (ob s d)⟩
def k2(s:store_Store)(d:Int):store_Store:=E4 s (B4 d) ⟨2,(ce s (B4 d)).Gen,ded (ob s d)⟩
theorem b45:OkO s (ded (ob s d)):=by
 have ho:=J8 hR hd
 exact⟨ho.s1,ho.s2,Int.le_refl _,ho.wk,ho.p1,ho.p2,Nat.zero_le _⟩
theorem b8H:seO s d (ded (ob s d))=k1 s d:=by
 have q:=u6 hR hd
 unfold seO a0Z k1 E4
 rw[q.2.1]
theorem c5Q:At (k1 s d) d (B4 d):=by
 have q:=u6 hR hd
 refine⟨by unfold k1;rw[W3];exact q.1,?_,?_⟩
 ·unfold k1;rw[J1 q.1,if_pos rfl]
 ·unfold k1;rw[J1 q.1,if_pos rfl];exact q.2.2
theorem c5R:SR (k1 s d):=by rw[←b8H hR hd];exact a1E (o:=ded (ob s d)) hR hd rfl (b45 hR hd)
theorem c5U:SR (k2 s d):=by
 have q:=u6 hR hd
 have hc:=hR.cell _ q.1
 unfold k2
 refine hR.E4 q.1 ⟨by simp,by simp,hc.2.2.1,hc.2.2.2⟩ (λq=>absurd (.inr rfl) q) (λ_=>⟨b45 hR hd,.inl q.2.1,?_⟩)
 show (ob s d).Serial=_
 rw[O2 hR q]
theorem c5S:P6 (k2 s d) d (B4 d):=by
 have q:=u6 hR hd
 refine⟨by unfold k2;rw[W3];exact q.1,?_,?_⟩
 ·unfold k2;rw[J1 q.1,if_pos rfl];exact .inr rfl
 ·unfold k2;rw[J1 q.1,if_pos rfl];exact q.2.2
theorem c4x:N8 (k1 s d).S d=some ((k2 s d).S,0):=by
 have q:=u6 hR hd
 have hR1:=c5R hR hd
 have q1:=c5Q hR hd
 have hr:=J9 hR hd
 have hlen:=hR1.len
 have hH:Hnd d:=((a8H hR1).2 q1.d).2.1
 have hsl:(d-1) % 32=(B4 d:Nat):=((a8H hR1).2 q1.d).2.2.1
 have hg:(d-1) / 32=(ce s (B4 d)).Gen:=by
  have:=q.2.2
  have h24:=hR.len
  have:=q.1
  omega
 unfold N8 B9
 rw[a2y hR1 q1.d,d1q,if_neg (by simp),b4z q1.1,d1q,q1.2.1,if_neg (by simp),d1q,if_neg (by simp),a2Z (by omega),d1q,if_pos hH,hsl,a4c (by omega),d1q,if_pos hH,hg,a4Z rfl q1.1 hlen,d1q]
 have e:(ce (k1 s d) (B4 d)).Val=ded (ob s d):=by unfold k1;rw[J1 q.1,if_pos rfl]
 rw[e]
 congr 2
 show (E4 (k1 s d) (B4 d) _).S=(k2 s d).S
 unfold k1 k2
 rw[b00]
theorem c5M(hw:(ob s d).Weak=0):gvA (k2 s d) (B4 d)=gnA s d:=by
 have q:=u6 hR hd
 have e:ce (k2 s d) (B4 d)=⟨2,(ce s (B4 d)).Gen,ded (ob s d)⟩:=by unfold k2;rw[J1 q.1,if_pos rfl]
 unfold gvA gnA gnC
 rw[e]
 rw[O2 hR q] at hw
 rw[if_pos hw]
 unfold k2
 rw[b00]
 rfl
theorem c5T(hw:(ob s d).Weak≠0):k2 s d=gnA s d:=by
 have q:=u6 hR hd
 unfold k2 gnA gnC
 rw[O2 hR q] at hw ⊢
 rw[if_neg hw]
end
theorem c0O{x:Hp}(hR:SR x.S){d:Int}(hd:d∈lv x.S):T8 x d=some (wS x (gnA x.S d)):=by
 unfold T8
 rw[b2I hR hd,d1q]
 have e1:H6 x.S d (⟨(ob x.S d).Serial,0,(ob x.S d).Weak,(ob x.S d).Prog,(ob x.S d).Started,[]⟩:store_Obj)=some (k1 x.S d,0):=by
  rw[←b8H hR hd]
  exact b0d (o:=ded (ob x.S d)) hR hd rfl (b45 hR hd)
 rw[e1,d1q,c4x hR hd,d1q]
 by_cases hw:(ob x.S d).Weak=0
 ·rw[if_pos (by simpa using hw),b9L (c5U hR hd) (c5S hR hd),d1q,c5M hR hd hw]
  rfl
 ·rw[if_neg (by simpa using hw)]
  show some (wS x (k2 x.S d))=_
  rw[c5T hR hd hw]
theorem c6Z{s:store_Store}(hR:SR s){d:Int}(hd:d∈lv s):a9Q (sO (k1 s d)) d=some (sO (k2 s d)):=by
 have q:=u6 hR hd
 have hR1:=c5R hR hd
 have q1:=c5Q hR hd
 have hlen:=hR1.len
 have hr:=J9 hR hd
 have hi:=q1.1
 have hi2:B4 d<(sO (k1 s d)).Cells.length:=by rw[y5];exact hi
 have J0:B4 d<(pl (sO (k1 s d))).Cells.length:=by rw[a0u];exact hi2
 have hlen2:(sO (k1 s d)).Cells.length≤24:=by rw[y5];exact hlen
 unfold a9Q b3b a9L
 rw[a1S _ (by omega),d1q,a8G (k1 s d) (by omega),a2y hR1 q1.d,d1q,if_neg (by simp),b7r hi2,d1q]
 have hst:(plc (B4 d) (sO (k1 s d)).Cells[B4 d]).State=1:=by
  have:=q1.2.1
  rw[C7 hi] at this
  simpa[plc,sO,cO] using this
 have hgen:(plc (B4 d) (sO (k1 s d)).Cells[B4 d]).Gen=(ce s (B4 d)).Gen:=by
  have:(ce (k1 s d) (B4 d)).Gen=(ce s (B4 d)).Gen:=by unfold k1;rw[J1 q.1,if_pos rfl]
  rw[C7 hi] at this
  simpa[plc,sO,cO] using this
 rw[hst,if_neg (by simp),d1q,if_neg (by simp),d1q]
 dsimp only
 rw[b7r hi2,d1q]
 have w3:∀c:o9,S9 (pl (sO (k1 s d))) ((B4 d:Nat):Int) c=some ⟨(pl (sO (k1 s d))).Cells.set (B4 d) c,(pl (sO (k1 s d))).Last⟩:=λc=>by
  unfold S9
  rw[N4 (by omega) (by rw[a0u];omega),d1q,l5 J0,d1q,Int.toNat_natCast]
 rw[w3,d1q,d1q,b3I _ _ (by omega) (by simp[a0u]),d1q,hgen]
 unfold k2
 rw[←b00 s (B4 d) ⟨1,(ce s (B4 d)).Gen,ded (ob s d)⟩,c0i]
 show some _=some (⟨(sO (k1 s d)).Cells.set (B4 d) _,_,_⟩:g6)
 congr 1
 congr 1
 refine List.ext_getElem (by simp) λk h1 h2=>?_
 have hk:k<(k1 s d).S.Cells.length:=by simpa[y5] using h1
 have hk2:k<(sO (k1 s d)).Cells.length:=by rw[y5];exact hk
 have hk3:k<(pl (sO (k1 s d))).Cells.length:=by rw[a0u];exact hk2
 simp only[List.getElem_map,List.getElem_range,List.getElem_set]
 rw[a4s J0,a0k hk2,a0k hk3]
 by_cases e:k=B4 d
 ·subst e
  rw[if_pos rfl,if_pos rfl]
  have e2:(sO (k1 s d)).Cells[B4 d].Val=oo (ded (ob s d)):=by
   have:(ce (k1 s d) (B4 d)).Val=ded (ob s d):=by unfold k1;rw[J1 q.1,if_pos rfl]
   rw[←this,C7 hi]
   simp[sO,cO]
  rw[e2]
  rfl
 ·rw[if_neg e,if_neg (Ne.symm e)]
  simp[sO,pl,plc,cO]
theorem c6M{x:Hp}(hR:SR x.S){d:Int}(hd:d∈lv x.S):a4M (hO x) d=some (hO (wS x (gnA x.S d))):=by
 unfold a4M
 rw[show (hO x).S=sO x.S from rfl,a9m hR hd,d1q]
 have e1:J4 (sO x.S) d (⟨(oo (ob x.S d)).Serial,0,(oo (ob x.S d)).Weak,(oo (ob x.S d)).Prog,(oo (ob x.S d)).Started,[]⟩:y4)=some (sO (k1 x.S d),0):=by
  rw[←b8H hR hd]
  exact b0e (o:=ded (ob x.S d)) hR hd rfl (b45 hR hd)
 rw[e1,d1q,c6Z hR hd,d1q]
 by_cases hw:(ob x.S d).Weak=0
 ·rw[if_pos (by simpa[oo] using hw),c2l (c5U hR hd) (c5S hR hd),d1q,c5M hR hd hw]
  rfl
 ·rw[if_neg (by simpa[oo] using hw)]
  show some (hO (wS x (k2 x.S d)))=_
  rw[c5T hR hd hw]
end Go.Sh
namespace Go.Sh
theorem c0f:∀(l:List Int) {x:Hp},SR x.S→SR (l.foldl O9 x).S
 | [],x,h=>h
 | v::l,x,h=>c0f l (x:=O9 x v) (b9d h v)
theorem c0e:∀(l:List Int) {x:Hp},SR x.S→SL x→SL (l.foldl O9 x)
 | [],x,_,h=>h
 | v::l,x,hR,h=>c0e l (x:=O9 x v) (b9d hR v) (h.rls hR v)
theorem c05(l:List Int){k:Nat}(hk:k<l.length)(x:Hp):(l.take (k+1)).foldl O9 x=O9 ((l.take k).foldl O9 x) l[k]:=by
 rw[a0H hk,List.foldl_append]
 rfl
theorem b5Z{y:Hp}(hR:SR y.S)(l:List Int)(hl:l.length≤1000000)(hb:∀v∈l,v≤9223372036854775807){K:Hp→Option Hp}:((lp (S:=Int × hold_Heap) (E:=hold_Heap) (λ((s35,s36):Int × hold_Heap)=>
     if (decide (s35<(l.length:Int))) then
      (ix l s35).bind λv39=>
      (D1 s36 v39).bind λv40=>
      some (.inl (s6 (s35+1),v40))
     else
     some (.inr s36)) (0,y)).bind K)=K (l.foldl O9 y):=by
 have key:=L6 l O9 id (λk z=>SR z.S) (b0:=y) (f:=λ((s35,s36):Int × hold_Heap)=>
     if (decide (s35<(l.length:Int))) then
      (ix l s35).bind λv39=>
      (D1 s36 v39).bind λv40=>
      some (Sum.inl (s6 (s35+1),v40))
     else
     some (.inr s36)) (by omega) hR (λk hk z hz=>?_) (λz hz=>by simp)
 ·rw[key,d1q]
  rfl
 ·simp only[Int.ofNat_lt,hk,decide_true,if_true,l5 hk,d1q,a5C hz (hb _ (List.getElem_mem hk))]
  rw[g7]
  exact⟨rfl,b9d hz _⟩
theorem b3h{y:Hp}(hR:SR y.S)(l:List Int)(hl:l.length≤1000000)(hb:∀v∈l,v≤9223372036854775807){K:c5→Option c5}:((lp (S:=Int × c5) (E:=c5) (λ((s45,s46):Int × c5)=>
      if (decide (s45<(l.length:Int))) then
       (ix l s45).bind λv49=>
       (E3 s46 v49).bind λv50=>
       some (.inl (s6 (s45+1),v50))
      else
      some (.inr s46)) (0,hO y)).bind K)=K (hO (l.foldl O9 y)):=by
 have key:=a0V (f:=λ((s45,s46):Int × c5)=>
      if (decide (s45<(l.length:Int))) then
       (ix l s45).bind λv49=>
       (E3 s46 v49).bind λv50=>
       some (Sum.inl (s6 (s45+1),v50))
      else
      some (.inr s46)) (t0:=hO y) l.length (λk z=>z=hO ((l.take k).foldl O9 y)) (λz=>z=hO (l.foldl O9 y)) (by omega) rfl ?_ ?_
 ·obtain⟨e,h1,h2⟩:=key
  rw[h1,d1q,h2]
 ·rintro k z hk rfl
  left
  have hz:=c0f (l.take k) hR
  simp only[Int.ofNat_lt,hk,decide_true,if_true,l5 hk,d1q,a7L hz (hb _ (List.getElem_mem hk))]
  rw[g7,←c05 l hk]
  exact⟨_,rfl,rfl⟩
 ·rintro z rfl
  exact⟨_,if_neg (by simp),by rw[List.take_length]⟩
theorem b63(s:store_Store)(ds:List Int){k:Nat}(hk:k<ds.length):gnL s (ds.take (k+1))=gnA (gnL s (ds.take k)) ds[k]:=by
 unfold gnL
 rw[a0H hk,List.foldl_append]
 rfl
section
variable{y:Hp}(hR:SR y.S){ds:List Int}(hn:ds.Nodup)(hm:∀d∈ds,d∈lv y.S)
include hR hn hm
theorem b2N{k:Nat}(hk:k<ds.length):SR (gnL y.S (ds.take k))∧ds[k]∈lv (gnL y.S (ds.take k)):=by
 have g:=a2V (ds.take k) hR ((List.take_sublist k ds).nodup hn) λd hd=>hm d (List.mem_of_mem_take hd)
 refine⟨g.sr,?_⟩
 rw[g.lv,List.mem_filter,decide_eq_true_iff]
 refine⟨hm _ (List.getElem_mem hk),λq=>?_⟩
 rw[←List.take_append_drop k ds,List.nodup_append] at hn
 exact hn.2.2 _ q ds[k] (by rw[List.drop_eq_getElem_cons hk];exact List.mem_cons_self ..) rfl
theorem c0N(hl:ds.length≤1000){K:Hp→Option Hp}:((lp (S:=Int × hold_Heap) (E:=hold_Heap) (λ((s42,s43):Int × hold_Heap)=>
    if (decide (s42<(ds.length:Int))) then
     (ix ds s42).bind λv46=>
     (T8 s43 v46).bind λv47=>
     some (.inl (s6 (s42+1),v47))
    else
    some (.inr s43)) (0,y)).bind K)=K (wS y (gnL y.S ds)):=by
 have key:=a0V (f:=λ((s42,s43):Int × hold_Heap)=>
    if (decide (s42<(ds.length:Int))) then
     (ix ds s42).bind λv46=>
     (T8 s43 v46).bind λv47=>
     some (Sum.inl (s6 (s42+1),v47))
    else
    some (.inr s43)) (t0:=y) ds.length (λk z=>z=wS y (gnL y.S (ds.take k))) (λz=>z=wS y (gnL y.S ds)) (by omega) rfl ?_ ?_
 ·obtain⟨e,h1,h2⟩:=key
  rw[h1,d1q,h2]
 ·rintro k z hk rfl
  left
  obtain⟨h1,h2⟩:=b2N hR hn hm hk
  simp only[Int.ofNat_lt,hk,decide_true,if_true,l5 hk,d1q,c0O (x:=wS y (gnL y.S (ds.take k))) h1 h2]
  rw[g7,b63 _ _ hk]
  exact⟨_,rfl,rfl⟩
 ·rintro z rfl
  exact⟨_,if_neg (by simp),by rw[List.take_length]⟩
theorem b7d(hl:ds.length≤1000){K:c5→Option c5}:((lp (S:=Int × c5) (E:=c5) (λ((s52,s53):Int × c5)=>
     if (decide (s52<(ds.length:Int))) then
      (ix ds s52).bind λv56=>
      (a4M s53 v56).bind λv57=>
      some (.inl (s6 (s52+1),v57))
     else
     some (.inr s53)) (0,hO y)).bind K)=K (hO (wS y (gnL y.S ds))):=by
 have key:=a0V (f:=λ((s52,s53):Int × c5)=>
     if (decide (s52<(ds.length:Int))) then
      (ix ds s52).bind λv56=>
      (a4M s53 v56).bind λv57=>
      some (Sum.inl (s6 (s52+1),v57))
     else
     some (.inr s53)) (t0:=hO y) ds.length (λk z=>z=hO (wS y (gnL y.S (ds.take k)))) (λz=>z=hO (wS y (gnL y.S ds))) (by omega) rfl ?_ ?_
 ·obtain⟨e,h1,h2⟩:=key
  rw[h1,d1q,h2]
 ·rintro k z hk rfl
  left
  obtain⟨h1,h2⟩:=b2N hR hn hm hk
  simp only[Int.ofNat_lt,hk,decide_true,if_true,l5 hk,d1q,c6M (x:=wS y (gnL y.S (ds.take k))) h1 h2]
  rw[g7,b63 _ _ hk]
  exact⟨_,rfl,rfl⟩
 ·rintro z rfl
  exact⟨_,if_neg (by simp),by rw[List.take_length]⟩
end
section
variable{x:Hp}(hx:R7 x){ds:List Int}(hn:ds.Nodup)(hm:∀d∈ds,d∈lv x.S)
include hx hn hm
theorem b46:ds.length≤24:=Nat.le_trans (a9H hn hm) (a0W (p8.2 hx.sh.sr))
theorem b5d{d:Int}(hd:d∈lv x.S):(ob x.S d).Fields.length≤4:=(J8 hx.sh.sr hd).fl
theorem b5A{d:Int}(hd:d∈lv x.S):(outs x.S d).length≤4:=Nat.le_trans (b8O _) (b5d hx hn hm hd)
theorem a7n:∀(l:List Int),(∀d∈l,d∈lv x.S)→(l.flatMap (outs x.S)).length≤4*l.length
 | [],_=>by simp
 | d::l,h=>by
  rw[List.flatMap_cons,List.length_append,List.length_cons]
  have:=a7n l λe he=>h e (List.mem_cons_of_mem _ he)
  have:=b5A hx hn hm (h d (List.mem_cons_self ..))
  omega
theorem b91:∀v∈ds.flatMap (outs x.S)++(wot x.T ds).2,v≤9223372036854775807:=λv hv=>by
 rcases List.mem_append.1 hv with q | q
 ·obtain⟨d,hd,q⟩:=List.mem_flatMap.1 q
  obtain⟨q,_⟩:=a8M.1 q
  rcases hx.sh.fl d (hm d hd) v q with e | e
  ·omega
  ·exact a56 hx.sh.sr e
 ·by_cases h0:v=0
  ·omega
  ·have hl:=b46 hx hn hm
   have h3:=(a40 hx.sh.hr ds (by omega)).2.2.2.2.2 v
   have h4:=a5P.2 ⟨h0,q⟩
   have h5:0<own x.T v:=by omega
   obtain⟨p,hp,hq⟩:=List.countP_pos_iff.1 h5
   have hq:(v != 0&&p.Val==v)=true:=hq
   rw[Bool.and_eq_true,beq_iff_eq] at hq
   have:=(hx.sh.pr _ _ (a3P.1 hp)).2
   rw[hq.2] at this
   exact a56 hx.sh.sr this
theorem b7p:(ds.flatMap (outs x.S)++(wot x.T ds).2).length≤200:=by
 have hl:=b46 hx hn hm
 have h1:=a7n hx hn hm ds hm
 have h2:=(a40 hx.sh.hr ds (by omega)).2.2.1
 rw[List.length_append]
 omega
theorem c4h(hq:(x.Q.L++clt x.Cells ds).length≤30){l:List Int}(h1:P0 x l=some ds):a0D x l=some (buH x ds):=by
 have hl:=b46 hx hn hm
 have hR:=hx.sh.sr
 obtain⟨w1,w2,w3,w4,w5,w6⟩:=a40 hx.sh.hr ds (by omega)
 have ol:=b7p hx hn hm
 have fl:=a7n hx hn hm ds hm
 unfold a0D
 rw[h1,d1q,b8h (by have:=hx.sh.c6;omega) (by omega) hq hx.sh.cap,d1q]
 simp only[jn]
 have key:=L6 ds (λb d=>b++outs x.S d) id (λk b=>b.length≤4*k) (b0:=[]) (f:=λ((s49,s50):Int × (List Int))=>
   if (decide (s49<(ds.length:Int))) then
    (ix ds s49).bind λv53=>
    (r7 (clH x ds).S v53).bind λv54=>
    (a2O v54.1.Fields).bind λv55=>
    (app 8 s50 v55).bind λv56=>
    some (Sum.inl (s6 (s49+1),v56))
   else
   some (.inr s50)) (by omega) (by simp) (λk hk b hb=>?_) (λb hb=>by simp)
 ·rw[key,d1q,a8I,List.nil_append]
  dsimp only[id]
  rw[show (clH x ds).T=x.T from rfl,w1,d1q]
  have ol2:=ol
  rw[List.length_append] at ol2
  rw[B1 (by omega) (by omega),d1q]
  have k1:=c0N (y:=⟨(clH x ds).S,(clH x ds).Roots,(clH x ds).Cells,(wot x.T ds).1,(clH x ds).Q⟩) hR hn hm (by omega) (K:=λe=>(lp (S:=Int × hold_Heap) (E:=hold_Heap) (λ((s35,s36):Int × hold_Heap)=>
     if (decide (s35<((ds.flatMap (outs x.S)++(wot x.T ds).2).length:Int))) then
      (ix (ds.flatMap (outs x.S)++(wot x.T ds).2) s35).bind λv39=>
      (D1 s36 v39).bind λv40=>
      some (.inl (s6 (s35+1),v40))
     else
     some (.inr s36)) (0,e)).bind λe34=>some e34)
  refine Eq.trans k1 ?_
  have g:=a2V ds hR hn hm
  have k2:=b5Z (y:=wS (⟨(clH x ds).S,(clH x ds).Roots,(clH x ds).Cells,(wot x.T ds).1,(clH x ds).Q⟩:Hp) (gnL x.S ds)) g.sr _ (by omega) (b91 hx hn hm) (K:=λe34=>some e34)
  refine Eq.trans k2 ?_
  rfl
 ·have hd:=hm _ (List.getElem_mem hk)
  have f4:=b5d hx hn hm hd
  have o4:=b5A hx hn hm hd
  simp only[Int.ofNat_lt,hk,decide_true,if_true,l5 hk,d1q,show (clH x ds).S=x.S from rfl,b2I hR hd,b7l _ (by omega:(ob x.S ds[k]).Fields.length≤1000000)]
  have e:nz (ob x.S ds[k]).Fields=outs x.S ds[k]:=rfl
  rw[e,B1 (by omega) (by omega),d1q,g7]
  exact⟨rfl,by rw[List.length_append];omega⟩
theorem c0v(hq:(x.Q.L++clt x.Cells ds).length≤30){l:List Int}(h1:a6U (hO x) l=some ds):a6S (hO x) l=some (hO (buH x ds)):=by
 have hl:=b46 hx hn hm
 have hR:=hx.sh.sr
 obtain⟨w1,w2,w3,w4,w5,w6⟩:=a40 hx.sh.hr ds (by omega)
 have ol:=b7p hx hn hm
 have fl:=a7n hx hn hm ds hm
 have c6:=hx.sh.c6
 unfold a6S
 rw[h1,d1q,show (hO x).Cells=x.Cells.map wcR from rfl,c4j _ _ (by omega) (by omega),d1q]
 simp only[jn]
 rw[show (hO x).Q=tqR x.Q from rfl,c6f (by omega) (by omega) hq hx.sh.cap]
 have key:=L6 ds (λb d=>b++outs x.S d) id (λk b=>b.length≤4*k) (b0:=[]) (f:=λ((s59,s60):Int × (List Int))=>
    if (decide (s59<(ds.length:Int))) then
     (ix ds s59).bind λv63=>
     (D3 (hO x).S v63).bind λv64=>
     (a1x v64.1.Fields).bind λv65=>
     (app 8 s60 v65).bind λv66=>
     some (Sum.inl (s6 (s59+1),v66))
    else
    some (.inr s60)) (by omega) (by simp) (λk hk b hb=>?_) (λb hb=>by simp)
 ·rw[key,d1q,a8I,List.nil_append]
  dsimp only[id]
  rw[show (hO x).T=x.T.map J0 from rfl,w4,d1q]
  dsimp only
  have ol2:=ol
  rw[List.length_append] at ol2
  rw[B1 (by omega) (by omega),d1q]
  have k1:=b7d (y:=⟨(clH x ds).S,(clH x ds).Roots,(clH x ds).Cells,(wot x.T ds).1,(clH x ds).Q⟩) hR hn hm (by omega) (K:=λe=>(lp (S:=Int × c5) (E:=c5) (λ((s45,s46):Int × c5)=>
      if (decide (s45<((ds.flatMap (outs x.S)++(wot x.T ds).2).length:Int))) then
       (ix (ds.flatMap (outs x.S)++(wot x.T ds).2) s45).bind λv49=>
       (E3 s46 v49).bind λv50=>
       some (.inl (s6 (s45+1),v50))
      else
      some (.inr s46)) (0,e)).bind λe44=>some e44)
  refine Eq.trans k1 ?_
  have g:=a2V ds hR hn hm
  have k2:=b3h (y:=wS (⟨(clH x ds).S,(clH x ds).Roots,(clH x ds).Cells,(wot x.T ds).1,(clH x ds).Q⟩:Hp) (gnL x.S ds)) g.sr _ (by omega) (b91 hx hn hm) (K:=λe44=>some e44)
  refine Eq.trans k2 ?_
  rfl
 ·have hd:=hm _ (List.getElem_mem hk)
  have f4:=b5d hx hn hm hd
  have o4:=b5A hx hn hm hd
  simp only[Int.ofNat_lt,hk,decide_true,if_true,l5 hk,d1q,show (hO x).S=sO x.S from rfl,a9m hR hd]
  have e:a1x (oo (ob x.S ds[k])).Fields=some (outs x.S ds[k]):=b2U _ (by show (ob x.S ds[k]).Fields.length≤_;omega)
  rw[e,d1q,B1 (by omega) (by omega),d1q,g7]
  exact⟨rfl,by rw[List.length_append];omega⟩
end
end Go.Sh
namespace Go.Sh
theorem c4f{x:Hp}(hR:SR x.S)(hS:SL x){ds:List Int}(hn:ds.Nodup)(hm:∀d∈ds,d∈lv x.S)(t:Tb):SL (a5a x ds t):=λk hk=>by
 have g:=a2V ds hR hn hm
 have hk:k∈lv (gnL x.S ds):=hk
 rw[g.lv,List.mem_filter,decide_eq_true_iff] at hk
 have e:ob (a5a x ds t).S k=ob x.S k:=g.ob k hk.1 hk.2
 rw[e]
 exact hS k hk.1
theorem c6n{x:Hp}(hR:SR x.S)(hS:SL x){ds:List Int}(hn:ds.Nodup)(hm:∀d∈ds,d∈lv x.S):SL (buH x ds):=
 c0e _ (x:=a5a x ds (wot x.T ds).1) (a2V ds hR hn hm).sr (c4f hR hS hn hm _)
theorem c7x{x:Hp}(hR:SR x.S)(hS:SL x){h:Int}(hh:h∈lv x.S):SL (quH x h):=by
 have hok:=b6a hR hh
 have r1:=a1E (o:=srt (ob x.S h)) hR hh rfl hok
 refine SL.C9 (x:=⟨seO x.S h (srt (ob x.S h)),x.Roots,x.Cells,x.T,⟨x.Q.L ++ [qtk x h],x.Q.Cap⟩⟩) (λk hk=>?_) r1 h
 dsimp only at hk ⊢
 rw[a3j (o:=srt (ob x.S h)) hR hh rfl hok] at hk
 rw[a2m (o:=srt (ob x.S h)) hR hh rfl hok (a56 hR hk)]
 split
 ·exact hS h hh
 ·exact hS k hk
theorem c7M{x:Hp}(hx:R7 x)(hS:SL x):SL (stp x):=by
 cases h:zr x with
 | nil=>rw[b0g h];exact hS
 | cons z l=>
  have hz:=(a4j.1 (show z∈zr x by rw[h];exact List.mem_cons_self ..)).1
  rw[a4T h]
  split
  ·exact c7x hx.sh.sr hS hz
  ·exact c6n hx.sh.sr hS (by simp) (by simpa using hz)
theorem b6b{x:Hp}(hx:R7 x)(hS:SL x)(n:Nat):SL (stN n x):=by
 induction n with
 | zero=>exact hS
 | succ n ih=>rw[a2c];exact c7M (a0F hx n) ih
theorem c5i{x:Hp}(hx:R7 x)(hS:SL x):SL (a2n x):=b6b hx hS 100
section
variable{x:Hp}(hx:R7 x)(hS:SL x)
include hx hS
theorem b4X{z:Int}(hz:z∈zr x):(x.Q.L++clt x.Cells [z]).length≤30:=by
 have h1:=(b3R hx hz).sh.q30
 have hzl:=(a4j.1 hz).1
 rw[(b6J hx.sh.sr (ds:=[z]) (by simp) (by simpa using hzl)).2.2.2] at h1
 exact h1
theorem c06(h:zr x = []):((a0E x).bind λv4=>
  if ((v4.length:Int)==0) then
   some (Sum.inr x)
  else
  (ix v4 0).bind λv5=>
  (r7 x.S v5).bind λv6=>
  (I6 v6.1).bind λv7=>
  if v7 then
   (T7 x v5).bind λv8=>
   some (.inl v8)
  else
  (cut v4 0 1).bind λv9=>
  (a0D x v9).bind λv10=>
  some (Sum.inl (α:=Hp) (β:=Hp) v10))=some (.inr x):=by
 rw[zero_eq hx.sh.sr,d1q,h]
 rfl
theorem c8l(z:Int)(l:List Int):cut (z::l) 0 1=some [z]:=by
 unfold cut
 rw[if_pos (by simp;omega)]
 simp
theorem b9e(h:zr x ≠ []):((a0E x).bind λv4=>
  if ((v4.length:Int)==0) then
   some (Sum.inr x)
  else
  (ix v4 0).bind λv5=>
  (r7 x.S v5).bind λv6=>
  (I6 v6.1).bind λv7=>
  if v7 then
   (T7 x v5).bind λv8=>
   some (.inl v8)
  else
  (cut v4 0 1).bind λv9=>
  (a0D x v9).bind λv10=>
  some (Sum.inl (α:=Hp) (β:=Hp) v10))=some (.inl (stp x)):=by
 cases hz:zr x with
 | nil=>exact absurd hz h
 | cons z l=>
  have hzm:z∈zr x:=by rw[hz];exact List.mem_cons_self ..
  have hzl:=(a4j.1 hzm).1
  have hR:=hx.sh.sr
  rw[zero_eq hR,d1q,hz,if_neg (by simp;omega),show ix (z::l) 0=some z from rfl,d1q,b2I hR hzl,d1q,b92,d1q,a4T hz]
  by_cases hd:due (ob x.S z)=true
  ·rw[if_pos hd,if_pos hd,c0Z hx hS (a56 hR hzl),d1q]
   unfold quD
   rw[if_pos ⟨hzl,hd⟩]
  ·rw[if_neg hd,if_neg hd,c8l hx hS,d1q,c4h hx (ds:=[z]) (by simp) (by simpa using hzl) (b4X hx hS hzm) (by rw[b5s hR [z] (by simp) (by simpa using a56 hR hzl),b7f hzl]),d1q]
theorem b04:a0f x=some (a2n x):=by
 obtain⟨n,hn,h1,h2,h3⟩:=b01 hx
 unfold a0f
 refine a9C (λj=>stN j x) rfl n (λ_=>True) (by omega) trivial (λk hk _=>.inl ⟨?_,trivial⟩) (λ_=>⟨stN n x,?_,by rw[h3]⟩)
 ·have:=b9e (a0F hx k) (b6b hx hS k) (h2 k hk)
  rw[←a2c] at this
  exact this
 ·exact c06 (a0F hx n) (b6b hx hS n) h1
theorem c5b{k:Nat}(hk:k<100)(h:zr x ≠ []){E:Type}{e:E}:((a3f (hO x)).bind λv35=>
     if ((v35.length:Int)==0) then
      some (Sum.inr e)
     else
     (ix v35 0).bind λv36=>
     (a7J (hO x) v36).bind λv37=>
     if v37 then
      (a3e (hO x) v36).bind λv38=>
      some (.inl (s6 ((k:Int)+1),v38))
     else
     (cut v35 0 1).bind λv39=>
     (a6S (hO x) v39).bind λv40=>
     some (Sum.inl (s6 ((k:Int)+1),v40)))=some (.inl (((k+1:Nat):Int),hO (stp x))):=by
 cases hz:zr x with
 | nil=>exact absurd hz h
 | cons z l=>
  have hzm:z∈zr x:=by rw[hz];exact List.mem_cons_self ..
  have hzl:=(a4j.1 hzm).1
  have hR:=hx.sh.sr
  rw[b6w hR,d1q,hz,if_neg (by simp;omega),show ix (z::l) 0=some z from rfl,d1q,c5F hx hS (a56 hR hzl),d1q,decide_eq_true hzl,Bool.true_and,a4T hz,g7]
  by_cases hd:due (ob x.S z)=true
  ·rw[if_pos hd,if_pos hd,c3j hx hS (a56 hR hzl),d1q]
   unfold quD
   rw[if_pos ⟨hzl,hd⟩]
  ·rw[if_neg hd,if_neg hd,c8l hx hS,d1q,c0v hx (ds:=[z]) (by simp) (by simpa using hzl) (b4X hx hS hzm) (by rw[c6y hR [z] (by simp) (by simpa using a56 hR hzl),b7f hzl]),d1q]
theorem b3y:R1 (hO x)=some (hO (a2n x)):=by
 obtain⟨n,hn,h1,h2,h3⟩:=b01 hx
 unfold R1
 simp only[jn]
 refine a9C (λj=>((j:Int),hO (stN j x))) (by rfl) n (λ_=>True) (by omega) trivial (λk hk _=>.inl ⟨?_,trivial⟩) (λ_=>⟨.inl (hO (stN n x)),?_,by rw[h3]⟩)
 ·dsimp only
  rw[if_pos (by simp;omega)]
  have:=c5b (a0F hx k) (b6b hx hS k) (k:=k) (by omega) (h2 k hk) (e:=(Sum.inl (hO (stN k x)):c5 ⊕ c5))
  rw[←a2c] at this
  exact this
 ·dsimp only
  rw[if_pos (by simp;omega),b6w (a0F hx n).sh.sr,d1q,h1]
  rfl
end
end Go.Sh
namespace Go.Sh
def G2(n l m e:Int):Int:=if n<l∨n > m then e else 0
def P8(a b c:Int):Int:=if a≠0 then a else if b≠0 then b else c
def B2(k a b c:Int):Int:=
 if k=1 then P8 (G2 a 0 5 6) (G2 b 0 4 1) (G2 c (-1) 5 13)
 else if k=2∨k=9∨k=10 then P8 (G2 a 0 5 6) (G2 b 0 5 6) 0
 else if k=3 then G2 a 0 5 6
 else if k=4 then P8 (G2 a 0 5 6) (G2 b 0 5 6) (G2 c 0 3 5)
 else if k=5 then P8 (G2 a 0 5 6) (G2 b 0 3 5) (G2 c (-1) 5 6)
 else if k=6 then P8 (G2 a 0 5 7) (G2 b (-1) 5 6) (G2 c (-1) 5 13)
 else if k=7 then P8 (G2 a 0 5 6) (G2 b 0 5 7) 0
 else if k=8 then P8 (G2 a 0 5 6) (G2 b (-1) 5 6) 0
 else if k=11 then 0
 else if k=12 then G2 a 0 200 12
 else 14
def b5Y:c9:=⟨some 178,0,5,6⟩
def c48:c9:=⟨some 179,0,5,6⟩
def c8L:c9:=⟨some 179,-1,5,6⟩
def c8U:c9:=⟨some 181,-1,5,13⟩
def b1e:List (Int × List c9):=[(1,[b5Y,⟨some 179,0,4,1⟩,c8U]),(2,[b5Y,c48]),(3,[b5Y]),(4,[b5Y,c48,⟨some 181,0,3,5⟩]),
 (5,[b5Y,⟨some 179,0,3,5⟩,⟨some 181,-1,5,6⟩]),(6,[⟨some 178,0,5,7⟩,c8L,c8U]),(7,[b5Y,⟨some 179,0,5,7⟩]),(8,[b5Y,c8L]),(9,[b5Y,c48]),(10,[b5Y,c48]),(11,[]),(12,[⟨some 178,0,200,12⟩])]
theorem b8i:a5c=some b1e:=by kernel_rfl
def a14(o:code_Op)(d:c9):Int:=if d.part=some 178 then o.A else if d.part=some 179 then o.B else o.C
def a8g(o:code_Op)(d:c9):Bool:=decide (a14 o d<d.least)||decide (a14 o d > d.most)
def a9k(o:code_Op):List c9→Int ⊕ Unit
 | []=>.inr ()
 | d::ds=>if a8g o d then .inl d.e else a9k o ds
theorem b61(o:code_Op)(d:c9)(ds:List c9):a9k o (d::ds)=if a8g o d then .inl d.e else a9k o ds:=rfl
def b9C(d:c9):Prop:=d.part=some 178∨d.part=some 179∨d.part=some 181
theorem c7q(o:code_Op){d:c9}(h:b9C d):a9l d.part o=some (a14 o d):=by
 unfold a14
 rcases h with h | h | h
 ·rw[h];rfl
 ·rw[h];rfl
 ·rw[h];rfl
theorem c62(o:code_Op)(ds:List c9)(hl:ds.length≤10)(hp:∀d∈ds,b9C d):lp (S:=Int) (E:=Int ⊕ Unit) (λ(s11:Int)=>
   if (decide (s11<(ds.length:Int))) then
    (ix ds s11).bind λv13=>
    (a9l v13.part o).bind λv14=>
    if ((decide (v14<v13.least))||(decide (v14 > v13.most))) then
     some (.inr (.inl v13.e))
    else
    some (.inl (s6 (s11+1)))
   else
   some (.inr (.inr ()))) 0=some (a9k o ds):=by
 refine a2E (b4D ds.length (λk=>a9k o ds=a9k o (ds.drop k)) (λe=>e=a9k o ds) (by omega) rfl (λk hk hP=>?_) (λhP=>?_))
 ·rw[if_pos (by simpa using hk),l5 hk,d1q,c7q o (hp _ (List.getElem_mem hk)),d1q]
  rw[List.drop_eq_getElem_cons hk,b61] at hP
  by_cases c:a8g o ds[k]=true
  ·rw[if_pos (show ((decide (a14 o ds[k]<ds[k].least))||(decide (a14 o ds[k] > ds[k].most)))=true from c)]
   rw[if_pos c] at hP
   exact .inr ⟨_,rfl,hP.symm⟩
  ·rw[if_neg (show ¬((decide (a14 o ds[k]<ds[k].least))||(decide (a14 o ds[k] > ds[k].most)))=true from c),g7]
   rw[if_neg c] at hP
   exact .inl ⟨rfl,hP⟩
 ·rw[List.drop_length] at hP
  exact⟨_,if_neg (by simp),hP.symm⟩
theorem c4n:∀p∈b1e,p.2.length≤10∧∀d∈p.2,b9C d:=by
 have:b1e.all (λp=>decide (p.2.length≤10)&&p.2.all λd=>(d.part==some 178)||(d.part==some 179)||(d.part==some 181))=true:=by kernel_rfl
 intro p hp
 have:=List.all_eq_true.1 this p hp
 rw[Bool.and_eq_true,decide_eq_true_iff,List.all_eq_true] at this
 refine⟨this.1,λd hd=>?_⟩
 have:=this.2 d hd
 simp only[Bool.or_eq_true,beq_iff_eq] at this
 unfold b9C
 rcases this with (h | h) | h
 ·exact .inl h
 ·exact .inr (.inl h)
 ·exact .inr (.inr h)
theorem b9V{m:List (Int × List c9)}{k:Int}{v:List c9}(h:y7 m k=some v):(k,v)∈m:=by
 induction m with
 | nil=>cases h
 | cons p m ih=>
  unfold y7 at h
  split at h
  ·rename_i c
   have:k=p.1:=by simpa using c
   cases h
   subst this
   exact List.mem_cons_self ..
  ·exact List.mem_cons_of_mem _ (ih h)
def b0m(o:code_Op)(ds:List c9):Int:=match a9k o ds with
 | .inl e=>e
 | .inr _=>0
theorem c5v(o:code_Op):b0m o []=0:=rfl
theorem b0n(o:code_Op)(d:c9)(ds:List c9):b0m o (d::ds)=if a8g o d then d.e else b0m o ds:=by
 unfold b0m
 rw[b61]
 cases a8g o d <;> rfl
theorem b5o(o:code_Op)(d:c9):G2 (a14 o d) d.least d.most d.e=if a8g o d then d.e else 0:=by
 unfold G2 a8g
 by_cases h:a14 o d<d.least∨a14 o d > d.most
 ·rw[if_pos h,if_pos (by simpa using h)]
 ·rw[if_neg h,if_neg (by simpa using h)]
theorem c5t(o:code_Op)(d:c9):b0m o [d]=G2 (a14 o d) d.least d.most d.e:=by rw[b0n,c5v,b5o]
theorem c3N(o:code_Op)(d e:c9)(h1:d.e≠0):b0m o [d,e]=P8 (G2 (a14 o d) d.least d.most d.e) (G2 (a14 o e) e.least e.most e.e) 0:=by
 rw[b0n,c5t,b5o o d]
 unfold P8
 cases a8g o d
 ·simp only[Bool.false_eq_true,if_false,ne_eq,not_true_eq_false]
  split
  ·rfl
  ·rename_i h;simpa using h
 ·simp[h1]
theorem c5u(o:code_Op)(d e f:c9)(h1:d.e≠0)(h2:e.e≠0):b0m o [d,e,f]=P8 (G2 (a14 o d) d.least d.most d.e) (G2 (a14 o e) e.least e.most e.e) (G2 (a14 o f) f.least f.most f.e):=by
 rw[b0n,b0n,c5t,b5o o d,b5o o e]
 unfold P8
 cases a8g o d <;> cases a8g o e <;> simp[h1,h2]
theorem c2z(o:code_Op):(match y7 b1e o.Kind with
  | none=>14
  | some ds=>b0m o ds)=B2 o.Kind o.A o.B o.C:=by
 obtain⟨k,a,b,c⟩:=o
 dsimp only
 by_cases h:1≤k∧k≤12
 ·have:k=1∨k=2∨k=3∨k=4∨k=5∨k=6∨k=7∨k=8∨k=9∨k=10∨k=11∨k=12:=by omega
  rcases this with rfl | rfl | rfl | rfl | rfl | rfl | rfl | rfl | rfl | rfl | rfl | rfl
  ·exact c5u _ _ _ _ (by decide) (by decide)
  ·exact c3N _ _ _ (by decide)
  ·exact c5t _ _
  ·exact c5u _ _ _ _ (by decide) (by decide)
  ·exact c5u _ _ _ _ (by decide) (by decide)
  ·exact c5u _ _ _ _ (by decide) (by decide)
  ·exact c3N _ _ _ (by decide)
  ·exact c3N _ _ _ (by decide)
  ·exact c3N _ _ _ (by decide)
  ·exact c3N _ _ _ (by decide)
  ·rfl
  ·exact c5t _ _
 ·have e:y7 b1e k=none:=by
   cases hm:y7 b1e k with
   | none=>rfl
   | some v=>
    have:=b9V hm
    simp only[b1e,List.mem_cons,Prod.mk.injEq,List.not_mem_nil,or_false] at this
    omega
  rw[e]
  unfold B2
  repeat rw[if_neg (by omega)]
theorem b2o(o:code_Op):a2S o=some (B2 o.Kind o.A o.B o.C):=by
 rw[←c2z]
 unfold a2S
 rw[b8i,d1q]
 cases h:y7 b1e o.Kind with
 | none=>rfl
 | some ds=>
  obtain⟨h1,h2⟩:=c4n _ (b9V h)
  rw[if_neg (by simp)]
  simp only[jn,Option.getD_some]
  rw[c62 o ds h1 h2,d1q]
  unfold b0m
  cases a9k o ds <;> rfl
theorem c4t(n l m e:Int):Z4 n l m e=some (G2 n l m e):=by
 unfold Z4 G2
 by_cases h:n<l∨n > m
 ·rw[if_pos h,if_pos (by simpa using h)]
 ·rw[if_neg h,if_neg (by simpa using h)]
theorem c2i(a b c:Int):T6 a b c=some (P8 a b c):=by
 unfold T6 P8
 by_cases h:a=0
 ·by_cases g:b=0
  ·rw[if_neg (by simpa using h),if_neg (by simpa using g),if_neg (by simpa using h),if_neg (by simpa using g)]
  ·rw[if_neg (by simpa using h),if_pos (by simpa using g),if_neg (by simpa using h),if_pos (by simpa using g)]
 ·rw[if_pos (by simpa using h),if_pos (by simpa using h)]
theorem a7f(o:L8):a7K o=some (B2 o.Kind o.A o.B o.C):=by
 unfold a7K B2
 simp only[c4t,c2i,d1q,jn]
 by_cases h:1≤o.Kind∧o.Kind≤12
 ·have:o.Kind=1∨o.Kind=2∨o.Kind=3∨o.Kind=4∨o.Kind=5∨o.Kind=6∨o.Kind=7∨o.Kind=8∨o.Kind=9∨o.Kind=10∨o.Kind=11∨o.Kind=12:=by omega
  rcases this with h | h | h | h | h | h | h | h | h | h | h | h <;> rw[h] <;> rfl
 ·have n:∀j:Int,1≤j→j≤12→(o.Kind==j)=false:=λj h1 h2=>by
   rw[beq_eq_false_iff_ne];omega
  simp only[n 1 (by omega) (by omega),n 2 (by omega) (by omega),n 3 (by omega) (by omega),n 4 (by omega) (by omega),n 5 (by omega) (by omega),n 6 (by omega) (by omega),n 7 (by omega) (by omega),n 8 (by omega) (by omega),n 9 (by omega) (by omega),n 10 (by omega) (by omega),n 11 (by omega) (by omega),n 12 (by omega) (by omega),Bool.false_eq_true,if_false]
  repeat rw[if_neg (by omega)]
end Go.Sh
namespace Go.Sh
end Go.Sh
namespace Go.Sh
end Go.Sh
namespace Go.Sh
end Go.Sh
namespace Go.Sh
def ooI(o:y4):store_Obj:=⟨o.Serial,o.Strong,o.Weak,o.Prog,o.Started,o.Fields⟩
def sOI(s:g6):store_Store:=⟨⟨s.Cells.map λc=>⟨c.State,c.Gen,ooI c.Val⟩,s.Last⟩,s.Serial⟩
def hOI(x:c5):Hp:=⟨sOI x.S,x.Roots,x.Cells.map λc=>⟨c.Target,c.Intact,c.Call⟩,x.T.map λp=>⟨p.State,p.Key,p.Val⟩,⟨x.Q.L.map λt=>⟨t.Kind,t.At,t.Prog⟩,x.Q.Cap⟩⟩
theorem c2p(x:Hp):hOI (hO x)=x:=by
 obtain⟨⟨⟨cs,l⟩,n⟩,r,w,t,⟨q,c⟩⟩:=x
 unfold hOI hO sOI sO tqR
 dsimp only
 have a1:(cs.map cO).map (λc=>(⟨c.State,c.Gen,ooI c.Val⟩:slab_Cell_store_Obj))=cs:=by
  rw[List.map_map]
  refine Eq.trans (List.map_congr_left λa _=>?_) (List.map_id cs)
  rfl
 have a2:(w.map wcR).map (λc=>(⟨c.Target,c.Intact,c.Call⟩:weak_Cell))=w:=by
  rw[List.map_map]
  refine Eq.trans (List.map_congr_left λa _=>?_) (List.map_id w)
  rfl
 have a3:(t.map J0).map (λp=>(⟨p.State,p.Key,p.Val⟩:hash_Place))=t:=by
  rw[List.map_map]
  refine Eq.trans (List.map_congr_left λa _=>?_) (List.map_id t)
  rfl
 have a4:(q.map tkR).map (λt=>(⟨t.Kind,t.At,t.Prog⟩:task_Task))=q:=by
  rw[List.map_map]
  refine Eq.trans (List.map_congr_left λa _=>?_) (List.map_id q)
  rfl
 rw[a1,a2,a3,a4]
theorem c60{s:store_Store}(hR:SR s):D6 s=a16 (sO s):=by rw[a5p (p8.2 hR),b2P (p8.2 hR)]
section
variable{x:Hp}(hB:HB x)
include hB
end
end Go.Sh
namespace Go.Sh
structure Stl (x y:Hp):Prop where
 lv:∀h∈lv y.S,h∈lv x.S
 ser:y.S.Serial=x.S.Serial
 len:y.S.S.Cells.length=x.S.S.Cells.length
 ob:∀h∈Sh.lv y.S,(ob y.S h).Serial=(ob x.S h).Serial∧(Sh.ob y.S h).Prog=(Sh.ob x.S h).Prog∧(Sh.ob y.S h).Fields=(Sh.ob x.S h).Fields∧((Sh.ob x.S h).Started=true→(Sh.ob y.S h).Started=true)
 rt:y.Roots=x.Roots
 cn:y.Cells.length=x.Cells.length
 cl:∀i (h:i<y.Cells.length) (h':i<x.Cells.length),y.Cells[i]=⟨x.Cells[i].Target,x.Cells[i].Intact&&decide (x.Cells[i].Target∈Sh.lv y.S),x.Cells[i].Call⟩
 q:∃l,y.Q=⟨x.Q.L++l,x.Q.Cap⟩∧(∀t∈l,t.Kind=1→t.At∈Sh.lv x.S∧(Sh.ob x.S t.At).Started=false)∧∀h∈Sh.lv y.S,(Sh.ob y.S h).Started=true→(Sh.ob x.S h).Started=false→∃t∈l,t.Kind=1∧t.At=h
 rc:∀h,b1C x.S x.T (otr x) h→b1C y.S y.T (otr y) h
 has:∀k v,Has y.T k v→Has x.T k v
theorem Stl.refl{x:Hp}(hx:HpS x):Stl x x:=by
 refine⟨λ_ h=>h,rfl,rfl,λh _=>⟨rfl,rfl,rfl,id⟩,rfl,rfl,λi h h'=>?_,⟨[],by simp,by simp,λh _ a b=>?_⟩,λ_ h=>h,λ_ _ h=>h⟩
 ·have:=(hx.cl i h).2.2.2.2
  cases hI:x.Cells[i].Intact
  ·rw[Bool.false_and,←hI]
  ·rw[decide_eq_true (this hI).1,Bool.and_self,←hI]
 ·rw[a] at b;cases b
theorem Stl.trans{x y z:Hp}(a:Stl x y)(b:Stl y z):Stl x z:=by
 obtain⟨l1,q1,q2,q3⟩:=a.q
 obtain⟨l2,r1,r2,r3⟩:=b.q
 refine⟨λh hh=>a.lv h (b.lv h hh),b.ser.trans a.ser,b.len.trans a.len,λh hh=>?_,b.rt.trans a.rt,b.cn.trans a.cn,λi h h'=>?_,⟨l1++l2,?_,λt ht hk=>?_,λh hh s1 s2=>?_⟩,λh hh=>b.rc h (a.rc h hh),λk v hh=>a.has k v (b.has k v hh)⟩
 ·obtain⟨b1,b2,b3,b4⟩:=b.ob h hh
  obtain⟨a1,a2,a3,a4⟩:=a.ob h (b.lv h hh)
  exact⟨b1.trans a1,b2.trans a2,b3.trans a3,λq=>b4 (a4 q)⟩
 ·have hy:i<y.Cells.length:=by rw[a.cn];exact h'
  rw[b.cl i h hy,a.cl i hy h']
  dsimp only
  congr 1
  rw[Bool.and_assoc]
  congr 1
  by_cases q:x.Cells[i].Target∈Sh.lv z.S
  ·rw[decide_eq_true q,decide_eq_true (b.lv _ q)];rfl
  ·rw[decide_eq_false q,Bool.and_false]
 ·rw[r1,q1,List.append_assoc]
 ·rcases List.mem_append.1 ht with q | q
  ·exact q2 t q hk
  ·obtain⟨e1,e2⟩:=r2 t q hk
   refine⟨a.lv _ e1,?_⟩
   cases hs:(Sh.ob x.S t.At).Started
   ·rfl
   ·rw[(a.ob _ e1).2.2.2 hs] at e2;cases e2
 ·cases hs:(Sh.ob y.S h).Started
  ·obtain⟨t,ht,e⟩:=r3 h hh s1 hs
   exact⟨t,List.mem_append_right _ ht,e⟩
  ·obtain⟨t,ht,e⟩:=q3 h (b.lv h hh) hs s2
   exact⟨t,List.mem_append_left _ ht,e⟩
theorem c5h(s:store_Store)(h:Int)(o:store_Obj):(seO s h o).S.Cells.length=s.S.Cells.length:=L2 ..
theorem c47{x:Hp}(hx:R7 x){z:Int}(hz:z∈lv x.S)(hs:(ob x.S z).Started=false):Stl x (quH x z):=by
 have hR:=hx.sh.sr
 obtain⟨k,e1,e2,e3,e4⟩:=b11 hR hz
 have l1:=c3i hR hz
 have hob:∀h∈lv x.S,(ob (quH x z).S h).Serial=(ob x.S h).Serial∧(ob (quH x z).S h).Prog=(ob x.S h).Prog∧(ob (quH x z).S h).Fields=(ob x.S h).Fields∧((ob (quH x z).S h).Started=true↔(ob x.S h).Started=true∨h=z):=λh hh=>by
  obtain⟨n,e⟩:=b8W hR hz hh
  rw[e]
  by_cases q:h=z
  ·subst q
   rw[if_pos rfl]
   exact⟨rfl,rfl,rfl,by simp⟩
  ·rw[if_neg q]
   exact⟨rfl,rfl,rfl,by simp[q]⟩
 have hot:∀h∈otr x,h∈otr (quH x z):=λh hh=>by
  unfold otr at hh ⊢
  rw[e1,e4]
  rcases List.mem_append.1 hh with q | q
  ·exact List.mem_append_left _ q
  ·refine List.mem_append_right _ ?_
   obtain⟨t,ht,a,b⟩:=a9F.1 q
   exact a9F.2 ⟨t,List.mem_append_left _ ht,a,b⟩
 have rf:=Stl.refl hx.sh
 refine⟨λh hh=>by rw[l1] at hh;exact hh,k.ser,k.len.trans (c5h ..),λh hh=>?_,e1,by rw[e2],λi h h'=>?_,⟨[qtk x z],by rw[e4],λt ht hk=>?_,λh hh s1 s2=>?_⟩,λh hh=>?_,λk v hh=>by rw[e3] at hh;exact hh⟩
 ·rw[l1] at hh
  obtain⟨a,b,c,d⟩:=hob h hh
  exact⟨a,b,c,λq=>d.2 (.inl q)⟩
 ·have e5:(quH x z).Cells[i]=x.Cells[i]:=by simp only[e2]
  rw[e5,l1]
  exact rf.cl i h' h'
 ·rw[List.mem_singleton] at ht
  subst ht
  exact⟨hz,hs⟩
 ·rw[l1] at hh
  rcases (hob h hh).2.2.2.1 s1 with q | q
  ·rw[q] at s2;cases s2
  ·exact⟨qtk x z,List.mem_singleton_self _,rfl,q.symm⟩
 ·induction hh with
  | base h1 h2=>exact .base (hot _ h1) (by rw[l1];exact h2)
  | step h0 h1 h2 ih=>
   refine .step ih ?_ (by rw[l1];exact h2)
   unfold outs at h1 ⊢
   rw[(hob _ h0.live).2.2.1]
   exact h1
  | pair h1 h0 h2 ih=>exact .pair (by rw[e3];exact h1) ih (by rw[l1];exact h2)
theorem c4g{x:Hp}(hx:R7 x){z:Int}(hz:z∈zr x):Stl x (buH x [z]):=by
 have hR:=hx.sh.sr
 have hzl:=(a4j.1 hz).1
 have h0:z≠0:=λe=>b0M hR (e▸hzl)
 have hfree:=c0q hx hz
 have hn:([z]:List Int).Nodup:=by simp
 have hm:∀d ∈ [z],d∈lv x.S:=by simpa using hzl
 have g:=a2V [z] hR hn hm
 have k:=(a6Y ([z].flatMap (outs x.S)++(wot x.T [z]).2) (x:=a5a x [z] (wot x.T [z]).1) g.sr).1
 obtain⟨e1,e2,e3,e4⟩:=b6J hR hn hm
 obtain⟨_,w2,_,_,w5,w6⟩:=a40 hx.sh.hr [z] (by simp)
 have l1:∀h,h∈lv (buH x [z]).S↔h∈lv x.S∧h≠z:=λh=>by
  rw[c1E hR hn hm,List.mem_filter,decide_eq_true_iff,List.mem_singleton]
 have hob:∀h∈lv (buH x [z]).S,(ob (buH x [z]).S h).Serial=(ob x.S h).Serial∧(ob (buH x [z]).S h).Prog=(ob x.S h).Prog∧(ob (buH x [z]).S h).Fields=(ob x.S h).Fields∧(ob (buH x [z]).S h).Started=(ob x.S h).Started:=λh hh=>by
  obtain⟨a,b⟩:=(l1 h).1 hh
  obtain⟨n,e⟩:=c1F hR hn hm a (by simpa using b)
  rw[e]
  exact⟨rfl,rfl,rfl,rfl⟩
 refine⟨λh hh=>((l1 h).1 hh).1,k.ser.trans g.ser,k.len.trans g.len,λh hh=>?_,e1,by rw[e2];simp[clr],λi h h'=>?_,⟨clt x.Cells [z],by rw[e4],λt ht hk=>?_,λh hh s1 s2=>?_⟩,λh hh=>?_,λk v hh=>?_⟩
 ·obtain⟨a,b,c,d⟩:=hob h hh
  exact⟨a,b,c,λq=>d.trans q⟩
 ·have e5:(buH x [z]).Cells[i]=a6r [z] x.Cells[i]:=by
   simp only[e2]
   exact List.getElem_map _
  rw[e5]
  have hc:=(hx.sh.cl i h').2.2.2.2
  unfold a6r a20
  cases hI:x.Cells[i].Intact
  ·rw[if_neg (by simp),Bool.false_and,←hI]
  ·have ht:=(hc hI).1
   have ht0:x.Cells[i].Target≠0:=λe=>b0M hR (e▸ht)
   by_cases q:x.Cells[i].Target=z
   ·rw[if_pos (by simp[q,h0]),decide_eq_false (λr=>((l1 _).1 r).2 q)]
    rfl
   ·rw[if_neg (by simp[q]),decide_eq_true ((l1 _).2 ⟨ht,q⟩),Bool.and_self,←hI]
 ·obtain⟨w,hw,rfl,_,_⟩:=a7s.1 ht
  simp at hk
 ·rw[(hob h hh).2.2.2,s2] at s1
  cases s1
 ·unfold nms at hfree
  have key:b1C (buH x [z]).S (buH x [z]).T (otr (buH x [z])) h∧h≠z:=by
   induction hh with
   | base h1 h2=>
    rename_i a
    have hne:a≠z:=λe=>by
     subst e
     exact b70 h0 (by omega:P7 (otr x) a=0) h1
    refine⟨.base ?_ ((l1 _).2 ⟨h2,hne⟩),hne⟩
    unfold otr at h1 ⊢
    rw[e1,e4,b67 _ _ _ λt ht=>by
     obtain⟨w,_,rfl,_⟩:=a7s.1 ht
     simp]
    exact h1
   | step q0 q1 q2 ih=>
    rename_i a b
    have hne:b≠z:=λe=>by
     subst e
     have:=b9N (y:=b) q0.live
     have h1:=a5P.2 ⟨h0,q1⟩
     omega
    refine⟨.step ih.1 ?_ ((l1 _).2 ⟨q2,hne⟩),hne⟩
    unfold outs at q1 ⊢
    rw[(hob _ ((l1 _).2 ⟨q0.live,ih.2⟩)).2.2.1]
    exact q1
   | pair q1 q0 q2 ih=>
    rename_i a b
    have hne:b≠z:=λe=>by
     subst e
     have:=b93 q1 h0
     omega
    exact⟨.pair (by rw[e3];exact (w5 _ _).2 ⟨by simpa using ih.2,q1⟩) ih.1 ((l1 _).2 ⟨q2,hne⟩),hne⟩
  exact key.1
 ·rw[e3] at hh
  exact ((w5 _ _).1 hh).2
theorem c5n{x:Hp}(hx:R7 x):Stl x (stp x):=by
 cases h:zr x with
 | nil=>rw[b0g h];exact Stl.refl hx.sh
 | cons z l=>
  have hz:z∈zr x:=by rw[h];exact List.mem_cons_self ..
  rw[a4T h]
  split
  ·rename_i q
   unfold due at q
   rw[Bool.and_eq_true,decide_eq_true_iff,Bool.not_eq_true'] at q
   exact c47 hx (a4j.1 hz).1 q.2
  ·exact c4g hx hz
theorem c5m{x:Hp}(hx:R7 x)(n:Nat):Stl x (stN n x):=by
 induction n with
 | zero=>exact Stl.refl hx.sh
 | succ n ih=>rw[a2c];exact ih.trans (c5n (a0F hx n))
theorem b3x{x:Hp}(hx:R7 x):Stl x (a2n x):=c5m hx 100
end Go.Sh
namespace Go.Sh
section
variable{x:Hp}(hB:HB x)
include hB
end
end Go.Sh
namespace Go.Sh
theorem c8x(s:store_Store)(h:s.S.Cells.length≤30):b2h s=some (sO s):=by
 unfold b2h
 simp only[jn,b2i,d1q]
 have e:=a5o (b:=80) cO s.S.Cells (by omega) (by omega)
 simp only[cO,oo] at e
 rw[e]
 rfl
theorem c5k(s:store_Store):a7X s=some (decide (Sm s)):=by
 unfold a7X
 simp only[jn]
 refine D5 (min s.S.Cells.length 30) (λk=>∀j (h:j<s.S.Cells.length),j<k→s.S.Cells[j].Val.Fields.length≤10) (by omega) (λ_ _ h=>by omega) (λk hk hP=>?_) (λhP=>?_)
 ·have hk1:k<s.S.Cells.length:=by omega
  have hk2:k<30:=by omega
  have hc:((decide ((k:Int)<(s.S.Cells.length:Int)))&&(decide ((k:Int)<30)))=true:=by simp;omega
  by_cases g:s.S.Cells[k].Val.Fields.length≤10
  ·refine .inl ⟨?_,λj h hj=>?_⟩
   ·rw[hc]
    simp only[if_true,l5 hk1,d1q]
    rw[if_neg (by simp;omega),g7]
   ·rcases Nat.lt_or_ge j k with q | q
    ·exact hP j h q
    ·have:j=k:=by omega
     subst this;exact g
  ·refine .inr ⟨.inl false,?_,?_⟩
   ·rw[hc]
    simp only[if_true,l5 hk1,d1q]
    rw[if_pos (by simp;omega)]
   ·simp only
    rw[decide_eq_false (λq:Sm s=>g (q.2 k hk1))]
 ·refine⟨.inr (),?_,?_⟩
  ·rw[show ((decide (((min s.S.Cells.length 30:Nat):Int)<(s.S.Cells.length:Int)))&&(decide (((min s.S.Cells.length 30:Nat):Int)<30)))=false by
    rcases Nat.lt_or_ge s.S.Cells.length 30 with q | q
    ·simp;omega
    ·simp;omega]
   rfl
  ·simp only
   congr 1
   rw[decide_eq_decide]
   constructor
   ·intro q
    exact⟨by omega,λi h=>hP i h (by omega)⟩
   ·intro q
    have:=q.1
    omega
end Go.Sh
namespace Go.Sh
theorem c9b(t:Tb)(h:t.length≤1000):b2j t=some (t.map J0):=by
 unfold b2j
 simp only[jn]
 have e:=a5o (b:=24) J0 t (by omega) (by omega)
 simp only[J0] at e
 rw[e]
 rfl
end Go.Sh
namespace Go.Sh
theorem c8k(l:List weak_Cell)(h:l.length≤1000):a7W l=some (l.map wcR):=by
 unfold a7W
 simp only[jn]
 have e:=a5o (b:=24) wcR l (by omega) (by omega)
 simp only[wcR] at e
 rw[e]
 rfl
theorem c9c(q:TQ)(h:q.L.length≤1000):a7Z q=some (tqR q):=by
 unfold a7Z
 simp only[jn]
 have e:=a5o (b:=24) tkR q.L (by omega) (by omega)
 simp only[tkR] at e
 rw[e]
 rfl
theorem c2r{x:Hp}(h1:x.S.S.Cells.length≤30)(h2:x.Cells.length≤1000)(h3:x.T.length≤1000)(h4:x.Q.L.length≤1000):W9 x=some (hO x):=by
 unfold W9
 rw[c8x x.S h1,d1q,c8k x.Cells h2,d1q,c9b x.T h3,d1q,c9c x.Q h4,d1q]
 rfl
theorem a9r{x:Hp}(h:HpS x):W9 x=some (hO x):=by
 have h1:=h.sr.len
 have h2:=h.c6
 have h3:=h.hr.l8
 have h4:=h.q30
 exact c2r (by omega) (by omega) (by omega) (by omega)
theorem b6Y(x:Hp):a5T x=some (decide (b1b x)):=by
 unfold a5T
 rw[c5k,d1q]
 congr 1
 rw[Bool.eq_iff_iff]
 simp only[Bool.and_eq_true,decide_eq_true_iff]
 unfold b1b
 constructor
 ·rintro⟨⟨⟨⟨a,b⟩,c⟩,d⟩,e⟩
  exact⟨a,by omega,by omega,by omega,by omega⟩
 ·rintro⟨a,b,c,d,e⟩
  exact⟨⟨⟨⟨a,by omega⟩,by omega⟩,by omega⟩,by omega⟩
theorem c5K{x:Hp}(h:HpS x):a5T x=some true:=by rw[b6Y,decide_eq_true h.c8u]
theorem c5l{x:Hp}(hB:HB x):∃b,a7Y x=some b∧(b=true→R7 x∧x.S.Serial<1000000000):=by
 unfold a7Y
 rw[b6Y,d1q]
 by_cases c:b1b x∧x.S.Serial<1000000000
 ·have e:((decide (b1b x))&&(decide (x.S.Serial<1000000000)))=true:=by simp[c.1,c.2]
  rw[e]
  obtain⟨f,f2,f3,f4,f5⟩:=c.1
  simp only[beq_self_eq_true,F5,Bool.true_and]
  rw[c2r f.1 (by omega) (by omega) (by omega),d1q]
  obtain⟨b,h1,h2⟩:=a6A x hB (by have:=f.1;omega) (by omega) (by omega) (by omega) (by omega)
  rw[h1,d1q]
  exact⟨b,rfl,λq=>⟨h2.1 q,c.2⟩⟩
 ·have e:((decide (b1b x))&&(decide (x.S.Serial<1000000000)))=false:=by
   rw[Bool.and_eq_false_iff,decide_eq_false_iff_not,decide_eq_false_iff_not];exact Decidable.not_and_iff_or_not.1 c
  rw[e]
  exact⟨false,by simp[l6],λq=>by cases q⟩
end Go.Sh
namespace Go.Sh
structure Ks (s s':store_Store):Prop where
 sr:SR s'
 ser:s'.Serial=s.Serial
 lv:lv s'=lv s
 ob:∀h∈Sh.lv s,(ob s' h).Serial=(ob s h).Serial
theorem Ks.refl{s:store_Store}(hR:SR s):Ks s s:=⟨hR,rfl,rfl,λ_ _=>rfl⟩
theorem Ks.trans{a b c:store_Store}(h:Ks a b)(q:Ks b c):Ks a c:=⟨q.sr,q.ser.trans h.ser,q.lv.trans h.lv,λk hk=>(q.ob k (by rw[h.lv];exact hk)).trans (h.ob k hk)⟩
theorem Kin.ks{s s':store_Store}(hR:SR s)(k:Kin s s'):Ks s s':=⟨k.sr,k.ser,k.lv,λh hh=>by
 obtain⟨n,e⟩:=k.ob h (by have:=J9 hR hh;omega)
 rw[e]⟩
theorem Kn.ks{s s':store_Store}(k:Kn s s')(e:s'.Serial=s.Serial):Ks s s':=⟨k.sr,e,k.lv,λh hh=>by
 obtain⟨n,m,e⟩:=k.ob h hh
 rw[e]⟩
theorem c7G{s:store_Store}(hR:SR s){h:Int}(hh:h∈lv s){o:store_Obj}(hs:o.Serial=(ob s h).Serial)(ho:OkO s o):Ks s (seO s h o):=⟨a1E hR hh hs ho,rfl,a3j hR hh hs ho,λk hk=>by
 rw[a2m hR hh hs ho (by have:=J9 hR hk;omega)]
 split
 ·rename_i e;subst e;exact hs
 ·rfl⟩
theorem b9h{x:Hp}(hR:SR x.S)(h:Int):Ks x.S (C9 x h).S:=(I2 hR h λc=>D9).ks hR
theorem b9c{x:Hp}(hR:SR x.S)(h:Int):Ks x.S (O9 x h).S:=(I2 hR h λc=>a0j).ks hR
theorem b7Q(x:Hp)(h:Int):(O9 x h).Roots=x.Roots∧(O9 x h).Cells=x.Cells∧(O9 x h).T=x.T∧(O9 x h).Q=x.Q:=b3C x h a9e
theorem b3l{x:Hp}(hR:SR x.S)(r:Nat)(h:Int):Ks x.S (L9 x r h).S:=
 (b9h hR h).trans (b9c (x:=wR (C9 x h) (x.Roots.set r h)) (a6Z hR h) _)
theorem c0F{x:Hp}(hR:SR x.S){h:Int}(hh:h∈lv x.S){n:Nat}(hn:n<(ob x.S h).Fields.length)(v:Int):Ks x.S (a1o x h n v).S:=by
 have k1:=b9h hR v
 have hh1:h∈lv (C9 x v).S:=by rw[k1.lv];exact hh
 have hof:(ob (C9 x v).S h).Fields=(ob x.S h).Fields:=by
  obtain⟨n,e⟩:=(I2 hR v (f:=a0J) λc=>D9).ob h (by have:=J9 hR hh;omega)
  show (ob (stO x v a0J).S h).Fields=_
  rw[e]
 have ho:OkO (C9 x v).S (flg (ob (C9 x v).S h) ((ob x.S h).Fields.set n v)):=by
  have:=J8 k1.sr hh1
  refine⟨this.s1,this.s2,this.st,this.wk,this.p1,this.p2,?_⟩
  have h4:=this.fl
  rw[hof] at h4
  simpa using h4
 have k2:=c7G (o:=flg (ob (C9 x v).S h) ((ob x.S h).Fields.set n v)) k1.sr hh1 rfl ho
 exact (k1.trans k2).trans (b9c (x:=wS (C9 x v) (seO (C9 x v).S h (flg (ob (C9 x v).S h) ((ob x.S h).Fields.set n v)))) k2.sr _)
theorem b1f(x:Hp)(h:Int)(n:Nat)(v:Int):(a1o x h n v).Roots=x.Roots∧(a1o x h n v).Cells=x.Cells∧(a1o x h n v).T=x.T∧(a1o x h n v).Q=x.Q:=by
 obtain⟨a,b,c,d⟩:=b7Q (wS (C9 x v) (seO (C9 x v).S h (flg (ob (C9 x v).S h) ((ob x.S h).Fields.set n v)))) ((ob x.S h).Fields.getD n 0)
 obtain⟨a',b',c',d'⟩:=b0a x v
 exact⟨a.trans a',b.trans b',c.trans c',d.trans d'⟩
theorem c28{x:Hp}(hR:SR x.S)(v:Int)(t:Tb)(old:Int):Ks x.S (a6I x v t old).S:=
 (b9h hR v).trans (b9c (x:=wT (C9 x v) t) (a6Z hR v) old)
theorem b21(x:Hp)(v:Int)(t:Tb)(old:Int):(a6I x v t old).Roots=x.Roots∧(a6I x v t old).Cells=x.Cells∧(a6I x v t old).T=t∧(a6I x v t old).Q=x.Q:=by
 obtain⟨a,b,c,d⟩:=b7Q (wT (C9 x v) t) old
 obtain⟨a',b',c',d'⟩:=b0a x v
 exact⟨a.trans a',b.trans b',c,d.trans d'⟩
end Go.Sh
namespace Go.Sh
theorem c6O{s:store_Store}(hR:SR s){i:Nat}(hi:i<s.S.Cells.length)(h2:(ce s i).State=2):Ks s (gvA s i):=⟨b5i hR hi,rfl,b5g hR hi h2,λh hh=>by rw[b5h hR hi h2 hh]⟩
theorem c65{x:Hp}(hR:SR x.S)(h:Int){d:Int}(hd:P6 x.S h (B4 h)→0≤(ce x.S (B4 h)).Val.Weak+d):Ks x.S (mkd x h d).S:=by
 unfold mkd
 split
 ·rename_i q
  exact (a5r hR q.1 q.2.1 (hd q)).ks rfl
 ·exact Ks.refl hR
theorem c2I(x:Hp)(h d:Int):(mkd x h d).Roots=x.Roots∧(mkd x h d).Cells=x.Cells∧(mkd x h d).T=x.T∧(mkd x h d).Q=x.Q:=by
 unfold mkd
 split <;> exact⟨rfl,rfl,rfl,rfl⟩
theorem c1l(x:Hp)(h:Int):(a8X x h).Roots=x.Roots∧(a8X x h).Cells=x.Cells∧(a8X x h).T=x.T∧(a8X x h).Q=x.Q:=by
 unfold a8X
 split
 ·split <;> exact⟨rfl,rfl,rfl,rfl⟩
 ·exact⟨rfl,rfl,rfl,rfl⟩
theorem c0m{x:Hp}(hR:SR x.S)(h:Int)(hd:P6 x.S h (B4 h)→1≤(ce x.S (B4 h)).Val.Weak):Ks x.S (a8X x h).S:=by
 unfold a8X
 split
 ·rename_i q
  have hd:=hd q
  have kn:=a5r (d:=-1) hR q.1 q.2.1 (by omega)
  split
  ·rename_i c
   have hi1:B4 h<(mkA x.S (B4 h) (-1)).S.Cells.length:=by rw[kn.len];exact q.1
   have hce:ce (mkA x.S (B4 h) (-1)) (B4 h)=⟨(ce x.S (B4 h)).State,(ce x.S (B4 h)).Gen,wkg (ce x.S (B4 h)).Val ((ce x.S (B4 h)).Val.Weak + -1)⟩:=by
    rw[a3a hR q.1 q.2.1,if_pos rfl]
   have h2:(ce (mkA x.S (B4 h) (-1)) (B4 h)).State=2:=by rw[hce];exact c.1
   exact (kn.ks rfl).trans (c6O kn.sr hi1 h2)
  ·exact kn.ks rfl
 ·exact Ks.refl hR
theorem c3O{x:Hp}(hx:R7 x){n:Nat}(hn:n<6)(h call:Int):Ks x.S (a3q x n h call).S:=by
 have hR:=hx.sh.sr
 have hnl:n<x.Cells.length:=by have:=hx.sh.c6;omega
 have ok:∀k i,P6 x.S k i→0≤(ce x.S i).Val.Weak:=λk i q=>(hR.ok i q.1 q.2.1).wk
 have tw:∀i,P6 x.S (tgt x n) i→1≤(ce x.S i).Val.Weak:=λi q=>by
  have htg:tgt x n=x.Cells[n].Target:=by
   unfold tgt
   rw[List.getD_eq_getElem?_getD,List.getElem?_eq_getElem hnl]
   rfl
  have r:=q.rng hR
  have p:=a9G hnl (by rw[←htg];omega)
  rw[←htg,q.2.2] at p
  have:=(hx.wk i q.1 q.2.1).1
  omega
 unfold a3q
 have s1:Ks x.S (mkd (wC x (x.Cells.set n (wcl h call))) h 1).S:=c65 (x:=wC x (x.Cells.set n (wcl h call))) hR h λq=>by
  have:=ok _ _ q
  dsimp only
  omega
 by_cases q:P6 x.S h (B4 h)
 ·have e:mkd (wC x (x.Cells.set n (wcl h call))) h 1=wS (wC x (x.Cells.set n (wcl h call))) (mkA x.S (B4 h) 1):=by
   unfold mkd
   rw[if_pos q]
  have hd:=ok _ _ q
  have kn:=a5r (d:=1) hR q.1 q.2.1 (by omega)
  rw[e] at s1 ⊢
  refine s1.trans (c0m (x:=wS (wC x (x.Cells.set n (wcl h call))) (mkA x.S (B4 h) 1)) kn.sr _ λq2=>?_)
  dsimp only at q2 ⊢
  have q3:=(kn.ad _ _).1 q2
  have:=tw _ q3
  rw[a3a hR q.1 q.2.1]
  split
  ·rename_i e2
   rw[e2] at this
   show 1≤(ce x.S (B4 h)).Val.Weak+1
   omega
  ·exact this
 ·have e:mkd (wC x (x.Cells.set n (wcl h call))) h 1=wC x (x.Cells.set n (wcl h call)):=by
   unfold mkd
   rw[if_neg q]
  rw[e] at s1 ⊢
  exact s1.trans (c0m (x:=wC x (x.Cells.set n (wcl h call))) hR _ λq2=>tw _ q2)
theorem b9w(x:Hp)(n:Nat)(h call:Int):(a3q x n h call).Roots=x.Roots∧(a3q x n h call).Cells=x.Cells.set n (wcl h call)∧(a3q x n h call).T=x.T∧(a3q x n h call).Q=x.Q:=by
 obtain⟨a,b,c,d⟩:=c1l (mkd (wC x (x.Cells.set n (wcl h call))) h 1) (tgt x n)
 obtain⟨a',b',c',d'⟩:=c2I (wC x (x.Cells.set n (wcl h call))) h 1
 exact⟨a.trans a',b.trans b',c.trans c',d.trans d'⟩
end Go.Sh
namespace Go.Sh
abbrev nwo(s:store_Store)(n:Nat)(p:Int):store_Obj:=⟨s.Serial+1,0,0,p,false,List.replicate n 0⟩
def mkS(s:store_Store)(i n:Nat)(p:Int):store_Store:=⟨⟨s.S.Cells.set i ⟨1,(ce s i).Gen,nwo s n p⟩,s.S.Last⟩,s.Serial+1⟩
section
variable{s:store_Store}(hR:SR s){i:Nat}(hi:i<s.S.Cells.length)(h0:(ce s i).State=0){n:Nat}(hn:n≤4){p:Int}(hp : -1≤p∧p≤5)
include hR hi h0 hn hp
theorem a5t:(mkS s i n p).S.Cells.length=s.S.Cells.length:=by simp[mkS]
theorem a6H(j:Nat):ce (mkS s i n p) j=if j=i then ⟨1,(ce s i).Gen,nwo s n p⟩ else ce s j:=a4s hi _ _ j
theorem b9W:SR (mkS s i n p):=by
 have hser:=hR.ser
 have hc:=hR.cell i hi
 have hnt:¬Th (ce s i):=λh=>by
  rcases h with h | h <;> omega
 refine⟨by rw[a5t hR hi h0 hn hp];exact hR.len,hR.l0,hR.l9,by show 0≤s.Serial+1;omega,λj hj=>?_,λj hj ht=>?_,λj hj ht=>?_,λj k hj hk a b e=>?_⟩
 ·rw[a5t hR hi h0 hn hp] at hj
  rw[a6H hR hi h0 hn hp]
  split
  ·exact⟨show (0:Int)≤1 by decide,show (1:Int)≤3 by decide,hc.2.2.1,hc.2.2.2⟩
  ·exact hR.cell j hj
 ·rw[a5t hR hi h0 hn hp] at hj
  rw[a6H hR hi h0 hn hp] at ht ⊢
  split at ht
  ·exact absurd (.inl rfl) ht
  ·rename_i e
   rw[if_neg e];exact hR.no j hj ht
 ·rw[a5t hR hi h0 hn hp] at hj
  rw[a6H hR hi h0 hn hp] at ht ⊢
  split at ht
  ·rename_i e
   rw[if_pos e]
   exact⟨by show 1≤s.Serial+1;omega,Int.le_refl _,Int.le_refl 0,Int.le_refl 0,hp.1,hp.2,by simpa using hn⟩
  ·rename_i e
   rw[if_neg e]
   have:=hR.ok j hj ht
   exact⟨this.s1,by show _≤s.Serial+1;have:=this.s2;omega,this.st,this.wk,this.p1,this.p2,this.fl⟩
 ·rw[a5t hR hi h0 hn hp] at hj hk
  rw[a6H hR hi h0 hn hp] at a e
  rw[a6H hR hi h0 hn hp] at b e
  have old:∀m,m<s.S.Cells.length→Th (ce s m)→(ce s m).Val.Serial≠s.Serial+1:=λm hm t q=>by
   have:=(hR.ok m hm t).s2
   omega
  by_cases ej:j=i <;> by_cases ek:k=i
  ·rw[ej,ek]
  ·rw[if_neg ek] at b e
   rw[if_pos ej] at e
   exact absurd e.symm (old k hk b)
  ·rw[if_neg ej] at a e
   rw[if_pos ek] at e
   exact absurd e (old j hj a)
  ·rw[if_neg ej] at a e
   rw[if_neg ek] at b e
   exact hR.dif j k hj hk a b e
theorem b8M{k:Int}{j:Nat}(q:P6 s k j):j≠i:=λe=>by
 subst e
 rcases q.2.1 with h | h <;> omega
theorem c64{k:Int}{j:Nat}:P6 (mkS s i n p) k j↔P6 s k j∨(j=i∧k=hdl s i):=by
 unfold P6
 rw[a5t hR hi h0 hn hp,a6H hR hi h0 hn hp]
 by_cases e:j=i
 ·rw[if_pos e]
  subst e
  constructor
  ·rintro⟨a,b,c⟩
   exact .inr ⟨rfl,c⟩
  ·rintro (⟨a,b,c⟩ | ⟨_,c⟩)
   ·exact absurd rfl (b8M hR hi h0 hn hp ⟨a,b,c⟩)
   ·exact⟨hi,.inl rfl,c⟩
 ·rw[if_neg e]
  constructor
  ·exact .inl
  ·rintro (h | ⟨h,_⟩)
   ·exact h
   ·exact absurd h e
theorem b7i:lv (mkS s i n p)=lv s ++ [hdl s i]:=by
 have e:=b8K (s:=s) (p8.2 hR) hi (by rw[←C7 hi];exact h0) (nwo s n p) rfl (a5p (p8.2 hR))
 unfold mkS
 rw[show (ce s i).Gen=s.S.Cells[i].Gen by rw[C7 hi]]
 have e2:hdl s i=1+(i:Int)+32*s.S.Cells[i].Gen:=by unfold hdl;rw[C7 hi]
 rw[e2]
 have:=a5p (p8.2 (by have:=b9W hR hi h0 hn hp;unfold mkS at this;rw[show (ce s i).Gen=s.S.Cells[i].Gen by rw[C7 hi]] at this;exact this))
 rw[e] at this
 exact (Option.some.inj this).symm
theorem b8L:hdl s i∉lv s:=λh=>by
 obtain⟨j,q⟩:=(a54 hR).1 h
 have:i=j:=by
  have a:=q.2.2
  have b:=q.1
  unfold hdl at a
  have:=hR.len
  omega
 subst this
 have:=q.2.1
 omega
theorem b4H{k:Int}(hk:k∈lv s):ob (mkS s i n p) k=ob s k:=by
 obtain⟨j,q⟩:=(a54 hR).1 hk
 have hj:=b8M hR hi h0 hn hp q.d
 have q2:At (mkS s i n p) k j:=by
  refine⟨by rw[a5t hR hi h0 hn hp];exact q.1,?_,?_⟩ <;> rw[a6H hR hi h0 hn hp,if_neg hj]
  ·exact q.2.1
  ·exact q.2.2
 rw[O2 (b9W hR hi h0 hn hp) q2,O2 hR q,a6H hR hi h0 hn hp,if_neg hj]
theorem b0Q:ob (mkS s i n p) (hdl s i)=nwo s n p:=by
 have q2:At (mkS s i n p) (hdl s i) i:=by
  refine⟨by rw[a5t hR hi h0 hn hp];exact hi,?_,?_⟩ <;> rw[a6H hR hi h0 hn hp,if_pos rfl]
  rfl
 rw[O2 (b9W hR hi h0 hn hp) q2,a6H hR hi h0 hn hp,if_pos rfl]
end
theorem c0l{l:List Int}{h:Int}(e:h∉l):P7 l h=0:=Nat.eq_zero_of_not_pos λq=>e (a5P.1 q).2
theorem b7k{x:Hp}(hx:R7 x){i:Nat}(hi:i<x.S.S.Cells.length)(h0:(ce x.S i).State=0){n:Nat}(hn:n≤4){p:Int}(hp : -1≤p∧p≤5):R7 (wS x (mkS x.S i n p)):=by
 have hR:=hx.sh.sr
 have hS:=b9W hR hi h0 hn hp
 have hl:=b7i hR hi h0 hn hp
 have hnew:=b8L hR hi h0 hn hp
 have mem:∀ {k},k∈lv x.S→k∈lv (mkS x.S i n p):=λhk=>by rw[hl];exact List.mem_append_left _ hk
 have mem0:∀ {k},k=0∨k∈lv x.S→k=0∨k∈lv (mkS x.S i n p):=λhk=>hk.imp id mem
 have hpos:=a7o hR hi
 have split:∀ {k},k∈lv (mkS x.S i n p)→k∈lv x.S∨k=hdl x.S i:=λhk=>by
  rw[hl] at hk
  rcases List.mem_append.1 hk with q | q
  ·exact .inl q
  ·exact .inr (List.mem_singleton.1 q)
 have rep:∀v∈List.replicate n (0:Int),v=0:=λv hv=>(List.mem_replicate.1 hv).2
 have ntgt:∀j (hj:j<x.Cells.length),x.Cells[j].Target≠hdl x.S i:=λj hj e=>by
  obtain⟨q,hq⟩:=(hx.sh.cl j hj).2.2.2.1 (by rw[e];omega)
  rw[e] at hq
  have:q=i:=by
   have a:=hq.2.2
   have b:=hq.1
   unfold hdl at a
   have:=hR.len
   omega
  exact b8M hR hi h0 hn hp hq this
 refine⟨⟨hS,hx.sh.hr,hx.sh.r6,hx.sh.c6,hx.sh.cap,hx.sh.q30,λt ht=>?_,hx.sh.td,λh hh=>mem0 (hx.sh.rt h hh),λh hh v hv=>?_,λk v hk=>?_,λj hj=>?_⟩,λj hj ht=>?_,λh hh hs=>?_⟩
 ·obtain⟨a,b,c⟩:=hx.sh.tk t ht
  refine⟨a,b,c.imp (λ⟨d,e,f⟩=>⟨d,mem e,?_⟩) id⟩
  show (ob (mkS x.S i n p) t.At).Started=true
  rw[b4H hR hi h0 hn hp e];exact f
 ·rcases split hh with q | q
  ·have hv':v∈(ob (mkS x.S i n p) h).Fields:=hv
   rw[b4H hR hi h0 hn hp q] at hv'
   exact mem0 (hx.sh.fl h q v hv')
  ·subst q
   have hv':v∈(ob (mkS x.S i n p) (hdl x.S i)).Fields:=hv
   rw[b0Q hR hi h0 hn hp] at hv'
   exact .inl (rep v hv')
 ·obtain⟨a,b⟩:=hx.sh.pr k v hk
  exact⟨mem a,mem b⟩
 ·obtain⟨a,b,c,d,e⟩:=hx.sh.cl j hj
  refine⟨a,b,c,λq=>?_,λq=>⟨mem (e q).1,(e q).2⟩⟩
  obtain⟨m,hm⟩:=d q
  exact⟨m,(c64 hR hi h0 hn hp).2 (.inl hm)⟩
 ·have hj':j<x.S.S.Cells.length:=by have:j<(mkS x.S i n p).S.Cells.length:=hj;rwa [a5t hR hi h0 hn hp] at this
  show (ce (mkS x.S i n p) j).Val.Weak=(nmg x.Cells (1+(j:Int)+32*(ce (mkS x.S i n p) j).Gen):Int)∧_
  have ht':Th (ce (mkS x.S i n p) j):=ht
  rw[a6H hR hi h0 hn hp] at ht' ⊢
  by_cases e:j=i
  ·subst e
   rw[if_pos rfl]
   refine⟨?_,λq=>absurd (show (1:Int)=2 from q) (by decide)⟩
   show (0:Int)=(nmg x.Cells (hdl x.S j):Int)
   have:nmg x.Cells (hdl x.S j)=0:=by
    unfold nmg
    rw[List.countP_eq_zero]
    intro c hc
    obtain⟨m,hm,rfl⟩:=List.getElem_of_mem hc
    have:=ntgt m hm
    simp[this]
   rw[this];rfl
  ·rw[if_neg e] at ht' ⊢
   exact hx.wk j hj' ht'
 ·have hinn:∀y,inn (mkS x.S i n p) y=inn x.S y:=λy=>by
   unfold inn
   rw[hl,List.map_append,List.sum_append]
   have e1:(lv x.S).map (λk=>P7 (outs (mkS x.S i n p) k) y)=(lv x.S).map λk=>P7 (outs x.S k) y:=List.map_congr_left λk hk=>by
    unfold outs
    rw[b4H hR hi h0 hn hp hk]
   rw[e1]
   have e2:outs (mkS x.S i n p) (hdl x.S i) = []:=by
    refine List.eq_nil_iff_forall_not_mem.2 λv hv=>?_
    have h1:=a8M.1 hv
    rw[b0Q hR hi h0 hn hp] at h1
    exact h1.2 (rep v h1.1)
   simp[e2,R4]
  have hnm:∀y,nms (wS x (mkS x.S i n p)) y=nms x y:=λy=>by
   unfold nms
   show inn (mkS x.S i n p) y+own x.T y+P7 (otr x) y=_
   rw[hinn]
  rw[hnm]
  have hs':(ob (mkS x.S i n p) h).Strong<12:=hs
  show (ob (mkS x.S i n p) h).Strong=_
  rcases split hh with q | q
  ·rw[b4H hR hi h0 hn hp q] at hs' ⊢
   exact hx.fair h q hs'
  ·subst q
   rw[b0Q hR hi h0 hn hp]
   have h1:nms x (hdl x.S i)=0:=by
    unfold nms
    have a1:inn x.S (hdl x.S i)=0:=by
     unfold inn
     have:=b9o (λk=>P7 (outs x.S k) (hdl x.S i)) 0 (lv x.S) λk hk=>Nat.le_of_eq<|c0l λq=>by
      have q2:=a8M.1 q
      rcases hx.sh.fl k hk _ q2.1 with e | e
      ·exact q2.2 e
      ·exact hnew e
     omega
    have a2:own x.T (hdl x.S i)=0:=by
     unfold own
     rw[List.countP_eq_zero]
     intro c hc
     have:=(hx.sh.pr _ _ (a3P.1 hc)).2
     have hne:c.Val≠hdl x.S i:=λe=>hnew (e▸this)
     simp[hne]
    have a3:P7 (otr x) (hdl x.S i)=0:=c0l λq=>by
     unfold otr at q
     rcases List.mem_append.1 q with q | q
     ·have q2:=a8M.1 q
      rcases hx.sh.rt _ q2.1 with e | e
      ·exact q2.2 e
      ·exact hnew e
     ·obtain⟨t,ht,k1,k2⟩:=a9F.1 q
      rcases (hx.sh.tk t ht).2.2 with ⟨_,b,_⟩ | ⟨b,_⟩
      ·exact hnew (k2▸b)
      ·omega
    omega
   rw[h1,R4]
   rfl
end Go.Sh
namespace Go.Sh
structure Ev (x y:Hp):Prop where
 lv:∀h∈lv y.S,(h∈Sh.lv x.S∧(ob y.S h).Serial=(ob x.S h).Serial)∨(h∉Sh.lv x.S∧(ob y.S h).Serial=x.S.Serial+1)
 s1:x.S.Serial≤y.S.Serial
 s2:y.S.Serial≤x.S.Serial+1
theorem Ev.refl(x:Hp):Ev x x:=⟨λh hh=>.inl ⟨hh,rfl⟩,by omega,by omega⟩
theorem Ks.ev{x y:Hp}(k:Ks x.S y.S):Ev x y:=⟨λh hh=>by
 rw[k.lv] at hh
 exact .inl ⟨hh,k.ob h hh⟩,by rw[k.ser];omega,by rw[k.ser];omega⟩
theorem Ev.ks{x y z:Hp}(e:Ev x y)(k:Ks y.S z.S):Ev x z:=⟨λh hh=>by
 rw[k.lv] at hh
 rw[k.ob h hh]
 exact e.lv h hh,by rw[k.ser];exact e.s1,by rw[k.ser];exact e.s2⟩
theorem Ev.stl{x y z:Hp}(e:Ev x y)(s:Stl y z):Ev x z:=⟨λh hh=>by
 rw[(s.ob h hh).1]
 exact e.lv h (s.lv h hh),by rw[s.ser];exact e.s1,by rw[s.ser];exact e.s2⟩
theorem c8I{x:Hp}(hx:R7 x){i:Nat}(hi:i<x.S.S.Cells.length)(h0:(ce x.S i).State=0){n:Nat}(hn:n≤4){p:Int}(hp : -1≤p∧p≤5):Ev x (wS x (mkS x.S i n p)):=⟨λh hh=>by
 have hR:=hx.sh.sr
 have hh':h∈lv (mkS x.S i n p):=hh
 show (_∧(ob (mkS x.S i n p) h).Serial=_)∨_∧(ob (mkS x.S i n p) h).Serial=_
 rw[b7i hR hi h0 hn hp] at hh'
 rcases List.mem_append.1 hh' with q | q
 ·exact .inl ⟨q,by rw[b4H hR hi h0 hn hp q]⟩
 ·rw[List.mem_singleton.1 q]
  exact .inr ⟨b8L hR hi h0 hn hp,by rw[b0Q hR hi h0 hn hp]⟩,by show _≤x.S.Serial+1;omega,Int.le_refl _⟩
def Cw(x y:Hp)(w:Int):Prop:=∀i:Nat,(i:Int)≠w→(y.Cells.getD i cz).Target=(x.Cells.getD i cz).Target∧((y.Cells.getD i cz).Intact=true→(x.Cells.getD i cz).Intact=true)
theorem Cw.refl(x:Hp)(w:Int):Cw x x w:=λi _=>⟨rfl,id⟩
theorem Cw.same{x y:Hp}(h:y.Cells=x.Cells)(w:Int):Cw x y w:=λi _=>by rw[h];exact⟨rfl,id⟩
theorem Cw.trans{x y z:Hp}{w:Int}(a:Cw x y w)(b:Cw y z w):Cw x z w:=λi hi=>⟨(b i hi).1.trans (a i hi).1,λq=>(a i hi).2 ((b i hi).2 q)⟩
theorem Stl.cw{x y:Hp}(s:Stl x y)(w:Int):Cw x y w:=λi _=>by
 by_cases h:i<x.Cells.length
 ·have h':i<y.Cells.length:=by rw[s.cn];exact h
  rw[C8 h,C8 h',s.cl i h' h]
  exact⟨rfl,λq=>(Bool.and_eq_true _ _▸q).1⟩
 ·have h':¬i<y.Cells.length:=by rw[s.cn];exact h
  rw[List.getD_eq_getElem?_getD,List.getD_eq_getElem?_getD,List.getElem?_eq_none (by omega),List.getElem?_eq_none (by omega)]
  exact⟨rfl,id⟩
theorem Cw.set{x y:Hp}{w:Nat}{c:weak_Cell}(h:y.Cells=x.Cells.set w c):Cw x y w:=λi hi=>by
 rw[h,List.getD_eq_getElem?_getD,List.getD_eq_getElem?_getD,List.getElem?_set_ne (by omega)]
 exact⟨rfl,id⟩
end Go.Sh
namespace Go.Sh
def Fst(s:store_Store)(i:Nat):Prop:=i<s.S.Cells.length∧(ce s i).State=0∧∀j,j<i→(ce s j).State≠0
theorem c5W{s:store_Store}(hR:SR s)(hb:s.Serial<9223372036854775807)(a p:Int) :
  (¬(0≤a∧a≤4)∧N2 s a p=some (s,0,1)) ∨
  ((0≤a∧a≤4)∧¬(-1≤p∧p≤5)∧N2 s a p=some (s,0,13)) ∨
  ((0≤a∧a≤4)∧(-1≤p∧p≤5)∧(∀i,i<s.S.Cells.length→(ce s i).State≠0)∧N2 s a p=some (s,0,4)) ∨
  ((0≤a∧a≤4)∧(-1≤p∧p≤5)∧∃i,Fst s i∧N2 s a p=some (mkS s i a.toNat p,hdl s i,0)):=by
 have hs':=hR.ser
 have hR':=p8.2 hR
 unfold N2 b6n
 by_cases ha:0≤a∧a≤4
 ·right
  obtain⟨ha1,ha2⟩:=ha
  obtain⟨n,rfl⟩:∃n:Nat,a=n:=⟨a.toNat,by omega⟩
  rw[if_neg (by simp;omega),b7j (by omega) (by omega)]
  simp only[d1q]
  by_cases hp : -1≤p∧p≤5
  ·right
   unfold G0
   simp only[d1q]
   have e1:(decide (p ≥ -1)&&decide (p<6))=true:=by simp;omega
   rw[e1]
   have hl:SlO s.S:=⟨a1D hR',hR'.l0,hR'.l9,λi hi=>b52 hR' i hi⟩
   rcases b6g hl ⟨s.Serial+1,0,0,p,false,List.replicate n 0⟩ with ⟨i,hi,h0,hf,e⟩ | ⟨hf,e⟩
   ·right
    refine⟨⟨ha1,ha2⟩,hp,i,⟨hi,by rw[C7 hi];exact h0,λj hj=>by rw[C7 (by omega)];exact hf j hj⟩,?_⟩
    simp only[bne_self_eq_false,Bool.false_eq_true,if_false,Bool.not_true]
    rw[show s6 (s.Serial+1)=s.Serial+1 from E0 (by omega) (by omega),e]
    unfold mkS hdl
    rw[C7 hi]
    simp
   ·left
    refine⟨⟨ha1,ha2⟩,hp,λi hi=>by rw[C7 hi];exact hf i hi,?_⟩
    simp only[bne_self_eq_false,Bool.false_eq_true,if_false,Bool.not_true]
    rw[show s6 (s.Serial+1)=s.Serial+1 from E0 (by omega) (by omega),e]
    simp
  ·left
   refine⟨⟨ha1,ha2⟩,hp,?_⟩
   unfold G0
   simp only[d1q]
   have e1:(decide (p ≥ -1)&&decide (p<6))=false:=by rw[Bool.eq_false_iff];simp;omega
   rw[e1]
   simp
 ·left
  refine⟨ha,?_⟩
  rw[if_pos (by simp;omega)]
  simp
end Go.Sh
namespace Go.Sh
def sd(x:Hp)(r:Int):Int:=if r<0 then 0 else x.Roots.getD r.toNat 0
def asd(x:Hp)(r:Int):Int × Int:=if sd x r=0 then (0,2) else (sd x r,0)
def ser(x:Hp)(h:Int):Int:=(ob x.S h).Serial
theorem in0{n l m e:Int}(he:e≠0)(h:G2 n l m e=0):l≤n∧n≤m:=by
 unfold G2 at h
 split at h
 ·exact absurd h he
 ·omega
theorem b8v{a b c:Int}(h:P8 a b c=0):a=0∧b=0∧c=0:=by
 unfold P8 at h
 split at h
 ·contradiction
 ·split at h
  ·contradiction
  ·omega
theorem c4z{k a b c:Int}(h:B2 k a b c=0):1≤k∧k≤12:=by
 refine Decidable.byContradiction λq=>?_
 have:B2 k a b c=14:=by
  unfold B2
  repeat rw[if_neg (by omega)]
 omega
theorem c9M{a b c:Int}(h:B2 1 a b c=0):(0≤a∧a≤5)∧(0≤b∧b≤4) ∧ -1≤c∧c≤5:=by
 obtain⟨h1,h2,h3⟩:=b8v (show P8 (G2 a 0 5 6) (G2 b 0 4 1) (G2 c (-1) 5 13)=0 from h)
 exact⟨in0 (by decide) h1,in0 (by decide) h2,in0 (by decide) h3⟩
theorem c6p{a b c:Int}(h:B2 2 a b c=0):(0≤a∧a≤5)∧(0≤b∧b≤5):=by
 obtain⟨h1,h2,_⟩:=b8v (show P8 (G2 a 0 5 6) (G2 b 0 5 6) 0=0 from h)
 exact⟨in0 (by decide) h1,in0 (by decide) h2⟩
theorem c9N{a b c:Int}(h:B2 3 a b c=0):0≤a∧a≤5:=in0 (by decide) (show G2 a 0 5 6=0 from h)
theorem c9O{a b c:Int}(h:B2 4 a b c=0):(0≤a∧a≤5)∧(0≤b∧b≤5)∧0≤c∧c≤3:=by
 obtain⟨h1,h2,h3⟩:=b8v (show P8 (G2 a 0 5 6) (G2 b 0 5 6) (G2 c 0 3 5)=0 from h)
 exact⟨in0 (by decide) h1,in0 (by decide) h2,in0 (by decide) h3⟩
theorem c9P{a b c:Int}(h:B2 5 a b c=0):(0≤a∧a≤5)∧(0≤b∧b≤3) ∧ -1≤c∧c≤5:=by
 obtain⟨h1,h2,h3⟩:=b8v (show P8 (G2 a 0 5 6) (G2 b 0 3 5) (G2 c (-1) 5 6)=0 from h)
 exact⟨in0 (by decide) h1,in0 (by decide) h2,in0 (by decide) h3⟩
theorem c9Q{a b c:Int}(h:B2 6 a b c=0):(0≤a∧a≤5)∧(-1≤b∧b≤5) ∧ -1≤c∧c≤5:=by
 obtain⟨h1,h2,h3⟩:=b8v (show P8 (G2 a 0 5 7) (G2 b (-1) 5 6) (G2 c (-1) 5 13)=0 from h)
 exact⟨in0 (by decide) h1,in0 (by decide) h2,in0 (by decide) h3⟩
theorem c9R{a b c:Int}(h:B2 7 a b c=0):(0≤a∧a≤5)∧(0≤b∧b≤5):=by
 obtain⟨h1,h2,_⟩:=b8v (show P8 (G2 a 0 5 6) (G2 b 0 5 7) 0=0 from h)
 exact⟨in0 (by decide) h1,in0 (by decide) h2⟩
theorem c9S{a b c:Int}(h:B2 8 a b c=0):(0≤a∧a≤5)∧(-1≤b∧b≤5):=by
 obtain⟨h1,h2,_⟩:=b8v (show P8 (G2 a 0 5 6) (G2 b (-1) 5 6) 0=0 from h)
 exact⟨in0 (by decide) h1,in0 (by decide) h2⟩
theorem c9T{a b c:Int}(h:B2 9 a b c=0):(0≤a∧a≤5)∧(0≤b∧b≤5):=c6p (show B2 2 a b c=0 from h)
theorem c8j{a b c:Int}(h:B2 10 a b c=0):(0≤a∧a≤5)∧(0≤b∧b≤5):=c6p (show B2 2 a b c=0 from h)
section
variable{x:Hp}(hx:HpS x)
include hx
theorem b1v{r:Int}(h:0≤r∧r≤5):ix x.Roots r=some (sd x r):=by
 have:=hx.r6
 obtain⟨n,rfl⟩:∃n:Nat,r=n:=⟨r.toNat,by omega⟩
 have hn:n<x.Roots.length:=by omega
 rw[l5 hn]
 unfold sd
 rw[if_neg (by omega),Int.toNat_natCast,List.getD_eq_getElem?_getD,List.getElem?_eq_getElem hn]
 rfl
theorem b3v{r:Int}(h:¬(0≤r∧r≤5)):sd x r=0:=by
 have:=hx.r6
 unfold sd
 split
 ·rfl
 ·rw[List.getD_eq_getElem?_getD,List.getElem?_eq_none (by omega)]
  rfl
theorem a8w(r:Int):sd x r=0∨sd x r∈lv x.S:=by
 by_cases h:0≤r∧r≤5
 ·have e:=b1v hx h
  unfold ix at e
  rw[if_pos h.1] at e
  exact hx.rt _ (List.mem_of_getElem? e)
 ·exact .inl (b3v hx h)
theorem b1w(r:Int):sd x r≤9223372036854775807:=by
 rcases a8w hx r with h | h
 ·omega
 ·have:=J9 hx.sr h;omega
theorem a5G(r:Int):I0 x r=some (sd x r):=by
 have h6:=hx.r6
 unfold I0
 by_cases h:0≤r∧r≤5
 ·rw[if_neg (by simp;omega),b1v hx h]
  rfl
 ·rw[if_pos (by simp;omega),b3v hx h]
theorem c3A{r:Int}(h:r≤5):a3g (hO x) r=some (sd x r):=by
 unfold a3g
 by_cases q:r<0
 ·rw[if_pos (by simpa using q),b3v hx (by omega)]
 ·rw[if_neg (by simpa using q),show (hO x).Roots=x.Roots from rfl,b1v hx (by omega)]
  rfl
theorem a4C(r:Int):I5 x r=some (asd x r):=by
 unfold I5 asd
 rw[a5G hx,d1q]
 by_cases h:sd x r=0
 ·rw[if_pos (by simpa using h),if_pos h]
 ·rw[if_neg (by simpa using h),if_neg h]
theorem a87{r:Int}(h:0≤r∧r≤5):O8 (hO x) r=some (asd x r):=by
 unfold O8 asd
 rw[show (hO x).Roots=x.Roots from rfl,b1v hx h,d1q]
 by_cases h:sd x r=0
 ·rw[if_pos (by simpa using h),if_pos h]
 ·rw[if_neg (by simpa using h),if_neg h]
theorem c3D{h:Int}(hh:h≤9223372036854775807):V8 x h=some (ser x h):=by
 obtain⟨e,h1,_⟩:=Q4 (p8.2 hx.sr) hh
 unfold V8
 rw[h1]
 rfl
theorem c3C{h:Int}(hh:h≤9223372036854775807):a0v (hO x) h=some (ser x h):=by
 obtain⟨e,h1,_⟩:=Q4 (p8.2 hx.sr) hh
 unfold a0v
 rw[show (hO x).S=sO x.S from rfl,a3F x.S (by have:=hx.sr.len;omega) hh,h1]
 rfl
theorem b6I(r:Int):Q7 x r=some (ser x (sd x r)):=by
 unfold Q7
 rw[a5G hx,d1q,c3D hx (b1w hx r)]
 rfl
theorem c0j:ser x 0=0:=by
 unfold ser
 rw[a8q (p8.2 hx.sr) (by omega) (b0M hx.sr)]
theorem c6i(r:Int):a6V (hO x) r=some (ser x (sd x r)):=by
 unfold a6V
 by_cases h:0≤r∧r≤5
 ·rw[if_neg (by simp;omega),show (hO x).Roots=x.Roots from rfl,b1v hx h,d1q,c3C hx (b1w hx r)]
  rfl
 ·rw[if_pos (by simp;omega),b3v hx h,c0j hx]
end
theorem c7I{x z:Hp}(hx:HpS x)(k:Ks x.S z.S){h:Int}(hh:h=0∨h∈lv x.S):ser z h=ser x h:=by
 rcases hh with e | e
 ·subst e
  unfold ser
  rw[a8q (p8.2 hx.sr) (by omega) (b0M hx.sr),a8q (p8.2 k.sr) (by omega) (b0M k.sr)]
 ·exact k.ob h e
theorem c5g{x z:Hp}(h:z.Roots=x.Roots)(r:Int):sd z r=sd x r:=by unfold sd;rw[h]
noncomputable def doR(x:Hp)(o:code_Op)(v:Hp × Int):Option (Hp × Int × Int):=
 if (v.2 != 0) then some (x,0,v.2) else (a0f v.1).bind λv5=>(O6 v.1 v5 o).bind λv6=>some (v5,v6,0)
theorem a8k{x:Hp}{o:code_Op}{n:Option Nat}(hc:B2 o.Kind o.A o.B o.C=0)(hk:∃l,a1R=some l∧y7 l o.Kind=some n):m9 x o=(b1V n ⟨x,o⟩).bind (doR x o):=by
 obtain⟨l,h1,h2⟩:=hk
 unfold m9
 rw[b2o,hc,d1q,if_neg (by simp),h1,d1q,h2,if_neg (by simp)]
 rfl
theorem c6u{x:Hp}{o:code_Op}(hc:B2 o.Kind o.A o.B o.C≠0):m9 x o=some (x,0,B2 o.Kind o.A o.B o.C)∧A2 (hO x) ⟨o.Kind,o.A,o.B,o.C⟩=some (hO x,0,B2 o.Kind o.A o.B o.C):=by
 constructor
 ·unfold m9
  rw[b2o,d1q,if_pos (by simpa using hc)]
 ·unfold A2
  rw[a7f,d1q,if_pos (by simpa using hc)]
section
variable{x:Hp}{a b c:Int}
theorem c9U(hc:B2 1 a b c=0):m9 x ⟨1,a,b,c⟩=(N5 ⟨x,⟨1,a,b,c⟩⟩).bind (doR x ⟨1,a,b,c⟩):=a8k (o:=⟨1,a,b,c⟩) (n:=some 96) hc ⟨_,rfl,rfl⟩
theorem c9V(hc:B2 2 a b c=0):m9 x ⟨2,a,b,c⟩=(F3 ⟨x,⟨2,a,b,c⟩⟩).bind (doR x ⟨2,a,b,c⟩):=a8k (o:=⟨2,a,b,c⟩) (n:=some 97) hc ⟨_,rfl,rfl⟩
theorem c9W(hc:B2 3 a b c=0):m9 x ⟨3,a,b,c⟩=(U7 ⟨x,⟨3,a,b,c⟩⟩).bind (doR x ⟨3,a,b,c⟩):=a8k (o:=⟨3,a,b,c⟩) (n:=some 98) hc ⟨_,rfl,rfl⟩
theorem c9X(hc:B2 4 a b c=0):m9 x ⟨4,a,b,c⟩=(U8 ⟨x,⟨4,a,b,c⟩⟩).bind (doR x ⟨4,a,b,c⟩):=a8k (o:=⟨4,a,b,c⟩) (n:=some 99) hc ⟨_,rfl,rfl⟩
theorem c9Y(hc:B2 5 a b c=0):m9 x ⟨5,a,b,c⟩=(Q8 ⟨x,⟨5,a,b,c⟩⟩).bind (doR x ⟨5,a,b,c⟩):=a8k (o:=⟨5,a,b,c⟩) (n:=some 100) hc ⟨_,rfl,rfl⟩
theorem c9Z(hc:B2 6 a b c=0):m9 x ⟨6,a,b,c⟩=(N6 ⟨x,⟨6,a,b,c⟩⟩).bind (doR x ⟨6,a,b,c⟩):=a8k (o:=⟨6,a,b,c⟩) (n:=some 101) hc ⟨_,rfl,rfl⟩
theorem c90(hc:B2 7 a b c=0):m9 x ⟨7,a,b,c⟩=(R9 ⟨x,⟨7,a,b,c⟩⟩).bind (doR x ⟨7,a,b,c⟩):=a8k (o:=⟨7,a,b,c⟩) (n:=some 102) hc ⟨_,rfl,rfl⟩
theorem c91(hc:B2 8 a b c=0):m9 x ⟨8,a,b,c⟩=(U9 ⟨x,⟨8,a,b,c⟩⟩).bind (doR x ⟨8,a,b,c⟩):=a8k (o:=⟨8,a,b,c⟩) (n:=some 103) hc ⟨_,rfl,rfl⟩
theorem c92(hc:B2 9 a b c=0):m9 x ⟨9,a,b,c⟩=(Y0 ⟨x,⟨9,a,b,c⟩⟩).bind (doR x ⟨9,a,b,c⟩):=a8k (o:=⟨9,a,b,c⟩) (n:=some 104) hc ⟨_,rfl,rfl⟩
theorem c8n(hc:B2 10 a b c=0):m9 x ⟨10,a,b,c⟩=(L7 ⟨x,⟨10,a,b,c⟩⟩).bind (doR x ⟨10,a,b,c⟩):=a8k (o:=⟨10,a,b,c⟩) (n:=some 105) hc ⟨_,rfl,rfl⟩
theorem c1O{k:Int}(hk:k=11∨k=12)(hc:B2 k a b c=0):m9 x ⟨k,a,b,c⟩=some (x,0,14)∧A2 (hO x) ⟨k,a,b,c⟩=some (hO x,0,14):=by
 constructor
 ·unfold m9
  rw[b2o,hc,d1q,if_neg (by simp)]
  rcases hk with rfl | rfl <;> rfl
 ·unfold A2 a0B
  rw[a7f,hc,d1q,if_neg (by simp)]
  rcases hk with rfl | rfl <;> rfl
variable{y:c5}
def rT(y:c5)(a:Int)(v:Int × Int):Option (c5 × Int × Int):=
 if (v.2 != 0) then some (y,0,v.2) else (a18 y a v.1).bind λv15=>(R1 v15.1).bind λv16=>(a6V v16 a).bind λv17=>some (v16,v17,0)
def rO(y:c5)(v:c5 × Int × Int):Option (c5 × Int × Int):=
 if (v.2.2 != 0) then some (y,0,v.2.2) else (R1 v.1).bind λv8=>(a0v y v.2.1).bind λv9=>some (v8,v9,0)
theorem c0a{k:Int}(hk:k=2∨k=3∨k=4∨k=7∨k=9)(hc:B2 k a b c=0):A2 y ⟨k,a,b,c⟩=(a0C y ⟨k,a,b,c⟩).bind (rT y a):=by
 unfold A2 a0B
 rw[a7f,hc,d1q,if_neg (by simp)]
 rcases hk with rfl | rfl | rfl | rfl | rfl <;> rfl
theorem b99{k:Int}(hk:k=5∨k=6∨k=8)(hc:B2 k a b c=0):A2 y ⟨k,a,b,c⟩=(Y4 y ⟨k,a,b,c⟩).bind (rO y):=by
 unfold A2 a0B
 rw[a7f,hc,d1q,if_neg (by simp)]
 rcases hk with rfl | rfl | rfl <;> rfl
theorem c86(hc:B2 1 a b c=0):A2 y ⟨1,a,b,c⟩=(a01 y.S b c).bind λv10=>if (v10.2.2 != 0) then some (y,0,v10.2.2) else (a18 ⟨v10.1,y.Roots,y.Cells,y.T,y.Q⟩ a v10.2.1).bind λv11=>(R1 v11.1).bind λv12=>(a6V v12 a).bind λv13=>some (v12,v13,0):=by
 unfold A2 a0B
 rw[a7f,hc,d1q,if_neg (by simp)]
 rfl
theorem c7A(hc:B2 10 a b c=0):A2 y ⟨10,a,b,c⟩=(ix y.Roots a).bind λv3=>(ix y.Roots b).bind λv4=>if (v3==v4) then some (y,1,0) else some (y,0,0):=by
 unfold A2 a0B
 rw[a7f,hc,d1q,if_neg (by simp)]
 rfl
end
end Go.Sh
namespace Go.Sh
section
variable{s:store_Store}(hR:SR s){i:Nat}(hi:i<s.S.Cells.length)
include hR hi
theorem c7Q(st g:Int):V9 (sO s) ⟨(pl (sO s)).Cells.set i ⟨st,g,0⟩,(pl (sO s)).Last⟩=some ⟨(sO s).Cells.set i ⟨st,g,oo (ce s i).Val⟩,s.S.Last,s.Serial⟩:=by
 have hlen:=hR.len
 have J0:i<(pl (sO s)).Cells.length:=by rw[a0u,y5];exact hi
 rw[b3I _ _ (by rw[y5];omega) (by simp[a0u])]
 congr 1
 congr 1
 refine List.ext_getElem (by simp) λk h1 h2=>?_
 have hk:k<s.S.Cells.length:=by simpa[y5] using h1
 have hk2:k<(sO s).Cells.length:=by rw[y5];exact hk
 have hk3:k<(pl (sO s)).Cells.length:=by rw[a0u];exact hk2
 simp only[List.getElem_map,List.getElem_range,List.getElem_set]
 have e1:(sO s).Cells.getD k ⟨0,0,oo z0⟩=cO (ce s k):=by
  rw[List.getD_eq_getElem?_getD,List.getElem?_eq_getElem hk2,C7 hk]
  simp[sO]
 have e2:((pl (sO s)).Cells.set i ⟨st,g,0⟩).getD k ⟨0,0,0⟩=if k=i then ⟨st,g,0⟩ else plc k (cO (ce s k)):=by
  rw[a4s J0]
  split
  ·rfl
  ·rw[List.getD_eq_getElem?_getD,List.getElem?_eq_getElem hk3,C7 hk]
   simp[pl,sO]
 rw[e1,e2]
 by_cases e:k=i
 ·subst e
  rw[if_pos rfl,if_pos rfl]
  rfl
 ·rw[if_neg e,if_neg (Ne.symm e)]
  rw[C7 hk]
  simp[sO,plc,cO]
theorem c7R(st g:Int)(o:y4):a0b ⟨(sO s).Cells.set i ⟨st,g,oo (ce s i).Val⟩,s.S.Last,s.Serial⟩ (i:Int) o=some ⟨(sO s).Cells.set i ⟨st,g,o⟩,s.S.Last,s.Serial⟩:=by
 have hlen:=hR.len
 unfold a0b
 have hi2:i<((sO s).Cells.set i ⟨st,g,oo (ce s i).Val⟩).length:=by simp[y5];exact hi
 rw[N4 (by omega) (by simp[y5];omega),d1q,l5 hi2,d1q]
 simp[List.set_set]
theorem c3d:∃h:i<(pl (sO s)).Cells.length,(pl (sO s)).Cells[i]=⟨(ce s i).State,(ce s i).Gen,(i:Int)⟩:=by
 have J0:i<(pl (sO s)).Cells.length:=by rw[a0u,y5];exact hi
 refine⟨J0,?_⟩
 rw[C7 hi]
 simp[pl,sO,plc,cO]
end
theorem c7O{s:store_Store}(hR:SR s):(∀i,i<s.S.Cells.length→(ce s i).State≠0)→a4H (pl (sO s)) 0=some (pl (sO s),0,4):=λhf=>by
 have hlen:=hR.len
 have el:(pl (sO s)).Cells.length=s.S.Cells.length:=by rw[a0u,y5]
 unfold a4H
 simp only[jn]
 refine D5 (pl (sO s)).Cells.length (λk=>True) (by omega) trivial (λk hk _=>?_) (λhP=>⟨.inr (),by simp,rfl⟩)
 refine .inl ⟨?_,trivial⟩
 obtain⟨h1,h2⟩:=c3d hR (show k<s.S.Cells.length by omega)
 have:=hf k (by omega)
 simp only[Int.ofNat_lt,hk,decide_true,if_true,l5 hk,d1q]
 rw[h2,if_neg (by simpa using this),g7]
theorem c5p{s:store_Store}(hR:SR s){i:Nat}(hF:Fst s i):a4H (pl (sO s)) 0=some (⟨(pl (sO s)).Cells.set i ⟨1,(ce s i).Gen,0⟩,(pl (sO s)).Last⟩,hdl s i,0):=by
 have hlen:=hR.len
 have el:(pl (sO s)).Cells.length=s.S.Cells.length:=by rw[a0u,y5]
 obtain⟨hi,h0,hmin⟩:=hF
 have hc:=hR.cell i hi
 have l9:=hR.l9
 unfold a4H
 simp only[jn]
 refine D5 (pl (sO s)).Cells.length (λk=>k≤i) (by omega) (by omega) (λk hk hP=>?_) (λhP=>by omega)
 obtain⟨h1,h2⟩:=c3d hR (show k<s.S.Cells.length by omega)
 rcases Nat.lt_or_ge k i with g | g
 ·refine .inl ⟨?_,g⟩
  have:=hmin k g
  simp only[Int.ofNat_lt,hk,decide_true,if_true,l5 hk,d1q]
  rw[h2,if_neg (by simpa using this),g7]
 ·have:k=i:=by omega
  subst this
  refine .inr ⟨.inl _,?_,rfl⟩
  simp only[Int.ofNat_lt,hk,decide_true,if_true,l5 hk,d1q]
  rw[h2,if_pos (by simpa using h0)]
  have w3:∀c:o9,S9 (pl (sO s)) (k:Int) c=some ⟨(pl (sO s)).Cells.set k c,(pl (sO s)).Last⟩:=λc=>by
   unfold S9
   rw[N4 (by omega) (by omega),d1q,l5 hk,d1q,Int.toNat_natCast]
  rw[w3,d1q,a3R,if_pos (by dsimp only;omega),d1q]
  rfl
theorem c8F{s:store_Store}(hR:SR s)(hb:s.Serial<9223372036854775807)(a p:Int) :
  (∃e,e≠0∧N2 s a p=some (s,0,e)∧a01 (sO s) a p=some (sO s,0,e)) ∨
  ((0≤a∧a≤4)∧(-1≤p∧p≤5)∧∃i,Fst s i∧N2 s a p=some (mkS s i a.toNat p,hdl s i,0)∧a01 (sO s) a p=some (sO (mkS s i a.toNat p),hdl s i,0)):=by
 have hser:=hR.ser
 have hlen:=hR.len
 have r1:∀n:Nat,n≤4→a9O (n:Int)=some (List.replicate n 0,0):=λn hn=>by
  unfold a9O
  rw[if_neg (by simp;omega),b7j (by omega) (by omega)]
  rfl
 rcases c5W hR hb a p with ⟨h1,e⟩ | ⟨h1,h2,e⟩ | ⟨h1,h2,h3,e⟩ | ⟨h1,h2,i,h3,e⟩
 ·refine .inl ⟨1,by decide,e,?_⟩
  unfold a01 a9O
  rw[if_pos (by simp;omega)]
  rfl
 ·refine .inl ⟨13,by decide,e,?_⟩
  obtain⟨n,rfl⟩:∃n:Nat,a=n:=⟨a.toNat,by omega⟩
  unfold a01
  rw[r1 n (by omega),d1q,if_neg (by simp),if_pos (by simp;omega)]
 ·refine .inl ⟨4,by decide,e,?_⟩
  obtain⟨n,rfl⟩:∃n:Nat,a=n:=⟨a.toNat,by omega⟩
  unfold a01
  rw[r1 n (by omega),d1q,if_neg (by simp),if_neg (by simp;omega),a1S _ (by rw[y5];omega),d1q,c7O hR h3,d1q,if_pos (by simp)]
 ·refine .inr ⟨h1,h2,i,h3,e,?_⟩
  obtain⟨n,rfl⟩:∃n:Nat,a=n:=⟨a.toNat,by omega⟩
  have hi:=h3.1
  have hc:=hR.cell i hi
  have l9:=hR.l9
  unfold a01
  rw[r1 n (by omega),d1q,if_neg (by simp),if_neg (by simp;omega),a1S _ (by rw[y5];omega),d1q,c5p hR h3,d1q,if_neg (by simp),c7Q hR hi,d1q,a6J,if_pos (by unfold Hnd hdl;dsimp only;omega),d1q,
   show (hdl s i-1) % 32=(i:Int) by unfold hdl;omega,c7R hR hi,d1q,E0 (by show _≤s.Serial+1;omega) (by show s.Serial+1≤_;omega)]
  unfold mkS
  rw[Int.toNat_natCast]
  simp only[sO,List.map_set]
  rfl
end Go.Sh
