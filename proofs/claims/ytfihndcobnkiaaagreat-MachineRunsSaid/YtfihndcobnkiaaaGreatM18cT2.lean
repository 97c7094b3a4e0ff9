/-
 More of the theory.
-/
import Derived.Test.YtfihndcobnkiaaaGreatM18cT
set_option linter.unusedVariables false
set_option linter.unusedSimpArgs false
set_option linter.unusedSectionVars false
namespace Go.Sh
theorem a9I(x:Hp)(h:Int):(D3 x h).Roots=x.Roots∧(D3 x h).a7=x.a7∧(D3 x h).T=x.T∧(D3 x h).Q=x.Q:=by
 rw[b3g]
 exact⟨rfl,rfl,rfl,rfl⟩
theorem a6N{x:Hp}(hR:SR x.S)(h:Int):SR (D3 x h).S:=(I4 hR h λc=>E6).sr
section
variable{x:Hp}(hx:V1 x)(hS:∀k∈lv x.S,(ob x.S k).Strong≤9223372036854775807)
include hx hS
theorem a9d{h:Int}(hh:h=0∨h∈lv x.S):h≤9223372036854775807:=by
 rcases hh with q | q
 ·omega
 ·have:=K1 hx.sh.sr q;omega
theorem c4H(k:Int){h:Int}(hh:h≤9223372036854775807):a7b x k h=some (if k<0∨5<k then (x,6) else if h=0∨h∈lv x.S then (Q2 x k.toNat h,0) else (x,3)):=by
 have hR:=hx.sh.sr
 have r6:=hx.sh.r6
 unfold a7b
 by_cases hk:k<0∨5<k
 ·rw[if_pos hk,if_pos (by rw[r6];simp;omega)]
 ·rw[if_neg hk,if_neg (by rw[r6];simp;omega),a1s hR hh,d1c]
  by_cases hn:h=0∨h∈lv x.S
  ·rw[if_pos hn,decide_eq_true hn,if_neg (by simp)]
   obtain⟨n,rfl⟩:∃n:Nat,k=n:=⟨k.toNat,by omega⟩
   have hn6:n<6:=by omega
   have hnl:n<x.Roots.length:=by omega
   have old:x.Roots[n]≤9223372036854775807:=a9d hx hS (hx.sh.rt _ (List.getElem_mem hnl))
   have e1:=a9I x h
   have hn2:n<(D3 x h).Roots.length:=by rw[e1.1];exact hnl
   rw[n8 hnl,d1c]
   unfold H2 Q8 F0
   rw[a7o hR hh hS,d1c]
   dsimp only
   rw[N7 (by omega) (by rw[e1.1];omega),d1c,n8 hn2,d1c,d1c]
   have hrel:=a5v (x:=wR (D3 x h) (x.Roots.set n h)) (a6N hR h) old
   rw[Int.toNat_natCast,e1.1,show D7 ⟨(D3 x h).S,x.Roots.set n h,(D3 x h).a7,(D3 x h).T,(D3 x h).Q⟩ x.Roots[n]=_ from hrel]
   unfold Q2
   rw[List.getD_eq_getElem?_getD,List.getElem?_eq_getElem hnl]
   rfl
  ·rw[if_neg hn,decide_eq_false hn,if_pos (by simp)]
theorem c21(k:Int){h:Int}(hh:h≤9223372036854775807):a17 (hO x) k h=some (if k<0∨5<k then (hO x,6) else if h=0∨h∈lv x.S then (hO (Q2 x k.toNat h),0) else (hO x,3)):=by
 have hR:=hx.sh.sr
 have r6:=hx.sh.r6
 unfold a17
 by_cases hk:k<0∨5<k
 ·rw[if_pos hk,if_pos (by simp;omega)]
 ·rw[if_neg hk,if_neg (by simp;omega),a7c hR hh,d1c]
  by_cases hn:h=0∨h∈lv x.S
  ·rw[if_pos hn,decide_eq_true hn,if_neg (by simp)]
   obtain⟨n,rfl⟩:∃n:Nat,k=n:=⟨k.toNat,by omega⟩
   have hnl:n<x.Roots.length:=by omega
   have hnl':n<(hO x).Roots.length:=hnl
   have old:x.Roots[n]≤9223372036854775807:=a9d hx hS (hx.sh.rt _ (List.getElem_mem hnl))
   have e1:=a9I x h
   have r6':(hO x).Roots.length=6:=r6
   rw[n8 hnl',d1c,a9H hR hh hS,d1c,N7 (by omega) (by rw[r6'];omega),d1c,n8 hnl',d1c]
   have hrel:=a7n (x:=wR (D3 x h) (x.Roots.set n h)) (a6N hR h) old
   rw[Int.toNat_natCast]
   rw[show E8 ⟨(hO (D3 x h)).S,(hO x).Roots.set n h,(hO (D3 x h)).a7,(hO (D3 x h)).T,(hO (D3 x h)).Q⟩ (hO x).Roots[n]=_ from hrel]
   unfold Q2
   rw[List.getD_eq_getElem?_getD,List.getElem?_eq_getElem hnl]
   rfl
  ·rw[if_neg hn,decide_eq_false hn,if_pos (by simp)]
omit hx hS in
theorem c7T {l:List Int} {n:Nat} (hn:n<l.length):b0W l n=some (l[n],0)∧b0w l n=some (l[n],0):=by
 constructor
 ·unfold b0W a5K
  rw[d1c,if_neg (by simp;omega),n8 hn,d1c]
 ·unfold b0w
  rw[if_neg (by simp;omega),n8 hn,d1c]
omit hx hS in
theorem c48 {l:List Int} {k:Int} (hk:¬(0≤k∧k<l.length)):b0W l k=some (0,5)∧b0w l k=some (0,5):=by
 constructor
 ·unfold b0W a5K
  rw[d1c,if_pos (by simp;omega)]
 ·unfold b0w
  rw[if_pos (by simp;omega)]
theorem b03(h k:Int)(hh:h≤9223372036854775807):(∃e,e≠0∧X0 x.S h k=some (0,e)∧a1w (sO x.S) h k=some (0,e)) ∨
  (h∈lv x.S∧∃n:Nat,k=n∧∃hn:n<(ob x.S h).Fields.length,X0 x.S h k=some ((ob x.S h).Fields[n],0)∧a1w (sO x.S) h k=some ((ob x.S h).Fields[n],0)):=by
 have hR:=hx.sh.sr
 obtain⟨e,h1,h2⟩:=Q6 (s7.2 hR) hh
 have hg:D9 (sO x.S) h=some (oo (ob x.S h),e):=by
  rw[a3F x.S (by have:=hR.len;omega) hh,h1]
  rfl
 unfold X0 a1w
 rw[h1,d1c,hg,d1c]
 by_cases q:h∈lv x.S
 ·have:=h2.2 q
  subst this
  rw[if_neg (by simp),if_neg (by simp),show (oo (ob x.S h),(0:Int)).1.Fields=(ob x.S h).Fields from rfl]
  by_cases hk:0≤k∧k<(ob x.S h).Fields.length
  ·right
   obtain⟨n,rfl⟩:∃n:Nat,k=n:=⟨k.toNat,by omega⟩
   have hn:n<(ob x.S h).Fields.length:=by omega
   refine⟨q,n,rfl,hn,?_,?_⟩
   ·rw[(c7T hn).1]
    rfl
   ·rw[(c7T hn).2]
    rfl
  ·left
   refine⟨5,by decide,?_,?_⟩
   ·rw[(c48 hk).1]
    rfl
   ·rw[(c48 hk).2]
    rfl
 ·left
  have he:(e != 0)=true:=by simpa using λc=>q (h2.1 c)
  refine⟨e,by simpa using he,?_,?_⟩
  ·simp only[he,if_true]
  ·simp only[he,if_true]
theorem c2N{s:a8}(hR:SR s){h:Int}(hh:h∈lv s){n:Nat}(hn:n<(ob s h).Fields.length)(v:Int) :
  a7r s h n v=some (seO s h (flg (ob s h) ((ob s h).Fields.set n v)),0)∧b1S (sO s) h n v=some (sO (seO s h (flg (ob s h) ((ob s h).Fields.set n v))),0):=by
 have ok:=K0 hR hh
 have hf:=ok.fl
 have hle:=K1 hR hh
 have ho:OkO s (flg (ob s h) ((ob s h).Fields.set n v)):=⟨ok.s1,ok.s2,ok.st,ok.wk,ok.p1,ok.p2,by simpa using hf⟩
 have h1:=a9N (o:=flg (ob s h) ((ob s h).Fields.set n v)) hR hh rfl ho
 have h2:=a9O (o:=flg (ob s h) ((ob s h).Fields.set n v)) hR hh rfl ho
 constructor
 ·unfold a7r
  rw[a6t (s7.2 hR) hh,d1c,if_neg (by simp)]
  unfold b3y a5K
  dsimp only
  rw[d1c,if_neg (by simp;omega),a6w (by omega) (by omega),d1c]
  have e:cpy (List.replicate (ob s h).Fields.length (0:Int)) (ob s h).Fields=some (ob s h).Fields:=by
   unfold cpy
   rw[if_pos (by simp)]
   simp
  rw[e,d1c,n8 hn,d1c,d1c,if_neg (by simp),Int.toNat_natCast]
  dsimp only
  rw[show I0 s h ⟨(ob s h).Serial,(ob s h).Strong,(ob s h).Weak,(ob s h).Prog,(ob s h).Started,(ob s h).Fields.set n v⟩=_ from h1]
  rfl
 ·unfold b1S
  rw[a3F s (by have:=hR.len;omega) (by omega),a6t (s7.2 hR) hh,Option.map_some,d1c,if_neg (by simp)]
  unfold b20
  have hn':n<(oo (ob s h)).Fields.length:=hn
  have hf':(oo (ob s h)).Fields.length≤4:=hf
  dsimp only
  rw[if_neg (by simp;omega),N7 (by omega) (by omega),d1c,n8 hn',d1c,d1c,if_neg (by simp),Int.toNat_natCast]
  dsimp only
  rw[show J5 (sO s) h ⟨(oo (ob s h)).Serial,(oo (ob s h)).Strong,(oo (ob s h)).Weak,(oo (ob s h)).Prog,(oo (ob s h)).Started,(oo (ob s h)).Fields.set n v⟩=_ from h2]
  rfl
theorem c1M(h k v:Int)(hh:h≤9223372036854775807)(hv:v≤9223372036854775807) :
  (∃e,e≠0∧a1o x h k v=some (x,e)∧a2M (hO x) h k v=some (hO x,e)) ∨
  (h∈lv x.S∧(v=0∨v∈lv x.S)∧∃n:Nat,k=n∧n<(ob x.S h).Fields.length∧a1o x h k v=some (a1n x h n v,0)∧a2M (hO x) h k v=some (hO (a1n x h n v),0)):=by
 have hR:=hx.sh.sr
 unfold a1o a2M
 rcases b03 hx hS h k hh with ⟨e,he,f1,f2⟩ | ⟨hl,n,rfl,hn,f1,f2⟩
 ·left
  have he':(e != 0)=true:=by simpa using he
  refine⟨e,he,?_,?_⟩
  ·rw[f1,d1c,if_pos he']
  ·rw[show (hO x).S=sO x.S from rfl,f2,d1c,if_pos he']
 ·rw[f1,d1c,if_neg (by simp),show (hO x).S=sO x.S from rfl,f2,d1c,if_neg (by simp),a1s hR hv,d1c,a7c hR hv,d1c]
  by_cases hn2:v=0∨v∈lv x.S
  ·right
   refine⟨hl,hn2,n,rfl,hn,?_⟩
   rw[decide_eq_true hn2,if_neg (by simp),if_neg (by simp)]
   have kin:=I4 hR v (f:=a0K) λc=>E6
   have hR1:SR (D3 x v).S:=kin.sr
   have hl1:h∈lv (D3 x v).S:=by rw[show lv (D3 x v).S=lv x.S from kin.lv];exact hl
   have hof:(ob (D3 x v).S h).Fields=(ob x.S h).Fields:=by
    obtain⟨m,e⟩:=kin.ob h hh
    show (ob (stO x v a0K).S h).Fields=_
    rw[e]
   have hn1:n<(ob (D3 x v).S h).Fields.length:=by rw[hof];exact hn
   have old:(ob x.S h).Fields[n]≤9223372036854775807:=a9d hx hS (hx.sh.fl h hl _ (List.getElem_mem hn))
   have ok:=K0 hR1 hl1
   have sr2:SR (seO (D3 x v).S h (flg (ob (D3 x v).S h) ((ob (D3 x v).S h).Fields.set n v))):=a1C (o:=flg (ob (D3 x v).S h) ((ob (D3 x v).S h).Fields.set n v)) hR1 hl1 rfl ⟨ok.s1,ok.s2,ok.st,ok.wk,ok.p1,ok.p2,by simpa using ok.fl⟩
   obtain⟨p1,p2⟩:=c2N hx hS hR1 hl1 hn1 v
   have hd:(ob x.S h).Fields.getD n 0=(ob x.S h).Fields[n]:=by
    rw[List.getD_eq_getElem?_getD,List.getElem?_eq_getElem hn]
    rfl
   constructor
   ·unfold F9 Z3
    rw[a7o hR hv hS,d1c]
    dsimp only
    rw[p1,d1c,d1c]
    have hrel:=a5v (x:=wS (D3 x v) (seO (D3 x v).S h (flg (ob (D3 x v).S h) ((ob (D3 x v).S h).Fields.set n v)))) sr2 old
    rw[show D7 ⟨seO (D3 x v).S h (flg (ob (D3 x v).S h) ((ob (D3 x v).S h).Fields.set n v)),(D3 x v).Roots,(D3 x v).a7,(D3 x v).T,(D3 x v).Q⟩ (ob x.S h).Fields[n]=_ from hrel]
    unfold a1n
    rw[hd,hof]
    rfl
   ·rw[a9H hR hv hS,d1c,show (hO (D3 x v)).S=sO (D3 x v).S from rfl,p2,d1c]
    have hrel:=a7n (x:=wS (D3 x v) (seO (D3 x v).S h (flg (ob (D3 x v).S h) ((ob (D3 x v).S h).Fields.set n v)))) sr2 old
    dsimp only
    rw[show E8 ⟨sO (seO (D3 x v).S h (flg (ob (D3 x v).S h) ((ob (D3 x v).S h).Fields.set n v))),(hO (D3 x v)).Roots,(hO (D3 x v)).a7,(hO (D3 x v)).T,(hO (D3 x v)).Q⟩ (ob x.S h).Fields[n]=_ from hrel]
    unfold a1n
    rw[hd,hof]
    rfl
  ·left
   refine⟨3,by decide,?_,?_⟩
   ·rw[decide_eq_false hn2,if_pos (by simp)]
   ·rw[decide_eq_false hn2,if_pos (by simp)]
theorem c4A(k v:Int)(hk:k≤9223372036854775807)(hv:v≤9223372036854775807) :
  (∃e,e≠0∧a2K x k v=some (x,e)∧a4G (hO x) k v=some (hO x,e)) ∨
  (k∈lv x.S∧(v=0∨v∈lv x.S)∧∃r,T0 x.T k v=some r∧r.2.2=0∧a2K x k v=some (a6x x v r.1 r.2.1,0)∧a4G (hO x) k v=some (hO (a6x x v r.1 r.2.1),0)):=by
 have hR:=hx.sh.sr
 unfold a2K a4G
 by_cases k0:k=0
 ·left
  subst k0
  exact⟨2,by decide,by simp,by simp⟩
 ·rw[if_neg (by simpa using k0),if_neg (by simpa using k0),a1s hR hk,d1c,a5j hR hk,d1c,a1s hR hv,a7c hR hv]
  have hkk:(k=0∨k∈lv x.S)↔k∈lv x.S:=by simp[k0]
  by_cases hl:k∈lv x.S∧(v=0∨v∈lv x.S)
  ·obtain⟨hl,hn⟩:=hl
   rw[decide_eq_true (hkk.2 hl),decide_eq_true hl,decide_eq_true hn]
   simp only[Bool.not_true,beq_self_eq_true,K4,d1c,Bool.or_self,Bool.false_eq_true,if_false]
   obtain⟨r,r1,r2,r3,r4,r5⟩:=c0K hx.sh.hr k v
   rw[r1,d1c,show (hO x).T=x.T.map J1 from rfl,r4,d1c]
   by_cases h0:r.2.2=0
   ·right
    refine⟨hl,hn,r,rfl,h0,?_⟩
    have e1:(r.2.2 != 0)=false:=by simpa using h0
    have old:r.2.1≤9223372036854775807:=by
     rcases r5 with ⟨_,rfl⟩ | ⟨_,_,⟨i,hi,rfl⟩ | ⟨_,rfl⟩⟩ | ⟨_,_,⟨i,hi,rfl⟩ | ⟨d,_,_,_,_,rfl⟩ | ⟨_,_,rfl⟩⟩
     ·simp
     ·exact a9d hx hS (.inr (hx.sh.pr k _ ⟨i,hi,rfl⟩).2)
     ·simp
     ·exact a9d hx hS (.inr (hx.sh.pr k _ ⟨i,hi,rfl⟩).2)
     ·simp
     ·simp
    constructor
    ·rw[e1]
     simp only[Bool.false_eq_true,if_false]
     unfold H0 Q7
     rw[a7o hR hv hS,d1c,d1c]
     dsimp only
     have hrel:=a5v (x:=wT (D3 x v) r.1) (a6N hR v) old
     rw[show D7 ⟨(D3 x v).S,(D3 x v).Roots,(D3 x v).a7,r.1,(D3 x v).Q⟩ r.2.1=_ from hrel]
     rfl
    ·dsimp only
     rw[e1]
     simp only[Bool.false_eq_true,if_false]
     rw[a9H hR hv hS,d1c]
     have hrel:=a7n (x:=wT (D3 x v) r.1) (a6N hR v) old
     rw[show E8 ⟨(hO (D3 x v)).S,(hO (D3 x v)).Roots,(hO (D3 x v)).a7,r.1.map J1,(hO (D3 x v)).Q⟩ r.2.1=_ from hrel]
     rfl
   ·left
    have e1:(r.2.2 != 0)=true:=by simpa using h0
    refine⟨r.2.2,h0,by rw[if_pos e1],by dsimp only;rw[if_pos e1]⟩
  ·left
   refine⟨3,by decide,?_,?_⟩
   ·by_cases hl2:k∈lv x.S
    ·have:¬(v=0∨v∈lv x.S):=λq=>hl ⟨hl2,q⟩
     rw[decide_eq_true (hkk.2 hl2),decide_eq_false this]
     rfl
    ·rw[decide_eq_false λq=>hl2 (hkk.1 q)]
     rfl
   ·by_cases hl2:k∈lv x.S
    ·have:¬(v=0∨v∈lv x.S):=λq=>hl ⟨hl2,q⟩
     rw[decide_eq_true hl2,decide_eq_false this]
     rfl
    ·rw[decide_eq_false hl2]
     rfl
end
theorem b9i{s:a8}(hR:SR s){h:Int}{i:Nat}(q:P9 s h i):K6 s.S h=some ((gvA s i).S,0):=by
 have hi:=q.1
 have hc:=hR.cell i hi
 have l9:=hR.l9
 unfold K6 gvA
 rw[a2y hR q,d1c,if_neg (by simp),b4l hi,d1c]
 by_cases g:(ce s i).Gen=s.S.Last
 ·rw[if_pos (by simpa using g),if_pos g,a4U rfl hi hR.len]
  rfl
 ·rw[if_neg (by simpa using g),if_neg g,a4U rfl hi hR.len,F1 (by omega) (by omega)]
  rfl
theorem c14{s:a8}{i:Nat}(hi:i<s.S.a7.length):ix (sO s).a7 (i:Int)=some (cO (ce s i)):=by
 rw[b9R,b4l hi]
 rfl
theorem b9S(s:a8)(i:Nat)(c:b8):sO (E9 s i c)=⟨(sO s).a7.set i (cO c),s.S.Last,s.Serial⟩:=by
 unfold sO E9
 rw[List.map_set]
theorem b3x(t:k9)(p:s6)(hl:t.a7.length≤1000)(hp:p.a7.length=t.a7.length):W1 t p=some ⟨(List.range t.a7.length).map λk=>⟨(p.a7.getD k ⟨0,0,0⟩).State,(p.a7.getD k ⟨0,0,0⟩).Gen,(t.a7.getD k ⟨0,0,oo z0⟩).Val⟩,t.Last,t.Serial⟩:=by
 unfold W1
 simp only[jn]
 rw[c17 (b:=80) t.a7.length (λk=>⟨(p.a7.getD k ⟨0,0,0⟩).State,(p.a7.getD k ⟨0,0,0⟩).Gen,(t.a7.getD k ⟨0,0,oo z0⟩).Val⟩) (by omega) (by omega) (λk acc hk=>?_) (λacc=>by simp)]
 ·rfl
 ·have hk2:k<p.a7.length:=by omega
  simp only[Int.ofNat_lt,hk,decide_true,if_true,n8 hk,n8 hk2,d1c]
  rw[List.getD_eq_getElem?_getD,List.getElem?_eq_getElem hk2,List.getD_eq_getElem?_getD,List.getElem?_eq_getElem hk]
  rfl
theorem c1R{s:a8}(hR:SR s){h:Int}{i:Nat}(q:P9 s h i):a6C (sO s) h=some (sO (gvA s i)):=by
 have hi:=q.1
 have hc:=hR.cell i hi
 have l9:=hR.l9
 have hlen:=hR.len
 have hr:=q.rng hR
 have hH:Hnd h:=((a8h hR).2 q).2.1
 have hsl:(h-1) % 32=i:=((a8h hR).2 q).2.2.1
 have J1:i<(pl (sO s)).a7.length:=by rw[a0v,y9];exact hi
 have key:∀st g,(st:Int)=st→W1 (sO s) ⟨(pl (sO s)).a7.set i ⟨st,g,0⟩,(pl (sO s)).Last⟩=some ⟨(sO s).a7.set i ⟨st,g,oo (ce s i).Val⟩,s.S.Last,s.Serial⟩:=λst g _=>by
  rw[b3x _ _ (by rw[y9];omega) (by simp[a0v])]
  congr 1
  congr 1
  refine List.ext_getElem (by simp) λk h1 h2=>?_
  have hk:k<s.S.a7.length:=by simpa[y9] using h1
  have hk2:k<(sO s).a7.length:=by rw[y9];exact hk
  have hk3:k<(pl (sO s)).a7.length:=by rw[a0v];exact hk2
  simp only[List.getElem_map,List.getElem_range,List.getElem_set]
  have e1:(sO s).a7.getD k ⟨0,0,oo z0⟩=cO (ce s k):=by
   rw[List.getD_eq_getElem?_getD,List.getElem?_eq_getElem hk2,C9 hk]
   simp[sO]
  have e2:((pl (sO s)).a7.set i ⟨st,g,0⟩).getD k ⟨0,0,0⟩=if k=i then ⟨st,g,0⟩ else plc k (cO (ce s k)):=by
   rw[a4o J1]
   split
   ·rfl
   ·rw[List.getD_eq_getElem?_getD,List.getElem?_eq_getElem hk3,C9 hk]
    simp[pl,sO]
  rw[e1,e2]
  by_cases e:k=i
  ·subst e
   rw[if_pos rfl,if_pos rfl]
   rfl
  ·rw[if_neg e,if_neg (Ne.symm e)]
   rw[C9 hk]
   simp[sO,plc,cO]
 have fin:∀st g,(a0c ⟨(sO s).a7.set i ⟨st,g,oo (ce s i).Val⟩,s.S.Last,s.Serial⟩ (i:Int) ⟨0,0,0,0,false,[]⟩)=some (sO (E9 s i ⟨st,g,z0⟩)):=λst g=>by
  unfold a0c
  have hi2:i<((sO s).a7.set i ⟨st,g,oo (ce s i).Val⟩).length:=by simp[y9];exact hi
  rw[N7 (by omega) (by simp[y9];omega),d1c,n8 hi2,d1c,b9S]
  simp[cO,oo,List.set_set]
 unfold a6C b2X gvA
 rw[a1S _ (by rw[y9];omega),d1c,a8g s (by omega),a2y hR q,d1c,if_neg (by simp)]
 rw[b6V (by rw[y9];exact hi),d1c]
 have hgen:(plc i ((sO s).a7[i]'(by rw[y9];exact hi))).Gen=(ce s i).Gen:=by
  rw[C9 hi]
  simp[plc,sO,cO]
 have hlast:(pl (sO s)).Last=s.S.Last:=rfl
 have w3:∀c:r7,S0 (pl (sO s)) (i:Int) c=some ⟨(pl (sO s)).a7.set i c,(pl (sO s)).Last⟩:=λc=>by
  unfold S0
  rw[N7 (by omega) (by rw[a0v,y9];omega),d1c,n8 J1,d1c,Int.toNat_natCast]
 rw[hgen,hlast,a6z,if_pos hH,hsl]
 by_cases g:(ce s i).Gen=s.S.Last
 ·rw[if_pos (by simp[g]),if_pos g,w3,d1c,d1c,if_neg (by simp),key _ _ rfl,d1c,d1c,fin]
  rfl
 ·rw[if_neg (by simp;omega),if_neg g,w3,d1c,d1c,if_neg (by simp),key _ _ rfl,d1c,d1c,F1 (by omega) (by omega),fin]
  rfl
section
variable{x:Hp}(hR:SR x.S)
include hR
theorem b4q{h d:Int}(hh:h≤9223372036854775807)(hw:P9 x.S h (B4 h) → -1000≤(ce x.S (B4 h)).Val.Weak+d∧(ce x.S (B4 h)).Val.Weak+d≤1000):a0z x h d=some (mkd x h d):=by
 unfold a0z mkd
 by_cases q:P9 x.S h (B4 h)
 ·have:=hw q
  rw[if_pos q,a2y hR q,d1c]
  simp only[beq_self_eq_true,if_true]
  rw[b4l q.1,d1c,F1 (by omega) (by omega),b5M hR q,d1c]
  rfl
 ·have hno:∀i,¬P9 x.S h i:=λi hi=>q (by rw[hi.B4 hR];exact hi)
  rw[if_neg q,a2S hR hh hno,d1c]
  have:((if h=0 then 2 else 3:Int)==0)=false:=by simpa using a0M h
  simp only[this,Bool.false_eq_true,if_false]
theorem b7w{h:Int}(hh:h≤9223372036854775807)(hw:P9 x.S h (B4 h)→1≤(ce x.S (B4 h)).Val.Weak∧(ce x.S (B4 h)).Val.Weak≤1000):a1N x h=some (a8z x h):=by
 unfold a1N
 rw[b4q hR hh (λq=>by have:=hw q;omega),d1c]
 unfold mkd a8z
 by_cases q:P9 x.S h (B4 h)
 ·have hw:=hw q
  rw[if_pos q,if_pos q]
  have sr1:=b5f hR q.1 q.2.1 (d:=-1) (by omega)
  have q1:P9 (mkA x.S (B4 h) (-1)) h (B4 h):=(b1F q.1 _).2 q
  dsimp only
  rw[a2y sr1 q1,d1c,if_neg (by simp),b4l q1.1,d1c,a3d hR q.1 q.2.1,if_pos rfl]
  dsimp only
  by_cases c:(ce x.S (B4 h)).State=2∧(ce x.S (B4 h)).Val.Weak=1
  ·rw[if_pos c,if_pos (by simp[c.1,c.2]),b9i sr1 q1,d1c]
   rfl
  ·rw[if_neg c,if_neg (by simp only[Bool.and_eq_true,beq_iff_eq];omega)]
 ·have hno:∀i,¬P9 x.S h i:=λi hi=>q (by rw[hi.B4 hR];exact hi)
  rw[if_neg q,if_neg q,a2S hR hh hno,d1c]
  have:((if h=0 then 2 else 3:Int) != 0)=true:=by simpa using a0M h
  simp only[this,if_true]
theorem c0U{h:Int}(hh:h≤9223372036854775807)(hw:P9 x.S h (B4 h)→1≤(ce x.S (B4 h)).Val.Weak∧(ce x.S (B4 h)).Val.Weak≤1000):W4 (hO x) h=some (hO (a8z x h)):=by
 have hl:=hR.len
 unfold W4
 rw[show (hO x).S=sO x.S from rfl,a1S _ (by rw[y9];omega),d1c,a8g x.S hh]
 unfold a8z
 by_cases q:P9 x.S h (B4 h)
 ·have hw:=hw q
  have hr:=q.rng hR
  rw[if_pos q,a2y hR q,d1c,if_neg (by simp),c14 q.1,d1c]
  have sr1:=b5f hR q.1 q.2.1 (d:=-1) (by omega)
  have q1:P9 (mkA x.S (B4 h) (-1)) h (B4 h):=(b1F q.1 _).2 q
  have hs:J5 (sO x.S) h (oo (wkg (ce x.S (B4 h)).Val ((ce x.S (B4 h)).Val.Weak + -1)))=some (sO (mkA x.S (B4 h) (-1)),0):=by
   rw[c3b x.S hl hh,b5M hR q]
   rfl
  have hw64:w7 ((cO (ce x.S (B4 h))).Val.Weak-1)=(ce x.S (B4 h)).Val.Weak + -1:=by
   show w7 ((ce x.S (B4 h)).Val.Weak-1)=_
   rw[F1 (by omega) (by omega)]
   omega
  rw[hw64]
  rw[show J5 (sO x.S) h ⟨(cO (ce x.S (B4 h))).Val.Serial,(cO (ce x.S (B4 h))).Val.Strong,(ce x.S (B4 h)).Val.Weak + -1,(cO (ce x.S (B4 h))).Val.Prog,(cO (ce x.S (B4 h))).Val.Started,(cO (ce x.S (B4 h))).Val.Fields⟩=_ from hs,d1c,c14 q1.1,d1c,a3d hR q.1 q.2.1,if_pos rfl]
  by_cases c:(ce x.S (B4 h)).State=2∧(ce x.S (B4 h)).Val.Weak=1
  ·rw[if_pos c,if_pos (by simp[cO,c.1,c.2]),c1R sr1 q1,d1c]
   rfl
  ·rw[if_neg c,if_neg (by simp only[cO,Bool.and_eq_true,beq_iff_eq,decide_eq_true_eq];omega)]
   rfl
 ·have hno:∀i,¬P9 x.S h i:=λi hi=>q (by rw[hi.B4 hR];exact hi)
  rw[if_neg q,a2S hR hh hno,d1c]
  have:((if h=0 then 2 else 3:Int) != 0)=true:=by simpa using a0M h
  simp only[this,if_true]
end
theorem c3n{l:List c9}(hl:l.length≤1000){n:Nat}(hn:n<l.length)(h call:Int):a92 l n h call=some (l.set n (wcl h call),l[n].Target,0):=by
 unfold a92 a4T X5
 simp only[d1c]
 rw[if_neg (by simp;omega),a6w (by omega) (by omega),d1c]
 have e:cpy (List.replicate l.length (⟨0,false,0⟩:c9)) l=some l:=by
  unfold cpy
  rw[if_pos (by simp)]
  simp
 rw[e,d1c,d1c,n8 hn,d1c,d1c,Int.toNat_natCast]
theorem b85{l:List c9}(hl:l.length≤1000){n:Nat}(hn:n<l.length)(h call:Int):b1U (l.map wcR) n h call=some ((l.set n (wcl h call)).map wcR,l[n].Target,0):=by
 unfold b1U
 have hn':n<(l.map wcR).length:=by simpa using hn
 rw[if_neg (by simp;omega),N7 (by omega) (by simp;omega),d1c,n8 hn',d1c,d1c,Int.toNat_natCast,List.map_set]
 simp[wcR]
theorem c2m(l:List c9)(h:Int):nmg l h≤l.length:=List.countP_le_length
theorem c42{x:Hp}(hx:V1 x)(k h call:Int)(hh:h≤9223372036854775807)(hc : -1≤call∧call≤5) :
  (∃e,e≠0∧Y0 x k h call=some (x,e)∧a06 (hO x) k h call=some (hO x,e)) ∨
  ((h=0∨h∈lv x.S)∧∃n:Nat,k=n∧n<6∧wts x.Q n=false∧Y0 x k h call=some (a3q x n h call,0)∧a06 (hO x) k h call=some (hO (a3q x n h call),0)):=by
 have hR:=hx.sh.sr
 have c6:=hx.sh.c6
 have q30:=hx.sh.q30
 unfold Y0 a06
 by_cases hk:k<0∨5<k
 ·left
  have e1:((decide (k<0))||(decide (k≥(x.a7.length:Int))))=true:=by rw[c6];simp;omega
  have e2:((decide (k<0))||(decide (k > 5)))=true:=by simp;omega
  refine⟨7,by decide,?_,?_⟩
  ·rw[e1];rfl
  ·rw[e2];rfl
 ·obtain⟨n,rfl⟩:∃n:Nat,k=n:=⟨k.toNat,by omega⟩
  have hn6:n<6:=by omega
  have e1:((decide ((n:Int)<0))||(decide ((n:Int)≥(x.a7.length:Int))))=false:=by rw[c6];simp;omega
  have e2:((decide ((n:Int)<0))||(decide ((n:Int) > 5)))=false:=by simp;omega
  rw[e1,e2]
  simp only[beq_self_eq_true,K4,Bool.false_or]
  have hwq:a3p x.Q n=some (wts x.Q n):=c4U (by omega)
  have hwr:a1y (hO x).Q n=some (wts x.Q n):=b9G (by omega)
  rw[hwq,d1c,hwr,d1c,a1s hR hh,d1c,a7c hR hh,d1c]
  by_cases hw:wts x.Q n=true
  ·left
   rw[if_pos hw,if_pos hw]
   exact⟨7,by decide,rfl,rfl⟩
  ·have hw:wts x.Q n=false:=by simpa using hw
   rw[hw,if_neg (show ¬(false=true) by decide),if_neg (show ¬(false=true) by decide)]
   by_cases hl:h=0∨h∈lv x.S
   ·right
    refine⟨hl,n,rfl,hn6,hw,?_⟩
    have hnl:n<x.a7.length:=by omega
    rw[decide_eq_true hl,if_neg (by simp),if_neg (by simp),c3n (by omega) hnl,d1c,show (hO x).a7=x.a7.map wcR from rfl,b85 (by omega) hnl,d1c]
    have htg:tgt x n=x.a7[n].Target:=by
     unfold tgt
     rw[List.getD_eq_getElem?_getD,List.getElem?_eq_getElem hnl]
     rfl
    have wkb:∀i,i<x.S.S.a7.length→Th (ce x.S i)→0≤(ce x.S i).Val.Weak∧(ce x.S i).Val.Weak≤6:=λi hi ht=>by
     have:=(hx.wk i hi ht).1
     have:=c2m x.a7 (1+(i:Int)+32*(ce x.S i).Gen)
     omega
    have mk1:∃s2,mkd (wC x (x.a7.set n (wcl h call))) h 1=wS (wC x (x.a7.set n (wcl h call))) s2∧SR s2∧(∀k i,P9 s2 k i↔P9 x.S k i)∧(∀i,i<x.S.S.a7.length→Th (ce x.S i)→(ce x.S i).Val.Weak≤(ce s2 i).Val.Weak∧(ce s2 i).Val.Weak≤(ce x.S i).Val.Weak+1) ∧
      (h≠0→D9 (sO x.S) h=some (oo (ce x.S (B4 h)).Val,0)∧J5 (sO x.S) h (oo (wkg (ce x.S (B4 h)).Val ((ce x.S (B4 h)).Val.Weak+1)))=some (sO s2,0))∧(h=0→s2=x.S):=by
     unfold mkd
     by_cases h0:h=0
     ·have hno:¬P9 x.S h (B4 h):=λq=>by have:=q.rng hR;omega
      rw[if_neg hno]
      exact⟨x.S,rfl,hR,λ_ _=>Iff.rfl,λi _ _=>by omega,λq=>absurd h0 q,λ_=>rfl⟩
     ·have hll:=hl.resolve_left h0
      have hp:=w9 hR hll
      have hb:=wkb _ hp.1 (.inl hp.2.1)
      rw[if_pos hp.d]
      have kn:=a5m hR hp.1 (.inl hp.2.1) (d:=1) (by omega)
      refine⟨_,rfl,kn.sr,kn.ad,λi hi ht=>?_,λ_=>⟨?_,?_⟩,λq=>absurd q h0⟩
      ·rw[a3d hR hp.1 (.inl hp.2.1)]
       split
       ·rename_i e;subst e;dsimp only;omega
       ·omega
      ·rw[a3F x.S (by have:=hR.len;omega) hh,c5W hR hp]
       rfl
      ·rw[c3b x.S hR.len hh,b5M hR hp.d]
       rfl
    obtain⟨s2,m1,m2,m3,m4,m5,m6⟩:=mk1
    have hold:tgt x n≤9223372036854775807:=by
     by_cases q:tgt x n=0
     ·omega
     ·obtain⟨p,hp⟩:=(hx.sh.cl n hnl).2.2.2.1 (by rw[←htg];exact q)
      have:=hp.rng hR
      rw[htg];omega
    have hun:P9 s2 (tgt x n) (B4 (tgt x n))→1≤(ce s2 (B4 (tgt x n))).Val.Weak∧(ce s2 (B4 (tgt x n))).Val.Weak≤1000:=λq=>by
     have q':=(m3 _ _).1 q
     have r:=q'.rng hR
     have:=(hx.wk _ q'.1 q'.2.1).1
     have hp:0<nmg x.a7 x.a7[n].Target:=a9h hnl (by rw[←htg];omega)
     rw[←htg,q'.2.2] at hp
     have:=m4 _ q'.1 q'.2.1
     have:=wkb _ q'.1 q'.2.1
     omega
    have u1:=b7w (x:=wS (wC x (x.a7.set n (wcl h call))) s2) m2 hold hun
    have u2:=c0U (x:=wS (wC x (x.a7.set n (wcl h call))) s2) m2 hold hun
    have hwb:P9 x.S h (B4 h) → -1000≤(ce x.S (B4 h)).Val.Weak+1∧(ce x.S (B4 h)).Val.Weak+1≤1000:=λq=>by
     have:=wkb _ q.1 q.2.1
     omega
    have mm:=b4q (x:=wC x (x.a7.set n (wcl h call))) (d:=1) hR hh hwb
    constructor
    ·dsimp only
     rw[show a0z ⟨x.S,x.Roots,x.a7.set n (wcl h call),x.T,x.Q⟩ h 1=_ from mm,d1c,m1,←htg,u1,d1c]
     unfold a3q
     rw[m1]
    ·unfold a3q
     rw[m1]
     dsimp only
     by_cases h0:h=0
     ·rw[if_neg (by simpa using h0),←htg]
      rw[m6 h0] at u2 ⊢
      rw[show W4 ⟨(hO x).S,(hO x).Roots,(x.a7.set n (wcl h call)).map wcR,(hO x).T,(hO x).Q⟩ (tgt x n)=_ from u2,d1c]
     ·obtain⟨g1,g2⟩:=m5 h0
      have hp:=w9 hR (hl.resolve_left h0)
      have hb:=wkb _ hp.1 (.inl hp.2.1)
      rw[if_pos (by simpa using h0),show (hO x).S=sO x.S from rfl,g1,d1c]
      have e:w7 ((oo (ce x.S (B4 h)).Val).Weak+1)=(ce x.S (B4 h)).Val.Weak+1:=by
       show w7 ((ce x.S (B4 h)).Val.Weak+1)=_
       rw[F1 (by omega) (by omega)]
      dsimp only
      rw[e]
      rw[show J5 (sO x.S) h ⟨(oo (ce x.S (B4 h)).Val).Serial,(oo (ce x.S (B4 h)).Val).Strong,(ce x.S (B4 h)).Val.Weak+1,(oo (ce x.S (B4 h)).Val).Prog,(oo (ce x.S (B4 h)).Val).Started,(oo (ce x.S (B4 h)).Val).Fields⟩=_ from g2,d1c,←htg]
      dsimp only
      rw[show W4 ⟨sO s2,(hO x).Roots,(x.a7.set n (wcl h call)).map wcR,(hO x).T,(hO x).Q⟩ (tgt x n)=_ from u2,d1c]
   ·left
    rw[decide_eq_false hl]
    refine⟨3,by decide,?_,?_⟩ <;> rw[if_pos (by rfl)]
end Go.Sh
namespace Go.Sh
section
variable{x:Hp}(hx:V1 x)(hS:∀k∈lv x.S,(ob x.S k).Strong≤9223372036854775807)
include hx hS
end
end Go.Sh
namespace Go.Sh
abbrev tz:j2:=⟨0,0,0⟩
abbrev cz0:c9:=⟨0,false,0⟩
theorem D1{α:Type}{l:List α}{i:Nat}(h:i<l.length)(d:α):l.getD i d=l[i]:=by
 rw[List.getD_eq_getElem?_getD,List.getElem?_eq_getElem h]
 rfl
theorem c3r{q:TQ}{w:Int}:wts q w=true↔∃t∈q.L,t.Kind=2∧t.At=w:=by
 unfold wts
 rw[List.any_eq_true]
 simp
def TkP(x:Hp)(t:j2):Prop:=0≤t.Prog∧t.Prog≤5∧((t.Kind=1∧t.At∈lv x.S∧(ob x.S t.At).Started=true)∨(t.Kind=2∧0≤t.At∧t.At≤5))
def TkS(a b:j2):Prop:=a.Kind=b.Kind∧a.At=b.At
instance(a b:j2):Decidable (TkS a b):=by unfold TkS;infer_instance
section
variable{x:Hp}(hR:SR x.S)
include hR
theorem c4W(hq:x.Q.L.length≤1000)(hB:∀t∈x.Q.L,t.At≤9223372036854775807):∃b,b0G (hO x)=some b∧(b=true↔((∀t∈x.Q.L,TkP x t)∧x.Q.L.Pairwise (λa b=>¬TkS a b)∧x.Q.Cap=30∧x.Q.L.length≤30)):=by
 have hlen:(hO x).Q.L.length=x.Q.L.length:=by simp[hO,tqR]
 unfold b0G
 simp only[jn]
 rw[hlen]
 refine b6s x.Q.L.length (λi=>TkP x (x.Q.L.getD i tz)∧∀k,k<i→¬TkS (x.Q.L.getD k tz) (x.Q.L.getD i tz)) (by omega) (λi hi=>?_) (by simp) (λhall=>?_) (λhno=>?_)
 ·have hi':i<(hO x).Q.L.length:=by rw[hlen];exact hi
  have hg:(hO x).Q.L[i]=⟨(x.Q.L.getD i tz).Kind,(x.Q.L.getD i tz).At,(x.Q.L.getD i tz).Prog⟩:=by
   rw[D1 hi]
   simp[hO,tqR,tkR]
  have hat:=hB _ (List.getElem_mem hi)
  rw[←D1 hi tz] at hat
  simp only[Int.ofNat_lt,hi,decide_true,if_true,n8 hi',d1c,hg]
  generalize ht:x.Q.L.getD i tz=t at hat
  by_cases c1:((((t.Kind != 1)&&(t.Kind != 2))||(decide (t.Prog<0)))||(decide (t.Prog > 5)))=true
  ·rw[if_pos c1]
   refine⟨_,rfl,.inr ⟨λq=>?_,rfl⟩⟩
   obtain⟨⟨q1,q2,q3⟩,_⟩:=q
   simp only[Bool.or_eq_true,Bool.and_eq_true,bne_iff_ne,ne_eq,decide_eq_true_eq] at c1
   rcases q3 with q3 | q3 <;> omega
  ·rw[if_neg c1]
   have c1':(t.Kind=1∨t.Kind=2)∧0≤t.Prog∧t.Prog≤5:=by
    simp only[Bool.or_eq_true,Bool.and_eq_true,bne_iff_ne,ne_eq,decide_eq_true_eq] at c1
    omega
   refine b6s i (λk=>¬TkS (x.Q.L.getD k tz) t) (by omega) (λk hk=>?_) (by simp) (λhall=>?_) (λhno=>?_)
   ·have hk1:k<x.Q.L.length:=by omega
    have hk':k<(hO x).Q.L.length:=by rw[hlen];exact hk1
    have hgk:(hO x).Q.L[k]=⟨(x.Q.L.getD k tz).Kind,(x.Q.L.getD k tz).At,(x.Q.L.getD k tz).Prog⟩:=by
     rw[D1 hk1]
     simp[hO,tqR,tkR]
    simp only[Int.ofNat_lt,hk,decide_true,if_true,n8 hk',d1c,hgk]
    by_cases c:TkS (x.Q.L.getD k tz) t
    ·rw[if_pos (by simpa[TkS] using c)]
     exact⟨_,rfl,.inr ⟨λq=>q c,rfl⟩⟩
    ·rw[if_neg (by simpa[TkS] using c),k7]
     exact⟨_,rfl,.inl ⟨c,rfl⟩⟩
   ·dsimp only
    obtain⟨e,h1,h2⟩:=Q6 (s7.2 hR) hat
    rw[show (hO x).S=sO x.S from rfl,a3F x.S (by have:=hR.len;omega) hat,h1,Option.map_some,d1c]
    by_cases c2:TkP x t
    ·rw[if_neg,k7]
     ·exact⟨_,rfl,.inl ⟨⟨c2,hall⟩,rfl⟩⟩
     ·obtain⟨_,_,q | q⟩:=c2
      ·have:=h2.2 q.2.1
       simp[q.1,this,oo,q.2.2]
      ·simp[q.1]
       omega
    ·rw[if_pos]
     ·exact⟨_,rfl,.inr ⟨λq=>c2 q.1,rfl⟩⟩
     ·simp only[Bool.or_eq_true,Bool.and_eq_true,beq_iff_eq,bne_iff_ne,ne_eq,Bool.not_eq_true',decide_eq_true_eq,oo]
      rcases c1'.1 with k1 | k2
      ·left
       refine⟨k1,Classical.byContradiction λq=>c2 ⟨c1'.2.1,c1'.2.2,.inl ⟨k1,?_,?_⟩⟩⟩
       ·exact h2.1 (Classical.byContradiction λq2=>q (.inl q2))
       ·cases hst:(ob x.S t.At).Started
        ·exact absurd (.inr hst) q
        ·rfl
      ·right
       refine⟨k2,?_⟩
       have:¬(0≤t.At∧t.At≤5):=λq=>c2 ⟨c1'.2.1,c1'.2.2,.inr ⟨k2,q.1,q.2⟩⟩
       omega
   ·exact⟨_,rfl,.inr ⟨λq=>hno q.2,rfl⟩⟩
 ·refine⟨_,rfl,?_⟩
  rw[Bool.and_eq_true,beq_iff_eq,decide_eq_true_iff]
  constructor
  ·rintro⟨a,b⟩
   refine⟨λt ht=>?_,?_,a,by first | exact_mod_cast b | (simp[hO,tqR] at b;omega)⟩
   ·obtain⟨i,hi,rfl⟩:=List.getElem_of_mem ht
    have:=(hall i hi).1
    rwa [D1 hi] at this
   ·rw[List.pairwise_iff_getElem]
    intro i j hi hj hij
    have:=(hall j hj).2 i hij
    rwa [D1 hi,D1 hj] at this
  ·rintro⟨_,_,a,b⟩
   exact⟨a,by first | exact_mod_cast b | (simp[hO,tqR];omega)⟩
 ·refine⟨false,rfl,?_⟩
  simp only[Bool.false_eq_true,false_iff]
  rintro⟨a,b,_⟩
  refine hno λi hi=>⟨?_,λk hk=>?_⟩
  ·rw[D1 hi]
   exact a _ (List.getElem_mem hi)
  ·have hk1:k<x.Q.L.length:=by omega
   rw[D1 hi,D1 hk1]
   exact List.pairwise_iff_getElem.1 b k i hk1 hi hk
theorem c4d(hT:HR x.T)(hB:HB x)(hr:x.Roots.length≤1000):∃b,b0F (hO x)=some b∧(b=true↔((∀h∈x.Roots,h=0∨h∈lv x.S)∧(∀h∈lv x.S,∀v∈(ob x.S h).Fields,v=0∨v∈lv x.S)∧∀k v,Has x.T k v→k∈lv x.S∧v∈lv x.S)):=by
 have hlen:(hO x).Roots.length=x.Roots.length:=rfl
 have h24:=a0X (s7.2 hR)
 unfold b0F
 simp only[jn]
 refine b6s x.Roots.length (λi=>x.Roots.getD i 0=0∨x.Roots.getD i 0∈lv x.S) (by omega) (λi hi=>?_) (by simp[hlen]) (λhall=>?_) (λhno=>?_)
 ·have hb:=hB.rb _ (List.getElem_mem hi)
  rw[hlen]
  simp only[Int.ofNat_lt,hi,decide_true,if_true]
  rw[show (hO x).Roots=x.Roots from rfl,n8 hi,d1c,a7c hR hb,d1c,D1 hi]
  by_cases c:x.Roots[i]=0∨x.Roots[i]∈lv x.S
  ·rw[decide_eq_true c,if_neg (by simp),k7]
   exact⟨_,rfl,.inl ⟨c,rfl⟩⟩
  ·rw[decide_eq_false c,if_pos (by simp)]
   exact⟨_,rfl,.inr ⟨c,rfl⟩⟩
 ·dsimp only
  have hall':∀h∈x.Roots,h=0∨h∈lv x.S:=λh hh=>by
   obtain⟨i,hi,rfl⟩:=List.getElem_of_mem hh
   have:=hall i hi
   rwa [D1 hi] at this
  rw[show (hO x).S=sO x.S from rfl,b2C (s7.2 hR),d1c]
  refine b6s (lv x.S).length (λi=>∀v∈(ob x.S ((lv x.S).getD i 0)).Fields,v=0∨v∈lv x.S) (by omega) (λi hi=>?_) (by simp) (λhall2=>?_) (λhno=>?_)
  ·have hm:=List.getElem_mem hi
   have hle:=c18 (s7.2 hR) hi
   have hfl:=(K0 hR hm).fl
   simp only[Int.ofNat_lt,hi,decide_true,if_true]
   rw[n8 hi,d1c,a3F x.S (by have:=hR.len;omega) hle,a6t (s7.2 hR) hm,Option.map_some,d1c,D1 hi]
   have hff:(oo (ob x.S (lv x.S)[i])).Fields=(ob x.S (lv x.S)[i]).Fields:=rfl
   dsimp only
   rw[hff]
   refine b6s (ob x.S (lv x.S)[i]).Fields.length (λk=>(ob x.S (lv x.S)[i]).Fields.getD k 0=0∨(ob x.S (lv x.S)[i]).Fields.getD k 0∈lv x.S) (by omega) (λk hk=>?_) (by simp) (λhall3=>?_) (λhno=>?_)
   ·have hp:=w9 hR hm
    have hb:(ob x.S (lv x.S)[i]).Fields[k]≤9223372036854775807:=by
     have e:=O5 hR hp
     exact c5p.1 hB.fb _ hp.1 _ (by rw[←e];exact List.getElem_mem hk)
    simp only[Int.ofNat_lt,hk,decide_true,if_true]
    rw[n8 hk,d1c,a7c hR hb,d1c,D1 hk]
    by_cases c:(ob x.S (lv x.S)[i]).Fields[k]=0∨(ob x.S (lv x.S)[i]).Fields[k]∈lv x.S
    ·rw[decide_eq_true c,if_neg (by simp),k7]
     exact⟨_,rfl,.inl ⟨c,rfl⟩⟩
    ·rw[decide_eq_false c,if_pos (by simp)]
     exact⟨_,rfl,.inr ⟨c,rfl⟩⟩
   ·dsimp only
    rw[k7]
    refine⟨_,rfl,.inl ⟨λv hv=>?_,rfl⟩⟩
    obtain⟨k,hk,rfl⟩:=List.getElem_of_mem hv
    have:=hall3 k hk
    rwa [D1 hk] at this
   ·refine⟨_,rfl,.inr ⟨λq=>hno λk hk=>?_,rfl⟩⟩
    rw[D1 hk]
    exact q _ (List.getElem_mem hk)
  ·dsimp only
   have hall2':∀h∈lv x.S,∀v∈(ob x.S h).Fields,v=0∨v∈lv x.S:=λh hh=>by
    obtain⟨i,hi,rfl⟩:=List.getElem_of_mem hh
    have:=hall2 i hi
    rwa [D1 hi] at this
   have h8:=a8o hT.l8
   rw[show (hO x).T=x.T.map J1 from rfl,b4B hT,d1c,List.length_map]
   refine b6s (prs x.T).length (λi=>((prs x.T).getD i ⟨0,0⟩).Key∈lv x.S∧((prs x.T).getD i ⟨0,0⟩).Val∈lv x.S) (by omega) (λi hi=>?_) (by simp) (λhall3=>?_) (λhno=>?_)
   ·have hi':i<((prs x.T).map pp).length:=by simpa using hi
    have hb:=hB.tb.has (a3O.1 (List.getElem_mem hi))
    simp only[Int.ofNat_lt,hi,decide_true,if_true]
    rw[n8 hi',d1c,List.getElem_map,a5j hR hb.1,d1c,D1 hi]
    by_cases c:(prs x.T)[i].Key∈lv x.S
    ·rw[decide_eq_true c]
     simp only[Bool.not_true,beq_self_eq_true,K4,Bool.false_or]
     rw[a5j hR hb.2,d1c]
     by_cases c2:(prs x.T)[i].Val∈lv x.S
     ·rw[decide_eq_true c2,if_neg (by simp),k7]
      exact⟨_,rfl,.inl ⟨⟨c,c2⟩,rfl⟩⟩
     ·rw[decide_eq_false c2,if_pos (by simp)]
      exact⟨_,rfl,.inr ⟨λq=>c2 q.2,rfl⟩⟩
    ·rw[decide_eq_false c]
     simp only[Bool.not_false,show ((true==false):Bool)=false from rfl,b4v,d1c,Bool.true_or,if_true]
     exact⟨_,rfl,.inr ⟨λq=>c q.1,rfl⟩⟩
   ·refine⟨true,rfl,?_⟩
    simp only[true_iff]
    refine⟨hall',hall2',λk v hkv=>?_⟩
    obtain⟨i,hi,e⟩:=List.getElem_of_mem (a3O (p:=⟨k,v⟩).2 hkv)
    have:=hall3 i hi
    rw[D1 hi,e] at this
    exact this
   ·refine⟨false,rfl,?_⟩
    simp only[Bool.false_eq_true,false_iff]
    rintro⟨_,_,q⟩
    refine hno λi hi=>?_
    rw[D1 hi]
    exact q _ _ (a3O.1 (List.getElem_mem hi))
  ·refine⟨false,rfl,?_⟩
   simp only[Bool.false_eq_true,false_iff]
   rintro⟨_,q,_⟩
   refine hno λi hi=>?_
   rw[D1 hi]
   exact q _ (List.getElem_mem hi)
 ·refine⟨false,rfl,?_⟩
  simp only[Bool.false_eq_true,false_iff]
  rintro⟨q,_⟩
  refine hno λi hi=>?_
  rw[D1 hi]
  exact q _ (List.getElem_mem hi)
def ClP(x:Hp)(i:Nat)(c:c9):Prop:=-1≤c.Call∧c.Call≤5∧(c.Target=0→c.Intact=false)∧(c.Target≠0→∃p,P9 x.S c.Target p)∧(c.Intact=true→c.Target∈lv x.S∧wts x.Q i=false)
theorem c3N(hl:x.a7.length≤1000)(hq:x.Q.L.length≤1000)(hB:∀c∈x.a7,c.Target≤9223372036854775807):∃b,b0E (hO x)=some b∧(b=true↔∀i (hi:i<x.a7.length),ClP x i x.a7[i]):=by
 have hlen:(hO x).a7.length=x.a7.length:=by simp[hO]
 unfold b0E
 simp only[jn]
 rw[hlen]
 refine b6s x.a7.length (λi=>ClP x i (x.a7.getD i cz0)) (by omega) (λi hi=>?_) (by simp) (λhall=>⟨true,rfl,?_⟩) (λhno=>⟨false,rfl,?_⟩)
 ·have hi':i<(hO x).a7.length:=by rw[hlen];exact hi
  have hg:(hO x).a7[i]=⟨(x.a7.getD i cz0).Target,(x.a7.getD i cz0).Intact,(x.a7.getD i cz0).Call⟩:=by
   rw[D1 hi]
   simp[hO,wcR]
  have hb:=hB _ (List.getElem_mem hi)
  rw[←D1 hi cz0] at hb
  simp only[Int.ofNat_lt,hi,decide_true,if_true,n8 hi',d1c,hg]
  generalize x.a7.getD i cz0=c at hb
  rw[show (hO x).S=sO x.S from rfl,a1S _ (by rw[y9];have:=hR.len;omega),d1c]
  rw[a8g x.S hb]
  obtain⟨z,z1,z2⟩:∃z,p8 x.S.S c.Target=some z∧(z.2=0↔∃p,P9 x.S c.Target p):=by
   by_cases q:∃p,P9 x.S c.Target p
   ·obtain⟨p,hp⟩:=q
    exact⟨_,a2y hR hp,by simp;exact⟨p,hp⟩⟩
   ·refine⟨_,a2S hR hb (λp hp=>q ⟨p,hp⟩),?_⟩
    simp only[q,iff_false]
    exact a0M _
  rw[z1,d1c]
  by_cases c1:((((decide (c.Call<(-1)))||(decide (c.Call > 5)))||((c.Target==0)&&c.Intact))||((c.Target != 0)&&(z.2 != 0)))=true
  ·rw[c1]
   simp only[show ((true==false):Bool)=false from rfl,Bool.false_and,b4v,d1c,Bool.true_or,if_true]
   refine⟨_,rfl,.inr ⟨λq=>?_,rfl⟩⟩
   obtain⟨q1,q2,q3,q4,q5⟩:=q
   simp only[Bool.or_eq_true,Bool.and_eq_true,decide_eq_true_eq,beq_iff_eq,bne_iff_ne,ne_eq] at c1
   rcases c1 with ((c1 | c1) | c1) | c1
   ·omega
   ·omega
   ·have:=q3 c1.1
    rw[this] at c1
    exact absurd c1.2 (by decide)
   ·exact c1.2 (z2.2 (q4 c1.1))
  ·have c1:((((decide (c.Call<(-1)))||(decide (c.Call > 5)))||((c.Target==0)&&c.Intact))||((c.Target != 0)&&(z.2 != 0)))=false:=by simpa using c1
   have c1' : -1≤c.Call∧c.Call≤5∧(c.Target=0→c.Intact=false)∧(c.Target≠0→∃p,P9 x.S c.Target p):=by
    simp only[Bool.or_eq_false_iff,Bool.and_eq_false_iff,decide_eq_false_iff_not,beq_eq_false_iff_ne,ne_eq,bne_eq_false_iff_eq] at c1
    refine⟨by omega,by omega,λq=>c1.1.2.resolve_left (λq2=>q2 q),λq=>z2.1 (c1.2.resolve_left q)⟩
   rw[c1]
   simp only[beq_self_eq_true,Bool.true_and,Bool.false_or]
   cases hin:c.Intact
   ·simp only[show ((false==true):Bool)=false from rfl,b4v,d1c,Bool.false_and,Bool.false_eq_true,if_false]
    rw[k7]
    exact⟨_,rfl,.inl ⟨⟨c1'.1,c1'.2.1,λ_=>hin,c1'.2.2.2,λq=>by rw[hin] at q;cases q⟩,rfl⟩⟩
   ·simp only[beq_self_eq_true,K4,Bool.true_and]
    rw[a5j hR hb,d1c]
    by_cases c2:c.Target∈lv x.S
    ·rw[decide_eq_true c2]
     simp only[Bool.not_true,beq_self_eq_true,K4,Bool.false_or]
     rw[show a1y (hO x).Q i=some (wts x.Q i) from b9G hq,d1c]
     cases hwt:wts x.Q i
     ·rw[if_neg (by decide),k7]
      exact⟨_,rfl,.inl ⟨⟨c1'.1,c1'.2.1,c1'.2.2.1,c1'.2.2.2,λ_=>⟨c2,hwt⟩⟩,rfl⟩⟩
     ·rw[if_pos rfl]
      refine⟨_,rfl,.inr ⟨λq=>?_,rfl⟩⟩
      have:=(q.2.2.2.2 hin).2
      rw[hwt] at this
      cases this
    ·rw[decide_eq_false c2]
     simp only[Bool.not_false,show ((true==false):Bool)=false from rfl,b4v,d1c,Bool.true_or,if_true]
     exact⟨_,rfl,.inr ⟨λq=>c2 (q.2.2.2.2 hin).1,rfl⟩⟩
 ·simp only[true_iff]
  intro i hi
  have:=hall i hi
  rwa [D1 hi] at this
 ·simp only[Bool.false_eq_true,false_iff]
  intro q
  refine hno λi hi=>?_
  rw[D1 hi]
  exact q i hi
omit hR in
theorem c2l (l:List c9) (hl:l.length≤1000) (h:Int):a8q (l.map wcR) h=some (nmg l h:Int):=by
 unfold a8q
 simp only[jn]
 rw[List.length_map,b0l l (λ(b:Int) c=>if ((h != 0)&&(c.Target==h))=true then b+1 else b) id (λk b=>0≤b∧b≤k) (by omega) (by omega) (λk hk b hI=>?_) (λb _=>by simp),d1c]
 ·congr 1
  have:∀(l:List c9) (n:Int),l.foldl (λ(b:Int) c=>if ((h != 0)&&(c.Target==h))=true then b+1 else b) n=n+(nmg l h:Int):=λl=>by
   induction l with
   | nil=>intro n;simp[nmg]
   | cons c l ih=>
    intro n
    rw[List.foldl_cons,ih]
    unfold nmg
    rw[List.countP_cons]
    split <;> simp_all <;> omega
  rw[id,this]
  omega
 ·have hk':k<(l.map wcR).length:=by simpa using hk
  simp only[Int.ofNat_lt,hk,decide_true,if_true,n8 hk',d1c,List.getElem_map,wcR]
  by_cases c:((h != 0)&&(l[k].Target==h))=true
  ·rw[if_pos c,if_pos (by rw[Bool.and_comm];exact c),F1 (by omega) (by omega),k7]
   exact⟨rfl,by omega⟩
  ·rw[if_neg c,if_neg (by rw[Bool.and_comm];exact c),k7]
   exact⟨rfl,by omega⟩
omit hR in
theorem c0r (l:List c9) (hl:l.length≤1000) (h:Int):a2e l h=some (nmg l h:Int):=by
 unfold a2e M3 a1V
 simp only[jn,d1c]
 have key:∃e,lp (S:=Int × (List Int)) (E:=(List Int)) (λ((s17,s18):Int × (List Int))=>
   if (decide (s17<(l.length:Int))) then
     (ix l s17).bind λv26=>
     if ((h != 0)&&(v26.Target==h)) then
      (app 8 s18 [s17]).bind λv28=>
      some (.inl (w7 (s17+1),v28))
     else
     some (.inl (w7 (s17+1),s18))
   else
   some (.inr s18)) (0,[])=some e∧e.length=nmg l h:=by
  refine a0W l.length (λk (acc:List Int)=>acc.length=nmg (l.take k) h) (λ(e:List Int)=>e.length=nmg l h) (by omega) rfl (λk acc hk hP=>?_) (λacc hP=>⟨acc,by simp,by rwa [List.take_length] at hP⟩)
  left
  have hle:acc.length≤k:=by
   rw[hP]
   exact Nat.le_trans (c2m _ _) (by simp;omega)
  have hst:nmg (l.take (k+1)) h=nmg (l.take k) h+if ((h != 0)&&(l[k].Target==h))=true then 1 else 0:=by
   unfold nmg
   rw[List.take_succ_eq_append_getElem hk,List.countP_append,List.countP_cons,List.countP_nil]
   omega
  simp only[Int.ofNat_lt,hk,decide_true,if_true,n8 hk,d1c]
  rw[k7]
  by_cases c:((h != 0)&&(l[k].Target==h))=true
  ·rw[if_pos c,B2 (by omega) (by simp;omega),d1c]
   exact⟨_,rfl,by rw[hst,if_pos c];simp[hP]⟩
  ·rw[if_neg c]
   exact⟨_,rfl,by rw[hst,if_neg c];simpa using hP⟩
 obtain⟨e,e1,e2⟩:=key
 rw[show lp _ _=_ from e1,d1c,d1c,e2]
omit hR in
theorem c6D {s:a8} {i:Nat} (hi:i<s.S.a7.length):ix (sO s).a7 (i:Int)=some ⟨(ce s i).State,(ce s i).Gen,⟨(ce s i).Val.Serial,(ce s i).Val.Strong,(ce s i).Val.Weak,(ce s i).Val.Prog,(ce s i).Val.Started,(ce s i).Val.Fields⟩⟩:=c14 hi
theorem c43(hl:x.a7.length≤1000):∃b,b0H (hO x)=some b∧(b=true↔Wk x):=by
 have hlen:(hO x).S.a7.length=x.S.S.a7.length:=by simp[hO,sO]
 have h24:=hR.len
 have l9:=hR.l9
 unfold b0H
 simp only[jn]
 rw[hlen]
 refine b6s x.S.S.a7.length (λi=>Th (ce x.S i)→(ce x.S i).Val.Weak=(nmg x.a7 (1+(i:Int)+32*(ce x.S i).Gen):Int)∧((ce x.S i).State=2→1≤(ce x.S i).Val.Weak∧(ce x.S i).Val.Fields = []∧(ce x.S i).Val.Strong=0)) (by omega) (λi hi=>?_) (by simp) (λhall=>⟨true,rfl,by simp only[true_iff];exact λi hi=>hall i hi⟩) (λhno=>⟨false,rfl,by simp only[Bool.false_eq_true,false_iff];exact λq=>hno λi hi=>q i hi⟩)
 have hc:=hR.cell i hi
 simp only[Int.ofNat_lt,hi,decide_true,if_true]
 rw[show (hO x).S=sO x.S from rfl,c6D hi,d1c]
 dsimp only
 by_cases ht:Th (ce x.S i)
 ·rw[if_neg (by unfold Th at ht;simp only[Bool.and_eq_true,bne_iff_ne,ne_eq];omega)]
  unfold b2Y
  rw[a3P,if_pos ⟨by omega,by omega,hc.2.2.1,by omega⟩,d1c,d1c,show (hO x).a7=x.a7.map wcR from rfl,c2l x.a7 hl,d1c]
  by_cases g:(ce x.S i).Val.Weak=(nmg x.a7 (1+(i:Int)+32*(ce x.S i).Gen):Int)∧((ce x.S i).State=2→1≤(ce x.S i).Val.Weak∧(ce x.S i).Val.Fields = []∧(ce x.S i).Val.Strong=0)
  ·rw[if_neg,k7]
   ·exact⟨_,rfl,.inl ⟨λ_=>g,rfl⟩⟩
   ·obtain⟨g1,g2⟩:=g
    simp only[Bool.or_eq_true,Bool.and_eq_true,bne_iff_ne,ne_eq,beq_iff_eq,decide_eq_true_eq,not_or,not_and,Decidable.not_not]
    refine⟨g1,λq=>?_⟩
    obtain⟨a,b,c⟩:=g2 q
    rw[b]
    exact⟨⟨by omega,by simp⟩,c⟩
  ·rw[if_pos]
   ·exact⟨_,rfl,.inr ⟨λq=>g (q ht),rfl⟩⟩
   ·simp only[Bool.or_eq_true,Bool.and_eq_true,bne_iff_ne,ne_eq,beq_iff_eq,decide_eq_true_eq]
    by_cases g1:(ce x.S i).Val.Weak=(nmg x.a7 (1+(i:Int)+32*(ce x.S i).Gen):Int)
    ·right
     refine Classical.byContradiction λq=>g ⟨g1,λq2=>?_⟩
     have q:¬(((ce x.S i).Val.Weak<1∨((ce x.S i).Val.Fields.length:Int) > 0)∨¬(ce x.S i).Val.Strong=0):=λq3=>q ⟨q2,q3⟩
     refine⟨by omega,List.eq_nil_of_length_eq_zero (by omega),by omega⟩
    ·exact .inl g1
 ·rw[if_pos (by unfold Th at ht;simp only[Bool.and_eq_true,bne_iff_ne,ne_eq];omega),k7]
  exact⟨_,rfl,.inl ⟨λq=>absurd q ht,rfl⟩⟩
omit hR in
theorem b2K (l:List Int) (hl:l.length≤1000):lp (S:=Int × (List Int)) (E:=(List Int)) (λ((s17,s18):Int × (List Int))=>
   if (decide (s17<(l.length:Int))) then
     (ix l s17).bind λv25=>
     if (v25 != 0) then
      (app 8 s18 [v25]).bind λv26=>
      some (.inl (w7 (s17+1),v26))
     else
     some (.inl (w7 (s17+1),s18))
   else
   some (.inr s18)) (0,[])=some (nz l):=by
 rw[M0 l (λb x=>if (x != 0)=true then b ++ [x] else b) id (λk b=>b.length≤k) (by omega) (by simp) (λk hk b hI=>?_) (λb _=>by simp)]
 ·rw[foldl_filter]
  rfl
 ·simp only[Int.ofNat_lt,hk,decide_true,if_true,n8 hk,d1c]
  rw[k7]
  by_cases c:(l[k] != 0)=true
  ·rw[if_pos c,if_pos c,B2 (by omega) (by simp;omega),d1c]
   exact⟨rfl,by simp;omega⟩
  ·rw[if_neg c,if_neg c]
   exact⟨rfl,by omega⟩
omit hR in
theorem b1M (hl:x.Roots.length≤1000) (hq:x.Q.L.length≤1000):(otr x).length≤2000:=by
 unfold otr b1v
 rw[List.length_append,List.length_map]
 have:=b8g x.Roots
 have:(x.Q.L.filter (·.Kind==1)).length≤x.Q.L.length:=List.length_filter_le ..
 omega
omit hR in
theorem c4t (hl:x.Roots.length≤1000) (hq:x.Q.L.length≤1000):b0C (hO x)=some (otr x):=by
 unfold b0C
 simp only[jn]
 rw[show (hO x).Roots=x.Roots from rfl,show lp _ _=_ from b2K x.Roots hl,d1c,show a9y (hO x).Q=some (b1v x.Q) from c7f hq,d1c]
 have:=b1M hl hq
 unfold otr at this ⊢
 rw[List.length_append] at this
 rw[B2 (by omega) (by omega)]
 rfl
omit hR in
theorem c2D (hl:x.Roots.length≤1000) (hq:x.Q.L.length≤1000):a5e x=some (otr x):=by
 unfold a5e
 simp only[jn]
 rw[show lp _ _=_ from b2K x.Roots hl,d1c,show a4N x.Q=some (b1v x.Q) from c7v hq,d1c]
 have:=b1M hl hq
 unfold otr at this ⊢
 rw[List.length_append] at this
 rw[B2 (by omega) (by omega)]
 rfl
omit hR in
theorem b6x:b4b x.S x.T (otr x)↔a2R x []:=by
 constructor
 ·intro h k hk hlt
  have:=h k hk hlt
  unfold rst inr at this
  rw[if_pos hk] at this
  rw[R5]
  unfold nms
  omega
 ·intro h k hk hlt
  have:=h k hk hlt
  rw[R5] at this
  unfold nms at this
  unfold rst inr
  rw[if_pos hk]
  omega
end
theorem b6F(x:Hp)(hB:HB x)(hc:x.S.S.a7.length≤1000)(hr:x.Roots.length≤1000)(hl:x.a7.length≤1000)(ht:x.T.length≤1000)(hq:x.Q.L.length≤1000):∃b,b0D (hO x)=some b∧(b=true↔V1 x):=by
 unfold b0D
 obtain⟨b1,e1,h1⟩:=c3E (sO x.S) (by rw[y9];exact hc)
 obtain⟨b2,e2,h2⟩:=c0I x.T ht
 rw[show (hO x).S=sO x.S from rfl,e1,d1c,show (hO x).T=x.T.map J1 from rfl,e2]
 have hno:∀ {P:Prop},¬P→(false=true↔P):=λq=>by simp[q]
 cases b1
 ·refine⟨false,by simp[p7],hno λq=>?_⟩
  have:=h1.2 (s7.2 q.sh.sr)
  cases this
 ·have hR:=s7.1 (h1.1 rfl)
  cases b2
  ·refine⟨false,by simp[p7],hno λq=>?_⟩
   have:=h2.2 q.sh.hr
   cases this
  ·have hT:=h2.1 rfl
   simp only[Bool.not_true,beq_self_eq_true,K4,d1c,Bool.or_self,Bool.false_or]
   by_cases hlen:x.Roots.length=6∧x.a7.length=6
   ·rw[if_neg (by simp[hO];omega)]
    obtain⟨b3,e3,h3⟩:=c4W hR hq hB.qb
    rw[e3,d1c]
    cases b3
    ·refine⟨false,by simp[p7],hno λq=>?_⟩
     have:=h3.2 ⟨q.sh.tk,q.sh.td,q.sh.cap,q.sh.q30⟩
     cases this
    ·obtain⟨t1,t2,t3,t4⟩:=h3.1 rfl
     obtain⟨b4,e4,h4⟩:=c4d hR hT hB hr
     simp only[beq_self_eq_true,K4,Bool.true_and]
     rw[e4,d1c]
     cases b4
     ·refine⟨false,by simp[p7],hno λq=>?_⟩
      have:=h4.2 ⟨q.sh.rt,q.sh.fl,q.sh.pr⟩
      cases this
     ·obtain⟨n1,n2,n3⟩:=h4.1 rfl
      obtain⟨b5,e5,h5⟩:=c3N hR hl hq hB.cb
      simp only[beq_self_eq_true,K4,Bool.true_and]
      rw[e5,d1c]
      cases b5
      ·refine⟨false,by simp[p7],hno λq=>?_⟩
       have:=h5.2 q.sh.cl
       cases this
      ·have c1:=h5.1 rfl
       obtain⟨b6,e6,h6⟩:=c43 hR hl
       simp only[beq_self_eq_true,K4,Bool.true_and]
       rw[e6,d1c]
       cases b6
       ·refine⟨false,by simp[p7],hno λq=>?_⟩
        have:=h6.2 q.wk
        cases this
       ·have w1:=h6.1 rfl
        simp only[beq_self_eq_true,K4,Bool.true_and]
        rw[c4t hr hq,d1c,c0e (s7.2 hR) hT hB.sb (by have:=b1M hr hq;omega),d1c]
        refine⟨_,rfl,?_⟩
        rw[decide_eq_true_iff,b6x]
        exact⟨λq=>⟨⟨hR,hT,hlen.1,hlen.2,t3,t4,t1,t2,n1,n2,n3,c1⟩,w1,q⟩,λq=>q.fair⟩
   ·rw[if_pos (by simp[hO];omega)]
    exact⟨false,rfl,hno λq=>hlen ⟨q.sh.r6,q.sh.c6⟩⟩
end Go.Sh
namespace Go.Sh
theorem c8p{K V:Type}[BEq K](hr:∀a:K,(a==a)=true)(he:∀a b:K,(a==b)=true→a=b)(m:List (K × V))(k:K)(v:V)(k':K):z7 (o0 m k v) k'=if k'==k then some v else z7 m k':=by
 induction m with
 | nil=>simp[o0,z7]
 | cons p m ih=>
  unfold o0
  by_cases h:(k==p.1)=true
  ·have:=he _ _ h
   subst this
   rw[if_pos h]
   unfold z7
   by_cases h':(k'==p.1)=true
   ·simp[h']
   ·simp[h']
  ·rw[if_neg h]
   unfold z7
   by_cases h':(k'==p.1)=true
   ·have:=he _ _ h'
    subst this
    have:(p.1==k)≠true:=λq=>by
     have:=he _ _ q
     subst this
     exact h (hr _)
    simp[h',this]
   ·simp only[h',ih]
    simp
theorem c0S(a:j2):(a==a)=true:=by
 show ((a.Kind==a.Kind)&&((a.At==a.At)&&((a.Prog==a.Prog)&&true)))=true
 simp
section
variable{x:Hp}(hx:V1 x)(hB:HB x)
include hx hB
theorem b2H:V8 x=some true:=by
 have hR:=hx.sh.sr
 have r6:=hx.sh.r6
 have h24:=a0X (s7.2 hR)
 unfold V8 F0
 rw[N7 (by omega) (by omega),d1c]
 simp only[jn]
 rw[a5k (s7.2 hR),d1c]
 have key:∃e,lp (S:=Int × (List Int)) (E:=(List Int)) (λ((s16,s17):Int × (List Int))=>
   if (decide (s16<((lv x.S).length:Int))) then
    (ix (lv x.S) s16).bind λv20=>
    (u5 x.S v20).bind λv21=>
    (app 8 s17 v21.1.Fields).bind λv22=>
    some (.inl (w7 (s16+1),v22))
   else
   some (.inr s17)) (0,x.Roots)=some e∧(e.length≤200∧∀v∈e,v=0∨v∈lv x.S):=by
  refine a0W (lv x.S).length (λk (acc:List Int)=>acc.length≤6+4*k∧∀v∈acc,v=0∨v∈lv x.S) (λ(e:List Int)=>e.length≤200∧∀v∈e,v=0∨v∈lv x.S) (by omega) ⟨by omega,hx.sh.rt⟩ (λk acc hk hP=>?_) (λacc hP=>⟨acc,by simp,by omega,hP.2⟩)
  have hm:=List.getElem_mem hk
  have hf:=(K0 hR hm).fl
  left
  refine⟨acc++(ob x.S (lv x.S)[k]).Fields,?_,by rw[List.length_append];omega,λv hv=>?_⟩
  ·simp only[Int.ofNat_lt,hk,decide_true,if_true,n8 hk,d1c]
   rw[a6t (s7.2 hR) hm,d1c]
   dsimp only
   rw[B2 (by omega) (by omega),d1c,k7]
  ·rcases List.mem_append.1 hv with q | q
   ·exact hP.2 v q
   ·exact hx.sh.fl _ hm v q
 obtain⟨e,e1,e2⟩:=key
 rw[show lp _ _=_ from e1,d1c]
 have:D8 e x=some true:=by
  unfold D8 a1p
  simp only[jn]
  refine E1 e.length (λ_=>True) (by omega) trivial (λk hk _=>.inl ⟨?_,trivial⟩) (λ_=>⟨.inr (),by simp,rfl⟩)
  have hm:=e2.2 _ (List.getElem_mem hk)
  have hb:e[k]≤9223372036854775807:=by
   rcases hm with q | q
   ·omega
   ·have:=K1 hR q;omega
  simp only[Int.ofNat_lt,hk,decide_true,if_true,n8 hk,d1c]
  rw[a1s hR hb,d1c,d1c,decide_eq_true hm,if_neg (by simp),k7]
 rw[this]
 rfl
theorem b2O:a0T x=some true:=by
 have hR:=hx.sh.sr
 have h8:=a8o hx.sh.hr.l8
 unfold a0T
 rw[c2K hx.sh.hr,d1c]
 have:B0 (prs x.T) x=some true:=by
  unfold B0 a1q
  simp only[jn]
  refine E1 (prs x.T).length (λ_=>True) (by omega) trivial (λk hk _=>.inl ⟨?_,trivial⟩) (λ_=>⟨.inr (),by simp,rfl⟩)
  have hp:=a3O.1 (List.getElem_mem hk)
  have hb:=hB.tb.has hp
  have hl:=hx.sh.pr _ _ hp
  simp only[Int.ofNat_lt,hk,decide_true,if_true,n8 hk,d1c]
  rw[a88 hR hb.1,d1c,decide_eq_true hl.1]
  simp only[beq_self_eq_true,K4]
  rw[a88 hR hb.2,d1c,d1c,decide_eq_true hl.2,if_neg (by simp),k7]
 rw[this]
 rfl
theorem b37:a1M x=some true:=by
 have hR:=hx.sh.sr
 have q30:=hx.sh.q30
 have c6:=hx.sh.c6
 unfold a1M
 simp only[jn]
 refine Y1 x.Q.L.length (λk (m:List (j2 × Bool))=>∀t:j2,t.Prog=0→((z7 m t).getD false=true→∃j,j<k∧TkS (x.Q.L.getD j tz) t)) (by omega) (λt _ q=>by simp[z7] at q) (λk m hk hP=>.inl ?_) (λm hP=>⟨.inr m,by simp,rfl⟩)
 have hm:=List.getElem_mem hk
 obtain⟨t1,t2,t3⟩:=hx.sh.tk _ hm
 have hb:=hB.qb _ hm
 have hno:(z7 m (⟨x.Q.L[k].Kind,x.Q.L[k].At,0⟩:j2)).getD false=false:=by
  rw[Bool.eq_false_iff]
  intro q
  obtain⟨j,hj,hs⟩:=hP ⟨x.Q.L[k].Kind,x.Q.L[k].At,0⟩ rfl q
  have hj1:j<x.Q.L.length:=by omega
  rw[D1 hj1] at hs
  exact List.pairwise_iff_getElem.1 hx.sh.td j k hj1 hk hj hs
 have hfor:a0V x x.Q.L[k]=some true:=by
  unfold a0V
  rcases t3 with ⟨a,b,c⟩ | ⟨a,b,c⟩
  ·rw[if_pos (by simpa using a),a6t (s7.2 hR) b,d1c,c]
   rfl
  ·rw[if_neg (by simp[a]),if_pos (by simpa using a)]
   obtain⟨n,hn⟩:∃n:Nat,x.Q.L[k].At=n:=⟨x.Q.L[k].At.toNat,by omega⟩
   have hnl:n<x.a7.length:=by omega
   have e1:((decide (x.Q.L[k].At≥0))&&(decide (x.Q.L[k].At<(x.a7.length:Int))))=true:=by simp;omega
   rw[e1]
   simp only[beq_self_eq_true,K4,Bool.true_and]
   rw[hn,n8 hnl,d1c]
   have:x.a7[n].Intact=false:=by
    rw[Bool.eq_false_iff]
    intro q
    have:=((hx.sh.cl n hnl).2.2.2.2 q).2
    rw[Bool.eq_false_iff] at this
    exact this (c3r.2 ⟨_,hm,a,hn⟩)
   rw[this]
   rfl
 refine⟨o0 m (⟨x.Q.L[k].Kind,x.Q.L[k].At,0⟩:j2) true,?_,λt ht q=>?_⟩
 ·simp only[Int.ofNat_lt,hk,decide_true,if_true,n8 hk,d1c]
  rw[hno,decide_eq_true (show x.Q.L[k].Prog≥0 from t1),decide_eq_true (show x.Q.L[k].Prog<6 by omega)]
  simp only[Bool.not_false,Bool.and_self,beq_self_eq_true,K4]
  rw[hfor,d1c,if_neg (by simp),k7]
 ·rw[c8p c0S j2.beq_eq] at q
  by_cases e:(t==(⟨x.Q.L[k].Kind,x.Q.L[k].At,0⟩:j2))=true
  ·have:=j2.beq_eq _ _ e
   refine⟨k,by omega,?_⟩
   rw[D1 hk,this]
   exact⟨rfl,rfl⟩
  ·rw[if_neg e] at q
   obtain⟨j,hj,hs⟩:=hP t ht q
   exact⟨j,by omega,hs⟩
theorem b3O:a1K x=some true:=by
 have hR:=hx.sh.sr
 have c6:=hx.sh.c6
 unfold a1K
 have:B7 x.a7 x=some true:=by
  unfold B7 a2i
  simp only[jn]
  refine E1 x.a7.length (λ_=>True) (by omega) trivial (λk hk _=>.inl ⟨?_,trivial⟩) (λ_=>⟨.inr (),by simp,rfl⟩)
  obtain⟨a1,a2,a3,a4,a5⟩:=hx.sh.cl k hk
  have hb:=hB.cb _ (List.getElem_mem hk)
  simp only[Int.ofNat_lt,hk,decide_true,if_true,n8 hk,d1c]
  rw[if_neg (by simp;omega)]
  by_cases hin:x.a7[k].Intact=true
  ·rw[if_pos hin,a88 hR hb,d1c,d1c,decide_eq_true (a5 hin).1,if_neg (by simp),k7]
  ·rw[if_neg hin]
   by_cases h0:x.a7[k].Target=0
   ·have hno:∀i,¬P9 x.S x.a7[k].Target i:=λi q=>by have:=q.rng hR;omega
    rw[a2S hR hb hno,d1c,d1c,h0,if_neg (by simp),k7]
   ·obtain⟨p,hp⟩:=a4 h0
    rw[a2y hR hp,d1c,d1c,if_neg (by simp),k7]
 rw[this]
 rfl
theorem b3R:a1L x=some true:=by
 have hR:=hx.sh.sr
 have c6:=hx.sh.c6
 have h24:=hR.len
 have l9:=hR.l9
 unfold a1L
 simp only[jn]
 refine E1 x.S.S.a7.length (λ_=>True) (by omega) trivial (λk hk _=>.inl ⟨?_,trivial⟩) (λ_=>⟨.inr (),by simp,rfl⟩)
 have hc:=hR.cell k hk
 simp only[Int.ofNat_lt,hk,decide_true,if_true]
 rw[b4l hk,d1c]
 by_cases ht:Th (ce x.S k)
 ·rw[if_neg (by unfold Th at ht;simp only[Bool.and_eq_true,bne_iff_ne,ne_eq];omega),a2Y (by omega) (by omega) hc.2.2.1 (by omega),d1c,c0r x.a7 (by omega),d1c]
  obtain⟨g1,g2⟩:=hx.wk k hk ht
  rw[if_neg (by simpa using g1),if_neg,k7]
  simp only[Bool.or_eq_true,Bool.and_eq_true,bne_iff_ne,ne_eq,beq_iff_eq,decide_eq_true_eq,not_or,not_and,Decidable.not_not]
  intro q
  obtain⟨a,b,c⟩:=g2 q
  rw[b]
  exact⟨⟨by omega,by simp⟩,c⟩
 ·rw[if_pos (by unfold Th at ht;simp only[Bool.and_eq_true,bne_iff_ne,ne_eq];omega),k7]
open Classical in
theorem b1w:a5f x=some true:=by
 have hR:=hx.sh.sr
 have r6:=hx.sh.r6
 have q30:=hx.sh.q30
 unfold a5f
 have hsh:a0U x=some true:=by
  unfold a0U
  have hsr:a2c x.S=some true:=by
   rw[b5S x.S (by have:=hR.len;omega)]
   congr 1
   rw[decide_eq_true_iff]
   exact s7.2 hR
  obtain⟨b,b1,b2⟩:=c0l x.T (by have:=hx.sh.hr.l8;omega)
  rw[show a9R=some ⟨[],30⟩ from rfl,d1c,hsr,d1c]
  simp only[beq_self_eq_true,K4,Bool.true_and]
  rw[b1,d1c,b2.2 hx.sh.hr,hx.sh.r6,hx.sh.c6,hx.sh.cap]
  have:decide ((x.Q.L.length:Int)≤30)=true:=by simp;omega
  rw[this]
  rfl
 rw[hsh,d1c,if_neg (by simp)]
 simp only[jn]
 have f1:X8 (some 88) x=some true:=by
  unfold X8
  rw[if_pos rfl]
  exact b2H hx hB
 have f2:X8 (some 89) x=some true:=by
  unfold X8
  rw[if_neg (by decide),if_pos rfl]
  exact b2O hx hB
 have f3:X8 (some 90) x=some true:=by
  unfold X8
  rw[if_neg (by decide),if_neg (by decide),if_pos rfl]
  exact b37 hx hB
 have f4:X8 (some 91) x=some true:=by
  unfold X8
  rw[if_neg (by decide),if_neg (by decide),if_neg (by decide),if_pos rfl]
  exact b3O hx hB
 have f5:X8 (some 92) x=some true:=by
  unfold X8
  rw[if_neg (by decide),if_neg (by decide),if_neg (by decide),if_neg (by decide),if_pos rfl]
  exact b3R hx hB
 refine E1 5 (λ_=>True) (by omega) trivial (λk hk _=>.inl ⟨?_,trivial⟩) (λ_=>⟨.inr (),by kernel_rfl,?_⟩)
 ·match k,hk with
  | 0,_=>
   refine (if_pos (by rfl)).trans ?_
   refine bnd (a:=some 88) (by kernel_rfl) ?_
   refine bnd f1 ?_
   kernel_rfl
  | 1,_=>
   refine (if_pos (by rfl)).trans ?_
   refine bnd (a:=some 89) (by kernel_rfl) ?_
   refine bnd f2 ?_
   kernel_rfl
  | 2,_=>
   refine (if_pos (by rfl)).trans ?_
   refine bnd (a:=some 90) (by kernel_rfl) ?_
   refine bnd f3 ?_
   kernel_rfl
  | 3,_=>
   refine (if_pos (by rfl)).trans ?_
   refine bnd (a:=some 91) (by kernel_rfl) ?_
   refine bnd f4 ?_
   kernel_rfl
  | 4,_=>
   refine (if_pos (by rfl)).trans ?_
   refine bnd (a:=some 92) (by kernel_rfl) ?_
   refine bnd f5 ?_
   kernel_rfl
 ·dsimp only
  rw[c2D (by omega) (by omega),d1c,c3V (s7.2 hR) hx.sh.hr hB.sb (by have:=b1M (x:=x) (by omega) (by omega);omega),d1c,decide_eq_true (b6x.2 hx.fair)]
end
end Go.Sh
namespace Go.Sh
theorem c7l{l:List k8}(h:l.length≤100000):a9u l l=some true:=by
 unfold a9u
 rw[if_neg (by simp)]
 simp only[jn]
 refine E1 l.length (λ_=>True) (by omega) trivial (λk hk _=>.inl ⟨?_,trivial⟩) (λ_=>⟨.inr (),by simp,rfl⟩)
 rw[if_pos (by simpa using hk),n8 hk,d1c,d1c,if_neg (by simp),k7 (by omega)]
def SL(x:Hp):Prop:=∀k∈lv x.S,(ob x.S k).Strong≤9223372036854775807
theorem SB.sl{x:Hp}(hR:SR x.S)(h:SB x.S):SL x:=λk hk=>c0R hR h k hk
theorem c8b{x:Hp}(hx:V1 x)(hS:SL x):HB x:=by
 have hR:=hx.sh.sr
 have bd:∀v,v=0∨v∈lv x.S→v≤9223372036854775807:=λv q=>by
  rcases q with q | q
  ·omega
  ·have:=K1 hR q;omega
 refine⟨c8U.2 λi hi=>?_,c5p.2 λi hi v hv=>?_,λv hv=>bd v (hx.sh.rt v hv),λc hc=>?_,λp hp=>?_,λt ht=>?_⟩
 ·by_cases t:Th (ce x.S i)
  ·rcases t with t | t
   ·have q:At x.S (1+(i:Int)+32*(ce x.S i).Gen) i:=⟨hi,t,rfl⟩
    have:=hS _ ((a4w hR).2 ⟨i,q⟩)
    rwa [O5 hR q] at this
   ·have:=((hx.wk i hi (.inr t)).2 t).2.2
    omega
  ·have:=(hR.no i hi t).2.1
   simp only[oo] at this
   omega
 ·by_cases t:Th (ce x.S i)
  ·rcases t with t | t
   ·have q:At x.S (1+(i:Int)+32*(ce x.S i).Gen) i:=⟨hi,t,rfl⟩
    have hm:=(a4w hR).2 ⟨i,q⟩
    exact bd v (hx.sh.fl _ hm v (by rw[O5 hR q];exact hv))
   ·rw[((hx.wk i hi (.inr t)).2 t).2.1] at hv
    cases hv
  ·have:=(hR.no i hi t).2.2.2.2.2
   simp only[oo] at this
   rw[List.eq_nil_of_length_eq_zero this] at hv
   cases hv
 ·obtain⟨i,hi,rfl⟩:=List.getElem_of_mem hc
  by_cases e:x.a7[i].Target=0
  ·omega
  ·obtain⟨p,hp⟩:=(hx.sh.cl i hi).2.2.2.1 e
   have:=hp.rng hR
   omega
 ·obtain⟨i,hi,rfl⟩:=List.getElem_of_mem hp
  have e:pt x.T i=x.T[i]:=by
   unfold pt
   rw[List.getD_eq_getElem?_getD,List.getElem?_eq_getElem hi]
   rfl
  by_cases s1:(pt x.T i).State=1
  ·obtain⟨a,b⟩:=hx.sh.pr (pt x.T i).Key (pt x.T i).Val ⟨i,⟨hi,s1,rfl⟩,rfl⟩
   rw[e] at a b
   exact⟨bd _ (.inr a),bd _ (.inr b)⟩
  ·obtain⟨a,b⟩:=(hx.sh.hr.st i hi).2 s1
   rw[e] at a b
   omega
 ·obtain⟨_,_,q | q⟩:=hx.sh.tk t ht
  ·exact bd _ (.inr q.2.1)
  ·omega
theorem c5F{s:a8}(hR:SR s):Sm s:=by
 refine⟨by have:=hR.len;omega,λi hi=>?_⟩
 by_cases t:Th (ce s i)
 ·have:=(hR.ok i hi t).fl
  rw[C9 hi] at this
  omega
 ·have:=(hR.no i hi t).2.2.2.2.2
  simp only[oo] at this
  rw[C9 hi] at this
  omega
theorem c7m{x:Hp}(h:HpS x):a9A (hO x) (hO x)=some true:=by
 have sm:=c5F h.sr
 have h1:=h.r6
 have h2:=h.c6
 have h3:=h.hr.l8
 have h4:=h.q30
 unfold a9A
 rw[show (hO x).S=sO x.S from rfl,b91 _ (by rw[y9];have:=sm.1;omega) (λi hi=>by
  have:=sm.2 i (by rw[y9] at hi;exact hi)
  simp only[sO,List.getElem_map,cO,oo]
  omega),d1c]
 simp only[beq_self_eq_true,K4,Bool.true_and]
 rw[show (hO x).Roots=x.Roots from rfl,b2x (by omega),d1c]
 simp only[beq_self_eq_true,K4,Bool.true_and]
 rw[c7l (by simp[hO];omega),d1c]
 simp only[beq_self_eq_true,K4,Bool.true_and]
 rw[c0J (by simp[hO];omega),d1c]
 simp only[beq_self_eq_true,K4,Bool.true_and]
 rw[show (hO x).Q=tqR x.Q from rfl,c7d (by omega),d1c]
theorem c30(c:Int):a0K c≤12:=by unfold a0K;split <;> (try split) <;> omega
theorem c3R{c:Int}(h:c≤9223372036854775807):a8O c≤9223372036854775807:=by unfold a8O;split <;> (try split) <;> omega
theorem SL.of{x y:Hp}(h:SL x)(hl:lv y.S=lv x.S)(hs:∀k∈lv x.S,(ob y.S k).Strong=(ob x.S k).Strong):SL y:=λk hk=>by
 rw[hl] at hk
 rw[hs k hk]
 exact h k hk
theorem SL.st{x:Hp}(h:SL x)(hR:SR x.S)(v:Int){f:Int→Int}(hf:∀c,0≤c→0≤f c)(hb:∀c,c≤9223372036854775807→f c≤9223372036854775807):SL (stO x v f):=λk hk=>by
 rw[(I4 hR v hf).lv] at hk
 rw[b5R hR v hf hk]
 split
 ·exact hb _ (h k hk)
 ·exact h k hk
theorem SL.D3{x:Hp}(h:SL x)(hR:SR x.S)(v:Int):SL (D3 x v):=h.st hR v (λc=>E6) λc _=>by have:=c30 c;omega
theorem SL.rls{x:Hp}(h:SL x)(hR:SR x.S)(v:Int):SL (P2 x v):=h.st hR v (λc=>a0k) λc hc=>c3R hc
theorem b8J{x:Hp}(hR:SR x.S)(v:Int):SR (P2 x v).S:=(I4 hR v λc=>a0k).sr
theorem b3e{x:Hp}(hR:SR x.S)(h:SL x)(r:Nat)(v:Int):SL (Q2 x r v):=by
 unfold Q2
 exact SL.rls (x:=wR (D3 x v) (x.Roots.set r v)) (h.D3 hR v) (a6N hR v) _
theorem c0g{x:Hp}(hR:SR x.S)(hS:SL x){h:Int}(hh:h∈lv x.S)(k:Nat)(v:Int):SL (a1n x h k v):=by
 have kin:=I4 hR v (f:=a0K) λc=>E6
 have hR1:SR (D3 x v).S:=kin.sr
 have hl1:h∈lv (D3 x v).S:=by rw[show lv (D3 x v).S=lv x.S from kin.lv];exact hh
 have hof:(ob (D3 x v).S h).Fields=(ob x.S h).Fields:=by
  obtain⟨m,e⟩:=kin.ob h (by have:=K1 hR hh;omega)
  show (ob (stO x v a0K).S h).Fields=_
  rw[e]
 have ok:=K0 hR1 hl1
 have ho:OkO (D3 x v).S (flg (ob (D3 x v).S h) ((ob x.S h).Fields.set k v)):=⟨ok.s1,ok.s2,ok.st,ok.wk,ok.p1,ok.p2,by have:=ok.fl;rw[hof] at this;simpa using this⟩
 have sr2:=a1C (o:=flg (ob (D3 x v).S h) ((ob x.S h).Fields.set k v)) hR1 hl1 rfl ho
 unfold a1n
 refine SL.rls (x:=wS (D3 x v) (seO (D3 x v).S h (flg (ob (D3 x v).S h) ((ob x.S h).Fields.set k v)))) ?_ sr2 _
 refine (hS.D3 hR v).of (a3l hR1 hl1 rfl ho) λj hj=>?_
 dsimp only
 rw[a2n (o:=flg (ob (D3 x v).S h) ((ob x.S h).Fields.set k v)) hR1 hl1 rfl ho (by have:=K1 hR1 hj;omega)]
 split
 ·rename_i e;rw[e]
 ·rfl
theorem c2I{x:Hp}(hR:SR x.S)(hS:SL x)(v:Int)(t:Tb)(old:Int):SL (a6x x v t old):=by
 unfold a6x
 exact SL.rls (x:=wT (D3 x v) t) (hS.D3 hR v) (a6N hR v) _
theorem c6L{x:Hp}(hR:SR x.S)(hS:SL x)(h:Int){d:Int}(hd:P9 x.S h (B4 h)→0≤(ce x.S (B4 h)).Val.Weak+d):SL (mkd x h d):=by
 unfold mkd
 split
 ·rename_i q
  exact hS.of (a5m hR q.1 q.2.1 (hd q)).lv λk hk=>a5n hR q.1 q.2.1 (hd q) hk
 ·exact hS
theorem b9X{x:Hp}(hR:SR x.S)(hS:SL x)(h:Int)(hd:P9 x.S h (B4 h)→1≤(ce x.S (B4 h)).Val.Weak):SL (a8z x h):=by
 unfold a8z
 split
 ·rename_i q
  have hd:=hd q
  have kn:=a5m (d:=-1) hR q.1 q.2.1 (by omega)
  have s1:SL (wS x (mkA x.S (B4 h) (-1))):=hS.of kn.lv λk hk=>a5n hR q.1 q.2.1 (by omega) hk
  split
  ·rename_i c
   have hi1:B4 h<(mkA x.S (B4 h) (-1)).S.a7.length:=by rw[kn.len];exact q.1
   have hce:ce (mkA x.S (B4 h) (-1)) (B4 h)=⟨(ce x.S (B4 h)).State,(ce x.S (B4 h)).Gen,wkg (ce x.S (B4 h)).Val ((ce x.S (B4 h)).Val.Weak + -1)⟩:=by
    rw[a3d hR q.1 q.2.1,if_pos rfl]
   have h2:(ce (mkA x.S (B4 h) (-1)) (B4 h)).State=2:=by rw[hce];exact c.1
   exact s1.of (b42 kn.sr hi1 h2) λk hk=>by
    dsimp only
    rw[b43 kn.sr hi1 h2 hk]
  ·exact s1
 ·exact hS
theorem c3m{x:Hp}(hx:V1 x)(hS:SL x){n:Nat}(hn:n<6)(h call:Int):SL (a3q x n h call):=by
 have hR:=hx.sh.sr
 have hnl:n<x.a7.length:=by have:=hx.sh.c6;omega
 have ok:∀k i,P9 x.S k i→0≤(ce x.S i).Val.Weak:=λk i q=>(hR.ok i q.1 q.2.1).wk
 have tw:∀i,P9 x.S (tgt x n) i→1≤(ce x.S i).Val.Weak:=λi q=>by
  have htg:tgt x n=x.a7[n].Target:=by
   unfold tgt
   rw[List.getD_eq_getElem?_getD,List.getElem?_eq_getElem hnl]
   rfl
  have r:=q.rng hR
  have p:=a9h hnl (by rw[←htg];omega)
  rw[←htg,q.2.2] at p
  have:=(hx.wk i q.1 q.2.1).1
  omega
 unfold a3q
 have s1:SL (mkd (wC x (x.a7.set n (wcl h call))) h 1):=c6L (x:=wC x (x.a7.set n (wcl h call))) hR hS h λq=>by
  have:=ok _ _ q
  dsimp only
  omega
 by_cases q:P9 x.S h (B4 h)
 ·have e:mkd (wC x (x.a7.set n (wcl h call))) h 1=wS (wC x (x.a7.set n (wcl h call))) (mkA x.S (B4 h) 1):=by
   unfold mkd
   rw[if_pos q]
  have hd:=ok _ _ q
  have kn:=a5m (d:=1) hR q.1 q.2.1 (by omega)
  rw[e] at s1 ⊢
  refine b9X kn.sr s1 _ λq2=>?_
  dsimp only at q2 ⊢
  have q3:=(kn.ad _ _).1 q2
  have:=tw _ q3
  rw[a3d hR q.1 q.2.1]
  split
  ·rename_i e2
   rw[e2] at this
   show 1≤(ce x.S (B4 h)).Val.Weak+1
   omega
  ·exact this
 ·have e:mkd (wC x (x.a7.set n (wcl h call))) h 1=wC x (x.a7.set n (wcl h call)):=by
   unfold mkd
   rw[if_neg q]
  rw[e] at s1 ⊢
  exact b9X (x:=wC x (x.a7.set n (wcl h call))) hR s1 _ λq2=>tw _ q2
section
variable{x:Hp}(hx:V1 x)(hS:SL x)
include hx hS
end
end Go.Sh
namespace Go.Sh
end Go.Sh
namespace Go.Sh
end Go.Sh
namespace Go.Sh
def b6j(x:Hp):Prop:=Sm x.S∧x.Roots.length≤20∧x.a7.length≤20∧x.T.length≤20∧x.Q.L.length≤60
instance(x:Hp):Decidable (b6j x):=by unfold b6j;infer_instance
theorem HpS.c9V{x:Hp}(h:HpS x):b6j x:=by
 have h1:=h.r6
 have h2:=h.c6
 have h3:=h.hr.l8
 have h4:=h.q30
 exact⟨c5F h.sr,by omega,by omega,by omega,by omega⟩
end Go.Sh
namespace Go.Sh
def c1Z:Hp:=⟨⟨⟨[],0⟩,0⟩,[],[],[],⟨[],0⟩⟩
def c7R(x:Hp):Bool:=x.S.S.a7.all (λc=>decide (c.Val.Strong≤9223372036854775807)&&c.Val.Fields.all λv=>decide (v≤9223372036854775807))&&(x.Roots.all (λv=>decide (v≤9223372036854775807))&&(x.a7.all (λc=>decide (c.Target≤9223372036854775807))&&(x.T.all (λp=>decide (p.Key≤9223372036854775807∧p.Val≤9223372036854775807))&&x.Q.L.all λt=>decide (t.At≤9223372036854775807))))
theorem c6v{x:Hp}(h:c7R x=true):HB x:=by
 unfold c7R at h
 simp only[Bool.and_eq_true,List.all_eq_true,decide_eq_true_iff] at h
 obtain⟨h1,h2,h3,h4,h5⟩:=h
 exact⟨λc hc=>(h1 c hc).1,λc hc=>(h1 c hc).2,h2,h3,h4,h5⟩
theorem b3r(x:Hp)(h:Int)(f:Int→Int):(stO x h f).Roots=x.Roots∧(stO x h f).a7=x.a7∧(stO x h f).T=x.T∧(stO x h f).Q=x.Q:=by
 unfold stO
 split <;> exact⟨rfl,rfl,rfl,rfl⟩
theorem a8t(x:Hp)(r:Nat)(h:Int):(Q2 x r h).Roots=x.Roots.set r h∧(Q2 x r h).a7=x.a7∧(Q2 x r h).T=x.T∧(Q2 x r h).Q=x.Q:=by
 obtain⟨a,b,c,d⟩:=b3r (wR (D3 x h) (x.Roots.set r h)) (x.Roots.getD r 0) a8O
 obtain⟨a',b',c',d'⟩:=b3r x h a0K
 exact⟨a,b.trans b',c.trans c',d.trans d'⟩
section
variable{x:Hp}(hB:HB x)
include hB
end
end Go.Sh
namespace Go.Sh
abbrev ded(o:l4):l4:=⟨o.Serial,0,o.Weak,o.Prog,o.Started,[]⟩
def gnC(s:a8)(i:Nat):b8:=
 if (ce s i).Val.Weak=0 then (if (ce s i).Gen=s.S.Last then ⟨3,(ce s i).Gen,z0⟩ else ⟨0,(ce s i).Gen+1,z0⟩) else ⟨2,(ce s i).Gen,ded (ce s i).Val⟩
def gnA(s:a8)(d:Int):a8:=E9 s (B4 d) (gnC s (B4 d))
def gnL(s:a8)(ds:List Int):a8:=ds.foldl gnA s
theorem c6p(s:a8)(i:Nat):(gnC s i).State≠1:=by
 unfold gnC
 split
 ·split <;> simp
 ·simp
theorem b8l{s:a8}(hR:SR s){a b:Int}(ha:a∈lv s)(hb:b∈lv s)(h:a≠b):B4 a≠B4 b:=λe=>by
 have h1:=w9 hR ha
 have h2:=w9 hR hb
 rw[e] at h1
 exact h (h1.2.2.trans h2.2.2.symm)
section
variable{s:a8}(hR:SR s){d:Int}(hd:d∈lv s)
include hR hd
theorem b77:SR (gnA s d):=by
 have q:=w9 hR hd
 have hc:=hR.cell _ q.1
 have ho:=hR.ok _ q.1 (.inl q.2.1)
 have no:a8G (oo z0):=⟨rfl,rfl,rfl,rfl,rfl,rfl⟩
 unfold gnA gnC
 split
 ·split
  ·exact hR.E9 q.1 ⟨by simp,by simp,hc.2.2.1,hc.2.2.2⟩ (λ_=>no) (λq=>absurd q (by unfold Th;simp))
  ·refine hR.E9 q.1 ⟨by simp,by simp,?_,?_⟩ (λ_=>no) (λq=>absurd q (by unfold Th;simp))
   ·show 0≤(ce s (B4 d)).Gen+1;omega
   ·show (ce s (B4 d)).Gen+1≤s.S.Last;omega
 ·exact hR.E9 q.1 ⟨by simp,by simp,hc.2.2.1,hc.2.2.2⟩ (λq=>absurd (.inr rfl) q) (λ_=>⟨⟨ho.s1,ho.s2,Int.le_refl _,ho.wk,ho.p1,ho.p2,Nat.zero_le _⟩,.inl q.2.1,rfl⟩)
theorem c1S(j:Nat):ce (gnA s d) j=if j=B4 d then gnC s (B4 d) else ce s j:=J2 (w9 hR hd).1 _ j
theorem c6n:lv (gnA s d)=(lv s).filter λh=>decide (h≠d):=by
 have hS:=b77 hR hd
 unfold gnA at hS ⊢
 have hc:=c6p s (B4 d)
 rw[b9r hR (w9 hR hd).1 hc hS]
 refine List.filter_congr λh hh=>decide_eq_decide.2 ⟨λq e=>q (by rw[e]),λq=>b8l hR hh hd q⟩
theorem c6o{k:Int}(hk:k∈lv s)(hne:k≠d):ob (gnA s d) k=ob s k:=by
 have hS:=b77 hR hd
 unfold gnA at hS ⊢
 exact b9y hR (w9 hR hd).1 hS hk (b8l hR hk hd hne)
end
structure Gn (s s':a8) (ds:List Int):Prop where
 sr:SR s'
 len:s'.S.a7.length=s.S.a7.length
 last:s'.S.Last=s.S.Last
 ser:s'.Serial=s.Serial
 lv:lv s'=(lv s).filter λh=>decide (h∉ds)
 ob:∀k∈Sh.lv s,k∉ds→ob s' k=ob s k
 ce:∀j,ce s' j=if j∈ds.map B4 then gnC s j else ce s j
theorem a2W:∀(ds:List Int) {s:a8} (hR:SR s),ds.Nodup→(∀d∈ds,d∈lv s)→Gn s (gnL s ds) ds
 | [],s,hR,_,_=>⟨hR,rfl,rfl,rfl,(List.filter_eq_self.2 (λa _=>by simp)).symm,λ_ _ _=>rfl,λj=>by simp[gnL]⟩
 | d::ds,s,hR,hn,hm=>by
  rw[List.nodup_cons] at hn
  have hd:=hm d (List.mem_cons_self ..)
  have hlv:=c6n hR hd
  have hm':∀e∈ds,e∈lv (gnA s d):=λe he=>by
   rw[hlv,List.mem_filter,decide_eq_true_iff]
   exact⟨hm e (List.mem_cons_of_mem _ he),λq=>hn.1 (q▸he)⟩
  have ih:=a2W ds (b77 hR hd) hn.2 hm'
  refine⟨ih.sr,ih.len.trans (W6 ..),ih.last,ih.ser,?_,λk hk hne=>?_,λj=>?_⟩
  ·show lv (gnL (gnA s d) ds)=_
   rw[ih.lv,hlv,List.filter_filter]
   refine List.filter_congr λh hh=>?_
   rw[Bool.eq_iff_iff]
   simp only[Bool.and_eq_true,decide_eq_true_iff,List.mem_cons,not_or]
   exact⟨λq=>⟨q.2,q.1⟩,λq=>⟨q.2,q.1⟩⟩
  ·show ob (gnL (gnA s d) ds) k=_
   rw[List.mem_cons,not_or] at hne
   rw[ih.ob k (by rw[hlv,List.mem_filter,decide_eq_true_iff];exact⟨hk,hne.1⟩) hne.2,c6o hR hd hk hne.1]
  ·show ce (gnL (gnA s d) ds) j=_
   have hg:∀e∈ds,B4 e≠B4 d:=λe he=>b8l hR (hm e (List.mem_cons_of_mem _ he)) hd λq=>hn.1 (q▸he)
   rw[ih.ce]
   by_cases h1:j∈ds.map B4
   ·obtain⟨e,he,rfl⟩:=List.mem_map.1 h1
    rw[if_pos h1,if_pos (by rw[List.map_cons];exact List.mem_cons_of_mem _ h1)]
    unfold gnC
    rw[c1S hR hd,if_neg (hg e he)]
    rfl
   ·rw[if_neg h1,c1S hR hd,List.map_cons]
    by_cases h2:j=B4 d
    ·subst h2
     rw[if_pos rfl,if_pos (List.mem_cons_self ..)]
    ·rw[if_neg h2,if_neg]
     rw[List.mem_cons]
     exact λq=>q.elim h2 h1
theorem b4G{α:Type}(p:α→Bool)(f:α→Nat):∀l:List α,(l.map f).sum=((l.filter p).map f).sum+((l.filter λx => !p x).map f).sum
 | []=>rfl
 | x::l=>by
  rw[List.map_cons,List.sum_cons,b4G p f l,List.filter_cons,List.filter_cons]
  cases p x <;> simp <;> omega
theorem b7u(f:Int→List Int)(y:Int):∀l:List Int,Q0 (l.flatMap f) y=(l.map λx=>Q0 (f x) y).sum
 | []=>R5 y
 | x::l=>by rw[List.flatMap_cons,R4,b7u f y l,List.map_cons,List.sum_cons]
theorem Gn.inn{s s':a8}{ds:List Int}(hR:SR s)(hn:ds.Nodup)(hm:∀d∈ds,d∈Sh.lv s)(g:Gn s s' ds)(y:Int):inn s' y+Q0 (ds.flatMap (outs s)) y=inn s y:=by
 unfold Sh.inn
 rw[g.lv,b4G (λh=>decide (h∉ds)) (λx=>Q0 (outs s x) y) (Sh.lv s),b7u]
 have h1:((Sh.lv s).filter λh=>decide (h∉ds)).map (λx=>Q0 (outs s' x) y)=((Sh.lv s).filter λh=>decide (h∉ds)).map λx=>Q0 (outs s x) y:=List.map_congr_left λx hx=>by
  rw[List.mem_filter,decide_eq_true_iff] at hx
  unfold Sh.outs
  rw[g.ob x hx.1 hx.2]
 have h2:((Sh.lv s).filter λx => !decide (x∉ds)).Perm ds:=by
  rw[List.perm_ext_iff_of_nodup ((b2D (s7.2 hR)).filter _) hn]
  intro a
  rw[List.mem_filter]
  simp only[decide_not,Bool.not_not,decide_eq_true_iff]
  exact⟨λq=>q.2,λq=>⟨hm a q,q⟩⟩
 rw[h1,(h2.map λx=>Q0 (outs s x) y).sum_nat]
theorem b6R{L:List j2}(hd:L.Pairwise λa b=>¬(a.Kind=b.Kind∧a.At=b.At))(k:Int):((L.filter (·.Kind==k)).map (·.At)).Nodup:=by
 unfold List.Nodup
 rw[List.pairwise_map]
 refine (hd.filter _).imp_of_mem λ{a b} ha hb h e=>?_
 rw[List.mem_filter,beq_iff_eq] at ha hb
 exact h ⟨ha.2.trans hb.2.symm,e⟩
theorem b7s{L:List j2}{m:List Int}(hd:L.Pairwise λa b=>¬(a.Kind=b.Kind∧a.At=b.At))(h:∀t∈L,(t.Kind=1∧t.At∈m)∨(t.Kind=2∧0≤t.At∧t.At≤5)):L.length≤m.length+6:=by
 have h1:L.length=(L.filter (·.Kind==1)).length+(L.filter (·.Kind==2)).length:=by
  rw[a8S (λt:j2=>t.Kind==1) L]
  congr 2
  refine List.filter_congr λt ht=>?_
  rcases h t ht with q | q
  ·simp[q.1]
  ·simp[q.1]
 have h2:=a9i (b6R hd 1) (m:=m) λa ha=>by
  obtain⟨t,ht,rfl⟩:=List.mem_map.1 ha
  rw[List.mem_filter,beq_iff_eq] at ht
  rcases h t ht.1 with q | q
  ·exact q.2
  ·omega
 have h3:=a9i (b6R hd 2) (m:=[0,1,2,3,4,5]) λa ha=>by
  obtain⟨t,ht,rfl⟩:=List.mem_map.1 ha
  rw[List.mem_filter,beq_iff_eq] at ht
  rcases h t ht.1 with q | q
  ·omega
  ·simp only[List.mem_cons,List.not_mem_nil,or_false]
   omega
 rw[List.length_map] at h2 h3
 simp only[List.length_cons,List.length_nil] at h3
 omega
theorem a93{q:TQ}{w:Int}:wts q w=true↔∃t∈q.L,t.Kind=2∧t.At=w:=by
 unfold wts
 rw[List.any_eq_true]
 simp
theorem a9g{q:TQ}{h:Int}:h∈b1v q↔∃t∈q.L,t.Kind=1∧t.At=h:=by
 unfold b1v
 rw[List.mem_map]
 simp only[List.mem_filter,beq_iff_eq]
 exact⟨λ⟨t,⟨a,b⟩,c⟩=>⟨t,a,b,c⟩,λ⟨t,a,b,c⟩=>⟨t,⟨a,b⟩,c⟩⟩
abbrev cz:c9:=⟨0,false,0⟩
def a21(ds:List Int)(c:c9):Bool:=c.Intact&&c.Target != 0&&decide (c.Target∈ds)
def a6g(ds:List Int)(c:c9):c9:=if a21 ds c then ⟨c.Target,false,c.Call⟩ else c
def clr(l:List c9)(ds:List Int):List c9:=l.map (a6g ds)
def cls(l:List c9)(ds:List Int):List Nat:=(List.range l.length).filter λw=>a21 ds (l.getD w cz)&&decide (0≤(l.getD w cz).Call)
def clt(l:List c9)(ds:List Int):List j2:=(cls l ds).map λ(w:Nat)=>⟨2,(w:Int),(l.getD w cz).Call⟩
theorem b4N(ds:List Int)(c:c9):(a6g ds c).Target=c.Target∧(a6g ds c).Call=c.Call∧((a6g ds c).Intact=true↔c.Intact=true∧a21 ds c=false):=by
 unfold a6g
 cases h:a21 ds c
 ·rw[if_neg (by simp)]
  simp
 ·rw[if_pos rfl]
  simp
theorem c4e(l:List c9)(ds:List Int)(h:Int):nmg (clr l ds) h=nmg l h:=by
 unfold nmg clr
 rw[List.countP_map]
 congr 1
 funext c
 simp only[Function.comp_apply,(b4N ds c).1]
theorem a7d{l:List c9}{ds:List Int}{t:j2}:t∈clt l ds↔∃w,∃hw:w<l.length,t=⟨2,(w:Int),l[w].Call⟩∧a21 ds l[w]=true∧0≤l[w].Call:=by
 unfold clt cls
 rw[List.mem_map]
 constructor
 ·rintro⟨w,hw,rfl⟩
  rw[List.mem_filter,List.mem_range] at hw
  obtain⟨h1,h2⟩:=hw
  have e:l.getD w cz=l[w]:=by rw[List.getD_eq_getElem?_getD,List.getElem?_eq_getElem h1];rfl
  rw[e] at h2 ⊢
  rw[Bool.and_eq_true,decide_eq_true_iff] at h2
  exact⟨w,h1,rfl,h2.1,h2.2⟩
 ·rintro⟨w,hw,rfl,h2,h3⟩
  have e:l.getD w cz=l[w]:=by rw[List.getD_eq_getElem?_getD,List.getElem?_eq_getElem hw];rfl
  refine⟨w,?_,by rw[e]⟩
  rw[List.mem_filter,List.mem_range,e,Bool.and_eq_true,decide_eq_true_iff]
  exact⟨hw,h2,h3⟩
theorem b99(l:List c9)(ds:List Int):(clt l ds).Pairwise λa b=>¬(a.Kind=b.Kind∧a.At=b.At):=by
 unfold clt cls
 rw[List.pairwise_map]
 refine (List.Pairwise.filter _ (List.nodup_range (n:=l.length))).imp λ{a b} h=>?_
 rintro⟨_,e⟩
 dsimp only at e
 omega
end Go.Sh
namespace Go.Sh
def a4Z(x:Hp)(ds:List Int)(t:Tb):Hp:=⟨gnL x.S ds,x.Roots,clr x.a7 ds,t,⟨x.Q.L++clt x.a7 ds,x.Q.Cap⟩⟩
theorem b6G(q:TQ)(l:List j2)(c:Int)(h:∀t∈l,t.Kind≠1):b1v ⟨q.L++l,c⟩=b1v q:=by
 unfold b1v
 dsimp only
 rw[List.filter_append]
 have:l.filter (λt=>t.Kind==1) = []:=by
  rw[List.filter_eq_nil_iff]
  intro t ht
  simpa using h t ht
 rw[this,List.append_nil]
theorem b93{x:Hp}(hx:V1 x){ds:List Int}(hn:ds.Nodup)(hm:∀d∈ds,d∈lv x.S)
  (ho:∀d∈ds,d∉otr x)(hf:∀h∈lv x.S,h∉ds→∀v∈(ob x.S h).Fields,v∉ds)(hp:∀k v,Has x.T k v→k∉ds→v∉ds)
  {t:Tb}{vals:List Int}(ht:HR t)(h1:∀k v,Has t k v↔k∉ds∧Has x.T k v)(h2:∀y,own t y+Q0 vals y=own x.T y) :
  HpS (a4Z x ds t)∧Wk (a4Z x ds t)∧a2R (a4Z x ds t) (ds.flatMap (outs x.S)++vals):=by
 have hS:=hx.sh
 have hR:=hS.sr
 have g:=a2W ds hR hn hm
 have hlv:∀h,h∈lv (gnL x.S ds)↔h∈lv x.S∧h∉ds:=λh=>by rw[g.lv,List.mem_filter,decide_eq_true_iff]
 have hlen:(lv x.S).length≤24:=a0X (s7.2 hR)
 have hcl:∀w (hw:w<x.a7.length),a21 ds x.a7[w]=true→x.a7[w].Intact=true:=λw hw q=>by
  unfold a21 at q
  rw[Bool.and_eq_true,Bool.and_eq_true] at q
  exact q.1.1
 have htd:(x.Q.L++clt x.a7 ds).Pairwise λa b=>¬(a.Kind=b.Kind∧a.At=b.At):=by
  rw[List.pairwise_append]
  refine⟨hS.td,b99 ..,λa ha b hb q=>?_⟩
  obtain⟨w,hw,rfl,hh,_⟩:=a7d.1 hb
  have:=((hS.cl w hw).2.2.2.2 (hcl w hw hh)).2
  rw[Bool.eq_false_iff] at this
  exact this (a93.2 ⟨a,ha,q.1,q.2⟩)
 have htk:∀t∈x.Q.L++clt x.a7 ds,0≤t.Prog∧t.Prog≤5∧((t.Kind=1∧t.At∈lv (gnL x.S ds)∧(ob (gnL x.S ds) t.At).Started=true)∨(t.Kind=2∧0≤t.At∧t.At≤5)):=λt htt=>by
  rcases List.mem_append.1 htt with q | q
  ·obtain⟨a,b,c⟩:=hS.tk t q
   refine⟨a,b,?_⟩
   rcases c with ⟨c1,c2,c3⟩ | c
   ·have hnd:t.At∉ds:=λhd=>ho _ hd (List.mem_append.2 (.inr (a9g.2 ⟨t,q,c1,rfl⟩)))
    exact .inl ⟨c1,(hlv _).2 ⟨c2,hnd⟩,by rw[g.ob _ c2 hnd];exact c3⟩
   ·exact .inr c
  ·obtain⟨w,hw,rfl,hh,hc⟩:=a7d.1 q
   have c6:=hS.c6
   have:=(hS.cl w hw).2.1
   exact⟨hc,this,.inr ⟨rfl,by dsimp only;omega,by dsimp only;omega⟩⟩
 have hq30:(x.Q.L++clt x.a7 ds).length≤30:=by
  have:=b7s (m:=lv x.S) htd λt htt=>by
   rcases (htk t htt).2.2 with q | q
   ·exact .inl ⟨q.1,((hlv _).1 q.2.1).1⟩
   ·exact .inr q
  omega
 have hwts:∀i:Nat,wts x.Q i=false→(∀hi:i<x.a7.length,a21 ds x.a7[i]=false)→wts ⟨x.Q.L++clt x.a7 ds,x.Q.Cap⟩ i=false:=λi q1 q2=>by
  rw[Bool.eq_false_iff] at q1 ⊢
  intro q
  obtain⟨t,ht,a,b⟩:=a93.1 q
  rcases List.mem_append.1 ht with c | c
  ·exact q1 (a93.2 ⟨t,c,a,b⟩)
  ·obtain⟨w,hw,rfl,hh,_⟩:=a7d.1 c
   dsimp only at b
   have:w=i:=by omega
   subst this
   rw[q2 hw] at hh
   cases hh
 refine⟨⟨g.sr,ht,hS.r6,?_,hS.cap,hq30,htk,htd,λh hh=>?_,λh hh v hv=>?_,λk v hkv=>?_,λi hi=>?_⟩,λi hi hti=>?_,λh hh hlt=>?_⟩
 ·unfold a4Z clr
  rw[List.length_map]
  exact hS.c6
 ·rcases hS.rt h hh with q | q
  ·exact .inl q
  ·have h0:h≠0:=λe=>b0n hR (e▸q)
   exact .inr ((hlv h).2 ⟨q,λhd=>ho h hd (List.mem_append.2 (.inl (a8m.2 ⟨hh,h0⟩)))⟩)
 ·obtain⟨a,b⟩:=(hlv h).1 hh
  have hv':v∈(ob x.S h).Fields:=by
   have e:=g.ob h a b
   unfold a4Z at hv
   rwa [e] at hv
  rcases hS.fl h a v hv' with q | q
  ·exact .inl q
  ·exact .inr ((hlv v).2 ⟨q,hf h a b v hv'⟩)
 ·obtain⟨a,b⟩:=(h1 k v).1 hkv
  obtain⟨c,d⟩:=hS.pr k v b
  exact⟨(hlv k).2 ⟨c,a⟩,(hlv v).2 ⟨d,hp k v b a⟩⟩
 ·have hi':i<x.a7.length:=by
   unfold a4Z clr at hi
   simpa using hi
  have e:(a4Z x ds t).a7[i]=a6g ds x.a7[i]:=List.getElem_map _
  obtain⟨a1,a2,a3,a4,a5⟩:=hS.cl i hi'
  obtain⟨b1,b2,b3⟩:=b4N ds x.a7[i]
  rw[e,b1,b2]
  refine⟨a1,a2,λq=>?_,λq=>?_,λq=>?_⟩
  ·rw[Bool.eq_false_iff]
   intro q2
   rw[a3 q] at b3
   exact absurd (b3.1 q2).1 (by decide)
  ·obtain⟨p,hp1,hp2,hp3⟩:=a4 q
   refine⟨p,by show p<(gnL x.S ds).S.a7.length;rw[g.len];exact hp1,?_⟩
   show Th (ce (gnL x.S ds) p)∧_=1+(p:Int)+32*(ce (gnL x.S ds) p).Gen
   rw[g.ce]
   split
   ·have hw:=(hx.wk p hp1 hp2).1
    have:=a9h hi' q
    rw[hp3] at this
    unfold gnC
    rw[if_neg (by omega)]
    exact⟨.inr rfl,hp3⟩
   ·exact⟨hp2,hp3⟩
  ·obtain⟨c1,c2⟩:=b3.1 q
   obtain⟨d1,d2⟩:=a5 c1
   have h0:x.a7[i].Target≠0:=λe=>b0n hR (e▸d1)
   refine⟨(hlv _).2 ⟨d1,λhd=>?_⟩,hwts i d2 λ_=>c2⟩
   have:a21 ds x.a7[i]=true:=by
    unfold a21
    simp[c1,h0,hd]
   rw[this] at c2
   cases c2
 ·have hi':i<x.S.S.a7.length:=by
   have:=g.len
   have hi:i<(gnL x.S ds).S.a7.length:=hi
   omega
  show (ce (gnL x.S ds) i).Val.Weak=(nmg (clr x.a7 ds) (1+(i:Int)+32*(ce (gnL x.S ds) i).Gen):Int)∧((ce (gnL x.S ds) i).State=2→_)
  have hti':Th (ce (gnL x.S ds) i):=hti
  show _∧((ce (gnL x.S ds) i).State=2→1≤(ce (gnL x.S ds) i).Val.Weak∧(ce (gnL x.S ds) i).Val.Fields = []∧(ce (gnL x.S ds) i).Val.Strong=0)
  rw[c4e]
  rw[g.ce] at hti' ⊢
  split
  ·rename_i q
   rw[if_pos q] at hti'
   obtain⟨d,hd,rfl⟩:=List.mem_map.1 q
   have hp:=w9 hR (hm d hd)
   have hw:=(hx.wk _ hi' (.inl hp.2.1)).1
   unfold gnC at hti' ⊢
   split at hti'
   ·exfalso
    unfold Th at hti'
    split at hti' <;> simp at hti'
   ·rename_i q2
    rw[if_neg q2]
    have:=(hR.ok _ hi' (.inl hp.2.1)).wk
    exact⟨hw,λ_=>⟨by dsimp only;omega,rfl,rfl⟩⟩
  ·rename_i q
   rw[if_neg q] at hti'
   exact hx.wk i hi' hti'
 ·obtain⟨a,b⟩:=(hlv h).1 hh
  have e:=g.ob h a b
  have e':ob (a4Z x ds t).S h=ob x.S h:=e
  rw[e'] at hlt ⊢
  have hf:=hx.fair h a hlt
  rw[R5] at hf
  rw[hf]
  have i1:=g.inn hR hn hm h
  have i2:=h2 h
  have i3:b1v ⟨x.Q.L++clt x.a7 ds,x.Q.Cap⟩=b1v x.Q:=b6G _ _ _ λt ht=>by
   obtain⟨w,_,rfl,_⟩:=a7d.1 ht
   simp
  unfold nms otr a4Z
  dsimp only
  rw[i3,R4 (ds.flatMap (outs x.S)),R4]
  omega
theorem b3c:∀(l:List Int) {x:Hp},HpS x→Wk x→a2R x l→V1 (l.foldl P2 x)
 | [],x,h1,h2,h3=>⟨h1,h2,h3⟩
 | v::l,x,h1,h2,h3=>b3c l (h1.st v λc=>a0k) (h2.st h1.sr v λc=>a0k) (b7j h1.sr h3)
abbrev srt(o:l4):l4:=⟨o.Serial,o.Strong,o.Weak,o.Prog,true,o.Fields⟩
abbrev qtk(x:Hp)(h:Int):j2:=⟨1,h,(ob x.S h).Prog⟩
noncomputable def quH(x:Hp)(h:Int):Hp:=D3 ⟨seO x.S h (srt (ob x.S h)),x.Roots,x.a7,x.T,⟨x.Q.L ++ [qtk x h],x.Q.Cap⟩⟩ h
theorem b4z{x:Hp}(hx:V1 x){h:Int}(hh:h∈lv x.S)(hp:0≤(ob x.S h).Prog)(hs:(ob x.S h).Started=false):V1 (quH x h):=by
 have hS:=hx.sh
 have hR:=hS.sr
 have oko:=K0 hR hh
 have ho:OkO x.S (srt (ob x.S h)):=⟨oko.s1,oko.s2,oko.st,oko.wk,oko.p1,oko.p2,oko.fl⟩
 have r1:=a1C (o:=srt (ob x.S h)) hR hh rfl ho
 have l1:=a3l (o:=srt (ob x.S h)) hR hh rfl ho
 have o1:∀j,j∈lv x.S→ob (seO x.S h (srt (ob x.S h))) j=if j=h then srt (ob x.S h) else ob x.S j:=λj hj=>by
  have:=K1 hR hj
  exact a2n (o:=srt (ob x.S h)) hR hh rfl ho (by omega)
 have hlen:(lv x.S).length≤24:=a0X (s7.2 hR)
 have s1:HpS (wS x (seO x.S h (srt (ob x.S h)))):=hS.of r1 l1 (λk i q=>(b8Q (o:=srt (ob x.S h)) hR hh rfl ho).2 q) (λk hk q=>by
  rw[o1 k hk]
  split
  ·rfl
  ·exact q) λk hk v hv=>by
  rw[o1 k hk] at hv
  split at hv
  ·rename_i e;subst e;exact hS.fl k hk v hv
  ·exact hS.fl k hk v hv
 have w1:Wk (wS x (seO x.S h (srt (ob x.S h)))):=λi hi ht=>by
  have J1:=w9 hR hh
  have hc:=b8R (o:=srt (ob x.S h)) hR hh rfl ho i
  dsimp only at hi ht ⊢
  rw[hc] at ht ⊢
  have hi':i<x.S.S.a7.length:=by unfold seO at hi;rwa [L7] at hi
  split at ht
  ·rename_i e
   subst e
   rw[if_pos rfl]
   dsimp only
   have:=hx.wk _ hi' (.inl J1.2.1)
   rw[O5 hR J1]
   exact⟨this.1,λq=>absurd q (by rw[J1.2.1];decide)⟩
  ·rename_i e
   rw[if_neg e]
   exact hx.wk i hi' ht
 have htd:(x.Q.L ++ [qtk x h]).Pairwise λa b=>¬(a.Kind=b.Kind∧a.At=b.At):=by
  rw[List.pairwise_append]
  refine⟨hS.td,by simp,λa ha b hb q=>?_⟩
  rw[List.mem_singleton] at hb
  subst hb
  dsimp only at q
  rcases (hS.tk a ha).2.2 with c | c
  ·rw[q.2,hs] at c
   exact absurd c.2.2 (by decide)
  ·omega
 have htk:∀t∈x.Q.L ++ [qtk x h],0≤t.Prog∧t.Prog≤5∧((t.Kind=1∧t.At∈lv (seO x.S h (srt (ob x.S h)))∧(ob (seO x.S h (srt (ob x.S h))) t.At).Started=true)∨(t.Kind=2∧0≤t.At∧t.At≤5)):=λt ht=>by
  rcases List.mem_append.1 ht with q | q
  ·exact s1.tk t q
  ·rw[List.mem_singleton] at q
   subst q
   refine⟨hp,oko.p2,.inl ⟨rfl,by rw[l1];exact hh,?_⟩⟩
   dsimp only
   rw[o1 h hh,if_pos rfl]
 have hq30:(x.Q.L ++ [qtk x h]).length≤30:=by
  have:=b7s (m:=lv x.S) htd λt ht=>by
   rcases (htk t ht).2.2 with q | q
   ·exact .inl ⟨q.1,by rw[←l1];exact q.2.1⟩
   ·exact .inr q
  omega
 have s2:HpS ⟨seO x.S h (srt (ob x.S h)),x.Roots,x.a7,x.T,⟨x.Q.L ++ [qtk x h],x.Q.Cap⟩⟩:=by
  refine⟨s1.sr,s1.hr,s1.r6,s1.c6,s1.cap,hq30,htk,htd,s1.rt,s1.fl,s1.pr,λi hi=>?_⟩
  obtain⟨a,b,c,d,e⟩:=s1.cl i hi
  refine⟨a,b,c,d,λq=>⟨(e q).1,?_⟩⟩
  have:=(e q).2
  rw[Bool.eq_false_iff] at this ⊢
  intro q2
  obtain⟨t,ht,k1,k2⟩:=a93.1 q2
  rcases List.mem_append.1 ht with q3 | q3
  ·exact this (a93.2 ⟨t,q3,k1,k2⟩)
  ·rw[List.mem_singleton] at q3
   subst q3
   dsimp only at k1
   omega
 have w2:Wk ⟨seO x.S h (srt (ob x.S h)),x.Roots,x.a7,x.T,⟨x.Q.L ++ [qtk x h],x.Q.Cap⟩⟩:=w1
 refine⟨s2.st h λc=>E6,w2.st s2.sr h λc=>E6,λk hk hlt=>?_⟩
 have hk':k∈lv x.S:=by
  have:lv (quH x h).S=lv x.S:=(I4 s2.sr h λc=>E6).lv.trans l1
  rw[←this];exact hk
 have hst:(ob (quH x h).S k).Strong=if k=h then a0K (ob x.S k).Strong else (ob x.S k).Strong:=by
  have:=b5R (x:=⟨seO x.S h (srt (ob x.S h)),x.Roots,x.a7,x.T,⟨x.Q.L ++ [qtk x h],x.Q.Cap⟩⟩) s2.sr h (f:=a0K) (λc=>E6) (k:=k) (by rw[←l1] at hk';exact hk')
  refine Eq.trans this ?_
  dsimp only
  rw[o1 k hk']
  by_cases e:k=h
  ·subst e
   rw[if_pos rfl,if_pos rfl,if_pos rfl]
  ·rw[if_neg e,if_neg e,if_neg e]
 have hnm:nms (quH x h) k=nms x k+if k=h then 1 else 0:=by
  have:=b10 (x:=⟨seO x.S h (srt (ob x.S h)),x.Roots,x.a7,x.T,⟨x.Q.L ++ [qtk x h],x.Q.Cap⟩⟩) s2.sr h (f:=a0K) (λc=>E6) k
  refine Eq.trans this ?_
  have hi:=b9l (o:=srt (ob x.S h)) hR hh rfl ho k
  dsimp only at hi
  have h0:k≠0:=λe=>b0n hR (e▸hk')
  unfold nms otr b1v
  dsimp only
  rw[List.filter_append,List.map_append,R4,R4,R4]
  have:Q0 (List.map (·.At) (List.filter (λt:j2=>t.Kind==1) [qtk x h])) k=if k=h then 1 else 0:=by
   show Q0 [h] k=_
   rw[K9,R5]
   by_cases e:k=h
   ·rw[if_pos ⟨e.symm,h0⟩,if_pos e]
   ·rw[if_neg (λq=>e q.1.symm),if_neg e]
  rw[this]
  omega
 rw[hst] at hlt ⊢
 rw[hnm,R5]
 have hpos:=(K0 hR hk').st
 by_cases e:k=h
 ·rw[if_pos e] at hlt ⊢
  rw[if_pos e]
  have:=hx.fair k hk' (by unfold a0K at hlt;split at hlt <;> omega)
  rw[R5] at this
  unfold a0K at hlt ⊢
  split at hlt
  ·omega
  ·rename_i q
   rw[if_neg q,if_neg (by omega)]
   omega
 ·rw[if_neg e] at hlt ⊢
  rw[if_neg e]
  have:=hx.fair k hk' hlt
  rw[R5] at this
  exact this
end Go.Sh
namespace Go.Sh
noncomputable def zr(x:Hp):List Int:=(lv x.S).filter λh=>(ob x.S h).Strong==0
theorem a4g{x:Hp}{h:Int}:h∈zr x↔h∈lv x.S∧(ob x.S h).Strong=0:=by
 unfold zr
 rw[List.mem_filter,beq_iff_eq]
theorem b90{x:Hp}(hx:V1 x){z:Int}(hz:z∈zr x):nms x z=0:=by
 obtain⟨a,b⟩:=a4g.1 hz
 have:=hx.fair z a (by omega)
 rw[R5] at this
 omega
theorem b7v{l:List Int}{h:Int}(h0:h≠0)(e:Q0 l h=0):h∉l:=λq=>by
 have:=a5H.2 ⟨h0,q⟩
 omega
theorem c16{α:Type}(f:α→Nat):∀ {l:List α} {a:α},a∈l→f a≤(l.map f).sum
 | b::l,a,h=>by
  rw[List.map_cons,List.sum_cons]
  rcases List.mem_cons.1 h with e | e
  ·subst e;omega
  ·have:=c16 f e;omega
theorem b9k{s:a8}{a y:Int}(ha:a∈lv s):Q0 (outs s a) y≤inn s y:=c16 (λx=>Q0 (outs s x) y) ha
theorem b9C{t:Tb}{k v:Int}(h:Has t k v)(h0:v≠0):0<own t v:=List.countP_pos_iff.2 ⟨⟨k,v⟩,a3O.2 h,by simp[h0]⟩
def wot(t:Tb)(ks:List Int):Tb × List Int:=(T1 t ks).getD (t,[])
theorem a4V{t:Tb}(hT:HR t)(ks:List Int)(hks:ks.length≤1000):T1 t ks=some (wot t ks)∧HR (wot t ks).1∧(wot t ks).2.length≤ks.length∧a16 (t.map J1) ks=some ((wot t ks).1.map J1,(wot t ks).2) ∧
  (∀k v,Has (wot t ks).1 k v↔k∉ks∧Has t k v)∧∀y,own (wot t ks).1 y+Q0 (wot t ks).2 y=own t y:=by
 obtain⟨a,had,h1,h2,h3,h4,h5,h6,h7,h8,h9⟩:=b7D hT ks hks
 have:wot t ks=(a,had):=by unfold wot;rw[h1];rfl
 rw[this]
 exact⟨h1,h2,h4,h5,h6,h9⟩
noncomputable def buH(x:Hp)(ds:List Int):Hp:=(ds.flatMap (outs x.S)++(wot x.T ds).2).foldl P2 (a4Z x ds (wot x.T ds).1)
theorem a6M:∀(l:List Int) {x:Hp},SR x.S→Kin x.S (l.foldl P2 x).S∧l.foldl P2 x=wS x (l.foldl P2 x).S
 | [],x,h=>⟨Kin.refl h,rfl⟩
 | v::l,x,h=>by
  have k1:=I4 h v (f:=a8O) λc=>a0k
  obtain⟨k2,e⟩:=a6M l (x:=P2 x v) k1.sr
  refine⟨k1.trans k2,?_⟩
  show l.foldl P2 (P2 x v)=wS x (l.foldl P2 (P2 x v)).S
  rw[e,c7j x v]
theorem b94{x:Hp}(hx:V1 x){ds:List Int}(hn:ds.Nodup)(hm:∀d∈ds,d∈lv x.S)
  (ho:∀d∈ds,d∉otr x)(hf:∀h∈lv x.S,h∉ds→∀v∈(ob x.S h).Fields,v∉ds)(hp:∀k v,Has x.T k v→k∉ds→v∉ds):V1 (buH x ds):=by
 have hl:ds.length≤24:=Nat.le_trans (a9i hn hm) (a0X (s7.2 hx.sh.sr))
 obtain⟨_,w1,_,_,w2,w3⟩:=a4V hx.sh.hr ds (by omega)
 obtain⟨a,b,c⟩:=b93 hx hn hm ho hf hp w1 w2 w3
 exact b3c _ a b c
theorem c1c{x:Hp}(hR:SR x.S){ds:List Int}(hn:ds.Nodup)(hm:∀d∈ds,d∈lv x.S):lv (buH x ds).S=(lv x.S).filter λh=>decide (h∉ds):=by
 have g:=a2W ds hR hn hm
 exact (a6M (ds.flatMap (outs x.S)++(wot x.T ds).2) (x:=a4Z x ds (wot x.T ds).1) g.sr).1.lv.trans g.lv
theorem c1d{x:Hp}(hR:SR x.S){ds:List Int}(hn:ds.Nodup)(hm:∀d∈ds,d∈lv x.S){k:Int}(hk:k∈lv x.S)(hd:k∉ds):∃n,ob (buH x ds).S k=stg (ob x.S k) n:=by
 have g:=a2W ds hR hn hm
 have hr:=K1 hR hk
 obtain⟨n,e⟩:=(a6M (ds.flatMap (outs x.S)++(wot x.T ds).2) (x:=a4Z x ds (wot x.T ds).1) g.sr).1.ob k (by omega)
 refine⟨n,?_⟩
 have e':ob (buH x ds).S k=_:=e
 have g':ob (a4Z x ds (wot x.T ds).1).S k=ob x.S k:=g.ob k hk hd
 rw[e',g']
theorem b6o{x:Hp}(hR:SR x.S){ds:List Int}(hn:ds.Nodup)(hm:∀d∈ds,d∈lv x.S):(buH x ds).Roots=x.Roots∧(buH x ds).a7=clr x.a7 ds∧(buH x ds).T=(wot x.T ds).1∧(buH x ds).Q=⟨x.Q.L++clt x.a7 ds,x.Q.Cap⟩:=by
 have g:=a2W ds hR hn hm
 have e:=(a6M (ds.flatMap (outs x.S)++(wot x.T ds).2) (x:=a4Z x ds (wot x.T ds).1) g.sr).2
 have e':buH x ds=wS (a4Z x ds (wot x.T ds).1) (buH x ds).S:=e
 rw[e']
 exact⟨rfl,rfl,rfl,rfl⟩
theorem b3G{x:Hp}(hx:V1 x){z:Int}(hz:z∈zr x):V1 (buH x [z]):=by
 obtain⟨a,b⟩:=a4g.1 hz
 have h0:z≠0:=λe=>b0n hx.sh.sr (e▸a)
 have hn:=b90 hx hz
 unfold nms at hn
 refine b94 hx (by simp) (by simpa using a) (λd hd=>?_) (λh hh hne v hv q=>?_) (λk v hkv _ q=>?_)
 ·rw[List.mem_singleton] at hd
  subst hd
  exact b7v h0 (by omega)
 ·rw[List.mem_singleton] at q
  subst q
  have:=b9k (y:=v) hh
  have h1:=a5H.2 ⟨h0,show v∈outs x.S h from a8m.2 ⟨hv,h0⟩⟩
  omega
 ·rw[List.mem_singleton] at q
  subst q
  have:=b9C hkv h0
  omega
def due(o:l4):Bool:=decide (0≤o.Prog) && !o.Started
noncomputable def stp(x:Hp):Hp:=match zr x with
 | []=>x
 | z::_=>if due (ob x.S z) then quH x z else buH x [z]
noncomputable def stN:Nat→Hp→Hp
 | 0,x=>x
 | n+1,x=>stN n (stp x)
theorem a2b(n:Nat)(x:Hp):stN (n+1) x=stp (stN n x):=by
 induction n generalizing x with
 | zero=>rfl
 | succ n ih=>exact ih (stp x)
theorem a9Q{x:Hp}(h:zr x = []):stp x=x:=by unfold stp;rw[h]
theorem a4M{x:Hp}{z:Int}{l:List Int}(h:zr x=z::l):stp x=if due (ob x.S z) then quH x z else buH x [z]:=by unfold stp;rw[h]
theorem c0Q{x:Hp}(hx:V1 x):V1 (stp x):=by
 cases h:zr x with
 | nil=>rw[a9Q h];exact hx
 | cons z l=>
  have hz:z∈zr x:=by rw[h];exact List.mem_cons_self ..
  rw[a4M h]
  split
  ·rename_i q
   unfold due at q
   rw[Bool.and_eq_true,decide_eq_true_iff,Bool.not_eq_true'] at q
   exact b4z hx (a4g.1 hz).1 q.1 q.2
  ·exact b3G hx hz
theorem a0G{x:Hp}(hx:V1 x)(n:Nat):V1 (stN n x):=by
 induction n with
 | zero=>exact hx
 | succ n ih=>rw[a2b];exact c0Q ih
section
variable{x:Hp}(hR:SR x.S){h:Int}(hh:h∈lv x.S)
include hR hh
theorem b1N:Kin (seO x.S h (srt (ob x.S h))) (quH x h).S∧(quH x h).Roots=x.Roots∧(quH x h).a7=x.a7∧(quH x h).T=x.T∧(quH x h).Q=⟨x.Q.L ++ [qtk x h],x.Q.Cap⟩:=by
 have oko:=K0 hR hh
 have r1:=a1C (o:=srt (ob x.S h)) hR hh rfl ⟨oko.s1,oko.s2,oko.st,oko.wk,oko.p1,oko.p2,oko.fl⟩
 refine⟨I4 (x:=⟨seO x.S h (srt (ob x.S h)),x.Roots,x.a7,x.T,⟨x.Q.L ++ [qtk x h],x.Q.Cap⟩⟩) r1 h λc=>E6,?_⟩
 have e:quH x h=wS ⟨seO x.S h (srt (ob x.S h)),x.Roots,x.a7,x.T,⟨x.Q.L ++ [qtk x h],x.Q.Cap⟩⟩ (quH x h).S:=b3g _ h
 rw[e]
 exact⟨rfl,rfl,rfl,rfl⟩
theorem c2R:lv (quH x h).S=lv x.S:=by
 have oko:=K0 hR hh
 exact (b1N hR hh).1.lv.trans (a3l (o:=srt (ob x.S h)) hR hh rfl ⟨oko.s1,oko.s2,oko.st,oko.wk,oko.p1,oko.p2,oko.fl⟩)
theorem b8n{k:Int}(hk:k∈lv x.S):∃n,ob (quH x h).S k=stg (if k=h then srt (ob x.S h) else ob x.S k) n:=by
 have oko:=K0 hR hh
 have hr:=K1 hR hk
 obtain⟨n,e⟩:=(b1N hR hh).1.ob k (by omega)
 refine⟨n,?_⟩
 rw[e,a2n (o:=srt (ob x.S h)) hR hh rfl ⟨oko.s1,oko.s2,oko.st,oko.wk,oko.p1,oko.p2,oko.fl⟩ (by omega)]
end
noncomputable def mu(x:Hp):Nat:=(lv x.S).length+((lv x.S).filter λh => !(ob x.S h).Started).length
theorem c8s{x:Hp}(hR:SR x.S):mu x≤48:=by
 have h1:(lv x.S).length≤24:=a0X (s7.2 hR)
 have h2:((lv x.S).filter λh => !(ob x.S h).Started).length≤(lv x.S).length:=List.length_filter_le ..
 unfold mu
 omega
theorem c7t{x:Hp}(hx:V1 x)(h:zr x ≠ []):mu (stp x)<mu x:=by
 cases hz:zr x with
 | nil=>exact absurd hz h
 | cons z l=>
  have hzm:z∈zr x:=by rw[hz];exact List.mem_cons_self ..
  have hzl:=(a4g.1 hzm).1
  have hR:=hx.sh.sr
  rw[a4M hz]
  split
  ·rename_i q
   unfold due at q
   rw[Bool.and_eq_true,decide_eq_true_iff,Bool.not_eq_true'] at q
   unfold mu
   rw[c2R hR hzl]
   have:=filter_lt (p:=λh => !(ob (quH x z).S h).Started) (q:=λh => !(ob x.S h).Started) (l:=lv x.S) (λk hk hp=>by
    obtain⟨n,e⟩:=b8n hR hzl hk
    rw[e] at hp
    split at hp
    ·exact absurd hp (by simp)
    ·exact hp) z hzl (by rw[q.2];rfl) (by
    obtain⟨n,e⟩:=b8n hR hzl hzl
    rw[e,if_pos rfl]
    rfl)
   omega
  ·unfold mu
   have hn:([z]:List Int).Nodup:=by simp
   have hm:∀d ∈ [z],d∈lv x.S:=by simpa using hzl
   rw[c1c hR hn hm,List.filter_filter]
   have h1:((lv x.S).filter λh=>decide (h ∉ [z])).length<((lv x.S).filter λ_=>true).length:=filter_lt (λ_ _ _=>rfl) z hzl rfl (by simp)
   rw[List.filter_eq_self.2 (λ_ _=>rfl)] at h1
   have h2:((lv x.S).filter λa=>(!(ob (buH x [z]).S a).Started)&&decide (a ∉ [z])).length≤((lv x.S).filter λh => !(ob x.S h).Started).length:=by
    rw[←List.countP_eq_length_filter,←List.countP_eq_length_filter]
    refine List.countP_mono_left λa ha hp=>?_
    rw[Bool.and_eq_true,decide_eq_true_iff] at hp
    obtain⟨n,e⟩:=c1d hR hn hm ha hp.2
    rw[e] at hp
    exact hp.1
   omega
noncomputable def a4d(x:Hp):Hp:=stN 100 x
theorem b0O{x:Hp}(hx:V1 x):∃n,n≤48∧zr (stN n x) = []∧(∀j,j<n→zr (stN j x) ≠ [])∧a4d x=stN n x:=by
 have key:∀m,(∃n,n≤m∧zr (stN n x) = [])∨mu (stN m x)+m≤mu x:=by
  intro m
  induction m with
  | zero=>exact .inr (Nat.le_refl _)
  | succ m ih=>
   rcases ih with ⟨n,h1,h2⟩ | ih
   ·exact .inl ⟨n,by omega,h2⟩
   ·by_cases q:zr (stN m x) = []
    ·exact .inl ⟨m,by omega,q⟩
    ·have:=c7t (a0G hx m) q
     rw[←a2b] at this
     exact .inr (by omega)
 have h48:=c8s hx.sh.sr
 have hex:∃n,n≤48∧zr (stN n x) = []:=by
  rcases key 49 with ⟨n,h1,h2⟩ | h
  ·rcases Nat.lt_or_ge n 49 with q | q
   ·exact⟨n,by omega,h2⟩
   ·rcases key 48 with h | h
    ·exact h
    ·have:mu (stN 48 x)=0:=by omega
     refine⟨48,Nat.le_refl _,?_⟩
     have hl:(lv (stN 48 x).S).length=0:=by unfold mu at this;omega
     unfold zr
     rw[List.eq_nil_of_length_eq_zero hl]
     rfl
  ·omega
 obtain⟨n,⟨hn,hz⟩,hmin⟩:=a0p hex
 refine⟨n,hn,hz,λj hj q=>?_,?_⟩
 ·have:=hmin j ⟨by omega,q⟩
  omega
 ·have:∀k,stN (n+k) x=stN n x:=λk=>by
   induction k with
   | zero=>rfl
   | succ k ih=>rw[show n+(k+1)=(n+k)+1 by omega,a2b,ih,a9Q hz]
  have h100:=this (100-n)
  rw[show n+(100-n)=100 by omega] at h100
  exact h100
theorem a3m{x:Hp}(hx:V1 x):V1 (a4d x):=a0G hx 100
theorem c0L{x:Hp}(hx:V1 x):zr (a4d x) = []:=by
 obtain⟨n,_,h,_,e⟩:=b0O hx
 rw[e];exact h
theorem c3d{x:Hp}(h:zr x = []):a4d x=x:=by
 have:∀n,stN n x=x:=λn=>by
  induction n with
  | zero=>rfl
  | succ n ih=>rw[a2b,ih,a9Q h]
 exact this 100
end Go.Sh
namespace Go.Sh
section
variable{x:Hp}(hR:SR x.S)
include hR
theorem a5S{h:Int}(hh:h∈lv x.S):h≤9223372036854775807:=by have:=K1 hR hh;omega
theorem b2v{h:Int}(hh:h∈lv x.S):u5 x.S h=some (ob x.S h,0):=by
 obtain⟨e,h1,h2⟩:=Q6 (s7.2 hR) (a5S hR hh)
 rw[h1,h2.2 hh]
theorem a8W{h:Int}(hh:h∈lv x.S):D9 (sO x.S) h=some (oo (ob x.S h),0):=by
 have:=hR.len
 rw[a3F x.S (by omega) (a5S hR hh),b2v hR hh]
 rfl
theorem zero_eq:a0F x=some (zr x):=by
 have h24:(lv x.S).length≤24:=a0X (s7.2 hR)
 unfold a0F
 simp only[jn]
 rw[a5k (s7.2 hR),d1c]
 rw[M0 (lv x.S) (λb h=>if (ob x.S h).Strong==0 then b ++ [h] else b) id (λk b=>b.length≤k) (by omega) (Nat.le_refl _) (λk hk b hb=>?_) (λb hb=>by simp)]
 ·rw[foldl_filter]
  rfl
 ·simp only[Int.ofNat_lt,hk,decide_true,if_true,n8 hk,d1c,b2v hR (List.getElem_mem hk)]
  by_cases c:((ob x.S (lv x.S)[k]).Strong==0)=true
  ·rw[if_pos c,if_pos c,B2 (by omega) (by simp;omega),d1c,k7]
   exact⟨rfl,by simp;omega⟩
  ·rw[if_neg c,if_neg c,k7]
   exact⟨rfl,by omega⟩
theorem b9a:a3h (hO x)=some (zr x):=by
 have h24:(lv x.S).length≤24:=a0X (s7.2 hR)
 unfold a3h
 simp only[jn]
 rw[show (hO x).S=sO x.S from rfl,b2C (s7.2 hR),d1c]
 rw[M0 (lv x.S) (λb h=>if (ob x.S h).Strong==0 then b ++ [h] else b) id (λk b=>b.length≤k) (by omega) (Nat.le_refl _) (λk hk b hb=>?_) (λb hb=>by simp)]
 ·rw[foldl_filter]
  rfl
 ·simp only[Int.ofNat_lt,hk,decide_true,if_true,n8 hk,d1c,a8W hR (List.getElem_mem hk)]
  by_cases c:((ob x.S (lv x.S)[k]).Strong==0)=true
  ·rw[show ((oo (ob x.S (lv x.S)[k])).Strong==0)=true from c,if_pos rfl,if_pos c,B2 (by omega) (by simp;omega),d1c,k7]
   exact⟨rfl,by simp;omega⟩
  ·rw[if_neg (show ¬((oo (ob x.S (lv x.S)[k])).Strong==0)=true from c),if_neg c,k7]
   exact⟨rfl,by omega⟩
end
noncomputable def quD(x:Hp)(h:Int):Hp:=if h∈lv x.S∧due (ob x.S h)=true then quH x h else x
theorem b5P{s:a8}(hR:SR s){h:Int}(hl:h∈lv s):OkO s (srt (ob s h)):=by
 have oko:=K0 hR hl
 exact⟨oko.s1,oko.s2,oko.st,oko.wk,oko.p1,oko.p2,oko.fl⟩
theorem b9B(o:l4):I8 o=some (due o):=by
 unfold I8 due
 congr 1
section
variable{x:Hp}(hx:V1 x)(hS:SL x){h:Int}(hh:h≤9223372036854775807)
include hx hS hh
theorem b2V(hl:h∈lv x.S)(hd:due (ob x.S h)=true):x.Q.L.length<30:=by
 have hb:0≤(ob x.S h).Prog∧(ob x.S h).Started=false:=by
  unfold due at hd
  rw[Bool.and_eq_true,decide_eq_true_iff,Bool.not_eq_true'] at hd
  exact hd
 have:=(b4z hx hl hb.1 hb.2).sh.q30
 rw[(b1N hx.sh.sr hl).2.2.2.2] at this
 simp at this
 omega
theorem c0z:T6 x h=some (quD x h):=by
 have hR:=hx.sh.sr
 have cap:=hx.sh.cap
 obtain⟨e,h1,h2⟩:=Q6 (s7.2 hR) hh
 unfold T6 quD
 rw[h1,d1c]
 by_cases hl:h∈lv x.S
 ·have e0:e=0:=h2.2 hl
  subst e0
  have e1:(((0:Int) != 0)==false)=true:=rfl
  simp only[e1,K4,b9B,d1c]
  cases hd:due (ob x.S h)
  ·rw[if_pos (by simp),if_neg (by simp)]
  ·rw[if_neg (by simp),if_pos ⟨hl,rfl⟩]
   have hr:=b2V hx hS hh hl hd
   have hok:=b5P hR hl
   have l1:=a3l (o:=srt (ob x.S h)) hR hl rfl hok
   have r1:=a1C (o:=srt (ob x.S h)) hR hl rfl hok
   rw[a9N (o:=srt (ob x.S h)) hR hl rfl hok,d1c,c5H _ (by omega),d1c]
   have et:tad x.Q ⟨1,h,(ob x.S h).Prog⟩=(⟨x.Q.L ++ [qtk x h],x.Q.Cap⟩,0):=by
    unfold tad
    rw[if_neg (by omega)]
   rw[et]
   dsimp only
   rw[a7o r1 hh (λk hk=>?_),d1c]
   ·rfl
   ·dsimp only at hk ⊢
    rw[l1] at hk
    rw[a2n (o:=srt (ob x.S h)) hR hl rfl hok (a5S hR hk)]
    split
    ·exact hS h hl
    ·exact hS k hk
 ·have e0:e≠0:=λq=>hl (h2.1 q)
  have e1:(e != 0)=true:=by simpa using e0
  rw[e1]
  simp only[show ((true==false)=true)=False by simp,p7,if_false,d1c,Bool.true_or,if_true]
  rw[if_neg (λq=>hl q.1)]
theorem c5d:a7l (hO x) h=some (decide (h∈lv x.S)&&due (ob x.S h)):=by
 have hR:=hx.sh.sr
 have hlen:=hR.len
 obtain⟨e,h1,h2⟩:=Q6 (s7.2 hR) hh
 unfold a7l
 rw[show (hO x).S=sO x.S from rfl,a3F x.S (by omega) hh,h1,Option.map_some,d1c,a5j hR hh,d1c]
 unfold due oo
 rw[Bool.and_assoc]
theorem c2S:a3g (hO x) h=some (hO (quD x h)):=by
 have hR:=hx.sh.sr
 have cap:=hx.sh.cap
 unfold a3g quD
 rw[c5d hx hS hh,d1c]
 by_cases hl:h∈lv x.S
 ·rw[decide_eq_true hl,Bool.true_and]
  cases hd:due (ob x.S h)
  ·rw[if_pos (by simp),if_neg (by simp)]
  ·rw[if_neg (by simp),if_pos ⟨hl,rfl⟩]
   have hr:=b2V hx hS hh hl hd
   have hok:=b5P hR hl
   have l1:=a3l (o:=srt (ob x.S h)) hR hl rfl hok
   have r1:=a1C (o:=srt (ob x.S h)) hR hl rfl hok
   rw[show (hO x).S=sO x.S from rfl,a8W hR hl,d1c]
   have es:J5 (sO x.S) h (oo (srt (ob x.S h)))=some (sO (seO x.S h (srt (ob x.S h))),0):=a9O hR hl rfl hok
   have es':J5 (sO x.S) h ⟨(oo (ob x.S h)).Serial,(oo (ob x.S h)).Strong,(oo (ob x.S h)).Weak,(oo (ob x.S h)).Prog,true,(oo (ob x.S h)).Fields⟩=some (sO (seO x.S h (srt (ob x.S h))),0):=es
   rw[es',d1c]
   have ea:a3R (hO x).Q ⟨1,h,(oo (ob x.S h)).Prog⟩=some (tqR ⟨x.Q.L ++ [qtk x h],x.Q.Cap⟩,0):=by
    have:=c5D (q:=x.Q) (qtk x h) (by omega)
    have et:tad x.Q (qtk x h)=(⟨x.Q.L ++ [qtk x h],x.Q.Cap⟩,0):=by
     unfold tad
     rw[if_neg (by omega)]
    rw[et] at this
    exact this
   rw[ea,d1c]
   have er:=a9H (x:=⟨seO x.S h (srt (ob x.S h)),x.Roots,x.a7,x.T,⟨x.Q.L ++ [qtk x h],x.Q.Cap⟩⟩) r1 hh (λk hk=>by
    dsimp only at hk ⊢
    rw[l1] at hk
    rw[a2n (o:=srt (ob x.S h)) hR hl rfl hok (a5S hR hk)]
    split
    ·exact hS h hl
    ·exact hS k hk)
   have er':W3 ⟨sO (seO x.S h (srt (ob x.S h))),(hO x).Roots,(hO x).a7,(hO x).T,tqR ⟨x.Q.L ++ [qtk x h],x.Q.Cap⟩⟩ h=_:=er
   dsimp only
   rw[er',d1c]
   rfl
 ·rw[decide_eq_false hl,Bool.false_and]
  rw[if_pos (by simp),if_neg (λq=>hl q.1)]
end
noncomputable def lvo(x:Hp)(l:List Int):List Int:=l.foldl (λb h=>if h∈lv x.S∧h∉b then b ++ [h] else b) []
theorem b6N{x:Hp}{z:Int}(hz:z∈lv x.S):lvo x [z] = [z]:=by
 unfold lvo
 simp[hz]
section
variable{x:Hp}(hR:SR x.S)
include hR
theorem b5e(l:List Int)(hl:l.length≤1000)(hb:∀h∈l,h≤9223372036854775807):P3 x l=some (lvo x l):=by
 unfold P3
 simp only[jn]
 have key:=M0 (f:=λ((s20,s21,s22):Int × (List (Int × Bool)) × (List Int))=>
   if (decide (s20<(l.length:Int))) then
     (ix l s20).bind λv32=>
     (u5 x.S v32).bind λv33=>
     if ((v33.2==0)==true) then
      if (!((z7 s21 v32).getD (false:Bool))) then
       (app 8 s22 [v32]).bind λv34=>
       some (Sum.inl (w7 (s20+1),(o0 s21 v32 true),v34))
      else
      some (.inl (w7 (s20+1),s21,s22))
     else
     some (.inl (w7 (s20+1),s21,s22))
   else
   some (.inr s22)) l (λ(b:List (Int × Bool) × List Int) h=>if h∈lv x.S∧h∉b.2 then (o0 b.1 h true,b.2 ++ [h]) else b) (λb=>b.2) (λk b=>b.2.length≤k∧∀d,(z7 b.1 d).getD false=decide (d∈b.2)) (b0:=([],[])) (by omega) ⟨Nat.le_refl _,λd=>by simp[z7]⟩ (λk hk b hb2=>?_) (λb hb2=>by simp)
 ·rw[key,d1c]
  congr 1
  have:∀(l:List Int) (m:List (Int × Bool)) (b:List Int),(l.foldl (λ(b:List (Int × Bool) × List Int) h=>if h∈lv x.S∧h∉b.2 then (o0 b.1 h true,b.2 ++ [h]) else b) (m,b)).2=l.foldl (λb h=>if h∈lv x.S∧h∉b then b ++ [h] else b) b:=λl=>by
   induction l with
   | nil=>intro m b;rfl
   | cons h l ih=>
    intro m b
    rw[List.foldl_cons,List.foldl_cons]
    by_cases c:h∈lv x.S∧h∉b
    ·rw[if_pos c,if_pos c,ih]
    ·rw[if_neg c,if_neg c,ih]
  exact this l [] []
 ·obtain⟨hb1,hb3⟩:=hb2
  obtain⟨e,h1,h2⟩:=Q6 (s7.2 hR) (hb _ (List.getElem_mem hk))
  simp only[Int.ofNat_lt,hk,decide_true,if_true,n8 hk,d1c,h1,hb3]
  by_cases hl:l[k]∈lv x.S
  ·have e0:e=0:=h2.2 hl
   subst e0
   by_cases hm:l[k]∈b.2
   ·rw[if_pos (by rfl),if_neg (by simp[hm]),if_neg (λq=>q.2 hm),k7]
    exact⟨rfl,by omega,hb3⟩
   ·rw[if_pos (by rfl),if_pos (by simp[hm]),if_pos ⟨hl,hm⟩,B2 (by omega) (by simp;omega),d1c,k7]
    refine⟨rfl,by simp;omega,λd=>?_⟩
    rw[a7e]
    by_cases q:d=l[k]
    ·rw[if_pos q]
     simp[q]
    ·rw[if_neg q,hb3]
     simp[q]
  ·have e0:e≠0:=λq=>hl (h2.1 q)
   rw[if_neg (by simp[e0]),if_neg (λq=>hl q.1),k7]
   exact⟨rfl,by omega,hb3⟩
theorem c6b(l:List Int)(hl:l.length≤1000)(hb:∀h∈l,h≤9223372036854775807):a6J (hO x) l=some (lvo x l):=by
 unfold a6J
 simp only[jn]
 rw[M0 l (λb h=>if h∈lv x.S∧h∉b then b ++ [h] else b) id (λk b=>b.length≤k) (by omega) (Nat.le_refl _) (λk hk b hb2=>?_) (λb hb=>by simp)]
 ·rfl
 ·simp only[Int.ofNat_lt,hk,decide_true,if_true,n8 hk,d1c,a5j hR (hb _ (List.getElem_mem hk))]
  by_cases hl:l[k]∈lv x.S
  ·have h0:l[k]≠0:=λe=>b0n hR (e▸hl)
   rw[decide_eq_true hl]
   simp only[beq_self_eq_true,K4,c1W b _ (by omega:b.length≤1000000),d1c,Bool.true_and]
   by_cases hm:l[k]∈b
   ·rw[if_neg (by simp[hm,h0]),if_neg (λq=>q.2 hm),k7]
    exact⟨rfl,by omega⟩
   ·rw[if_pos (by simp[hm]),if_pos ⟨hl,hm⟩,B2 (by omega) (by simp;omega),d1c,k7]
    exact⟨rfl,by simp;omega⟩
  ·rw[decide_eq_false hl]
   simp only[show ((false==true)=true)=False by simp,p7,if_false,d1c,Bool.false_and]
   rw[if_neg (by simp),if_neg (λq=>hl q.1),k7]
   exact⟨rfl,by omega⟩
end
end Go.Sh
namespace Go.Sh
theorem b2t{α β:Type}(p:α→Bool)(f:α→β):∀(xs:List α) (acc:List β),xs.foldl (λb x=>if p x then b ++ [f x] else b) acc=acc++(xs.filter p).map f
 | [],acc=>by simp
 | x::xs,acc=>by
  rw[List.foldl_cons,b2t p f xs]
  by_cases h:p x=true
  ·simp[h]
  ·simp[h]
theorem a0l{α:Type}{l:List α}{i:Nat}(h:i<l.length)(d:α):l.getD i d=l[i]:=by
 rw[List.getD_eq_getElem?_getD,List.getElem?_eq_getElem h];rfl
theorem b96(c:c9)(ds:List Int)(hl:ds.length≤1000):Y7 c ds=some (a21 ds c):=by
 unfold Y7 a21
 rw[contains_eq _ _ (by omega)]
 cases (c.Intact&&c.Target != 0)
 ·rfl
 ·simp[p7]
def pks(l:List c9)(ds:List Int):List Nat:=(List.range l.length).filter λw=>a21 ds (l.getD w cz)
theorem c65{l:List c9}{ds:List Int}{w:Nat}(h:w∈pks l ds):w<l.length:=by
 unfold pks at h
 rw[List.mem_filter,List.mem_range] at h
 exact h.1
theorem c4B(l:List c9)(ds:List Int):(pks l ds).length≤l.length:=by
 unfold pks
 exact Nat.le_trans (List.length_filter_le ..) (by simp)
theorem c66(l:List c9)(ds:List Int):(pks l ds).Nodup:=List.Pairwise.filter _ List.nodup_range
theorem c3P(l:List c9)(ds:List Int):cls l ds=(pks l ds).filter λw=>decide (0≤(l.getD w cz).Call):=by
 unfold cls pks
 rw[List.filter_filter]
 refine List.filter_congr λw _=>?_
 rw[Bool.and_comm]
def a5h(l:List Nat):List Int:=l.map λ(n:Nat)=>(n:Int)
theorem b5b{l:List Nat}{k:Nat}(h:k<l.length):ix (a5h l) (k:Int)=some ((l[k]:Nat):Int):=by
 unfold a5h
 rw[a1O,n8 h];rfl
theorem a4v(l:List Nat):(a5h l).length=l.length:=List.length_map ..
theorem c0y(l:List c9)(ds:List Int)(hl:l.length≤1000)(hd:ds.length≤1000):H4 l ds=some (a5h (pks l ds)):=by
 unfold H4
 simp only[jn]
 have hr:(List.range l.length).length=l.length:=by simp
 have key:=M0 (List.range l.length) (λ(b:List Int) (w:Nat)=>if a21 ds (l.getD w cz) then b ++ [(w:Int)] else b) id (λk b=>b.length≤k) (b0:=[]) (f:=λ((s17,s18):Int × (List Int))=>
   if (decide (s17<(l.length:Int))) then
     (ix l s17).bind λv26=>
     (Y7 v26 ds).bind λv27=>
     if v27 then
      (app 8 s18 [s17]).bind λv28=>
      some (Sum.inl (w7 (s17+1),v28))
     else
     some (.inl (w7 (s17+1),s18))
   else
   some (.inr s18)) (by omega) (Nat.le_refl _) (λk hk b hb=>?_) (λb hb=>by simp)
 ·rw[key,b2t]
  rfl
 ·rw[hr] at hk
  simp only[Int.ofNat_lt,hk,decide_true,if_true,n8 hk,d1c,b96 _ _ hd,List.getElem_range,a0l hk]
  by_cases c:a21 ds l[k]=true
  ·rw[if_pos c,if_pos c,B2 (by omega) (by simp;omega),d1c,k7]
   exact⟨rfl,by simp;omega⟩
  ·rw[if_neg c,if_neg c,k7]
   exact⟨rfl,by omega⟩
theorem c0a(l:List c9)(hl:l.length≤1000):X5 l=some l:=by
 unfold X5
 rw[a6w (by omega) (by omega),d1c]
 unfold cpy
 rw[if_pos (by simp),d1c]
 simp
def a8L(l:List c9)(K:List Nat):List c9:=(List.range l.length).map λi=>if i∈K then ⟨(l.getD i cz).Target,false,(l.getD i cz).Call⟩ else l.getD i cz
theorem a4l(l:List c9)(K:List Nat):(a8L l K).length=l.length:=by simp[a8L]
theorem a8M{l:List c9}{K:List Nat}{i:Nat}(h:i<(a8L l K).length):(a8L l K)[i]=if i∈K then ⟨(l.getD i cz).Target,false,(l.getD i cz).Call⟩ else l.getD i cz:=by simp[a8L]
theorem c1h(l:List c9):a8L l []=l:=by
 refine List.ext_getElem (a4l ..) λi h1 h2=>?_
 rw[a8M,if_neg (by simp),a0l h2]
theorem b98{l:List c9}{K:List Nat}{w:Nat}(hw:w<l.length):a8L l (K ++ [w])=(a8L l K).set w ⟨(l.getD w cz).Target,false,(l.getD w cz).Call⟩:=by
 refine List.ext_getElem (by rw[List.length_set,a4l,a4l]) λi h1 h2=>?_
 rw[a8M,List.getElem_set]
 by_cases e:w=i
 ·subst e
  rw[if_pos rfl,if_pos (by simp)]
 ·rw[if_neg e,a8M]
  by_cases q:i∈K
  ·rw[if_pos (List.mem_append_left _ q),if_pos q]
  ·rw[if_neg,if_neg q]
   rw[List.mem_append,List.mem_singleton]
   exact λq2=>q2.elim q λq3=>e q3.symm
theorem c1g(l:List c9)(ds:List Int):a8L l (pks l ds)=clr l ds:=by
 refine List.ext_getElem (by rw[a4l];simp[clr]) λi h1 h2=>?_
 have hi:i<l.length:=by rw[a4l] at h1;exact h1
 have ec:(clr l ds)[i]=a6g ds l[i]:=List.getElem_map _
 rw[a8M,ec,a0l hi]
 unfold a6g
 by_cases c:a21 ds l[i]=true
 ·rw[if_pos c,if_pos]
  unfold pks
  rw[List.mem_filter,List.mem_range,a0l hi]
  exact⟨hi,c⟩
 ·rw[if_neg c,if_neg]
  unfold pks
  rw[List.mem_filter,List.mem_range,a0l hi]
  exact λq=>c q.2
theorem a0I{α:Type}{l:List α}{k:Nat}(h:k<l.length):l.take (k+1)=l.take k ++ [l[k]]:=List.take_succ_eq_append_getElem h
theorem c1f(l:List c9)(ds:List Int)(hl:l.length≤1000)(hd:ds.length≤1000):a3r l ds=some (clr l ds,a5h (cls l ds)):=by
 unfold a3r
 rw[c0y l ds hl hd,d1c,c0a l hl,d1c]
 simp only[jn,a4v]
 have hp:=c4B l ds
 refine Y1 (pks l ds).length (λk (b:List c9 × List Int)=>b.1=a8L l ((pks l ds).take k)∧b.2=a5h (((pks l ds).take k).filter λw=>decide (0≤(l.getD w cz).Call))) (by omega) ⟨by simp[c1h],by simp[a5h]⟩ ?_ ?_
 ·rintro k ⟨b1,b2⟩ hk ⟨rfl,rfl⟩
  left
  have hw:=c65 (List.getElem_mem hk)
  have hnm:(pks l ds)[k]∉(pks l ds).take k:=λq=>by
   have hn:=c66 l ds
   rw[←List.take_append_drop k (pks l ds),List.nodup_append] at hn
   exact hn.2.2 _ q (pks l ds)[k] (by rw[List.drop_eq_getElem_cons hk];exact List.mem_cons_self ..) rfl
  have h1:(pks l ds)[k]<(a8L l ((pks l ds).take k)).length:=by rw[a4l];exact hw
  have e1:ix (a8L l ((pks l ds).take k)) (((pks l ds)[k]:Nat):Int)=some (l.getD (pks l ds)[k] cz):=by rw[n8 h1,a8M,if_neg hnm]
  have h2:(pks l ds)[k]<((a8L l ((pks l ds).take k)).set (pks l ds)[k] ⟨(l.getD (pks l ds)[k] cz).Target,false,(l.getD (pks l ds)[k] cz).Call⟩).length:=by rw[List.length_set];exact h1
  have e2:ix ((a8L l ((pks l ds).take k)).set (pks l ds)[k] ⟨(l.getD (pks l ds)[k] cz).Target,false,(l.getD (pks l ds)[k] cz).Call⟩) (((pks l ds)[k]:Nat):Int)=some ⟨(l.getD (pks l ds)[k] cz).Target,false,(l.getD (pks l ds)[k] cz).Call⟩:=by rw[n8 h2,List.getElem_set_self]
  dsimp only
  simp only[Int.ofNat_lt,hk,decide_true,if_true,b5b hk,d1c,e1,Int.toNat_natCast,e2]
  have hle:(a5h (((pks l ds).take k).filter λw=>decide (0≤(l.getD w cz).Call))).length≤1000:=by
   rw[a4v]
   exact Nat.le_trans (List.length_filter_le ..) (by simp;omega)
  rw[a0I hk,b98 hw,List.filter_append]
  by_cases c:0≤(l.getD (pks l ds)[k] cz).Call
  ·rw[if_pos (decide_eq_true c),B2 (by omega) (by simp only[List.length_cons,List.length_nil];omega),d1c,k7]
   refine⟨_,rfl,rfl,?_⟩
   rw[List.filter_cons,if_pos (decide_eq_true c)]
   simp[a5h]
  ·rw[if_neg (λq=>c (of_decide_eq_true q)),k7]
   refine⟨_,rfl,rfl,?_⟩
   rw[List.filter_cons,if_neg (λq=>c (of_decide_eq_true q))]
   simp[a5h]
 ·rintro⟨b1,b2⟩ ⟨rfl,rfl⟩
  refine⟨_,if_neg (by simp),?_⟩
  dsimp only
  rw[List.take_length,c1g,←c3P]
theorem c8c(c:c9)(ds:List Int)(hd:ds.length≤1000):((p7 ((wcR c).Intact==true) 0 (a0B ds (wcR c).Target)).bind λv=>some ((wcR c).Intact&&decide (v > 0)))=some (a21 ds c):=by
 unfold a21 wcR
 dsimp only
 cases hI:c.Intact
 ·rfl
 ·simp only[beq_self_eq_true,K4]
  rw[a5G _ _ (by omega),d1c]
  congr 1
  rw[Bool.true_and,Bool.true_and,Bool.eq_iff_iff]
  simp only[decide_eq_true_iff,Bool.and_eq_true,bne_iff_ne]
  have:=a5H (l:=ds) (h:=c.Target)
  constructor
  ·intro q
   exact this.1 (by omega)
  ·intro q
   have:=this.2 q
   omega
theorem c3O(l:List c9)(ds:List Int)(hl:l.length≤1000)(hd:ds.length≤1000):a7i (l.map wcR) ds=some ((clr l ds).map wcR,a5h (cls l ds)):=by
 unfold a7i
 simp only[jn,List.length_map]
 refine Y1 l.length (λk (b:List k8 × List Int)=>b.1=((clr l ds).take k).map wcR∧b.2=a5h ((List.range k).filter λw=>a21 ds (l.getD w cz)&&decide (0≤(l.getD w cz).Call))) (by omega) ⟨by simp,by simp[a5h]⟩ ?_ ?_
 ·rintro k ⟨b1,b2⟩ hk ⟨rfl,rfl⟩
  left
  have hk2:k<(clr l ds).length:=by simp[clr];exact hk
  have e1:ix (l.map wcR) (k:Int)=some (wcR l[k]):=by rw[a1O,n8 hk];rfl
  have hle:(a5h ((List.range k).filter λw=>a21 ds (l.getD w cz)&&decide (0≤(l.getD w cz).Call))).length≤1000:=by
   rw[a4v]
   exact Nat.le_trans (List.length_filter_le ..) (by simp;omega)
  dsimp only
  simp only[Int.ofNat_lt,hk,decide_true,if_true,e1,d1c]
  obtain⟨v,hv,hv2⟩:=a6f (c8c l[k] ds hd)
  rw[hv,d1c]
  have hv2:=Option.some.inj hv2
  rw[hv2,a0I hk2,List.map_append,List.range_succ,List.filter_append]
  have ec:(clr l ds)[k]=a6g ds l[k]:=List.getElem_map _
  have lc:(List.map wcR (List.take k (clr l ds))).length≤1000:=by simp[clr];omega
  rw[ec]
  unfold a6g
  by_cases c:a21 ds l[k]=true
  ·rw[if_pos c,if_pos c]
   by_cases c2:0≤l[k].Call
   ·rw[if_pos (by simpa[wcR] using c2),B2 (by omega) (by simp only[List.length_cons,List.length_nil];omega),d1c,B2 (by omega) (by simp only[List.length_cons,List.length_nil];omega),d1c,k7]
    refine⟨_,rfl,rfl,?_⟩
    simp only[List.filter_cons,List.filter_nil,a0l hk,c,c2,decide_true,Bool.and_self,if_true]
    simp[a5h]
   ·rw[if_neg (by simpa[wcR] using c2),B2 (by omega) (by simp only[List.length_cons,List.length_nil];omega),d1c,k7]
    refine⟨_,rfl,rfl,?_⟩
    simp only[List.filter_cons,List.filter_nil,a0l hk,c,c2,decide_false,Bool.and_false,Bool.false_eq_true,if_false,List.append_nil]
  ·rw[if_neg c,if_neg c,B2 (by omega) (by simp only[List.length_cons,List.length_nil];omega),d1c,k7]
   refine⟨_,rfl,rfl,?_⟩
   have c:a21 ds l[k]=false:=by simpa using c
   simp only[List.filter_cons,List.filter_nil,a0l hk,c,Bool.false_and,Bool.false_eq_true,if_false,List.append_nil]
 ·rintro⟨b1,b2⟩ ⟨rfl,rfl⟩
  refine⟨_,if_neg (by simp),?_⟩
  dsimp only
  rw[List.take_of_length_le (by simp[clr])]
  rfl
end Go.Sh
namespace Go.Sh
def clH(x:Hp)(ds:List Int):Hp:=⟨x.S,x.Roots,clr x.a7 ds,x.T,⟨x.Q.L++clt x.a7 ds,x.Q.Cap⟩⟩
theorem a1G(l:List c9)(ds:List Int):(clt l ds).length=(cls l ds).length:=List.length_map ..
theorem c1i{l:List c9}{ds:List Int}{w:Nat}(h:w∈cls l ds):w<l.length:=by
 unfold cls at h
 rw[List.mem_filter,List.mem_range] at h
 exact h.1
theorem c1j{l:List c9}{ds:List Int}{k:Nat}(h:k<(clt l ds).length):(clt l ds)[k]=⟨2,(((cls l ds)[k]'(by rw[←a1G];exact h):Nat):Int),(l.getD ((cls l ds)[k]'(by rw[←a1G];exact h)) cz).Call⟩:=List.getElem_map _
theorem b6q{l:List c9}{ds:List Int}{w:Nat}(h:w<l.length):ix (clr l ds) (w:Int)=some (a6g ds l[w]):=by
 unfold clr
 rw[a1O,n8 h];rfl
section
variable{x:Hp}{ds:List Int}(hc:x.a7.length≤6)(hd:ds.length≤1000)(hq:(x.Q.L++clt x.a7 ds).length≤30)(hcap:x.Q.Cap=30)
include hc hd hq hcap
theorem b4c{k:Nat}(hk:k<(clt x.a7 ds).length):tad ⟨x.Q.L++(clt x.a7 ds).take k,x.Q.Cap⟩ (clt x.a7 ds)[k]=(⟨x.Q.L++(clt x.a7 ds).take (k+1),x.Q.Cap⟩,0):=by
 rw[List.length_append] at hq
 unfold tad
 rw[if_neg (by dsimp only;rw[List.length_append,List.length_take,hcap];omega),a0I hk,List.append_assoc]
theorem b7P:a08 x ds=some (clH x ds):=by
 unfold a08
 rw[c1f _ _ (by omega) hd,d1c]
 dsimp only
 simp only[jn,a4v]
 have hq2:=hq
 rw[List.length_append] at hq2
 refine Y1 (cls x.a7 ds).length (λk (q:TQ)=>q=⟨x.Q.L++(clt x.a7 ds).take k,x.Q.Cap⟩) (by rw[←a1G];omega) (by simp) ?_ ?_
 ·rintro k q hk rfl
  left
  have hw:=c1i (List.getElem_mem hk)
  have hk2:k<(clt x.a7 ds).length:=by rw[a1G];exact hk
  simp only[Int.ofNat_lt,hk,decide_true,if_true,b5b hk,d1c,b6q hw]
  have et:(⟨2,(((cls x.a7 ds)[k]:Nat):Int),(a6g ds x.a7[(cls x.a7 ds)[k]]).Call⟩:j2)=(clt x.a7 ds)[k]:=by
   rw[c1j,(b4N ds _).2.1,a0l hw]
  rw[et,c5H _ (by dsimp only;rw[List.length_append,List.length_take];omega),b4c hc hd hq hcap hk2,d1c,k7 (by rw[←a1G] at hk;omega)]
  exact⟨_,rfl,rfl⟩
 ·rintro q rfl
  refine⟨_,if_neg (by simp),?_⟩
  rw[←a1G,List.take_length]
  rfl
theorem c5T{K:r9→Option g5}:((lp (S:=Int × r9) (E:=r9) (λ((s68,s69):Int × r9)=>
   if (decide (s68<((a5h (cls x.a7 ds)).length:Int))) then
    (ix (a5h (cls x.a7 ds)) s68).bind λv72=>
    (ix ((clr x.a7 ds).map wcR) v72).bind λv73=>
    (a3R s69 (⟨2,v72,v73.Call⟩:p6)).bind λv74=>
    some (.inl (w7 (s68+1),v74.1))
   else
   some (.inr s69)) (0,tqR x.Q)).bind K)=K (tqR (clH x ds).Q):=by
 have hq2:=hq
 rw[List.length_append] at hq2
 have key:=a0W (f:=λ((s68,s69):Int × r9)=>
   if (decide (s68<((a5h (cls x.a7 ds)).length:Int))) then
    (ix (a5h (cls x.a7 ds)) s68).bind λv72=>
    (ix ((clr x.a7 ds).map wcR) v72).bind λv73=>
    (a3R s69 (⟨2,v72,v73.Call⟩:p6)).bind λv74=>
    some (Sum.inl (w7 (s68+1),v74.1))
   else
   some (.inr s69)) (t0:=tqR x.Q) (cls x.a7 ds).length (λk (q:r9)=>q=tqR ⟨x.Q.L++(clt x.a7 ds).take k,x.Q.Cap⟩) (λq=>q=tqR (clH x ds).Q) (by rw[←a1G];omega) (by simp) ?_ ?_
 ·obtain⟨e,h1,h2⟩:=key
  rw[h1,d1c,h2]
 ·rintro k q hk rfl
  left
  have hw:=c1i (List.getElem_mem hk)
  have hk2:k<(clt x.a7 ds).length:=by rw[a1G];exact hk
  have ei:ix ((clr x.a7 ds).map wcR) (((cls x.a7 ds)[k]:Nat):Int)=some (wcR (a6g ds x.a7[(cls x.a7 ds)[k]])):=by rw[a1O,b6q hw];rfl
  simp only[a4v,Int.ofNat_lt,hk,decide_true,if_true,b5b hk,d1c,ei]
  have et:(⟨2,(((cls x.a7 ds)[k]:Nat):Int),(wcR (a6g ds x.a7[(cls x.a7 ds)[k]])).Call⟩:p6)=tkR (clt x.a7 ds)[k]:=by
   rw[c1j,a0l hw]
   show (⟨2,_,(a6g ds x.a7[(cls x.a7 ds)[k]]).Call⟩:p6)=_
   rw[(b4N ds _).2.1]
   rfl
  rw[et,c5D _ (by dsimp only;rw[List.length_append,List.length_take];omega),b4c hc hd hq hcap hk2,d1c,k7 (by rw[←a1G] at hk;omega)]
  exact⟨_,rfl,rfl⟩
 ·rintro q rfl
  refine⟨_,if_neg (by rw[a4v];simp),?_⟩
  rw[←a1G,List.take_length]
  rfl
end
theorem b0N(s:a8)(i:Nat)(c d:b8):E9 (E9 s i c) i d=E9 s i d:=by
 unfold E9
 dsimp only
 rw[List.set_set]
section
variable{s:a8}(hR:SR s){d:Int}(hd:d∈lv s)
include hR hd
def k1(s:a8)(d:Int):a8:=E9 s (B4 d) ⟨1,(ce s (B4 d)).Gen,ded (ob s d)⟩
def k2(s:a8)(d:Int):a8:=E9 s (B4 d) ⟨2,(ce s (B4 d)).Gen,ded (ob s d)⟩
theorem b4Q:OkO s (ded (ob s d)):=by
 have ho:=K0 hR hd
 exact⟨ho.s1,ho.s2,Int.le_refl _,ho.wk,ho.p1,ho.p2,Nat.zero_le _⟩
theorem b8a:seO s d (ded (ob s d))=k1 s d:=by
 have q:=w9 hR hd
 unfold seO a02 k1 E9
 rw[q.2.1]
theorem c5u:At (k1 s d) d (B4 d):=by
 have q:=w9 hR hd
 refine⟨by unfold k1;rw[W6];exact q.1,?_,?_⟩
 ·unfold k1;rw[J2 q.1,if_pos rfl]
 ·unfold k1;rw[J2 q.1,if_pos rfl];exact q.2.2
theorem c5v:SR (k1 s d):=by rw[←b8a hR hd];exact a1C (o:=ded (ob s d)) hR hd rfl (b4Q hR hd)
theorem c5y:SR (k2 s d):=by
 have q:=w9 hR hd
 have hc:=hR.cell _ q.1
 unfold k2
 refine hR.E9 q.1 ⟨by simp,by simp,hc.2.2.1,hc.2.2.2⟩ (λq=>absurd (.inr rfl) q) (λ_=>⟨b4Q hR hd,.inl q.2.1,?_⟩)
 show (ob s d).Serial=_
 rw[O5 hR q]
theorem c5w:P9 (k2 s d) d (B4 d):=by
 have q:=w9 hR hd
 refine⟨by unfold k2;rw[W6];exact q.1,?_,?_⟩
 ·unfold k2;rw[J2 q.1,if_pos rfl];exact .inr rfl
 ·unfold k2;rw[J2 q.1,if_pos rfl];exact q.2.2
theorem c33:O1 (k1 s d).S d=some ((k2 s d).S,0):=by
 have q:=w9 hR hd
 have hR1:=c5v hR hd
 have q1:=c5u hR hd
 have hr:=K1 hR hd
 have hlen:=hR1.len
 have hH:Hnd d:=((a8h hR1).2 q1.d).2.1
 have hsl:(d-1) % 32=(B4 d:Nat):=((a8h hR1).2 q1.d).2.2.1
 have hg:(d-1) / 32=(ce s (B4 d)).Gen:=by
  have:=q.2.2
  have h24:=hR.len
  have:=q.1
  omega
 unfold O1 C1
 rw[a2y hR1 q1.d,d1c,if_neg (by simp),b4l q1.1,d1c,q1.2.1,if_neg (by simp),d1c,if_neg (by simp),a20 (by omega),d1c,if_pos hH,hsl,a37 (by omega),d1c,if_pos hH,hg,a4U rfl q1.1 hlen,d1c]
 have e:(ce (k1 s d) (B4 d)).Val=ded (ob s d):=by unfold k1;rw[J2 q.1,if_pos rfl]
 rw[e]
 congr 2
 show (E9 (k1 s d) (B4 d) _).S=(k2 s d).S
 unfold k1 k2
 rw[b0N]
theorem c5r(hw:(ob s d).Weak=0):gvA (k2 s d) (B4 d)=gnA s d:=by
 have q:=w9 hR hd
 have e:ce (k2 s d) (B4 d)=⟨2,(ce s (B4 d)).Gen,ded (ob s d)⟩:=by unfold k2;rw[J2 q.1,if_pos rfl]
 unfold gvA gnA gnC
 rw[e]
 rw[O5 hR q] at hw
 rw[if_pos hw]
 unfold k2
 rw[b0N]
 rfl
theorem c5x(hw:(ob s d).Weak≠0):k2 s d=gnA s d:=by
 have q:=w9 hR hd
 unfold k2 gnA gnC
 rw[O5 hR q] at hw ⊢
 rw[if_neg hw]
end
theorem c0o{x:Hp}(hR:SR x.S){d:Int}(hd:d∈lv x.S):T7 x d=some (wS x (gnA x.S d)):=by
 unfold T7
 rw[b2v hR hd,d1c]
 have e1:I0 x.S d (⟨(ob x.S d).Serial,0,(ob x.S d).Weak,(ob x.S d).Prog,(ob x.S d).Started,[]⟩:l4)=some (k1 x.S d,0):=by
  rw[←b8a hR hd]
  exact a9N (o:=ded (ob x.S d)) hR hd rfl (b4Q hR hd)
 rw[e1,d1c,c33 hR hd,d1c]
 by_cases hw:(ob x.S d).Weak=0
 ·rw[if_pos (by simpa using hw),b9i (c5y hR hd) (c5w hR hd),d1c,c5r hR hd hw]
  rfl
 ·rw[if_neg (by simpa using hw)]
  show some (wS x (k2 x.S d))=_
  rw[c5x hR hd hw]
theorem c6E{s:a8}(hR:SR s){d:Int}(hd:d∈lv s):a9r (sO (k1 s d)) d=some (sO (k2 s d)):=by
 have q:=w9 hR hd
 have hR1:=c5v hR hd
 have q1:=c5u hR hd
 have hlen:=hR1.len
 have hr:=K1 hR hd
 have hi:=q1.1
 have hi2:B4 d<(sO (k1 s d)).a7.length:=by rw[y9];exact hi
 have J1:B4 d<(pl (sO (k1 s d))).a7.length:=by rw[a0v];exact hi2
 have hlen2:(sO (k1 s d)).a7.length≤24:=by rw[y9];exact hlen
 unfold a9r b2Z a9m
 rw[a1S _ (by omega),d1c,a8g (k1 s d) (by omega),a2y hR1 q1.d,d1c,if_neg (by simp),b6V hi2,d1c]
 have hst:(plc (B4 d) (sO (k1 s d)).a7[B4 d]).State=1:=by
  have:=q1.2.1
  rw[C9 hi] at this
  simpa[plc,sO,cO] using this
 have hgen:(plc (B4 d) (sO (k1 s d)).a7[B4 d]).Gen=(ce s (B4 d)).Gen:=by
  have:(ce (k1 s d) (B4 d)).Gen=(ce s (B4 d)).Gen:=by unfold k1;rw[J2 q.1,if_pos rfl]
  rw[C9 hi] at this
  simpa[plc,sO,cO] using this
 rw[hst,if_neg (by simp),d1c,if_neg (by simp),d1c]
 dsimp only
 rw[b6V hi2,d1c]
 have w3:∀c:r7,S0 (pl (sO (k1 s d))) ((B4 d:Nat):Int) c=some ⟨(pl (sO (k1 s d))).a7.set (B4 d) c,(pl (sO (k1 s d))).Last⟩:=λc=>by
  unfold S0
  rw[N7 (by omega) (by rw[a0v];omega),d1c,n8 J1,d1c,Int.toNat_natCast]
 rw[w3,d1c,d1c,b3x _ _ (by omega) (by simp[a0v]),d1c,hgen]
 unfold k2
 rw[←b0N s (B4 d) ⟨1,(ce s (B4 d)).Gen,ded (ob s d)⟩,b9S]
 show some _=some (⟨(sO (k1 s d)).a7.set (B4 d) _,_,_⟩:k9)
 congr 1
 congr 1
 refine List.ext_getElem (by simp) λk h1 h2=>?_
 have hk:k<(k1 s d).S.a7.length:=by simpa[y9] using h1
 have hk2:k<(sO (k1 s d)).a7.length:=by rw[y9];exact hk
 have hk3:k<(pl (sO (k1 s d))).a7.length:=by rw[a0v];exact hk2
 simp only[List.getElem_map,List.getElem_range,List.getElem_set]
 rw[a4o J1,a0l hk2,a0l hk3]
 by_cases e:k=B4 d
 ·subst e
  rw[if_pos rfl,if_pos rfl]
  have e2:(sO (k1 s d)).a7[B4 d].Val=oo (ded (ob s d)):=by
   have:(ce (k1 s d) (B4 d)).Val=ded (ob s d):=by unfold k1;rw[J2 q.1,if_pos rfl]
   rw[←this,C9 hi]
   simp[sO,cO]
  rw[e2]
  rfl
 ·rw[if_neg e,if_neg (Ne.symm e)]
  simp[sO,pl,plc,cO]
theorem c6q{x:Hp}(hR:SR x.S){d:Int}(hd:d∈lv x.S):a4H (hO x) d=some (hO (wS x (gnA x.S d))):=by
 unfold a4H
 rw[show (hO x).S=sO x.S from rfl,a8W hR hd,d1c]
 have e1:J5 (sO x.S) d (⟨(oo (ob x.S d)).Serial,0,(oo (ob x.S d)).Weak,(oo (ob x.S d)).Prog,(oo (ob x.S d)).Started,[]⟩:A0)=some (sO (k1 x.S d),0):=by
  rw[←b8a hR hd]
  exact a9O (o:=ded (ob x.S d)) hR hd rfl (b4Q hR hd)
 rw[e1,d1c,c6E hR hd,d1c]
 by_cases hw:(ob x.S d).Weak=0
 ·rw[if_pos (by simpa[oo] using hw),c1R (c5y hR hd) (c5w hR hd),d1c,c5r hR hd hw]
  rfl
 ·rw[if_neg (by simpa[oo] using hw)]
  show some (hO (wS x (k2 x.S d)))=_
  rw[c5x hR hd hw]
end Go.Sh
namespace Go.Sh
theorem b9P:∀(l:List Int) {x:Hp},SR x.S→SR (l.foldl P2 x).S
 | [],x,h=>h
 | v::l,x,h=>b9P l (x:=P2 x v) (b8J h v)
theorem b9O:∀(l:List Int) {x:Hp},SR x.S→SL x→SL (l.foldl P2 x)
 | [],x,_,h=>h
 | v::l,x,hR,h=>b9O l (x:=P2 x v) (b8J hR v) (h.rls hR v)
theorem c0E(l:List Int){k:Nat}(hk:k<l.length)(x:Hp):(l.take (k+1)).foldl P2 x=P2 ((l.take k).foldl P2 x) l[k]:=by
 rw[a0I hk,List.foldl_append]
 rfl
theorem b5E{y:Hp}(hR:SR y.S)(l:List Int)(hl:l.length≤1000000)(hb:∀v∈l,v≤9223372036854775807){K:Hp→Option Hp}:((lp (S:=Int × b9) (E:=b9) (λ((s35,s36):Int × b9)=>
     if (decide (s35<(l.length:Int))) then
      (ix l s35).bind λv39=>
      (D7 s36 v39).bind λv40=>
      some (.inl (w7 (s35+1),v40))
     else
     some (.inr s36)) (0,y)).bind K)=K (l.foldl P2 y):=by
 have key:=M0 l P2 id (λk z=>SR z.S) (b0:=y) (f:=λ((s35,s36):Int × b9)=>
     if (decide (s35<(l.length:Int))) then
      (ix l s35).bind λv39=>
      (D7 s36 v39).bind λv40=>
      some (Sum.inl (w7 (s35+1),v40))
     else
     some (.inr s36)) (by omega) hR (λk hk z hz=>?_) (λz hz=>by simp)
 ·rw[key,d1c]
  rfl
 ·simp only[Int.ofNat_lt,hk,decide_true,if_true,n8 hk,d1c,a5v hz (hb _ (List.getElem_mem hk))]
  rw[k7]
  exact⟨rfl,b8J hz _⟩
theorem b29{y:Hp}(hR:SR y.S)(l:List Int)(hl:l.length≤1000000)(hb:∀v∈l,v≤9223372036854775807){K:g5→Option g5}:((lp (S:=Int × g5) (E:=g5) (λ((s45,s46):Int × g5)=>
      if (decide (s45<(l.length:Int))) then
       (ix l s45).bind λv49=>
       (E8 s46 v49).bind λv50=>
       some (.inl (w7 (s45+1),v50))
      else
      some (.inr s46)) (0,hO y)).bind K)=K (hO (l.foldl P2 y)):=by
 have key:=a0W (f:=λ((s45,s46):Int × g5)=>
      if (decide (s45<(l.length:Int))) then
       (ix l s45).bind λv49=>
       (E8 s46 v49).bind λv50=>
       some (Sum.inl (w7 (s45+1),v50))
      else
      some (.inr s46)) (t0:=hO y) l.length (λk z=>z=hO ((l.take k).foldl P2 y)) (λz=>z=hO (l.foldl P2 y)) (by omega) rfl ?_ ?_
 ·obtain⟨e,h1,h2⟩:=key
  rw[h1,d1c,h2]
 ·rintro k z hk rfl
  left
  have hz:=b9P (l.take k) hR
  simp only[Int.ofNat_lt,hk,decide_true,if_true,n8 hk,d1c,a7n hz (hb _ (List.getElem_mem hk))]
  rw[k7,←c0E l hk]
  exact⟨_,rfl,rfl⟩
 ·rintro z rfl
  exact⟨_,if_neg (by simp),by rw[List.take_length]⟩
theorem b6C(s:a8)(ds:List Int){k:Nat}(hk:k<ds.length):gnL s (ds.take (k+1))=gnA (gnL s (ds.take k)) ds[k]:=by
 unfold gnL
 rw[a0I hk,List.foldl_append]
 rfl
section
variable{y:Hp}(hR:SR y.S){ds:List Int}(hn:ds.Nodup)(hm:∀d∈ds,d∈lv y.S)
include hR hn hm
theorem b2A{k:Nat}(hk:k<ds.length):SR (gnL y.S (ds.take k))∧ds[k]∈lv (gnL y.S (ds.take k)):=by
 have g:=a2W (ds.take k) hR ((List.take_sublist k ds).nodup hn) λd hd=>hm d (List.mem_of_mem_take hd)
 refine⟨g.sr,?_⟩
 rw[g.lv,List.mem_filter,decide_eq_true_iff]
 refine⟨hm _ (List.getElem_mem hk),λq=>?_⟩
 rw[←List.take_append_drop k ds,List.nodup_append] at hn
 exact hn.2.2 _ q ds[k] (by rw[List.drop_eq_getElem_cons hk];exact List.mem_cons_self ..) rfl
theorem c0n(hl:ds.length≤1000){K:Hp→Option Hp}:((lp (S:=Int × b9) (E:=b9) (λ((s42,s43):Int × b9)=>
    if (decide (s42<(ds.length:Int))) then
     (ix ds s42).bind λv46=>
     (T7 s43 v46).bind λv47=>
     some (.inl (w7 (s42+1),v47))
    else
    some (.inr s43)) (0,y)).bind K)=K (wS y (gnL y.S ds)):=by
 have key:=a0W (f:=λ((s42,s43):Int × b9)=>
    if (decide (s42<(ds.length:Int))) then
     (ix ds s42).bind λv46=>
     (T7 s43 v46).bind λv47=>
     some (Sum.inl (w7 (s42+1),v47))
    else
    some (.inr s43)) (t0:=y) ds.length (λk z=>z=wS y (gnL y.S (ds.take k))) (λz=>z=wS y (gnL y.S ds)) (by omega) rfl ?_ ?_
 ·obtain⟨e,h1,h2⟩:=key
  rw[h1,d1c,h2]
 ·rintro k z hk rfl
  left
  obtain⟨h1,h2⟩:=b2A hR hn hm hk
  simp only[Int.ofNat_lt,hk,decide_true,if_true,n8 hk,d1c,c0o (x:=wS y (gnL y.S (ds.take k))) h1 h2]
  rw[k7,b6C _ _ hk]
  exact⟨_,rfl,rfl⟩
 ·rintro z rfl
  exact⟨_,if_neg (by simp),by rw[List.take_length]⟩
theorem b6L(hl:ds.length≤1000){K:g5→Option g5}:((lp (S:=Int × g5) (E:=g5) (λ((s52,s53):Int × g5)=>
     if (decide (s52<(ds.length:Int))) then
      (ix ds s52).bind λv56=>
      (a4H s53 v56).bind λv57=>
      some (.inl (w7 (s52+1),v57))
     else
     some (.inr s53)) (0,hO y)).bind K)=K (hO (wS y (gnL y.S ds))):=by
 have key:=a0W (f:=λ((s52,s53):Int × g5)=>
     if (decide (s52<(ds.length:Int))) then
      (ix ds s52).bind λv56=>
      (a4H s53 v56).bind λv57=>
      some (Sum.inl (w7 (s52+1),v57))
     else
     some (.inr s53)) (t0:=hO y) ds.length (λk z=>z=hO (wS y (gnL y.S (ds.take k)))) (λz=>z=hO (wS y (gnL y.S ds))) (by omega) rfl ?_ ?_
 ·obtain⟨e,h1,h2⟩:=key
  rw[h1,d1c,h2]
 ·rintro k z hk rfl
  left
  obtain⟨h1,h2⟩:=b2A hR hn hm hk
  simp only[Int.ofNat_lt,hk,decide_true,if_true,n8 hk,d1c,c6q (x:=wS y (gnL y.S (ds.take k))) h1 h2]
  rw[k7,b6C _ _ hk]
  exact⟨_,rfl,rfl⟩
 ·rintro z rfl
  exact⟨_,if_neg (by simp),by rw[List.take_length]⟩
end
section
variable{x:Hp}(hx:V1 x){ds:List Int}(hn:ds.Nodup)(hm:∀d∈ds,d∈lv x.S)
include hx hn hm
theorem b4R:ds.length≤24:=Nat.le_trans (a9i hn hm) (a0X (s7.2 hx.sh.sr))
theorem b4Z{d:Int}(hd:d∈lv x.S):(ob x.S d).Fields.length≤4:=(K0 hx.sh.sr hd).fl
theorem b5m{d:Int}(hd:d∈lv x.S):(outs x.S d).length≤4:=Nat.le_trans (b8g _) (b4Z hx hn hm hd)
theorem a69:∀(l:List Int),(∀d∈l,d∈lv x.S)→(l.flatMap (outs x.S)).length≤4*l.length
 | [],_=>by simp
 | d::l,h=>by
  rw[List.flatMap_cons,List.length_append,List.length_cons]
  have:=a69 l λe he=>h e (List.mem_cons_of_mem _ he)
  have:=b5m hx hn hm (h d (List.mem_cons_self ..))
  omega
theorem b9A:∀v∈ds.flatMap (outs x.S)++(wot x.T ds).2,v≤9223372036854775807:=λv hv=>by
 rcases List.mem_append.1 hv with q | q
 ·obtain⟨d,hd,q⟩:=List.mem_flatMap.1 q
  obtain⟨q,_⟩:=a8m.1 q
  rcases hx.sh.fl d (hm d hd) v q with e | e
  ·omega
  ·exact a5S hx.sh.sr e
 ·by_cases h0:v=0
  ·omega
  ·have hl:=b4R hx hn hm
   have h3:=(a4V hx.sh.hr ds (by omega)).2.2.2.2.2 v
   have h4:=a5H.2 ⟨h0,q⟩
   have h5:0<own x.T v:=by omega
   obtain⟨p,hp,hq⟩:=List.countP_pos_iff.1 h5
   have hq:(v != 0&&p.Val==v)=true:=hq
   rw[Bool.and_eq_true,beq_iff_eq] at hq
   have:=(hx.sh.pr _ _ (a3O.1 hp)).2
   rw[hq.2] at this
   exact a5S hx.sh.sr this
theorem b6T:(ds.flatMap (outs x.S)++(wot x.T ds).2).length≤200:=by
 have hl:=b4R hx hn hm
 have h1:=a69 hx hn hm ds hm
 have h2:=(a4V hx.sh.hr ds (by omega)).2.2.1
 rw[List.length_append]
 omega
theorem c3M(hq:(x.Q.L++clt x.a7 ds).length≤30){l:List Int}(h1:P3 x l=some ds):a0E x l=some (buH x ds):=by
 have hl:=b4R hx hn hm
 have hR:=hx.sh.sr
 obtain⟨w1,w2,w3,w4,w5,w6⟩:=a4V hx.sh.hr ds (by omega)
 have ol:=b6T hx hn hm
 have fl:=a69 hx hn hm ds hm
 unfold a0E
 rw[h1,d1c,b7P (by have:=hx.sh.c6;omega) (by omega) hq hx.sh.cap,d1c]
 simp only[jn]
 have key:=M0 ds (λb d=>b++outs x.S d) id (λk b=>b.length≤4*k) (b0:=[]) (f:=λ((s49,s50):Int × (List Int))=>
   if (decide (s49<(ds.length:Int))) then
    (ix ds s49).bind λv53=>
    (u5 (clH x ds).S v53).bind λv54=>
    (a2P v54.1.Fields).bind λv55=>
    (app 8 s50 v55).bind λv56=>
    some (Sum.inl (w7 (s49+1),v56))
   else
   some (.inr s50)) (by omega) (by simp) (λk hk b hb=>?_) (λb hb=>by simp)
 ·rw[key,d1c,a8i,List.nil_append]
  dsimp only[id]
  rw[show (clH x ds).T=x.T from rfl,w1,d1c]
  have ol2:=ol
  rw[List.length_append] at ol2
  rw[B2 (by omega) (by omega),d1c]
  have k1:=c0n (y:=⟨(clH x ds).S,(clH x ds).Roots,(clH x ds).a7,(wot x.T ds).1,(clH x ds).Q⟩) hR hn hm (by omega) (K:=λe=>(lp (S:=Int × b9) (E:=b9) (λ((s35,s36):Int × b9)=>
     if (decide (s35<((ds.flatMap (outs x.S)++(wot x.T ds).2).length:Int))) then
      (ix (ds.flatMap (outs x.S)++(wot x.T ds).2) s35).bind λv39=>
      (D7 s36 v39).bind λv40=>
      some (.inl (w7 (s35+1),v40))
     else
     some (.inr s36)) (0,e)).bind λe34=>some e34)
  refine Eq.trans k1 ?_
  have g:=a2W ds hR hn hm
  have k2:=b5E (y:=wS (⟨(clH x ds).S,(clH x ds).Roots,(clH x ds).a7,(wot x.T ds).1,(clH x ds).Q⟩:Hp) (gnL x.S ds)) g.sr _ (by omega) (b9A hx hn hm) (K:=λe34=>some e34)
  refine Eq.trans k2 ?_
  rfl
 ·have hd:=hm _ (List.getElem_mem hk)
  have f4:=b4Z hx hn hm hd
  have o4:=b5m hx hn hm hd
  simp only[Int.ofNat_lt,hk,decide_true,if_true,n8 hk,d1c,show (clH x ds).S=x.S from rfl,b2v hR hd,b6Q _ (by omega:(ob x.S ds[k]).Fields.length≤1000000)]
  have e:nz (ob x.S ds[k]).Fields=outs x.S ds[k]:=rfl
  rw[e,B2 (by omega) (by omega),d1c,k7]
  exact⟨rfl,by rw[List.length_append];omega⟩
theorem b95(hq:(x.Q.L++clt x.a7 ds).length≤30){l:List Int}(h1:a6J (hO x) l=some ds):a6I (hO x) l=some (hO (buH x ds)):=by
 have hl:=b4R hx hn hm
 have hR:=hx.sh.sr
 obtain⟨w1,w2,w3,w4,w5,w6⟩:=a4V hx.sh.hr ds (by omega)
 have ol:=b6T hx hn hm
 have fl:=a69 hx hn hm ds hm
 have c6:=hx.sh.c6
 unfold a6I
 rw[h1,d1c,show (hO x).a7=x.a7.map wcR from rfl,c3O _ _ (by omega) (by omega),d1c]
 simp only[jn]
 rw[show (hO x).Q=tqR x.Q from rfl,c5T (by omega) (by omega) hq hx.sh.cap]
 have key:=M0 ds (λb d=>b++outs x.S d) id (λk b=>b.length≤4*k) (b0:=[]) (f:=λ((s59,s60):Int × (List Int))=>
    if (decide (s59<(ds.length:Int))) then
     (ix ds s59).bind λv63=>
     (D9 (hO x).S v63).bind λv64=>
     (a1v v64.1.Fields).bind λv65=>
     (app 8 s60 v65).bind λv66=>
     some (Sum.inl (w7 (s59+1),v66))
    else
    some (.inr s60)) (by omega) (by simp) (λk hk b hb=>?_) (λb hb=>by simp)
 ·rw[key,d1c,a8i,List.nil_append]
  dsimp only[id]
  rw[show (hO x).T=x.T.map J1 from rfl,w4,d1c]
  dsimp only
  have ol2:=ol
  rw[List.length_append] at ol2
  rw[B2 (by omega) (by omega),d1c]
  have k1:=b6L (y:=⟨(clH x ds).S,(clH x ds).Roots,(clH x ds).a7,(wot x.T ds).1,(clH x ds).Q⟩) hR hn hm (by omega) (K:=λe=>(lp (S:=Int × g5) (E:=g5) (λ((s45,s46):Int × g5)=>
      if (decide (s45<((ds.flatMap (outs x.S)++(wot x.T ds).2).length:Int))) then
       (ix (ds.flatMap (outs x.S)++(wot x.T ds).2) s45).bind λv49=>
       (E8 s46 v49).bind λv50=>
       some (.inl (w7 (s45+1),v50))
      else
      some (.inr s46)) (0,e)).bind λe44=>some e44)
  refine Eq.trans k1 ?_
  have g:=a2W ds hR hn hm
  have k2:=b29 (y:=wS (⟨(clH x ds).S,(clH x ds).Roots,(clH x ds).a7,(wot x.T ds).1,(clH x ds).Q⟩:Hp) (gnL x.S ds)) g.sr _ (by omega) (b9A hx hn hm) (K:=λe44=>some e44)
  refine Eq.trans k2 ?_
  rfl
 ·have hd:=hm _ (List.getElem_mem hk)
  have f4:=b4Z hx hn hm hd
  have o4:=b5m hx hn hm hd
  simp only[Int.ofNat_lt,hk,decide_true,if_true,n8 hk,d1c,show (hO x).S=sO x.S from rfl,a8W hR hd]
  have e:a1v (oo (ob x.S ds[k])).Fields=some (outs x.S ds[k]):=b2G _ (by show (ob x.S ds[k]).Fields.length≤_;omega)
  rw[e,d1c,B2 (by omega) (by omega),d1c,k7]
  exact⟨rfl,by rw[List.length_append];omega⟩
end
end Go.Sh
namespace Go.Sh
theorem c3K{x:Hp}(hR:SR x.S)(hS:SL x){ds:List Int}(hn:ds.Nodup)(hm:∀d∈ds,d∈lv x.S)(t:Tb):SL (a4Z x ds t):=λk hk=>by
 have g:=a2W ds hR hn hm
 have hk:k∈lv (gnL x.S ds):=hk
 rw[g.lv,List.mem_filter,decide_eq_true_iff] at hk
 have e:ob (a4Z x ds t).S k=ob x.S k:=g.ob k hk.1 hk.2
 rw[e]
 exact hS k hk.1
theorem c50{x:Hp}(hR:SR x.S)(hS:SL x){ds:List Int}(hn:ds.Nodup)(hm:∀d∈ds,d∈lv x.S):SL (buH x ds):=
 b9O _ (x:=a4Z x ds (wot x.T ds).1) (a2W ds hR hn hm).sr (c3K hR hS hn hm _)
theorem c7e{x:Hp}(hR:SR x.S)(hS:SL x){h:Int}(hh:h∈lv x.S):SL (quH x h):=by
 have hok:=b5P hR hh
 have r1:=a1C (o:=srt (ob x.S h)) hR hh rfl hok
 refine SL.D3 (x:=⟨seO x.S h (srt (ob x.S h)),x.Roots,x.a7,x.T,⟨x.Q.L ++ [qtk x h],x.Q.Cap⟩⟩) (λk hk=>?_) r1 h
 dsimp only at hk ⊢
 rw[a3l (o:=srt (ob x.S h)) hR hh rfl hok] at hk
 rw[a2n (o:=srt (ob x.S h)) hR hh rfl hok (a5S hR hk)]
 split
 ·exact hS h hh
 ·exact hS k hk
theorem c7u{x:Hp}(hx:V1 x)(hS:SL x):SL (stp x):=by
 cases h:zr x with
 | nil=>rw[a9Q h];exact hS
 | cons z l=>
  have hz:=(a4g.1 (show z∈zr x by rw[h];exact List.mem_cons_self ..)).1
  rw[a4M h]
  split
  ·exact c7e hx.sh.sr hS hz
  ·exact c50 hx.sh.sr hS (by simp) (by simpa using hz)
theorem b5Q{x:Hp}(hx:V1 x)(hS:SL x)(n:Nat):SL (stN n x):=by
 induction n with
 | zero=>exact hS
 | succ n ih=>rw[a2b];exact c7u (a0G hx n) ih
theorem c4Q{x:Hp}(hx:V1 x)(hS:SL x):SL (a4d x):=b5Q hx hS 100
section
variable{x:Hp}(hx:V1 x)(hS:SL x)
include hx hS
theorem b4I{z:Int}(hz:z∈zr x):(x.Q.L++clt x.a7 [z]).length≤30:=by
 have h1:=(b3G hx hz).sh.q30
 have hzl:=(a4g.1 hz).1
 rw[(b6o hx.sh.sr (ds:=[z]) (by simp) (by simpa using hzl)).2.2.2] at h1
 exact h1
theorem c0F(h:zr x = []):((a0F x).bind λv4=>
  if ((v4.length:Int)==0) then
   some (Sum.inr x)
  else
  (ix v4 0).bind λv5=>
  (u5 x.S v5).bind λv6=>
  (I8 v6.1).bind λv7=>
  if v7 then
   (T6 x v5).bind λv8=>
   some (.inl v8)
  else
  (cut v4 0 1).bind λv9=>
  (a0E x v9).bind λv10=>
  some (Sum.inl (α:=Hp) (β:=Hp) v10))=some (.inr x):=by
 rw[zero_eq hx.sh.sr,d1c,h]
 rfl
theorem c70(z:Int)(l:List Int):cut (z::l) 0 1=some [z]:=by
 unfold cut
 rw[if_pos (by simp;omega)]
 simp
theorem b8K(h:zr x ≠ []):((a0F x).bind λv4=>
  if ((v4.length:Int)==0) then
   some (Sum.inr x)
  else
  (ix v4 0).bind λv5=>
  (u5 x.S v5).bind λv6=>
  (I8 v6.1).bind λv7=>
  if v7 then
   (T6 x v5).bind λv8=>
   some (.inl v8)
  else
  (cut v4 0 1).bind λv9=>
  (a0E x v9).bind λv10=>
  some (Sum.inl (α:=Hp) (β:=Hp) v10))=some (.inl (stp x)):=by
 cases hz:zr x with
 | nil=>exact absurd hz h
 | cons z l=>
  have hzm:z∈zr x:=by rw[hz];exact List.mem_cons_self ..
  have hzl:=(a4g.1 hzm).1
  have hR:=hx.sh.sr
  rw[zero_eq hR,d1c,hz,if_neg (by simp;omega),show ix (z::l) 0=some z from rfl,d1c,b2v hR hzl,d1c,b9B,d1c,a4M hz]
  by_cases hd:due (ob x.S z)=true
  ·rw[if_pos hd,if_pos hd,c0z hx hS (a5S hR hzl),d1c]
   unfold quD
   rw[if_pos ⟨hzl,hd⟩]
  ·rw[if_neg hd,if_neg hd,c70 hx hS,d1c,c3M hx (ds:=[z]) (by simp) (by simpa using hzl) (b4I hx hS hzm) (by rw[b5e hR [z] (by simp) (by simpa using a5S hR hzl),b6N hzl]),d1c]
theorem b0R:a0g x=some (a4d x):=by
 obtain⟨n,hn,h1,h2,h3⟩:=b0O hx
 unfold a0g
 refine a9c (λj=>stN j x) rfl n (λ_=>True) (by omega) trivial (λk hk _=>.inl ⟨?_,trivial⟩) (λ_=>⟨stN n x,?_,by rw[h3]⟩)
 ·have:=b8K (a0G hx k) (b5Q hx hS k) (h2 k hk)
  rw[←a2b] at this
  exact this
 ·exact c0F (a0G hx n) (b5Q hx hS n) h1
theorem c4I{k:Nat}(hk:k<100)(h:zr x ≠ []){E:Type}{e:E}:((a3h (hO x)).bind λv35=>
     if ((v35.length:Int)==0) then
      some (Sum.inr e)
     else
     (ix v35 0).bind λv36=>
     (a7l (hO x) v36).bind λv37=>
     if v37 then
      (a3g (hO x) v36).bind λv38=>
      some (.inl (w7 ((k:Int)+1),v38))
     else
     (cut v35 0 1).bind λv39=>
     (a6I (hO x) v39).bind λv40=>
     some (Sum.inl (w7 ((k:Int)+1),v40)))=some (.inl (((k+1:Nat):Int),hO (stp x))):=by
 cases hz:zr x with
 | nil=>exact absurd hz h
 | cons z l=>
  have hzm:z∈zr x:=by rw[hz];exact List.mem_cons_self ..
  have hzl:=(a4g.1 hzm).1
  have hR:=hx.sh.sr
  rw[b9a hR,d1c,hz,if_neg (by simp;omega),show ix (z::l) 0=some z from rfl,d1c,c5d hx hS (a5S hR hzl),d1c,decide_eq_true hzl,Bool.true_and,a4M hz,k7]
  by_cases hd:due (ob x.S z)=true
  ·rw[if_pos hd,if_pos hd,c2S hx hS (a5S hR hzl),d1c]
   unfold quD
   rw[if_pos ⟨hzl,hd⟩]
  ·rw[if_neg hd,if_neg hd,c70 hx hS,d1c,b95 hx (ds:=[z]) (by simp) (by simpa using hzl) (b4I hx hS hzm) (by rw[c6b hR [z] (by simp) (by simpa using a5S hR hzl),b6N hzl]),d1c]
theorem b3n:R1 (hO x)=some (hO (a4d x)):=by
 obtain⟨n,hn,h1,h2,h3⟩:=b0O hx
 unfold R1
 simp only[jn]
 refine a9c (λj=>((j:Int),hO (stN j x))) (by rfl) n (λ_=>True) (by omega) trivial (λk hk _=>.inl ⟨?_,trivial⟩) (λ_=>⟨.inl (hO (stN n x)),?_,by rw[h3]⟩)
 ·dsimp only
  rw[if_pos (by simp;omega)]
  have:=c4I (a0G hx k) (b5Q hx hS k) (k:=k) (by omega) (h2 k hk) (e:=(Sum.inl (hO (stN k x)):g5 ⊕ g5))
  rw[←a2b] at this
  exact this
 ·dsimp only
  rw[if_pos (by simp;omega),b9a (a0G hx n).sh.sr,d1c,h1]
  rfl
end
end Go.Sh
namespace Go.Sh
def J9(n l m e:Int):Int:=if n<l∨n > m then e else 0
def Y8(a b c:Int):Int:=if a≠0 then a else if b≠0 then b else c
def C4(k a b c:Int):Int:=
 if k=1 then Y8 (J9 a 0 5 6) (J9 b 0 4 1) (J9 c (-1) 5 13)
 else if k=2∨k=9∨k=10 then Y8 (J9 a 0 5 6) (J9 b 0 5 6) 0
 else if k=3 then J9 a 0 5 6
 else if k=4 then Y8 (J9 a 0 5 6) (J9 b 0 5 6) (J9 c 0 3 5)
 else if k=5 then Y8 (J9 a 0 5 6) (J9 b 0 3 5) (J9 c (-1) 5 6)
 else if k=6 then Y8 (J9 a 0 5 7) (J9 b (-1) 5 6) (J9 c (-1) 5 13)
 else if k=7 then Y8 (J9 a 0 5 6) (J9 b 0 5 7) 0
 else if k=8 then Y8 (J9 a 0 5 6) (J9 b (-1) 5 6) 0
 else if k=11 then 0
 else if k=12 then J9 a 0 200 12
 else 14
def b5D:j1:=⟨some 178,0,5,6⟩
def c4F:j1:=⟨some 179,0,5,6⟩
def c8t:j1:=⟨some 179,-1,5,6⟩
def c8E:j1:=⟨some 181,-1,5,13⟩
def b00:List (Int × List j1):=[(1,[b5D,⟨some 179,0,4,1⟩,c8E]),(2,[b5D,c4F]),(3,[b5D]),(4,[b5D,c4F,⟨some 181,0,3,5⟩]),
 (5,[b5D,⟨some 179,0,3,5⟩,⟨some 181,-1,5,6⟩]),(6,[⟨some 178,0,5,7⟩,c8t,c8E]),(7,[b5D,⟨some 179,0,5,7⟩]),(8,[b5D,c8t]),(9,[b5D,c4F]),(10,[b5D,c4F]),(11,[]),(12,[⟨some 178,0,200,12⟩])]
theorem b7Q:a41=some b00:=by kernel_rfl
def a12(o:code_Op)(d:j1):Int:=if d.part=some 178 then o.A else if d.part=some 179 then o.B else o.C
def a7N(o:code_Op)(d:j1):Bool:=decide (a12 o d<d.least)||decide (a12 o d > d.most)
def a8U(o:code_Op):List j1→Int ⊕ Unit
 | []=>.inr ()
 | d::ds=>if a7N o d then .inl d.e else a8U o ds
theorem b6A(o:code_Op)(d:j1)(ds:List j1):a8U o (d::ds)=if a7N o d then .inl d.e else a8U o ds:=rfl
def b9b(d:j1):Prop:=d.part=some 178∨d.part=some 179∨d.part=some 181
theorem c67(o:code_Op){d:j1}(h:b9b d):a8V d.part o=some (a12 o d):=by
 unfold a12
 rcases h with h | h | h
 ·rw[h];rfl
 ·rw[h];rfl
 ·rw[h];rfl
theorem c6H(o:code_Op)(ds:List j1)(hl:ds.length≤10)(hp:∀d∈ds,b9b d):lp (S:=Int) (E:=Int ⊕ Unit) (λ(s11:Int)=>
   if (decide (s11<(ds.length:Int))) then
    (ix ds s11).bind λv13=>
    (a8V v13.part o).bind λv14=>
    if ((decide (v14<v13.least))||(decide (v14 > v13.most))) then
     some (.inr (.inl v13.e))
    else
    some (.inl (w7 (s11+1)))
   else
   some (.inr (.inr ()))) 0=some (a8U o ds):=by
 refine a2F (b4p ds.length (λk=>a8U o ds=a8U o (ds.drop k)) (λe=>e=a8U o ds) (by omega) rfl (λk hk hP=>?_) (λhP=>?_))
 ·rw[if_pos (by simpa using hk),n8 hk,d1c,c67 o (hp _ (List.getElem_mem hk)),d1c]
  rw[List.drop_eq_getElem_cons hk,b6A] at hP
  by_cases c:a7N o ds[k]=true
  ·rw[if_pos (show ((decide (a12 o ds[k]<ds[k].least))||(decide (a12 o ds[k] > ds[k].most)))=true from c)]
   rw[if_pos c] at hP
   exact .inr ⟨_,rfl,hP.symm⟩
  ·rw[if_neg (show ¬((decide (a12 o ds[k]<ds[k].least))||(decide (a12 o ds[k] > ds[k].most)))=true from c),k7]
   rw[if_neg c] at hP
   exact .inl ⟨rfl,hP⟩
 ·rw[List.drop_length] at hP
  exact⟨_,if_neg (by simp),hP.symm⟩
theorem c3S:∀p∈b00,p.2.length≤10∧∀d∈p.2,b9b d:=by
 have:b00.all (λp=>decide (p.2.length≤10)&&p.2.all λd=>(d.part==some 178)||(d.part==some 179)||(d.part==some 181))=true:=by kernel_rfl
 intro p hp
 have:=List.all_eq_true.1 this p hp
 rw[Bool.and_eq_true,decide_eq_true_iff,List.all_eq_true] at this
 refine⟨this.1,λd hd=>?_⟩
 have:=this.2 d hd
 simp only[Bool.or_eq_true,beq_iff_eq] at this
 unfold b9b
 rcases this with (h | h) | h
 ·exact .inl h
 ·exact .inr (.inl h)
 ·exact .inr (.inr h)
theorem b9s{m:List (Int × List j1)}{k:Int}{v:List j1}(h:z7 m k=some v):(k,v)∈m:=by
 induction m with
 | nil=>cases h
 | cons p m ih=>
  unfold z7 at h
  split at h
  ·rename_i c
   have:k=p.1:=by simpa using c
   cases h
   subst this
   exact List.mem_cons_self ..
  ·exact List.mem_cons_of_mem _ (ih h)
def a9W(o:code_Op)(ds:List j1):Int:=match a8U o ds with
 | .inl e=>e
 | .inr _=>0
theorem c41(o:code_Op):a9W o []=0:=rfl
theorem a9X(o:code_Op)(d:j1)(ds:List j1):a9W o (d::ds)=if a7N o d then d.e else a9W o ds:=by
 unfold a9W
 rw[b6A]
 cases a7N o d <;> rfl
theorem b5a(o:code_Op)(d:j1):J9 (a12 o d) d.least d.most d.e=if a7N o d then d.e else 0:=by
 unfold J9 a7N
 by_cases h:a12 o d<d.least∨a12 o d > d.most
 ·rw[if_pos h,if_pos (by simpa using h)]
 ·rw[if_neg h,if_neg (by simpa using h)]
theorem c4Z(o:code_Op)(d:j1):a9W o [d]=J9 (a12 o d) d.least d.most d.e:=by rw[a9X,c41,b5a]
theorem c3k(o:code_Op)(d e:j1)(h1:d.e≠0):a9W o [d,e]=Y8 (J9 (a12 o d) d.least d.most d.e) (J9 (a12 o e) e.least e.most e.e) 0:=by
 rw[a9X,c4Z,b5a o d]
 unfold Y8
 cases a7N o d
 ·simp only[Bool.false_eq_true,if_false,ne_eq,not_true_eq_false]
  split
  ·rfl
  ·rename_i h;simpa using h
 ·simp[h1]
theorem c40(o:code_Op)(d e f:j1)(h1:d.e≠0)(h2:e.e≠0):a9W o [d,e,f]=Y8 (J9 (a12 o d) d.least d.most d.e) (J9 (a12 o e) e.least e.most e.e) (J9 (a12 o f) f.least f.most f.e):=by
 rw[a9X,a9X,c4Z,b5a o d,b5a o e]
 unfold Y8
 cases a7N o d <;> cases a7N o e <;> simp[h1,h2]
theorem c15(o:code_Op):(match z7 b00 o.Kind with
  | none=>14
  | some ds=>a9W o ds)=C4 o.Kind o.A o.B o.C:=by
 obtain⟨k,a,b,c⟩:=o
 dsimp only
 by_cases h:1≤k∧k≤12
 ·have:k=1∨k=2∨k=3∨k=4∨k=5∨k=6∨k=7∨k=8∨k=9∨k=10∨k=11∨k=12:=by omega
  rcases this with rfl | rfl | rfl | rfl | rfl | rfl | rfl | rfl | rfl | rfl | rfl | rfl
  ·exact c40 _ _ _ _ (by decide) (by decide)
  ·exact c3k _ _ _ (by decide)
  ·exact c4Z _ _
  ·exact c40 _ _ _ _ (by decide) (by decide)
  ·exact c40 _ _ _ _ (by decide) (by decide)
  ·exact c40 _ _ _ _ (by decide) (by decide)
  ·exact c3k _ _ _ (by decide)
  ·exact c3k _ _ _ (by decide)
  ·exact c3k _ _ _ (by decide)
  ·exact c3k _ _ _ (by decide)
  ·rfl
  ·exact c4Z _ _
 ·have e:z7 b00 k=none:=by
   cases hm:z7 b00 k with
   | none=>rfl
   | some v=>
    have:=b9s hm
    simp only[b00,List.mem_cons,Prod.mk.injEq,List.not_mem_nil,or_false] at this
    omega
  rw[e]
  unfold C4
  repeat rw[if_neg (by omega)]
theorem b2d(o:code_Op):a2T o=some (C4 o.Kind o.A o.B o.C):=by
 rw[←c15]
 unfold a2T
 rw[b7Q,d1c]
 cases h:z7 b00 o.Kind with
 | none=>rfl
 | some ds=>
  obtain⟨h1,h2⟩:=c3S _ (b9s h)
  rw[if_neg (by simp)]
  simp only[jn,Option.getD_some]
  rw[c6H o ds h1 h2,d1c]
  unfold a9W
  cases a8U o ds <;> rfl
theorem c3Z(n l m e:Int):Z5 n l m e=some (J9 n l m e):=by
 unfold Z5 J9
 by_cases h:n<l∨n > m
 ·rw[if_pos h,if_pos (by simpa using h)]
 ·rw[if_neg h,if_neg (by simpa using h)]
theorem c1P(a b c:Int):T5 a b c=some (Y8 a b c):=by
 unfold T5 Y8
 by_cases h:a=0
 ·by_cases g:b=0
  ·rw[if_neg (by simpa using h),if_neg (by simpa using g),if_neg (by simpa using h),if_neg (by simpa using g)]
  ·rw[if_neg (by simpa using h),if_pos (by simpa using g),if_neg (by simpa using h),if_pos (by simpa using g)]
 ·rw[if_pos (by simpa using h),if_pos (by simpa using h)]
theorem a60(o:C0):a7m o=some (C4 o.Kind o.A o.B o.C):=by
 unfold a7m C4
 simp only[c3Z,c1P,d1c,jn]
 by_cases h:1≤o.Kind∧o.Kind≤12
 ·have:o.Kind=1∨o.Kind=2∨o.Kind=3∨o.Kind=4∨o.Kind=5∨o.Kind=6∨o.Kind=7∨o.Kind=8∨o.Kind=9∨o.Kind=10∨o.Kind=11∨o.Kind=12:=by omega
  rcases this with h | h | h | h | h | h | h | h | h | h | h | h <;> rw[h] <;> rfl
 ·have n:∀j:Int,1≤j→j≤12→(o.Kind==j)=false:=λj h1 h2=>by
   rw[beq_eq_false_iff_ne];omega
  simp only[n 1 (by omega) (by omega),n 2 (by omega) (by omega),n 3 (by omega) (by omega),n 4 (by omega) (by omega),n 5 (by omega) (by omega),n 6 (by omega) (by omega),n 7 (by omega) (by omega),n 8 (by omega) (by omega),n 9 (by omega) (by omega),n 10 (by omega) (by omega),n 11 (by omega) (by omega),n 12 (by omega) (by omega),Bool.false_eq_true,if_false]
  repeat rw[if_neg (by omega)]
end Go.Sh
namespace Go.Sh
end Go.Sh
namespace Go.Sh
end Go.Sh
namespace Go.Sh
end Go.Sh
namespace Go.Sh
def ooI(o:A0):l4:=⟨o.Serial,o.Strong,o.Weak,o.Prog,o.Started,o.Fields⟩
def sOI(s:k9):a8:=⟨⟨s.a7.map λc=>⟨c.State,c.Gen,ooI c.Val⟩,s.Last⟩,s.Serial⟩
def hOI(x:g5):Hp:=⟨sOI x.S,x.Roots,x.a7.map λc=>⟨c.Target,c.Intact,c.Call⟩,x.T.map λp=>⟨p.State,p.Key,p.Val⟩,⟨x.Q.L.map λt=>⟨t.Kind,t.At,t.Prog⟩,x.Q.Cap⟩⟩
theorem c1V(x:Hp):hOI (hO x)=x:=by
 obtain⟨⟨⟨cs,l⟩,n⟩,r,w,t,⟨q,c⟩⟩:=x
 unfold hOI hO sOI sO tqR
 dsimp only
 have a1:(cs.map cO).map (λc=>(⟨c.State,c.Gen,ooI c.Val⟩:b8))=cs:=by
  rw[List.map_map]
  refine Eq.trans (List.map_congr_left λa _=>?_) (List.map_id cs)
  rfl
 have a2:(w.map wcR).map (λc=>(⟨c.Target,c.Intact,c.Call⟩:c9))=w:=by
  rw[List.map_map]
  refine Eq.trans (List.map_congr_left λa _=>?_) (List.map_id w)
  rfl
 have a3:(t.map J1).map (λp=>(⟨p.State,p.Key,p.Val⟩:c5))=t:=by
  rw[List.map_map]
  refine Eq.trans (List.map_congr_left λa _=>?_) (List.map_id t)
  rfl
 have a4:(q.map tkR).map (λt=>(⟨t.Kind,t.At,t.Prog⟩:j2))=q:=by
  rw[List.map_map]
  refine Eq.trans (List.map_congr_left λa _=>?_) (List.map_id q)
  rfl
 rw[a1,a2,a3,a4]
theorem c6F{s:a8}(hR:SR s):E2 s=a15 (sO s):=by rw[a5k (s7.2 hR),b2C (s7.2 hR)]
section
variable{x:Hp}(hB:HB x)
include hB
end
end Go.Sh
namespace Go.Sh
structure Stl (x y:Hp):Prop where
 lv:∀h∈lv y.S,h∈lv x.S
 ser:y.S.Serial=x.S.Serial
 len:y.S.S.a7.length=x.S.S.a7.length
 ob:∀h∈Sh.lv y.S,(ob y.S h).Serial=(ob x.S h).Serial∧(Sh.ob y.S h).Prog=(Sh.ob x.S h).Prog∧(Sh.ob y.S h).Fields=(Sh.ob x.S h).Fields∧((Sh.ob x.S h).Started=true→(Sh.ob y.S h).Started=true)
 rt:y.Roots=x.Roots
 cn:y.a7.length=x.a7.length
 cl:∀i (h:i<y.a7.length) (h':i<x.a7.length),y.a7[i]=⟨x.a7[i].Target,x.a7[i].Intact&&decide (x.a7[i].Target∈Sh.lv y.S),x.a7[i].Call⟩
 q:∃l,y.Q=⟨x.Q.L++l,x.Q.Cap⟩∧(∀t∈l,t.Kind=1→t.At∈Sh.lv x.S∧(Sh.ob x.S t.At).Started=false)∧∀h∈Sh.lv y.S,(Sh.ob y.S h).Started=true→(Sh.ob x.S h).Started=false→∃t∈l,t.Kind=1∧t.At=h
 rc:∀h,b1n x.S x.T (otr x) h→b1n y.S y.T (otr y) h
 has:∀k v,Has y.T k v→Has x.T k v
theorem Stl.refl{x:Hp}(hx:HpS x):Stl x x:=by
 refine⟨λ_ h=>h,rfl,rfl,λh _=>⟨rfl,rfl,rfl,id⟩,rfl,rfl,λi h h'=>?_,⟨[],by simp,by simp,λh _ a b=>?_⟩,λ_ h=>h,λ_ _ h=>h⟩
 ·have:=(hx.cl i h).2.2.2.2
  cases hI:x.a7[i].Intact
  ·rw[Bool.false_and,←hI]
  ·rw[decide_eq_true (this hI).1,Bool.and_self,←hI]
 ·rw[a] at b;cases b
theorem Stl.trans{x y z:Hp}(a:Stl x y)(b:Stl y z):Stl x z:=by
 obtain⟨l1,q1,q2,q3⟩:=a.q
 obtain⟨l2,r1,r2,r3⟩:=b.q
 refine⟨λh hh=>a.lv h (b.lv h hh),b.ser.trans a.ser,b.len.trans a.len,λh hh=>?_,b.rt.trans a.rt,b.cn.trans a.cn,λi h h'=>?_,⟨l1++l2,?_,λt ht hk=>?_,λh hh s1 s2=>?_⟩,λh hh=>b.rc h (a.rc h hh),λk v hh=>a.has k v (b.has k v hh)⟩
 ·obtain⟨b1,b2,b3,b4⟩:=b.ob h hh
  obtain⟨a1,a2,a3,a4⟩:=a.ob h (b.lv h hh)
  exact⟨b1.trans a1,b2.trans a2,b3.trans a3,λq=>b4 (a4 q)⟩
 ·have hy:i<y.a7.length:=by rw[a.cn];exact h'
  rw[b.cl i h hy,a.cl i hy h']
  dsimp only
  congr 1
  rw[Bool.and_assoc]
  congr 1
  by_cases q:x.a7[i].Target∈Sh.lv z.S
  ·rw[decide_eq_true q,decide_eq_true (b.lv _ q)];rfl
  ·rw[decide_eq_false q,Bool.and_false]
 ·rw[r1,q1,List.append_assoc]
 ·rcases List.mem_append.1 ht with q | q
  ·exact q2 t q hk
  ·obtain⟨e1,e2⟩:=r2 t q hk
   refine⟨a.lv _ e1,?_⟩
   cases hs:(Sh.ob x.S t.At).Started
   ·rfl
   ·rw[(a.ob _ e1).2.2.2 hs] at e2;cases e2
 ·cases hs:(Sh.ob y.S h).Started
  ·obtain⟨t,ht,e⟩:=r3 h hh s1 hs
   exact⟨t,List.mem_append_right _ ht,e⟩
  ·obtain⟨t,ht,e⟩:=q3 h (b.lv h hh) hs s2
   exact⟨t,List.mem_append_left _ ht,e⟩
theorem c4P(s:a8)(h:Int)(o:l4):(seO s h o).S.a7.length=s.S.a7.length:=L7 ..
theorem c4E{x:Hp}(hx:V1 x){z:Int}(hz:z∈lv x.S)(hs:(ob x.S z).Started=false):Stl x (quH x z):=by
 have hR:=hx.sh.sr
 obtain⟨k,e1,e2,e3,e4⟩:=b1N hR hz
 have l1:=c2R hR hz
 have hob:∀h∈lv x.S,(ob (quH x z).S h).Serial=(ob x.S h).Serial∧(ob (quH x z).S h).Prog=(ob x.S h).Prog∧(ob (quH x z).S h).Fields=(ob x.S h).Fields∧((ob (quH x z).S h).Started=true↔(ob x.S h).Started=true∨h=z):=λh hh=>by
  obtain⟨n,e⟩:=b8n hR hz hh
  rw[e]
  by_cases q:h=z
  ·subst q
   rw[if_pos rfl]
   exact⟨rfl,rfl,rfl,by simp⟩
  ·rw[if_neg q]
   exact⟨rfl,rfl,rfl,by simp[q]⟩
 have hot:∀h∈otr x,h∈otr (quH x z):=λh hh=>by
  unfold otr at hh ⊢
  rw[e1,e4]
  rcases List.mem_append.1 hh with q | q
  ·exact List.mem_append_left _ q
  ·refine List.mem_append_right _ ?_
   obtain⟨t,ht,a,b⟩:=a9g.1 q
   exact a9g.2 ⟨t,List.mem_append_left _ ht,a,b⟩
 have rf:=Stl.refl hx.sh
 refine⟨λh hh=>by rw[l1] at hh;exact hh,k.ser,k.len.trans (c4P ..),λh hh=>?_,e1,by rw[e2],λi h h'=>?_,⟨[qtk x z],by rw[e4],λt ht hk=>?_,λh hh s1 s2=>?_⟩,λh hh=>?_,λk v hh=>by rw[e3] at hh;exact hh⟩
 ·rw[l1] at hh
  obtain⟨a,b,c,d⟩:=hob h hh
  exact⟨a,b,c,λq=>d.2 (.inl q)⟩
 ·have e5:(quH x z).a7[i]=x.a7[i]:=by simp only[e2]
  rw[e5,l1]
  exact rf.cl i h' h'
 ·rw[List.mem_singleton] at ht
  subst ht
  exact⟨hz,hs⟩
 ·rw[l1] at hh
  rcases (hob h hh).2.2.2.1 s1 with q | q
  ·rw[q] at s2;cases s2
  ·exact⟨qtk x z,List.mem_singleton_self _,rfl,q.symm⟩
 ·induction hh with
  | base h1 h2=>exact .base (hot _ h1) (by rw[l1];exact h2)
  | step h0 h1 h2 ih=>
   refine .step ih ?_ (by rw[l1];exact h2)
   unfold outs at h1 ⊢
   rw[(hob _ h0.live).2.2.1]
   exact h1
  | pair h1 h0 h2 ih=>exact .pair (by rw[e3];exact h1) ih (by rw[l1];exact h2)
theorem c3L{x:Hp}(hx:V1 x){z:Int}(hz:z∈zr x):Stl x (buH x [z]):=by
 have hR:=hx.sh.sr
 have hzl:=(a4g.1 hz).1
 have h0:z≠0:=λe=>b0n hR (e▸hzl)
 have hfree:=b90 hx hz
 have hn:([z]:List Int).Nodup:=by simp
 have hm:∀d ∈ [z],d∈lv x.S:=by simpa using hzl
 have g:=a2W [z] hR hn hm
 have k:=(a6M ([z].flatMap (outs x.S)++(wot x.T [z]).2) (x:=a4Z x [z] (wot x.T [z]).1) g.sr).1
 obtain⟨e1,e2,e3,e4⟩:=b6o hR hn hm
 obtain⟨_,w2,_,_,w5,w6⟩:=a4V hx.sh.hr [z] (by simp)
 have l1:∀h,h∈lv (buH x [z]).S↔h∈lv x.S∧h≠z:=λh=>by
  rw[c1c hR hn hm,List.mem_filter,decide_eq_true_iff,List.mem_singleton]
 have hob:∀h∈lv (buH x [z]).S,(ob (buH x [z]).S h).Serial=(ob x.S h).Serial∧(ob (buH x [z]).S h).Prog=(ob x.S h).Prog∧(ob (buH x [z]).S h).Fields=(ob x.S h).Fields∧(ob (buH x [z]).S h).Started=(ob x.S h).Started:=λh hh=>by
  obtain⟨a,b⟩:=(l1 h).1 hh
  obtain⟨n,e⟩:=c1d hR hn hm a (by simpa using b)
  rw[e]
  exact⟨rfl,rfl,rfl,rfl⟩
 refine⟨λh hh=>((l1 h).1 hh).1,k.ser.trans g.ser,k.len.trans g.len,λh hh=>?_,e1,by rw[e2];simp[clr],λi h h'=>?_,⟨clt x.a7 [z],by rw[e4],λt ht hk=>?_,λh hh s1 s2=>?_⟩,λh hh=>?_,λk v hh=>?_⟩
 ·obtain⟨a,b,c,d⟩:=hob h hh
  exact⟨a,b,c,λq=>d.trans q⟩
 ·have e5:(buH x [z]).a7[i]=a6g [z] x.a7[i]:=by
   simp only[e2]
   exact List.getElem_map _
  rw[e5]
  have hc:=(hx.sh.cl i h').2.2.2.2
  unfold a6g a21
  cases hI:x.a7[i].Intact
  ·rw[if_neg (by simp),Bool.false_and,←hI]
  ·have ht:=(hc hI).1
   have ht0:x.a7[i].Target≠0:=λe=>b0n hR (e▸ht)
   by_cases q:x.a7[i].Target=z
   ·rw[if_pos (by simp[q,h0]),decide_eq_false (λr=>((l1 _).1 r).2 q)]
    rfl
   ·rw[if_neg (by simp[q]),decide_eq_true ((l1 _).2 ⟨ht,q⟩),Bool.and_self,←hI]
 ·obtain⟨w,hw,rfl,_,_⟩:=a7d.1 ht
  simp at hk
 ·rw[(hob h hh).2.2.2,s2] at s1
  cases s1
 ·unfold nms at hfree
  have key:b1n (buH x [z]).S (buH x [z]).T (otr (buH x [z])) h∧h≠z:=by
   induction hh with
   | base h1 h2=>
    rename_i a
    have hne:a≠z:=λe=>by
     subst e
     exact b7v h0 (by omega:Q0 (otr x) a=0) h1
    refine⟨.base ?_ ((l1 _).2 ⟨h2,hne⟩),hne⟩
    unfold otr at h1 ⊢
    rw[e1,e4,b6G _ _ _ λt ht=>by
     obtain⟨w,_,rfl,_⟩:=a7d.1 ht
     simp]
    exact h1
   | step q0 q1 q2 ih=>
    rename_i a b
    have hne:b≠z:=λe=>by
     subst e
     have:=b9k (y:=b) q0.live
     have h1:=a5H.2 ⟨h0,q1⟩
     omega
    refine⟨.step ih.1 ?_ ((l1 _).2 ⟨q2,hne⟩),hne⟩
    unfold outs at q1 ⊢
    rw[(hob _ ((l1 _).2 ⟨q0.live,ih.2⟩)).2.2.1]
    exact q1
   | pair q1 q0 q2 ih=>
    rename_i a b
    have hne:b≠z:=λe=>by
     subst e
     have:=b9C q1 h0
     omega
    exact⟨.pair (by rw[e3];exact (w5 _ _).2 ⟨by simpa using ih.2,q1⟩) ih.1 ((l1 _).2 ⟨q2,hne⟩),hne⟩
  exact key.1
 ·rw[e3] at hh
  exact ((w5 _ _).1 hh).2
theorem c4T{x:Hp}(hx:V1 x):Stl x (stp x):=by
 cases h:zr x with
 | nil=>rw[a9Q h];exact Stl.refl hx.sh
 | cons z l=>
  have hz:z∈zr x:=by rw[h];exact List.mem_cons_self ..
  rw[a4M h]
  split
  ·rename_i q
   unfold due at q
   rw[Bool.and_eq_true,decide_eq_true_iff,Bool.not_eq_true'] at q
   exact c4E hx (a4g.1 hz).1 q.2
  ·exact c3L hx hz
theorem c4S{x:Hp}(hx:V1 x)(n:Nat):Stl x (stN n x):=by
 induction n with
 | zero=>exact Stl.refl hx.sh
 | succ n ih=>rw[a2b];exact ih.trans (c4T (a0G hx n))
theorem b7p{x:Hp}(hx:V1 x):Stl x (a4d x):=c4S hx 100
end Go.Sh
namespace Go.Sh
section
variable{x:Hp}(hB:HB x)
include hB
end
end Go.Sh
namespace Go.Sh
theorem c8e(s:a8)(h:s.S.a7.length≤30):b14 s=some (sO s):=by
 unfold b14
 simp only[jn,b15,d1c]
 have e:=a3b (b:=80) cO s.S.a7 (by omega) (by omega)
 simp only[cO,oo] at e
 rw[e]
 rfl
theorem c4R(s:a8):a7z s=some (decide (Sm s)):=by
 unfold a7z
 simp only[jn]
 refine E1 (min s.S.a7.length 30) (λk=>∀j (h:j<s.S.a7.length),j<k→s.S.a7[j].Val.Fields.length≤10) (by omega) (λ_ _ h=>by omega) (λk hk hP=>?_) (λhP=>?_)
 ·have hk1:k<s.S.a7.length:=by omega
  have hk2:k<30:=by omega
  have hc:((decide ((k:Int)<(s.S.a7.length:Int)))&&(decide ((k:Int)<30)))=true:=by simp;omega
  by_cases g:s.S.a7[k].Val.Fields.length≤10
  ·refine .inl ⟨?_,λj h hj=>?_⟩
   ·rw[hc]
    simp only[if_true,n8 hk1,d1c]
    rw[if_neg (by simp;omega),k7]
   ·rcases Nat.lt_or_ge j k with q | q
    ·exact hP j h q
    ·have:j=k:=by omega
     subst this;exact g
  ·refine .inr ⟨.inl false,?_,?_⟩
   ·rw[hc]
    simp only[if_true,n8 hk1,d1c]
    rw[if_pos (by simp;omega)]
   ·simp only
    rw[decide_eq_false (λq:Sm s=>g (q.2 k hk1))]
 ·refine⟨.inr (),?_,?_⟩
  ·rw[show ((decide (((min s.S.a7.length 30:Nat):Int)<(s.S.a7.length:Int)))&&(decide (((min s.S.a7.length 30:Nat):Int)<30)))=false by
    rcases Nat.lt_or_ge s.S.a7.length 30 with q | q
    ·simp;omega
    ·simp;omega]
   rfl
  ·simp only
   congr 1
   rw[decide_eq_decide]
   constructor
   ·intro q
    exact⟨by omega,λi h=>hP i h (by omega)⟩
   ·intro q
    have:=q.1
    omega
end Go.Sh
namespace Go.Sh
theorem c8V(t:Tb)(h:t.length≤1000):b17 t=some (t.map J1):=by
 unfold b17
 simp only[jn]
 have e:=a3b (b:=24) J1 t (by omega) (by omega)
 simp only[J1] at e
 rw[e]
 rfl
end Go.Sh
namespace Go.Sh
theorem c7Z(l:List c9)(h:l.length≤1000):a7y l=some (l.map wcR):=by
 unfold a7y
 simp only[jn]
 have e:=a3b (b:=24) wcR l (by omega) (by omega)
 simp only[wcR] at e
 rw[e]
 rfl
theorem c8W(q:TQ)(h:q.L.length≤1000):a7A q=some (tqR q):=by
 unfold a7A
 simp only[jn]
 have e:=a3b (b:=24) tkR q.L (by omega) (by omega)
 simp only[tkR] at e
 rw[e]
 rfl
theorem c6w{x:Hp}(h1:x.S.S.a7.length≤30)(h2:x.a7.length≤1000)(h3:x.T.length≤1000)(h4:x.Q.L.length≤1000):a4Q x=some (hO x):=by
 unfold a4Q
 rw[c8e x.S h1,d1c,c7Z x.a7 h2,d1c,c8V x.T h3,d1c,c8W x.Q h4,d1c]
 rfl
theorem c3X{x:Hp}(h:HpS x):a4Q x=some (hO x):=by
 have h1:=h.sr.len
 have h2:=h.c6
 have h3:=h.hr.l8
 have h4:=h.q30
 exact c6w (by omega) (by omega) (by omega) (by omega)
theorem c1L(x:Hp):a90 x=some (decide (b6j x)):=by
 unfold a90
 rw[c4R,d1c]
 congr 1
 rw[Bool.eq_iff_iff]
 simp only[Bool.and_eq_true,decide_eq_true_iff]
 unfold b6j
 constructor
 ·rintro⟨⟨⟨⟨a,b⟩,c⟩,d⟩,e⟩
  exact⟨a,by omega,by omega,by omega,by omega⟩
 ·rintro⟨a,b,c,d,e⟩
  exact⟨⟨⟨⟨a,by omega⟩,by omega⟩,by omega⟩,by omega⟩
theorem c8a{x:Hp}(h:HpS x):a90 x=some true:=by rw[c1L,decide_eq_true h.c9V]
end Go.Sh
namespace Go.Sh
structure Ks (s s':a8):Prop where
 sr:SR s'
 ser:s'.Serial=s.Serial
 lv:lv s'=lv s
 ob:∀h∈Sh.lv s,(ob s' h).Serial=(ob s h).Serial
theorem Ks.refl{s:a8}(hR:SR s):Ks s s:=⟨hR,rfl,rfl,λ_ _=>rfl⟩
theorem Ks.trans{a b c:a8}(h:Ks a b)(q:Ks b c):Ks a c:=⟨q.sr,q.ser.trans h.ser,q.lv.trans h.lv,λk hk=>(q.ob k (by rw[h.lv];exact hk)).trans (h.ob k hk)⟩
theorem Kin.ks{s s':a8}(hR:SR s)(k:Kin s s'):Ks s s':=⟨k.sr,k.ser,k.lv,λh hh=>by
 obtain⟨n,e⟩:=k.ob h (by have:=K1 hR hh;omega)
 rw[e]⟩
theorem Kn.ks{s s':a8}(k:Kn s s')(e:s'.Serial=s.Serial):Ks s s':=⟨k.sr,e,k.lv,λh hh=>by
 obtain⟨n,m,e⟩:=k.ob h hh
 rw[e]⟩
theorem c7n{s:a8}(hR:SR s){h:Int}(hh:h∈lv s){o:l4}(hs:o.Serial=(ob s h).Serial)(ho:OkO s o):Ks s (seO s h o):=⟨a1C hR hh hs ho,rfl,a3l hR hh hs ho,λk hk=>by
 rw[a2n hR hh hs ho (by have:=K1 hR hk;omega)]
 split
 ·rename_i e;subst e;exact hs
 ·rfl⟩
theorem b8N{x:Hp}(hR:SR x.S)(h:Int):Ks x.S (D3 x h).S:=(I4 hR h λc=>E6).ks hR
theorem b8I{x:Hp}(hR:SR x.S)(h:Int):Ks x.S (P2 x h).S:=(I4 hR h λc=>a0k).ks hR
theorem b7k(x:Hp)(h:Int):(P2 x h).Roots=x.Roots∧(P2 x h).a7=x.a7∧(P2 x h).T=x.T∧(P2 x h).Q=x.Q:=b3r x h a8O
theorem b3d{x:Hp}(hR:SR x.S)(r:Nat)(h:Int):Ks x.S (Q2 x r h).S:=
 (b8N hR h).trans (b8I (x:=wR (D3 x h) (x.Roots.set r h)) (a6N hR h) _)
theorem c0f{x:Hp}(hR:SR x.S){h:Int}(hh:h∈lv x.S){n:Nat}(hn:n<(ob x.S h).Fields.length)(v:Int):Ks x.S (a1n x h n v).S:=by
 have k1:=b8N hR v
 have hh1:h∈lv (D3 x v).S:=by rw[k1.lv];exact hh
 have hof:(ob (D3 x v).S h).Fields=(ob x.S h).Fields:=by
  obtain⟨n,e⟩:=(I4 hR v (f:=a0K) λc=>E6).ob h (by have:=K1 hR hh;omega)
  show (ob (stO x v a0K).S h).Fields=_
  rw[e]
 have ho:OkO (D3 x v).S (flg (ob (D3 x v).S h) ((ob x.S h).Fields.set n v)):=by
  have:=K0 k1.sr hh1
  refine⟨this.s1,this.s2,this.st,this.wk,this.p1,this.p2,?_⟩
  have h4:=this.fl
  rw[hof] at h4
  simpa using h4
 have k2:=c7n (o:=flg (ob (D3 x v).S h) ((ob x.S h).Fields.set n v)) k1.sr hh1 rfl ho
 exact (k1.trans k2).trans (b8I (x:=wS (D3 x v) (seO (D3 x v).S h (flg (ob (D3 x v).S h) ((ob x.S h).Fields.set n v)))) k2.sr _)
theorem b02(x:Hp)(h:Int)(n:Nat)(v:Int):(a1n x h n v).Roots=x.Roots∧(a1n x h n v).a7=x.a7∧(a1n x h n v).T=x.T∧(a1n x h n v).Q=x.Q:=by
 obtain⟨a,b,c,d⟩:=b7k (wS (D3 x v) (seO (D3 x v).S h (flg (ob (D3 x v).S h) ((ob x.S h).Fields.set n v)))) ((ob x.S h).Fields.getD n 0)
 obtain⟨a',b',c',d'⟩:=a9I x v
 exact⟨a.trans a',b.trans b',c.trans c',d.trans d'⟩
theorem c2H{x:Hp}(hR:SR x.S)(v:Int)(t:Tb)(old:Int):Ks x.S (a6x x v t old).S:=
 (b8N hR v).trans (b8I (x:=wT (D3 x v) t) (a6N hR v) old)
theorem b2N(x:Hp)(v:Int)(t:Tb)(old:Int):(a6x x v t old).Roots=x.Roots∧(a6x x v t old).a7=x.a7∧(a6x x v t old).T=t∧(a6x x v t old).Q=x.Q:=by
 obtain⟨a,b,c,d⟩:=b7k (wT (D3 x v) t) old
 obtain⟨a',b',c',d'⟩:=a9I x v
 exact⟨a.trans a',b.trans b',c,d.trans d'⟩
end Go.Sh
namespace Go.Sh
theorem c6s{s:a8}(hR:SR s){i:Nat}(hi:i<s.S.a7.length)(h2:(ce s i).State=2):Ks s (gvA s i):=⟨b44 hR hi,rfl,b42 hR hi h2,λh hh=>by rw[b43 hR hi h2 hh]⟩
theorem c6K{x:Hp}(hR:SR x.S)(h:Int){d:Int}(hd:P9 x.S h (B4 h)→0≤(ce x.S (B4 h)).Val.Weak+d):Ks x.S (mkd x h d).S:=by
 unfold mkd
 split
 ·rename_i q
  exact (a5m hR q.1 q.2.1 (hd q)).ks rfl
 ·exact Ks.refl hR
theorem c2g(x:Hp)(h d:Int):(mkd x h d).Roots=x.Roots∧(mkd x h d).a7=x.a7∧(mkd x h d).T=x.T∧(mkd x h d).Q=x.Q:=by
 unfold mkd
 split <;> exact⟨rfl,rfl,rfl,rfl⟩
theorem c0T(x:Hp)(h:Int):(a8z x h).Roots=x.Roots∧(a8z x h).a7=x.a7∧(a8z x h).T=x.T∧(a8z x h).Q=x.Q:=by
 unfold a8z
 split
 ·split <;> exact⟨rfl,rfl,rfl,rfl⟩
 ·exact⟨rfl,rfl,rfl,rfl⟩
theorem b9W{x:Hp}(hR:SR x.S)(h:Int)(hd:P9 x.S h (B4 h)→1≤(ce x.S (B4 h)).Val.Weak):Ks x.S (a8z x h).S:=by
 unfold a8z
 split
 ·rename_i q
  have hd:=hd q
  have kn:=a5m (d:=-1) hR q.1 q.2.1 (by omega)
  split
  ·rename_i c
   have hi1:B4 h<(mkA x.S (B4 h) (-1)).S.a7.length:=by rw[kn.len];exact q.1
   have hce:ce (mkA x.S (B4 h) (-1)) (B4 h)=⟨(ce x.S (B4 h)).State,(ce x.S (B4 h)).Gen,wkg (ce x.S (B4 h)).Val ((ce x.S (B4 h)).Val.Weak + -1)⟩:=by
    rw[a3d hR q.1 q.2.1,if_pos rfl]
   have h2:(ce (mkA x.S (B4 h) (-1)) (B4 h)).State=2:=by rw[hce];exact c.1
   exact (kn.ks rfl).trans (c6s kn.sr hi1 h2)
  ·exact kn.ks rfl
 ·exact Ks.refl hR
theorem c3l{x:Hp}(hx:V1 x){n:Nat}(hn:n<6)(h call:Int):Ks x.S (a3q x n h call).S:=by
 have hR:=hx.sh.sr
 have hnl:n<x.a7.length:=by have:=hx.sh.c6;omega
 have ok:∀k i,P9 x.S k i→0≤(ce x.S i).Val.Weak:=λk i q=>(hR.ok i q.1 q.2.1).wk
 have tw:∀i,P9 x.S (tgt x n) i→1≤(ce x.S i).Val.Weak:=λi q=>by
  have htg:tgt x n=x.a7[n].Target:=by
   unfold tgt
   rw[List.getD_eq_getElem?_getD,List.getElem?_eq_getElem hnl]
   rfl
  have r:=q.rng hR
  have p:=a9h hnl (by rw[←htg];omega)
  rw[←htg,q.2.2] at p
  have:=(hx.wk i q.1 q.2.1).1
  omega
 unfold a3q
 have s1:Ks x.S (mkd (wC x (x.a7.set n (wcl h call))) h 1).S:=c6K (x:=wC x (x.a7.set n (wcl h call))) hR h λq=>by
  have:=ok _ _ q
  dsimp only
  omega
 by_cases q:P9 x.S h (B4 h)
 ·have e:mkd (wC x (x.a7.set n (wcl h call))) h 1=wS (wC x (x.a7.set n (wcl h call))) (mkA x.S (B4 h) 1):=by
   unfold mkd
   rw[if_pos q]
  have hd:=ok _ _ q
  have kn:=a5m (d:=1) hR q.1 q.2.1 (by omega)
  rw[e] at s1 ⊢
  refine s1.trans (b9W (x:=wS (wC x (x.a7.set n (wcl h call))) (mkA x.S (B4 h) 1)) kn.sr _ λq2=>?_)
  dsimp only at q2 ⊢
  have q3:=(kn.ad _ _).1 q2
  have:=tw _ q3
  rw[a3d hR q.1 q.2.1]
  split
  ·rename_i e2
   rw[e2] at this
   show 1≤(ce x.S (B4 h)).Val.Weak+1
   omega
  ·exact this
 ·have e:mkd (wC x (x.a7.set n (wcl h call))) h 1=wC x (x.a7.set n (wcl h call)):=by
   unfold mkd
   rw[if_neg q]
  rw[e] at s1 ⊢
  exact s1.trans (b9W (x:=wC x (x.a7.set n (wcl h call))) hR _ λq2=>tw _ q2)
theorem b83(x:Hp)(n:Nat)(h call:Int):(a3q x n h call).Roots=x.Roots∧(a3q x n h call).a7=x.a7.set n (wcl h call)∧(a3q x n h call).T=x.T∧(a3q x n h call).Q=x.Q:=by
 obtain⟨a,b,c,d⟩:=c0T (mkd (wC x (x.a7.set n (wcl h call))) h 1) (tgt x n)
 obtain⟨a',b',c',d'⟩:=c2g (wC x (x.a7.set n (wcl h call))) h 1
 exact⟨a.trans a',b.trans b',c.trans c',d.trans d'⟩
end Go.Sh
namespace Go.Sh
abbrev nwo(s:a8)(n:Nat)(p:Int):l4:=⟨s.Serial+1,0,0,p,false,List.replicate n 0⟩
def mkS(s:a8)(i n:Nat)(p:Int):a8:=⟨⟨s.S.a7.set i ⟨1,(ce s i).Gen,nwo s n p⟩,s.S.Last⟩,s.Serial+1⟩
section
variable{s:a8}(hR:SR s){i:Nat}(hi:i<s.S.a7.length)(h0:(ce s i).State=0){n:Nat}(hn:n≤4){p:Int}(hp : -1≤p∧p≤5)
include hR hi h0 hn hp
theorem a5o:(mkS s i n p).S.a7.length=s.S.a7.length:=by simp[mkS]
theorem a6v(j:Nat):ce (mkS s i n p) j=if j=i then ⟨1,(ce s i).Gen,nwo s n p⟩ else ce s j:=a4o hi _ _ j
theorem b9u:SR (mkS s i n p):=by
 have hser:=hR.ser
 have hc:=hR.cell i hi
 have hnt:¬Th (ce s i):=λh=>by
  rcases h with h | h <;> omega
 refine⟨by rw[a5o hR hi h0 hn hp];exact hR.len,hR.l0,hR.l9,by show 0≤s.Serial+1;omega,λj hj=>?_,λj hj ht=>?_,λj hj ht=>?_,λj k hj hk a b e=>?_⟩
 ·rw[a5o hR hi h0 hn hp] at hj
  rw[a6v hR hi h0 hn hp]
  split
  ·exact⟨show (0:Int)≤1 by decide,show (1:Int)≤3 by decide,hc.2.2.1,hc.2.2.2⟩
  ·exact hR.cell j hj
 ·rw[a5o hR hi h0 hn hp] at hj
  rw[a6v hR hi h0 hn hp] at ht ⊢
  split at ht
  ·exact absurd (.inl rfl) ht
  ·rename_i e
   rw[if_neg e];exact hR.no j hj ht
 ·rw[a5o hR hi h0 hn hp] at hj
  rw[a6v hR hi h0 hn hp] at ht ⊢
  split at ht
  ·rename_i e
   rw[if_pos e]
   exact⟨by show 1≤s.Serial+1;omega,Int.le_refl _,Int.le_refl 0,Int.le_refl 0,hp.1,hp.2,by simpa using hn⟩
  ·rename_i e
   rw[if_neg e]
   have:=hR.ok j hj ht
   exact⟨this.s1,by show _≤s.Serial+1;have:=this.s2;omega,this.st,this.wk,this.p1,this.p2,this.fl⟩
 ·rw[a5o hR hi h0 hn hp] at hj hk
  rw[a6v hR hi h0 hn hp] at a e
  rw[a6v hR hi h0 hn hp] at b e
  have old:∀m,m<s.S.a7.length→Th (ce s m)→(ce s m).Val.Serial≠s.Serial+1:=λm hm t q=>by
   have:=(hR.ok m hm t).s2
   omega
  by_cases ej:j=i <;> by_cases ek:k=i
  ·rw[ej,ek]
  ·rw[if_neg ek] at b e
   rw[if_pos ej] at e
   exact absurd e.symm (old k hk b)
  ·rw[if_neg ej] at a e
   rw[if_pos ek] at e
   exact absurd e (old j hj a)
  ·rw[if_neg ej] at a e
   rw[if_neg ek] at b e
   exact hR.dif j k hj hk a b e
theorem b8e{k:Int}{j:Nat}(q:P9 s k j):j≠i:=λe=>by
 subst e
 rcases q.2.1 with h | h <;> omega
theorem c6J{k:Int}{j:Nat}:P9 (mkS s i n p) k j↔P9 s k j∨(j=i∧k=hdl s i):=by
 unfold P9
 rw[a5o hR hi h0 hn hp,a6v hR hi h0 hn hp]
 by_cases e:j=i
 ·rw[if_pos e]
  subst e
  constructor
  ·rintro⟨a,b,c⟩
   exact .inr ⟨rfl,c⟩
  ·rintro (⟨a,b,c⟩ | ⟨_,c⟩)
   ·exact absurd rfl (b8e hR hi h0 hn hp ⟨a,b,c⟩)
   ·exact⟨hi,.inl rfl,c⟩
 ·rw[if_neg e]
  constructor
  ·exact .inl
  ·rintro (h | ⟨h,_⟩)
   ·exact h
   ·exact absurd h e
theorem b9t:lv (mkS s i n p)=lv s ++ [hdl s i]:=by
 have e:=b8d (s:=s) (s7.2 hR) hi (by rw[←C9 hi];exact h0) (nwo s n p) rfl (a5k (s7.2 hR))
 unfold mkS
 rw[show (ce s i).Gen=s.S.a7[i].Gen by rw[C9 hi]]
 have e2:hdl s i=1+(i:Int)+32*s.S.a7[i].Gen:=by unfold hdl;rw[C9 hi]
 rw[e2]
 have:=a5k (s7.2 (by have:=b9u hR hi h0 hn hp;unfold mkS at this;rw[show (ce s i).Gen=s.S.a7[i].Gen by rw[C9 hi]] at this;exact this))
 rw[e] at this
 exact (Option.some.inj this).symm
theorem c2e:hdl s i∉lv s:=λh=>by
 obtain⟨j,q⟩:=(a4w hR).1 h
 have:i=j:=by
  have a:=q.2.2
  have b:=q.1
  unfold hdl at a
  have:=hR.len
  omega
 subst this
 have:=q.2.1
 omega
theorem b4t{k:Int}(hk:k∈lv s):ob (mkS s i n p) k=ob s k:=by
 obtain⟨j,q⟩:=(a4w hR).1 hk
 have hj:=b8e hR hi h0 hn hp q.d
 have q2:At (mkS s i n p) k j:=by
  refine⟨by rw[a5o hR hi h0 hn hp];exact q.1,?_,?_⟩ <;> rw[a6v hR hi h0 hn hp,if_neg hj]
  ·exact q.2.1
  ·exact q.2.2
 rw[O5 (b9u hR hi h0 hn hp) q2,O5 hR q,a6v hR hi h0 hn hp,if_neg hj]
theorem b0r:ob (mkS s i n p) (hdl s i)=nwo s n p:=by
 have q2:At (mkS s i n p) (hdl s i) i:=by
  refine⟨by rw[a5o hR hi h0 hn hp];exact hi,?_,?_⟩ <;> rw[a6v hR hi h0 hn hp,if_pos rfl]
  rfl
 rw[O5 (b9u hR hi h0 hn hp) q2,a6v hR hi h0 hn hp,if_pos rfl]
end
theorem b9V{l:List Int}{h:Int}(e:h∉l):Q0 l h=0:=Nat.eq_zero_of_not_pos λq=>e (a5H.1 q).2
theorem c2f{x:Hp}(hx:V1 x){i:Nat}(hi:i<x.S.S.a7.length)(h0:(ce x.S i).State=0){n:Nat}(hn:n≤4){p:Int}(hp : -1≤p∧p≤5):V1 (wS x (mkS x.S i n p)):=by
 have hR:=hx.sh.sr
 have hS:=b9u hR hi h0 hn hp
 have hl:=b9t hR hi h0 hn hp
 have hnew:=c2e hR hi h0 hn hp
 have mem:∀ {k},k∈lv x.S→k∈lv (mkS x.S i n p):=λhk=>by rw[hl];exact List.mem_append_left _ hk
 have mem0:∀ {k},k=0∨k∈lv x.S→k=0∨k∈lv (mkS x.S i n p):=λhk=>hk.imp id mem
 have hpos:=b1J hR hi
 have split:∀ {k},k∈lv (mkS x.S i n p)→k∈lv x.S∨k=hdl x.S i:=λhk=>by
  rw[hl] at hk
  rcases List.mem_append.1 hk with q | q
  ·exact .inl q
  ·exact .inr (List.mem_singleton.1 q)
 have rep:∀v∈List.replicate n (0:Int),v=0:=λv hv=>(List.mem_replicate.1 hv).2
 have ntgt:∀j (hj:j<x.a7.length),x.a7[j].Target≠hdl x.S i:=λj hj e=>by
  obtain⟨q,hq⟩:=(hx.sh.cl j hj).2.2.2.1 (by rw[e];omega)
  rw[e] at hq
  have:q=i:=by
   have a:=hq.2.2
   have b:=hq.1
   unfold hdl at a
   have:=hR.len
   omega
  exact b8e hR hi h0 hn hp hq this
 refine⟨⟨hS,hx.sh.hr,hx.sh.r6,hx.sh.c6,hx.sh.cap,hx.sh.q30,λt ht=>?_,hx.sh.td,λh hh=>mem0 (hx.sh.rt h hh),λh hh v hv=>?_,λk v hk=>?_,λj hj=>?_⟩,λj hj ht=>?_,λh hh hs=>?_⟩
 ·obtain⟨a,b,c⟩:=hx.sh.tk t ht
  refine⟨a,b,c.imp (λ⟨d,e,f⟩=>⟨d,mem e,?_⟩) id⟩
  show (ob (mkS x.S i n p) t.At).Started=true
  rw[b4t hR hi h0 hn hp e];exact f
 ·rcases split hh with q | q
  ·have hv':v∈(ob (mkS x.S i n p) h).Fields:=hv
   rw[b4t hR hi h0 hn hp q] at hv'
   exact mem0 (hx.sh.fl h q v hv')
  ·subst q
   have hv':v∈(ob (mkS x.S i n p) (hdl x.S i)).Fields:=hv
   rw[b0r hR hi h0 hn hp] at hv'
   exact .inl (rep v hv')
 ·obtain⟨a,b⟩:=hx.sh.pr k v hk
  exact⟨mem a,mem b⟩
 ·obtain⟨a,b,c,d,e⟩:=hx.sh.cl j hj
  refine⟨a,b,c,λq=>?_,λq=>⟨mem (e q).1,(e q).2⟩⟩
  obtain⟨m,hm⟩:=d q
  exact⟨m,(c6J hR hi h0 hn hp).2 (.inl hm)⟩
 ·have hj':j<x.S.S.a7.length:=by have:j<(mkS x.S i n p).S.a7.length:=hj;rwa [a5o hR hi h0 hn hp] at this
  show (ce (mkS x.S i n p) j).Val.Weak=(nmg x.a7 (1+(j:Int)+32*(ce (mkS x.S i n p) j).Gen):Int)∧_
  have ht':Th (ce (mkS x.S i n p) j):=ht
  rw[a6v hR hi h0 hn hp] at ht' ⊢
  by_cases e:j=i
  ·subst e
   rw[if_pos rfl]
   refine⟨?_,λq=>absurd (show (1:Int)=2 from q) (by decide)⟩
   show (0:Int)=(nmg x.a7 (hdl x.S j):Int)
   have:nmg x.a7 (hdl x.S j)=0:=by
    unfold nmg
    rw[List.countP_eq_zero]
    intro c hc
    obtain⟨m,hm,rfl⟩:=List.getElem_of_mem hc
    have:=ntgt m hm
    simp[this]
   rw[this];rfl
  ·rw[if_neg e] at ht' ⊢
   exact hx.wk j hj' ht'
 ·have hinn:∀y,inn (mkS x.S i n p) y=inn x.S y:=λy=>by
   unfold inn
   rw[hl,List.map_append,List.sum_append]
   have e1:(lv x.S).map (λk=>Q0 (outs (mkS x.S i n p) k) y)=(lv x.S).map λk=>Q0 (outs x.S k) y:=List.map_congr_left λk hk=>by
    unfold outs
    rw[b4t hR hi h0 hn hp hk]
   rw[e1]
   have e2:outs (mkS x.S i n p) (hdl x.S i) = []:=by
    refine List.eq_nil_iff_forall_not_mem.2 λv hv=>?_
    have h1:=a8m.1 hv
    rw[b0r hR hi h0 hn hp] at h1
    exact h1.2 (rep v h1.1)
   simp[e2,R5]
  have hnm:∀y,nms (wS x (mkS x.S i n p)) y=nms x y:=λy=>by
   unfold nms
   show inn (mkS x.S i n p) y+own x.T y+Q0 (otr x) y=_
   rw[hinn]
  rw[hnm]
  have hs':(ob (mkS x.S i n p) h).Strong<12:=hs
  show (ob (mkS x.S i n p) h).Strong=_
  rcases split hh with q | q
  ·rw[b4t hR hi h0 hn hp q] at hs' ⊢
   exact hx.fair h q hs'
  ·subst q
   rw[b0r hR hi h0 hn hp]
   have h1:nms x (hdl x.S i)=0:=by
    unfold nms
    have a1:inn x.S (hdl x.S i)=0:=by
     unfold inn
     have:=b8U (λk=>Q0 (outs x.S k) (hdl x.S i)) 0 (lv x.S) λk hk=>Nat.le_of_eq<|b9V λq=>by
      have q2:=a8m.1 q
      rcases hx.sh.fl k hk _ q2.1 with e | e
      ·exact q2.2 e
      ·exact hnew e
     omega
    have a2:own x.T (hdl x.S i)=0:=by
     unfold own
     rw[List.countP_eq_zero]
     intro c hc
     have:=(hx.sh.pr _ _ (a3O.1 hc)).2
     have hne:c.Val≠hdl x.S i:=λe=>hnew (e▸this)
     simp[hne]
    have a3:Q0 (otr x) (hdl x.S i)=0:=b9V λq=>by
     unfold otr at q
     rcases List.mem_append.1 q with q | q
     ·have q2:=a8m.1 q
      rcases hx.sh.rt _ q2.1 with e | e
      ·exact q2.2 e
      ·exact hnew e
     ·obtain⟨t,ht,k1,k2⟩:=a9g.1 q
      rcases (hx.sh.tk t ht).2.2 with ⟨_,b,_⟩ | ⟨b,_⟩
      ·exact hnew (k2▸b)
      ·omega
    omega
   rw[h1,R5]
   rfl
end Go.Sh
namespace Go.Sh
structure Ev (x y:Hp):Prop where
 lv:∀h∈lv y.S,(h∈Sh.lv x.S∧(ob y.S h).Serial=(ob x.S h).Serial)∨(h∉Sh.lv x.S∧(ob y.S h).Serial=x.S.Serial+1)
 s1:x.S.Serial≤y.S.Serial
 s2:y.S.Serial≤x.S.Serial+1
theorem Ev.refl(x:Hp):Ev x x:=⟨λh hh=>.inl ⟨hh,rfl⟩,by omega,by omega⟩
theorem Ks.ev{x y:Hp}(k:Ks x.S y.S):Ev x y:=⟨λh hh=>by
 rw[k.lv] at hh
 exact .inl ⟨hh,k.ob h hh⟩,by rw[k.ser];omega,by rw[k.ser];omega⟩
theorem Ev.ks{x y z:Hp}(e:Ev x y)(k:Ks y.S z.S):Ev x z:=⟨λh hh=>by
 rw[k.lv] at hh
 rw[k.ob h hh]
 exact e.lv h hh,by rw[k.ser];exact e.s1,by rw[k.ser];exact e.s2⟩
theorem Ev.stl{x y z:Hp}(e:Ev x y)(s:Stl y z):Ev x z:=⟨λh hh=>by
 rw[(s.ob h hh).1]
 exact e.lv h (s.lv h hh),by rw[s.ser];exact e.s1,by rw[s.ser];exact e.s2⟩
theorem c8q{x:Hp}(hx:V1 x){i:Nat}(hi:i<x.S.S.a7.length)(h0:(ce x.S i).State=0){n:Nat}(hn:n≤4){p:Int}(hp : -1≤p∧p≤5):Ev x (wS x (mkS x.S i n p)):=⟨λh hh=>by
 have hR:=hx.sh.sr
 have hh':h∈lv (mkS x.S i n p):=hh
 show (_∧(ob (mkS x.S i n p) h).Serial=_)∨_∧(ob (mkS x.S i n p) h).Serial=_
 rw[b9t hR hi h0 hn hp] at hh'
 rcases List.mem_append.1 hh' with q | q
 ·exact .inl ⟨q,by rw[b4t hR hi h0 hn hp q]⟩
 ·rw[List.mem_singleton.1 q]
  exact .inr ⟨c2e hR hi h0 hn hp,by rw[b0r hR hi h0 hn hp]⟩,by show _≤x.S.Serial+1;omega,Int.le_refl _⟩
def Cw(x y:Hp)(w:Int):Prop:=∀i:Nat,(i:Int)≠w→(y.a7.getD i cz).Target=(x.a7.getD i cz).Target∧((y.a7.getD i cz).Intact=true→(x.a7.getD i cz).Intact=true)
theorem Cw.refl(x:Hp)(w:Int):Cw x x w:=λi _=>⟨rfl,id⟩
theorem Cw.same{x y:Hp}(h:y.a7=x.a7)(w:Int):Cw x y w:=λi _=>by rw[h];exact⟨rfl,id⟩
theorem Cw.trans{x y z:Hp}{w:Int}(a:Cw x y w)(b:Cw y z w):Cw x z w:=λi hi=>⟨(b i hi).1.trans (a i hi).1,λq=>(a i hi).2 ((b i hi).2 q)⟩
theorem Stl.cw{x y:Hp}(s:Stl x y)(w:Int):Cw x y w:=λi _=>by
 by_cases h:i<x.a7.length
 ·have h':i<y.a7.length:=by rw[s.cn];exact h
  rw[D1 h,D1 h',s.cl i h' h]
  exact⟨rfl,λq=>(Bool.and_eq_true _ _▸q).1⟩
 ·have h':¬i<y.a7.length:=by rw[s.cn];exact h
  rw[List.getD_eq_getElem?_getD,List.getD_eq_getElem?_getD,List.getElem?_eq_none (by omega),List.getElem?_eq_none (by omega)]
  exact⟨rfl,id⟩
theorem Cw.set{x y:Hp}{w:Nat}{c:c9}(h:y.a7=x.a7.set w c):Cw x y w:=λi hi=>by
 rw[h,List.getD_eq_getElem?_getD,List.getD_eq_getElem?_getD,List.getElem?_set_ne (by omega)]
 exact⟨rfl,id⟩
end Go.Sh
namespace Go.Sh
def Fst(s:a8)(i:Nat):Prop:=i<s.S.a7.length∧(ce s i).State=0∧∀j,j<i→(ce s j).State≠0
theorem c8m{s:a8}(hR:SR s)(hb:s.Serial<9223372036854775807)(a p:Int) :
  (¬(0≤a∧a≤4)∧N5 s a p=some (s,0,1)) ∨
  ((0≤a∧a≤4)∧¬(-1≤p∧p≤5)∧N5 s a p=some (s,0,13)) ∨
  ((0≤a∧a≤4)∧(-1≤p∧p≤5)∧(∀i,i<s.S.a7.length→(ce s i).State≠0)∧N5 s a p=some (s,0,4)) ∨
  ((0≤a∧a≤4)∧(-1≤p∧p≤5)∧∃i,Fst s i∧N5 s a p=some (mkS s i a.toNat p,hdl s i,0)):=by
 have hs':=hR.ser
 have hR':=s7.2 hR
 unfold N5 b52
 by_cases ha:0≤a∧a≤4
 ·right
  obtain⟨ha1,ha2⟩:=ha
  obtain⟨n,rfl⟩:∃n:Nat,a=n:=⟨a.toNat,by omega⟩
  rw[if_neg (by simp;omega),a6w (by omega) (by omega)]
  simp only[d1c]
  by_cases hp : -1≤p∧p≤5
  ·right
   unfold G5
   simp only[d1c]
   have e1:(decide (p ≥ -1)&&decide (p<6))=true:=by simp;omega
   rw[e1]
   have hl:SlO s.S:=⟨a1B hR',hR'.l0,hR'.l9,λi hi=>b5H hR' i hi⟩
   rcases b5V hl ⟨s.Serial+1,0,0,p,false,List.replicate n 0⟩ with ⟨i,hi,h0,hf,e⟩ | ⟨hf,e⟩
   ·right
    refine⟨⟨ha1,ha2⟩,hp,i,⟨hi,by rw[C9 hi];exact h0,λj hj=>by rw[C9 (by omega)];exact hf j hj⟩,?_⟩
    simp only[bne_self_eq_false,Bool.false_eq_true,if_false,Bool.not_true]
    rw[show w7 (s.Serial+1)=s.Serial+1 from F1 (by omega) (by omega),e]
    unfold mkS hdl
    rw[C9 hi]
    simp
   ·left
    refine⟨⟨ha1,ha2⟩,hp,λi hi=>by rw[C9 hi];exact hf i hi,?_⟩
    simp only[bne_self_eq_false,Bool.false_eq_true,if_false,Bool.not_true]
    rw[show w7 (s.Serial+1)=s.Serial+1 from F1 (by omega) (by omega),e]
    simp
  ·left
   refine⟨⟨ha1,ha2⟩,hp,?_⟩
   unfold G5
   simp only[d1c]
   have e1:(decide (p ≥ -1)&&decide (p<6))=false:=by rw[Bool.eq_false_iff];simp;omega
   rw[e1]
   simp
 ·left
  refine⟨ha,?_⟩
  rw[if_pos (by simp;omega)]
  simp
end Go.Sh
namespace Go.Sh
def sd(x:Hp)(r:Int):Int:=if r<0 then 0 else x.Roots.getD r.toNat 0
def asd(x:Hp)(r:Int):Int × Int:=if sd x r=0 then (0,2) else (sd x r,0)
def ser(x:Hp)(h:Int):Int:=(ob x.S h).Serial
theorem in0{n l m e:Int}(he:e≠0)(h:J9 n l m e=0):l≤n∧n≤m:=by
 unfold J9 at h
 split at h
 ·exact absurd h he
 ·omega
theorem b7Z{a b c:Int}(h:Y8 a b c=0):a=0∧b=0∧c=0:=by
 unfold Y8 at h
 split at h
 ·contradiction
 ·split at h
  ·contradiction
  ·omega
theorem c35{k a b c:Int}(h:C4 k a b c=0):1≤k∧k≤12:=by
 refine Decidable.byContradiction λq=>?_
 have:C4 k a b c=14:=by
  unfold C4
  repeat rw[if_neg (by omega)]
 omega
theorem c9B{a b c:Int}(h:C4 1 a b c=0):(0≤a∧a≤5)∧(0≤b∧b≤4) ∧ -1≤c∧c≤5:=by
 obtain⟨h1,h2,h3⟩:=b7Z (show Y8 (J9 a 0 5 6) (J9 b 0 4 1) (J9 c (-1) 5 13)=0 from h)
 exact⟨in0 (by decide) h1,in0 (by decide) h2,in0 (by decide) h3⟩
theorem c51{a b c:Int}(h:C4 2 a b c=0):(0≤a∧a≤5)∧(0≤b∧b≤5):=by
 obtain⟨h1,h2,_⟩:=b7Z (show Y8 (J9 a 0 5 6) (J9 b 0 5 6) 0=0 from h)
 exact⟨in0 (by decide) h1,in0 (by decide) h2⟩
theorem c9C{a b c:Int}(h:C4 3 a b c=0):0≤a∧a≤5:=in0 (by decide) (show J9 a 0 5 6=0 from h)
theorem c9D{a b c:Int}(h:C4 4 a b c=0):(0≤a∧a≤5)∧(0≤b∧b≤5)∧0≤c∧c≤3:=by
 obtain⟨h1,h2,h3⟩:=b7Z (show Y8 (J9 a 0 5 6) (J9 b 0 5 6) (J9 c 0 3 5)=0 from h)
 exact⟨in0 (by decide) h1,in0 (by decide) h2,in0 (by decide) h3⟩
theorem c9E{a b c:Int}(h:C4 5 a b c=0):(0≤a∧a≤5)∧(0≤b∧b≤3) ∧ -1≤c∧c≤5:=by
 obtain⟨h1,h2,h3⟩:=b7Z (show Y8 (J9 a 0 5 6) (J9 b 0 3 5) (J9 c (-1) 5 6)=0 from h)
 exact⟨in0 (by decide) h1,in0 (by decide) h2,in0 (by decide) h3⟩
theorem c9F{a b c:Int}(h:C4 6 a b c=0):(0≤a∧a≤5)∧(-1≤b∧b≤5) ∧ -1≤c∧c≤5:=by
 obtain⟨h1,h2,h3⟩:=b7Z (show Y8 (J9 a 0 5 7) (J9 b (-1) 5 6) (J9 c (-1) 5 13)=0 from h)
 exact⟨in0 (by decide) h1,in0 (by decide) h2,in0 (by decide) h3⟩
theorem c9G{a b c:Int}(h:C4 7 a b c=0):(0≤a∧a≤5)∧(0≤b∧b≤5):=by
 obtain⟨h1,h2,_⟩:=b7Z (show Y8 (J9 a 0 5 6) (J9 b 0 5 7) 0=0 from h)
 exact⟨in0 (by decide) h1,in0 (by decide) h2⟩
theorem c9H{a b c:Int}(h:C4 8 a b c=0):(0≤a∧a≤5)∧(-1≤b∧b≤5):=by
 obtain⟨h1,h2,_⟩:=b7Z (show Y8 (J9 a 0 5 6) (J9 b (-1) 5 6) 0=0 from h)
 exact⟨in0 (by decide) h1,in0 (by decide) h2⟩
theorem c9I{a b c:Int}(h:C4 9 a b c=0):(0≤a∧a≤5)∧(0≤b∧b≤5):=c51 (show C4 2 a b c=0 from h)
theorem c7Y{a b c:Int}(h:C4 10 a b c=0):(0≤a∧a≤5)∧(0≤b∧b≤5):=c51 (show C4 2 a b c=0 from h)
section
variable{x:Hp}(hx:HpS x)
include hx
theorem b1f{r:Int}(h:0≤r∧r≤5):ix x.Roots r=some (sd x r):=by
 have:=hx.r6
 obtain⟨n,rfl⟩:∃n:Nat,r=n:=⟨r.toNat,by omega⟩
 have hn:n<x.Roots.length:=by omega
 rw[n8 hn]
 unfold sd
 rw[if_neg (by omega),Int.toNat_natCast,List.getD_eq_getElem?_getD,List.getElem?_eq_getElem hn]
 rfl
theorem b3l{r:Int}(h:¬(0≤r∧r≤5)):sd x r=0:=by
 have:=hx.r6
 unfold sd
 split
 ·rfl
 ·rw[List.getD_eq_getElem?_getD,List.getElem?_eq_none (by omega)]
  rfl
theorem b1g(r:Int):sd x r=0∨sd x r∈lv x.S:=by
 by_cases h:0≤r∧r≤5
 ·have e:=b1f hx h
  unfold ix at e
  rw[if_pos h.1] at e
  exact hx.rt _ (List.mem_of_getElem? e)
 ·exact .inl (b3l hx h)
theorem b1h(r:Int):sd x r≤9223372036854775807:=by
 rcases b1g hx r with h | h
 ·omega
 ·have:=K1 hx.sr h;omega
theorem a5y(r:Int):I3 x r=some (sd x r):=by
 have h6:=hx.r6
 unfold I3
 by_cases h:0≤r∧r≤5
 ·rw[if_neg (by simp;omega),b1f hx h]
  rfl
 ·rw[if_pos (by simp;omega),b3l hx h]
theorem c29{r:Int}(h:r≤5):a3i (hO x) r=some (sd x r):=by
 unfold a3i
 by_cases q:r<0
 ·rw[if_pos (by simpa using q),b3l hx (by omega)]
 ·rw[if_neg (by simpa using q),show (hO x).Roots=x.Roots from rfl,b1f hx (by omega)]
  rfl
theorem a4y(r:Int):I7 x r=some (asd x r):=by
 unfold I7 asd
 rw[a5y hx,d1c]
 by_cases h:sd x r=0
 ·rw[if_pos (by simpa using h),if_pos h]
 ·rw[if_neg (by simpa using h),if_neg h]
theorem a8I{r:Int}(h:0≤r∧r≤5):P1 (hO x) r=some (asd x r):=by
 unfold P1 asd
 rw[show (hO x).Roots=x.Roots from rfl,b1f hx h,d1c]
 by_cases h:sd x r=0
 ·rw[if_pos (by simpa using h),if_pos h]
 ·rw[if_neg (by simpa using h),if_neg h]
theorem c7p{h:Int}(hh:h≤9223372036854775807):a0Y x h=some (ser x h):=by
 obtain⟨e,h1,_⟩:=Q6 (s7.2 hx.sr) hh
 unfold a0Y
 rw[h1]
 rfl
theorem c5E{h:Int}(hh:h≤9223372036854775807):a1z (hO x) h=some (ser x h):=by
 obtain⟨e,h1,_⟩:=Q6 (s7.2 hx.sr) hh
 unfold a1z
 rw[show (hO x).S=sO x.S from rfl,a3F x.S (by have:=hx.sr.len;omega) hh,h1]
 rfl
theorem b9e(r:Int):V9 x r=some (ser x (sd x r)):=by
 unfold V9
 rw[a5y hx,d1c,c7p hx (b1h hx r)]
 rfl
theorem b9T:ser x 0=0:=by
 unfold ser
 rw[a7Y (s7.2 hx.sr) (by omega) (b0n hx.sr)]
theorem c7U(r:Int):a8r (hO x) r=some (ser x (sd x r)):=by
 unfold a8r
 by_cases h:0≤r∧r≤5
 ·rw[if_neg (by simp;omega),show (hO x).Roots=x.Roots from rfl,b1f hx h,d1c,c5E hx (b1h hx r)]
  rfl
 ·rw[if_pos (by simp;omega),b3l hx h,b9T hx]
end
theorem c7q{x z:Hp}(hx:HpS x)(k:Ks x.S z.S){h:Int}(hh:h=0∨h∈lv x.S):ser z h=ser x h:=by
 rcases hh with e | e
 ·subst e
  unfold ser
  rw[a7Y (s7.2 hx.sr) (by omega) (b0n hx.sr),a7Y (s7.2 k.sr) (by omega) (b0n k.sr)]
 ·exact k.ob h e
theorem c4O{x z:Hp}(h:z.Roots=x.Roots)(r:Int):sd z r=sd x r:=by unfold sd;rw[h]
noncomputable def doR(x:Hp)(o:code_Op)(v:Hp × Int):Option (Hp × Int × Int):=
 if (v.2 != 0) then some (x,0,v.2) else (a0g v.1).bind λv5=>(O9 v.1 v5 o).bind λv6=>some (v5,v6,0)
theorem a7R{x:Hp}{o:code_Op}{n:Option Nat}(hc:C4 o.Kind o.A o.B o.C=0)(hk:∃l,a1R=some l∧z7 l o.Kind=some n):p9 x o=(b1H n ⟨x,o⟩).bind (doR x o):=by
 obtain⟨l,h1,h2⟩:=hk
 unfold p9
 rw[b2d,hc,d1c,if_neg (by simp),h1,d1c,h2,if_neg (by simp)]
 rfl
theorem c57{x:Hp}{o:code_Op}(hc:C4 o.Kind o.A o.B o.C≠0):p9 x o=some (x,0,C4 o.Kind o.A o.B o.C)∧A6 (hO x) ⟨o.Kind,o.A,o.B,o.C⟩=some (hO x,0,C4 o.Kind o.A o.B o.C):=by
 constructor
 ·unfold p9
  rw[b2d,d1c,if_pos (by simpa using hc)]
 ·unfold A6
  rw[a60,d1c,if_pos (by simpa using hc)]
section
variable{x:Hp}{a b c:Int}
theorem c9J(hc:C4 1 a b c=0):p9 x ⟨1,a,b,c⟩=(N8 ⟨x,⟨1,a,b,c⟩⟩).bind (doR x ⟨1,a,b,c⟩):=a7R (o:=⟨1,a,b,c⟩) (n:=some 96) hc ⟨_,rfl,rfl⟩
theorem c9K(hc:C4 2 a b c=0):p9 x ⟨2,a,b,c⟩=(G0 ⟨x,⟨2,a,b,c⟩⟩).bind (doR x ⟨2,a,b,c⟩):=a7R (o:=⟨2,a,b,c⟩) (n:=some 97) hc ⟨_,rfl,rfl⟩
theorem c9L(hc:C4 3 a b c=0):p9 x ⟨3,a,b,c⟩=(U6 ⟨x,⟨3,a,b,c⟩⟩).bind (doR x ⟨3,a,b,c⟩):=a7R (o:=⟨3,a,b,c⟩) (n:=some 98) hc ⟨_,rfl,rfl⟩
theorem c9M(hc:C4 4 a b c=0):p9 x ⟨4,a,b,c⟩=(U7 ⟨x,⟨4,a,b,c⟩⟩).bind (doR x ⟨4,a,b,c⟩):=a7R (o:=⟨4,a,b,c⟩) (n:=some 99) hc ⟨_,rfl,rfl⟩
theorem c9N(hc:C4 5 a b c=0):p9 x ⟨5,a,b,c⟩=(Q9 ⟨x,⟨5,a,b,c⟩⟩).bind (doR x ⟨5,a,b,c⟩):=a7R (o:=⟨5,a,b,c⟩) (n:=some 100) hc ⟨_,rfl,rfl⟩
theorem c9O(hc:C4 6 a b c=0):p9 x ⟨6,a,b,c⟩=(N9 ⟨x,⟨6,a,b,c⟩⟩).bind (doR x ⟨6,a,b,c⟩):=a7R (o:=⟨6,a,b,c⟩) (n:=some 101) hc ⟨_,rfl,rfl⟩
theorem c9P(hc:C4 7 a b c=0):p9 x ⟨7,a,b,c⟩=(R9 ⟨x,⟨7,a,b,c⟩⟩).bind (doR x ⟨7,a,b,c⟩):=a7R (o:=⟨7,a,b,c⟩) (n:=some 102) hc ⟨_,rfl,rfl⟩
theorem c9Q(hc:C4 8 a b c=0):p9 x ⟨8,a,b,c⟩=(U8 ⟨x,⟨8,a,b,c⟩⟩).bind (doR x ⟨8,a,b,c⟩):=a7R (o:=⟨8,a,b,c⟩) (n:=some 103) hc ⟨_,rfl,rfl⟩
theorem c9R(hc:C4 9 a b c=0):p9 x ⟨9,a,b,c⟩=(Y2 ⟨x,⟨9,a,b,c⟩⟩).bind (doR x ⟨9,a,b,c⟩):=a7R (o:=⟨9,a,b,c⟩) (n:=some 104) hc ⟨_,rfl,rfl⟩
theorem c72(hc:C4 10 a b c=0):p9 x ⟨10,a,b,c⟩=(M1 ⟨x,⟨10,a,b,c⟩⟩).bind (doR x ⟨10,a,b,c⟩):=a7R (o:=⟨10,a,b,c⟩) (n:=some 105) hc ⟨_,rfl,rfl⟩
theorem c1m{k:Int}(hk:k=11∨k=12)(hc:C4 k a b c=0):p9 x ⟨k,a,b,c⟩=some (x,0,14)∧A6 (hO x) ⟨k,a,b,c⟩=some (hO x,0,14):=by
 constructor
 ·unfold p9
  rw[b2d,hc,d1c,if_neg (by simp)]
  rcases hk with rfl | rfl <;> rfl
 ·unfold A6 a0C
  rw[a60,hc,d1c,if_neg (by simp)]
  rcases hk with rfl | rfl <;> rfl
variable{y:g5}
def rT(y:g5)(a:Int)(v:Int × Int):Option (g5 × Int × Int):=
 if (v.2 != 0) then some (y,0,v.2) else (a17 y a v.1).bind λv15=>(R1 v15.1).bind λv16=>(a8r v16 a).bind λv17=>some (v16,v17,0)
def rO(y:g5)(v:g5 × Int × Int):Option (g5 × Int × Int):=
 if (v.2.2 != 0) then some (y,0,v.2.2) else (R1 v.1).bind λv8=>(a1z y v.2.1).bind λv9=>some (v8,v9,0)
theorem b9K{k:Int}(hk:k=2∨k=3∨k=4∨k=7∨k=9)(hc:C4 k a b c=0):A6 y ⟨k,a,b,c⟩=(a0D y ⟨k,a,b,c⟩).bind (rT y a):=by
 unfold A6 a0C
 rw[a60,hc,d1c,if_neg (by simp)]
 rcases hk with rfl | rfl | rfl | rfl | rfl <;> rfl
theorem b9J{k:Int}(hk:k=5∨k=6∨k=8)(hc:C4 k a b c=0):A6 y ⟨k,a,b,c⟩=(Y5 y ⟨k,a,b,c⟩).bind (rO y):=by
 unfold A6 a0C
 rw[a60,hc,d1c,if_neg (by simp)]
 rcases hk with rfl | rfl | rfl <;> rfl
theorem c8Q(hc:C4 1 a b c=0):A6 y ⟨1,a,b,c⟩=(a04 y.S b c).bind λv10=>if (v10.2.2 != 0) then some (y,0,v10.2.2) else (a17 ⟨v10.1,y.Roots,y.a7,y.T,y.Q⟩ a v10.2.1).bind λv11=>(R1 v11.1).bind λv12=>(a8r v12 a).bind λv13=>some (v12,v13,0):=by
 unfold A6 a0C
 rw[a60,hc,d1c,if_neg (by simp)]
 rfl
theorem c7h(hc:C4 10 a b c=0):A6 y ⟨10,a,b,c⟩=(ix y.Roots a).bind λv3=>(ix y.Roots b).bind λv4=>if (v3==v4) then some (y,1,0) else some (y,0,0):=by
 unfold A6 a0C
 rw[a60,hc,d1c,if_neg (by simp)]
 rfl
end
end Go.Sh
namespace Go.Sh
section
variable{s:a8}(hR:SR s){i:Nat}(hi:i<s.S.a7.length)
include hR hi
theorem c7z(st g:Int):W1 (sO s) ⟨(pl (sO s)).a7.set i ⟨st,g,0⟩,(pl (sO s)).Last⟩=some ⟨(sO s).a7.set i ⟨st,g,oo (ce s i).Val⟩,s.S.Last,s.Serial⟩:=by
 have hlen:=hR.len
 have J1:i<(pl (sO s)).a7.length:=by rw[a0v,y9];exact hi
 rw[b3x _ _ (by rw[y9];omega) (by simp[a0v])]
 congr 1
 congr 1
 refine List.ext_getElem (by simp) λk h1 h2=>?_
 have hk:k<s.S.a7.length:=by simpa[y9] using h1
 have hk2:k<(sO s).a7.length:=by rw[y9];exact hk
 have hk3:k<(pl (sO s)).a7.length:=by rw[a0v];exact hk2
 simp only[List.getElem_map,List.getElem_range,List.getElem_set]
 have e1:(sO s).a7.getD k ⟨0,0,oo z0⟩=cO (ce s k):=by
  rw[List.getD_eq_getElem?_getD,List.getElem?_eq_getElem hk2,C9 hk]
  simp[sO]
 have e2:((pl (sO s)).a7.set i ⟨st,g,0⟩).getD k ⟨0,0,0⟩=if k=i then ⟨st,g,0⟩ else plc k (cO (ce s k)):=by
  rw[a4o J1]
  split
  ·rfl
  ·rw[List.getD_eq_getElem?_getD,List.getElem?_eq_getElem hk3,C9 hk]
   simp[pl,sO]
 rw[e1,e2]
 by_cases e:k=i
 ·subst e
  rw[if_pos rfl,if_pos rfl]
  rfl
 ·rw[if_neg e,if_neg (Ne.symm e)]
  rw[C9 hk]
  simp[sO,plc,cO]
theorem c7A(st g:Int)(o:A0):a0c ⟨(sO s).a7.set i ⟨st,g,oo (ce s i).Val⟩,s.S.Last,s.Serial⟩ (i:Int) o=some ⟨(sO s).a7.set i ⟨st,g,o⟩,s.S.Last,s.Serial⟩:=by
 have hlen:=hR.len
 unfold a0c
 have hi2:i<((sO s).a7.set i ⟨st,g,oo (ce s i).Val⟩).length:=by simp[y9];exact hi
 rw[N7 (by omega) (by simp[y9];omega),d1c,n8 hi2,d1c]
 simp[List.set_set]
theorem c2M:∃h:i<(pl (sO s)).a7.length,(pl (sO s)).a7[i]=⟨(ce s i).State,(ce s i).Gen,(i:Int)⟩:=by
 have J1:i<(pl (sO s)).a7.length:=by rw[a0v,y9];exact hi
 refine⟨J1,?_⟩
 rw[C9 hi]
 simp[pl,sO,plc,cO]
end
theorem c7w{s:a8}(hR:SR s):(∀i,i<s.S.a7.length→(ce s i).State≠0)→a4D (pl (sO s)) 0=some (pl (sO s),0,4):=λhf=>by
 have hlen:=hR.len
 have el:(pl (sO s)).a7.length=s.S.a7.length:=by rw[a0v,y9]
 unfold a4D
 simp only[jn]
 refine E1 (pl (sO s)).a7.length (λk=>True) (by omega) trivial (λk hk _=>?_) (λhP=>⟨.inr (),by simp,rfl⟩)
 refine .inl ⟨?_,trivial⟩
 obtain⟨h1,h2⟩:=c2M hR (show k<s.S.a7.length by omega)
 have:=hf k (by omega)
 simp only[Int.ofNat_lt,hk,decide_true,if_true,n8 hk,d1c]
 rw[h2,if_neg (by simpa using this),k7]
theorem c4V{s:a8}(hR:SR s){i:Nat}(hF:Fst s i):a4D (pl (sO s)) 0=some (⟨(pl (sO s)).a7.set i ⟨1,(ce s i).Gen,0⟩,(pl (sO s)).Last⟩,hdl s i,0):=by
 have hlen:=hR.len
 have el:(pl (sO s)).a7.length=s.S.a7.length:=by rw[a0v,y9]
 obtain⟨hi,h0,hmin⟩:=hF
 have hc:=hR.cell i hi
 have l9:=hR.l9
 unfold a4D
 simp only[jn]
 refine E1 (pl (sO s)).a7.length (λk=>k≤i) (by omega) (by omega) (λk hk hP=>?_) (λhP=>by omega)
 obtain⟨h1,h2⟩:=c2M hR (show k<s.S.a7.length by omega)
 rcases Nat.lt_or_ge k i with g | g
 ·refine .inl ⟨?_,g⟩
  have:=hmin k g
  simp only[Int.ofNat_lt,hk,decide_true,if_true,n8 hk,d1c]
  rw[h2,if_neg (by simpa using this),k7]
 ·have:k=i:=by omega
  subst this
  refine .inr ⟨.inl _,?_,rfl⟩
  simp only[Int.ofNat_lt,hk,decide_true,if_true,n8 hk,d1c]
  rw[h2,if_pos (by simpa using h0)]
  have w3:∀c:r7,S0 (pl (sO s)) (k:Int) c=some ⟨(pl (sO s)).a7.set k c,(pl (sO s)).Last⟩:=λc=>by
   unfold S0
   rw[N7 (by omega) (by omega),d1c,n8 hk,d1c,Int.toNat_natCast]
  rw[w3,d1c,a3P,if_pos (by dsimp only;omega),d1c]
  rfl
theorem c8n{s:a8}(hR:SR s)(hb:s.Serial<9223372036854775807)(a p:Int) :
  (∃e,e≠0∧N5 s a p=some (s,0,e)∧a04 (sO s) a p=some (sO s,0,e)) ∨
  ((0≤a∧a≤4)∧(-1≤p∧p≤5)∧∃i,Fst s i∧N5 s a p=some (mkS s i a.toNat p,hdl s i,0)∧a04 (sO s) a p=some (sO (mkS s i a.toNat p),hdl s i,0)):=by
 have hser:=hR.ser
 have hlen:=hR.len
 have r1:∀n:Nat,n≤4→a9p (n:Int)=some (List.replicate n 0,0):=λn hn=>by
  unfold a9p
  rw[if_neg (by simp;omega),a6w (by omega) (by omega)]
  rfl
 rcases c8m hR hb a p with ⟨h1,e⟩ | ⟨h1,h2,e⟩ | ⟨h1,h2,h3,e⟩ | ⟨h1,h2,i,h3,e⟩
 ·refine .inl ⟨1,by decide,e,?_⟩
  unfold a04 a9p
  rw[if_pos (by simp;omega)]
  rfl
 ·refine .inl ⟨13,by decide,e,?_⟩
  obtain⟨n,rfl⟩:∃n:Nat,a=n:=⟨a.toNat,by omega⟩
  unfold a04
  rw[r1 n (by omega),d1c,if_neg (by simp),if_pos (by simp;omega)]
 ·refine .inl ⟨4,by decide,e,?_⟩
  obtain⟨n,rfl⟩:∃n:Nat,a=n:=⟨a.toNat,by omega⟩
  unfold a04
  rw[r1 n (by omega),d1c,if_neg (by simp),if_neg (by simp;omega),a1S _ (by rw[y9];omega),d1c,c7w hR h3,d1c,if_pos (by simp)]
 ·refine .inr ⟨h1,h2,i,h3,e,?_⟩
  obtain⟨n,rfl⟩:∃n:Nat,a=n:=⟨a.toNat,by omega⟩
  have hi:=h3.1
  have hc:=hR.cell i hi
  have l9:=hR.l9
  unfold a04
  rw[r1 n (by omega),d1c,if_neg (by simp),if_neg (by simp;omega),a1S _ (by rw[y9];omega),d1c,c4V hR h3,d1c,if_neg (by simp),c7z hR hi,d1c,a6z,if_pos (by unfold Hnd hdl;dsimp only;omega),d1c,
   show (hdl s i-1) % 32=(i:Int) by unfold hdl;omega,c7A hR hi,d1c,F1 (by show _≤s.Serial+1;omega) (by show s.Serial+1≤_;omega)]
  unfold mkS
  rw[Int.toNat_natCast]
  simp only[sO,List.map_set]
  rfl
end Go.Sh
