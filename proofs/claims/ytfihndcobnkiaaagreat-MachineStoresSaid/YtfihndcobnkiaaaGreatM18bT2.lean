/-
 More of the theory.
-/
import Derived.Test.YtfihndcobnkiaaaGreatM18bT
set_option linter.unusedVariables false
set_option linter.unusedSimpArgs false
set_option linter.unusedSectionVars false
namespace Go.Sh
def wcR(c:weak_Cell):p7:=⟨c.Target,c.Intact,c.Call⟩
def hO(x:Hp):g6:=⟨sO x.S,x.Roots,x.Cells.map wcR,x.T.map I1,tqR x.Q⟩
structure HB (x:Hp):Prop where
 sb:SB x.S
 fb:FB x.S
 rb:LB x.Roots
 cb:∀c∈x.Cells,c.Target≤9223372036854775807
 tb:TB x.T
 qb:∀t∈x.Q.L,t.At≤9223372036854775807
theorem c11{β:Type}{b:Nat}{f:Int × List β→Option ((Int × List β) ⊕ List β)}(n:Nat)(g:Nat→β)(hb:0<b)(h:n*b≤140737488355328)
  (hs:∀(k:Nat) acc,k<n→f ((k:Int),acc)=(app b acc [g k]).bind λv=>some (.inl (s7 ((k:Int)+1),v)))(he:∀acc,f ((n:Int),acc)=some (.inr acc)):lp f (0,[])=some ((List.range n).map g):=by
 have hl:n*1≤n*b:=Nat.mul_le_mul_left _ hb
 refine a2v (a0Y n (λk l=>l=(List.range k).map g) (λe=>e=(List.range n).map g) (by omega) (by simp) ?_ ?_)
 ·rintro k l hk rfl
  have h3:(k+1)*b≤n*b:=Nat.mul_le_mul_right _ hk
  refine .inl ⟨(List.range (k+1)).map g,?_,rfl⟩
  rw[hs k _ hk,A0 hb (by simp;omega),d09,g9,List.range_succ,List.map_append]
  rfl
 ·rintro l rfl
  exact⟨_,he _,rfl⟩
theorem b6o{R:Type}{f:Int→Option (Int ⊕ (Bool ⊕ Unit))}{κ:Bool ⊕ Unit→Option R}{Q:R→Prop}(n:Nat)(p:Nat→Prop)(hn:n<4611686018427387904)
  (hs:∀k:Nat,k<n→∃z,f (k:Int)=some z∧((p k∧z = .inl ((k+1:Nat):Int))∨(¬p k∧z = .inr (.inl false))))(he:f (n:Int)=some (.inr (.inr ())))
  (h1:(∀k,k<n→p k)→∃r,κ (.inr ())=some r∧Q r)(h0:(¬∀k,k<n→p k)→∃r,κ (.inl false)=some r∧Q r):∃r,(lp f 0).bind κ=some r∧Q r:=by
 obtain⟨e,e1,e2⟩:=b4g (f:=f) n (λk=>∀j,j<k→p j) (λe=>(e = .inr ()∧∀k,k<n→p k)∨(e = .inl false∧¬∀k,k<n→p k)) hn (λj hj=>by omega) (λk hk hP=>by
  obtain⟨z,z1,z2⟩:=hs k hk
  rcases z2 with ⟨a,rfl⟩ | ⟨a,rfl⟩
  ·refine .inl ⟨z1,λj hj=>?_⟩
   rcases Nat.lt_or_ge j k with q | q
   ·exact hP j q
   ·have:j=k:=by omega
    subst this;exact a
  ·exact .inr ⟨_,z1,.inr ⟨rfl,λq=>a (q k hk)⟩⟩) (λhP=>⟨_,he,.inl ⟨rfl,hP⟩⟩)
 rw[e1]
 rcases e2 with ⟨rfl,h⟩ | ⟨rfl,h⟩
 ·exact h1 h
 ·exact h0 h
theorem c24{s:store_Store}(hR:SR s){h:Int}(hh:h∈lv s):seO s h (ob s h)=s:=by
 have q:=u6 hR hh
 unfold seO a02
 rw[O9 hR q]
 have e:s.S.Cells.set (B5 h) ⟨(ce s (B5 h)).State,(ce s (B5 h)).Gen,(ce s (B5 h)).Val⟩=s.S.Cells:=by
  rw[show (⟨(ce s (B5 h)).State,(ce s (B5 h)).Gen,(ce s (B5 h)).Val⟩:slab_Cell_store_Obj)=ce s (B5 h) from rfl,C9 q.1]
  exact List.set_getElem_self q.1
 rw[e]
section
variable{x:Hp}(hR:SR x.S)
include hR
theorem a9i{h:Int}(hh:h≤9223372036854775807):V9 x h=some (decide (h∈lv x.S)):=by
 unfold V9
 obtain⟨e,h1,h2⟩:=N3 (p5.2 hR) hh
 rw[h1,d09]
 congr 1
 rw[Bool.eq_iff_iff,beq_iff_eq,decide_eq_true_iff,h2]
theorem a5d{h:Int}(hh:h≤9223372036854775807):T2 (hO x) h=some (decide (h∈lv x.S)):=by
 unfold T2
 obtain⟨e,h1,h2⟩:=N3 (p5.2 hR) hh
 rw[show (hO x).S=sO x.S from rfl,a2j x.S (by have:=hR.len;omega) hh,h1,Option.map_some,d09]
 congr 1
 rw[Bool.eq_iff_iff,beq_iff_eq,decide_eq_true_iff,h2]
theorem R4{h:Int}(hh:h≤9223372036854775807):F0 x h=some (decide (h=0∨h∈lv x.S)):=by
 unfold F0
 by_cases q:h=0
 ·subst q
  simp[n9]
 ·have e:(h==0)=false:=by simpa using q
  rw[e]
  simp only[beq_self_eq_true,L7,Bool.false_or]
  rw[a9i hR hh,d09]
  simp[q]
theorem a7f{h:Int}(hh:h≤9223372036854775807):T3 (hO x) h=some (decide (h=0∨h∈lv x.S)):=by
 unfold T3
 by_cases q:h=0
 ·subst q
  simp[n9]
 ·have e:(h==0)=false:=by simpa using q
  rw[e]
  simp only[beq_self_eq_true,L7,Bool.false_or]
  rw[a5d hR hh,d09]
  simp[q]
theorem c6r{c:Int}(hc:c≤9223372036854775807):a64 c=some (Z2 c):=by
 unfold a64 a2M E1 Z2
 simp only[d09]
 by_cases q:12≤c
 ·rw[if_pos (by simpa using q),if_pos q,d09]
 ·rw[if_neg (by simpa using q),if_neg q,d09]
  by_cases q2:c<0
  ·rw[if_pos (show 0 > c from q2),if_pos q2]
   rfl
  ·rw[if_neg (show ¬0 > c from q2),if_neg q2,E5 (by omega) (by omega)]
theorem b6D{c:Int}(hc:c≤9223372036854775807):b1P c=some (Z2 c):=by
 unfold b1P Y0 Z2
 simp only[d09]
 by_cases q:12≤c
 ·rw[if_pos (by simpa using q),if_pos q]
 ·rw[if_neg (by simpa using q),if_neg q]
  by_cases q2:c<0
  ·rw[if_pos (by simpa using q2),if_pos q2]
  ·rw[if_neg (by simpa using q2),if_neg q2,E5 (by omega) (by omega)]
omit hR in
theorem c2G {s:store_Store} (hR:SR s) {h:Int} (hh:h∈lv s) {n:Int} (hn:0≤n):H9 s h (stg (ob s h) n)=some (seO s h (stg (ob s h) n),0):=by
 have:=H6 hR hh
 exact a93 (o:=stg (ob s h) n) hR hh rfl ⟨this.s1,this.s2,hn,this.wk,this.p1,this.p2,this.fl⟩
omit hR in
theorem a94 {s:store_Store} (hR:SR s) {h:Int} (hh:h∈lv s) {o:store_Obj} (hs:o.Serial=(ob s h).Serial) (ho:OkO s o):L0 (sO s) h (oo o)=some (sO (seO s h o),0):=by
 have:=H7 hR hh
 rw[c25 s hR.len (by omega) o,a93 hR hh hs ho]
 rfl
theorem a7x{h:Int}(hh:h≤9223372036854775807)(hB:∀k∈lv x.S,(ob x.S k).Strong≤9223372036854775807):V7 x h=some (C0 x h):=by
 unfold V7 P4 C0 stO
 obtain⟨e,h1,h2⟩:=N3 (p5.2 hR) hh
 rw[h1,d09]
 by_cases q:h∈lv x.S
 ·have e0:=h2.2 q
  subst e0
  rw[if_pos q,c6r hR (hB h q)]
  simp only[beq_self_eq_true,if_true,d09]
  have:=c2G hR q (E2 (H6 hR q).st)
  rw[this]
  rfl
 ·have:(e==0)=false:=by simpa using λc=>q (h2.1 c)
  rw[this,if_neg q]
  rfl
theorem a9V{h:Int}(hh:h≤9223372036854775807)(hB:∀k∈lv x.S,(ob x.S k).Strong≤9223372036854775807):a0v (hO x) h=some (hO (C0 x h)):=by
 unfold a0v a5s C0 stO
 obtain⟨e,h1,h2⟩:=N3 (p5.2 hR) hh
 have hg:C6 (hO x).S h=some (oo (ob x.S h),e):=by
  rw[show (hO x).S=sO x.S from rfl,a2j x.S (by have:=hR.len;omega) hh,h1]
  rfl
 rw[hg,d09]
 by_cases q:h∈lv x.S
 ·have e0:=h2.2 q
  subst e0
  have hs:b1P (oo (ob x.S h),(0:Int)).1.Strong=some (Z2 (ob x.S h).Strong):=b6D hR (hB h q)
  rw[if_pos q,hs,d09]
  simp only[d09,bne_self_eq_false,Bool.false_eq_true,if_false]
  have ok:=H6 hR q
  have:=a94 (o:=stg (ob x.S h) (Z2 (ob x.S h).Strong)) hR q rfl ⟨ok.s1,ok.s2,E2 ok.st,ok.wk,ok.p1,ok.p2,ok.fl⟩
  rw[show L0 (hO x).S h ⟨(oo (ob x.S h)).Serial,Z2 (ob x.S h).Strong,(oo (ob x.S h)).Weak,(oo (ob x.S h)).Prog,(oo (ob x.S h)).Started,(oo (ob x.S h)).Fields⟩=_ from this]
  rfl
 ·have he:(e != 0)=true:=by simpa using λc=>q (h2.1 c)
  have hb:(oo (ob x.S h)).Strong≤9223372036854775807:=by
   rw[a8d (p5.2 hR) hh q];decide
  rw[b6D hR hb,d09,d09]
  simp only[he,if_true]
  rw[if_neg q]
  rfl
omit hR in
theorem c5Y (c:Int) (h1 : -1000000≤c):a0R c=some (a7P c):=by
 unfold a0R b0p a1q E1 a7P
 simp only[d09]
 by_cases q:12≤c
 ·rw[if_pos (by simpa using q),if_pos q]
  rfl
 ·rw[if_neg (by simpa using q),if_neg q]
  by_cases q2:c<1
  ·rw[if_pos (by simpa using q2),if_pos q2]
   rfl
  ·rw[if_neg (by simpa using q2),if_neg q2,E5 (by omega) (by omega)]
   rfl
theorem a5w{h:Int}(hh:h≤9223372036854775807):D7 x h=some (O1 x h):=by
 unfold D7 J8 O1 stO
 obtain⟨e,h1,h2⟩:=N3 (p5.2 hR) hh
 rw[h1,d09]
 by_cases q:h∈lv x.S
 ·have e0:=h2.2 q
  subst e0
  have ok:=H6 hR q
  rw[if_pos q,c5Y _ (by have:=ok.st;dsimp only;omega)]
  simp only[beq_self_eq_true,if_true,d09]
  have:=c2G hR q (X0 ok.st)
  rw[this]
  rfl
 ·have:(e==0)=false:=by simpa using λc=>q (h2.1 c)
  rw[this,if_neg q]
  rfl
theorem a7w{h:Int}(hh:h≤9223372036854775807):G5 (hO x) h=some (hO (O1 x h)):=by
 unfold G5 a5s O1 stO
 obtain⟨e,h1,h2⟩:=N3 (p5.2 hR) hh
 have hg:C6 (hO x).S h=some (oo (ob x.S h),e):=by
  rw[show (hO x).S=sO x.S from rfl,a2j x.S (by have:=hR.len;omega) hh,h1]
  rfl
 rw[hg,d09]
 by_cases q:h∈lv x.S
 ·have e0:=h2.2 q
  subst e0
  have ok:=H6 hR q
  have put:∀n,0≤n→L0 (hO x).S h ⟨(oo (ob x.S h)).Serial,n,(oo (ob x.S h)).Weak,(oo (ob x.S h)).Prog,(oo (ob x.S h)).Started,(oo (ob x.S h)).Fields⟩=some (sO (seO x.S h (stg (ob x.S h) n)),0):=λn hn=>
   a94 (o:=stg (ob x.S h) n) hR q rfl ⟨ok.s1,ok.s2,hn,ok.wk,ok.p1,ok.p2,ok.fl⟩
  have hs:(oo (ob x.S h)).Strong=(ob x.S h).Strong:=rfl
  rw[if_pos q]
  unfold b5f Y0 a7P
  simp only[d09,hs]
  by_cases q1:12≤(ob x.S h).Strong
  ·rw[if_pos (by simpa using q1),if_pos q1]
   simp only[d09,bne_self_eq_false,Bool.false_eq_true,if_false]
   rw[put 12 (by decide)]
   rfl
  ·rw[if_neg (by simpa using q1),if_neg q1]
   by_cases q2:(ob x.S h).Strong<1
   ·rw[if_pos (by simpa using q2),if_pos q2]
    simp only[d09,show ((11:Int) != 0)=true from rfl,if_true]
    rw[show stg (ob x.S h) (ob x.S h).Strong=ob x.S h from rfl,c24 hR q]
   ·rw[if_neg (by simpa using q2),if_neg q2,E5 (by omega) (by have:=ok.st;omega)]
    simp only[d09,bne_self_eq_false,Bool.false_eq_true,if_false]
    rw[put _ (by omega)]
    rfl
 ·have he:(e != 0)=true:=by simpa using λc=>q (h2.1 c)
  rw[if_neg q,a8d (p5.2 hR) hh q]
  unfold b5f Y0
  simp only[d09]
  rfl
end
theorem c0E{x:Hp}(hR:SR x.S)(hB:SB x.S):∀k∈lv x.S,(ob x.S k).Strong≤9223372036854775807:=λk hk=>(b01 (p5.2 hR) hB hk).2
end Go.Sh
namespace Go.Sh
theorem a9X(x:Hp)(h:Int):(C0 x h).Roots=x.Roots∧(C0 x h).Cells=x.Cells∧(C0 x h).T=x.T∧(C0 x h).Q=x.Q:=by
 rw[b2Y]
 exact⟨rfl,rfl,rfl,rfl⟩
theorem a5x{x:Hp}(hR:SR x.S)(h:Int):SR (C0 x h).S:=(G0 hR h λc=>E2).sr
section
variable{x:Hp}(hx:Q5 x)(hS:∀k∈lv x.S,(ob x.S k).Strong≤9223372036854775807)
include hx hS
theorem a6w{h:Int}(hh:h=0∨h∈lv x.S):h≤9223372036854775807:=by
 rcases hh with q | q
 ·omega
 ·have:=H7 hx.sh.sr q;omega
theorem c4H(k:Int){h:Int}(hh:h≤9223372036854775807):a7e x k h=some (if k<0∨5<k then (x,6) else if h=0∨h∈lv x.S then (Q6 x k.toNat h,0) else (x,3)):=by
 have hR:=hx.sh.sr
 have r6:=hx.sh.r6
 unfold a7e
 by_cases hk:k<0∨5<k
 ·rw[if_pos hk,if_pos (by rw[r6];simp;omega)]
 ·rw[if_neg hk,if_neg (by rw[r6];simp;omega),R4 hR hh,d09]
  by_cases hn:h=0∨h∈lv x.S
  ·rw[if_pos hn,decide_eq_true hn,if_neg (by simp)]
   obtain⟨n,rfl⟩:∃n:Nat,k=n:=⟨k.toNat,by omega⟩
   have hn6:n<6:=by omega
   have hnl:n<x.Roots.length:=by omega
   have old:x.Roots[n]≤9223372036854775807:=a6w hx hS (hx.sh.rt _ (List.getElem_mem hnl))
   have e1:=a9X x h
   have hn2:n<(C0 x h).Roots.length:=by rw[e1.1];exact hnl
   rw[l6 hnl,d09]
   unfold G7 R2 E8
   rw[a7x hR hh hS,d09]
   dsimp only
   rw[K5 (by omega) (by rw[e1.1];omega),d09,l6 hn2,d09,d09]
   have hrel:=a5w (x:=wR (C0 x h) (x.Roots.set n h)) (a5x hR h) old
   rw[Int.toNat_natCast,e1.1,show D7 ⟨(C0 x h).S,x.Roots.set n h,(C0 x h).Cells,(C0 x h).T,(C0 x h).Q⟩ x.Roots[n]=_ from hrel]
   unfold Q6
   rw[List.getD_eq_getElem?_getD,List.getElem?_eq_getElem hnl]
   rfl
  ·rw[if_neg hn,decide_eq_false hn,if_pos (by simp)]
theorem c2V(k:Int){h:Int}(hh:h≤9223372036854775807):a20 (hO x) k h=some (if k<0∨5<k then (hO x,6) else if h=0∨h∈lv x.S then (hO (Q6 x k.toNat h),0) else (hO x,3)):=by
 have hR:=hx.sh.sr
 have r6:=hx.sh.r6
 unfold a20
 by_cases hk:k<0∨5<k
 ·rw[if_pos hk,if_pos (by simp;omega)]
 ·rw[if_neg hk,if_neg (by simp;omega),a7f hR hh,d09]
  by_cases hn:h=0∨h∈lv x.S
  ·rw[if_pos hn,decide_eq_true hn,if_neg (by simp)]
   obtain⟨n,rfl⟩:∃n:Nat,k=n:=⟨k.toNat,by omega⟩
   have hnl:n<x.Roots.length:=by omega
   have hnl':n<(hO x).Roots.length:=hnl
   have old:x.Roots[n]≤9223372036854775807:=a6w hx hS (hx.sh.rt _ (List.getElem_mem hnl))
   have e1:=a9X x h
   have r6':(hO x).Roots.length=6:=r6
   rw[l6 hnl',d09,a9V hR hh hS,d09,K5 (by omega) (by rw[r6'];omega),d09,l6 hnl',d09]
   have hrel:=a7w (x:=wR (C0 x h) (x.Roots.set n h)) (a5x hR h) old
   rw[Int.toNat_natCast]
   rw[show G5 ⟨(hO (C0 x h)).S,(hO x).Roots.set n h,(hO (C0 x h)).Cells,(hO (C0 x h)).T,(hO (C0 x h)).Q⟩ (hO x).Roots[n]=_ from hrel]
   unfold Q6
   rw[List.getD_eq_getElem?_getD,List.getElem?_eq_getElem hnl]
   rfl
  ·rw[if_neg hn,decide_eq_false hn,if_pos (by simp)]
omit hx hS in
theorem c7I {l:List Int} {n:Nat} (hn:n<l.length):a6Z l n=some (l[n],0)∧b2L l n=some (l[n],0):=by
 constructor
 ·unfold a6Z a3S
  rw[d09,if_neg (by simp;omega),l6 hn,d09]
 ·unfold b2L
  rw[if_neg (by simp;omega),l6 hn,d09]
omit hx hS in
theorem c47 {l:List Int} {k:Int} (hk:¬(0≤k∧k<l.length)):a6Z l k=some (0,5)∧b2L l k=some (0,5):=by
 constructor
 ·unfold a6Z a3S
  rw[d09,if_pos (by simp;omega)]
 ·unfold b2L
  rw[if_pos (by simp;omega)]
theorem b08(h k:Int)(hh:h≤9223372036854775807):(∃e,e≠0∧M8 x.S h k=some (0,e)∧a2B (sO x.S) h k=some (0,e)) ∨
  (h∈lv x.S∧∃n:Nat,k=n∧∃hn:n<(ob x.S h).Fields.length,M8 x.S h k=some ((ob x.S h).Fields[n],0)∧a2B (sO x.S) h k=some ((ob x.S h).Fields[n],0)):=by
 have hR:=hx.sh.sr
 obtain⟨e,h1,h2⟩:=N3 (p5.2 hR) hh
 have hg:C6 (sO x.S) h=some (oo (ob x.S h),e):=by
  rw[a2j x.S (by have:=hR.len;omega) hh,h1]
  rfl
 unfold M8 a2B
 rw[h1,d09,hg,d09]
 by_cases q:h∈lv x.S
 ·have:=h2.2 q
  subst this
  rw[if_neg (by simp),if_neg (by simp),show (oo (ob x.S h),(0:Int)).1.Fields=(ob x.S h).Fields from rfl]
  by_cases hk:0≤k∧k<(ob x.S h).Fields.length
  ·right
   obtain⟨n,rfl⟩:∃n:Nat,k=n:=⟨k.toNat,by omega⟩
   have hn:n<(ob x.S h).Fields.length:=by omega
   refine⟨q,n,rfl,hn,?_,?_⟩
   ·rw[(c7I hn).1]
    rfl
   ·rw[(c7I hn).2]
    rfl
  ·left
   refine⟨5,by decide,?_,?_⟩
   ·rw[(c47 hk).1]
    rfl
   ·rw[(c47 hk).2]
    rfl
 ·left
  have he:(e != 0)=true:=by simpa using λc=>q (h2.1 c)
  refine⟨e,by simpa using he,?_,?_⟩
  ·simp only[he,if_true]
  ·simp only[he,if_true]
theorem c2F{s:store_Store}(hR:SR s){h:Int}(hh:h∈lv s){n:Nat}(hn:n<(ob s h).Fields.length)(v:Int) :
  a7A s h n v=some (seO s h (flg (ob s h) ((ob s h).Fields.set n v)),0)∧b5i (sO s) h n v=some (sO (seO s h (flg (ob s h) ((ob s h).Fields.set n v))),0):=by
 have ok:=H6 hR hh
 have hf:=ok.fl
 have hle:=H7 hR hh
 have ho:OkO s (flg (ob s h) ((ob s h).Fields.set n v)):=⟨ok.s1,ok.s2,ok.st,ok.wk,ok.p1,ok.p2,by simpa using hf⟩
 have h1:=a93 (o:=flg (ob s h) ((ob s h).Fields.set n v)) hR hh rfl ho
 have h2:=a94 (o:=flg (ob s h) ((ob s h).Fields.set n v)) hR hh rfl ho
 constructor
 ·unfold a7A
  rw[a5f (p5.2 hR) hh,d09,if_neg (by simp)]
  unfold b3g a3S
  dsimp only
  rw[d09,if_neg (by simp;omega),b6M (by omega) (by omega),d09]
  have e:cpy (List.replicate (ob s h).Fields.length (0:Int)) (ob s h).Fields=some (ob s h).Fields:=by
   unfold cpy
   rw[if_pos (by simp)]
   simp
  rw[e,d09,l6 hn,d09,d09,if_neg (by simp),Int.toNat_natCast]
  dsimp only
  rw[show H9 s h ⟨(ob s h).Serial,(ob s h).Strong,(ob s h).Weak,(ob s h).Prog,(ob s h).Started,(ob s h).Fields.set n v⟩=_ from h1]
  rfl
 ·unfold b5i
  rw[a2j s (by have:=hR.len;omega) (by omega),a5f (p5.2 hR) hh,Option.map_some,d09,if_neg (by simp)]
  unfold b6Z
  have hn':n<(oo (ob s h)).Fields.length:=hn
  have hf':(oo (ob s h)).Fields.length≤4:=hf
  dsimp only
  rw[if_neg (by simp;omega),K5 (by omega) (by omega),d09,l6 hn',d09,d09,if_neg (by simp),Int.toNat_natCast]
  dsimp only
  rw[show L0 (sO s) h ⟨(oo (ob s h)).Serial,(oo (ob s h)).Strong,(oo (ob s h)).Weak,(oo (ob s h)).Prog,(oo (ob s h)).Started,(oo (ob s h)).Fields.set n v⟩=_ from h2]
  rfl
theorem c1D(h k v:Int)(hh:h≤9223372036854775807)(hv:v≤9223372036854775807) :
  (∃e,e≠0∧a1r x h k v=some (x,e)∧a4C (hO x) h k v=some (hO x,e)) ∨
  (h∈lv x.S∧(v=0∨v∈lv x.S)∧∃n:Nat,k=n∧n<(ob x.S h).Fields.length∧a1r x h k v=some (K8 x h n v,0)∧a4C (hO x) h k v=some (hO (K8 x h n v),0)):=by
 have hR:=hx.sh.sr
 unfold a1r a4C
 rcases b08 hx hS h k hh with ⟨e,he,f1,f2⟩ | ⟨hl,n,rfl,hn,f1,f2⟩
 ·left
  have he':(e != 0)=true:=by simpa using he
  refine⟨e,he,?_,?_⟩
  ·rw[f1,d09,if_pos he']
  ·rw[show (hO x).S=sO x.S from rfl,f2,d09,if_pos he']
 ·rw[f1,d09,if_neg (by simp),show (hO x).S=sO x.S from rfl,f2,d09,if_neg (by simp),R4 hR hv,d09,a7f hR hv,d09]
  by_cases hn2:v=0∨v∈lv x.S
  ·right
   refine⟨hl,hn2,n,rfl,hn,?_⟩
   rw[decide_eq_true hn2,if_neg (by simp),if_neg (by simp)]
   have kin:=G0 hR v (f:=Z2) λc=>E2
   have hR1:SR (C0 x v).S:=kin.sr
   have hl1:h∈lv (C0 x v).S:=by rw[show lv (C0 x v).S=lv x.S from kin.lv];exact hl
   have hof:(ob (C0 x v).S h).Fields=(ob x.S h).Fields:=by
    obtain⟨m,e⟩:=kin.ob h hh
    show (ob (stO x v Z2).S h).Fields=_
    rw[e]
   have hn1:n<(ob (C0 x v).S h).Fields.length:=by rw[hof];exact hn
   have old:(ob x.S h).Fields[n]≤9223372036854775807:=a6w hx hS (hx.sh.fl h hl _ (List.getElem_mem hn))
   have ok:=H6 hR1 hl1
   have sr2:SR (seO (C0 x v).S h (flg (ob (C0 x v).S h) ((ob (C0 x v).S h).Fields.set n v))):=a07 (o:=flg (ob (C0 x v).S h) ((ob (C0 x v).S h).Fields.set n v)) hR1 hl1 rfl ⟨ok.s1,ok.s2,ok.st,ok.wk,ok.p1,ok.p2,by simpa using ok.fl⟩
   obtain⟨p1,p2⟩:=c2F hx hS hR1 hl1 hn1 v
   have hd:(ob x.S h).Fields.getD n 0=(ob x.S h).Fields[n]:=by
    rw[List.getD_eq_getElem?_getD,List.getElem?_eq_getElem hn]
    rfl
   constructor
   ·unfold F5 Z1
    rw[a7x hR hv hS,d09]
    dsimp only
    rw[p1,d09,d09]
    have hrel:=a5w (x:=wS (C0 x v) (seO (C0 x v).S h (flg (ob (C0 x v).S h) ((ob (C0 x v).S h).Fields.set n v)))) sr2 old
    rw[show D7 ⟨seO (C0 x v).S h (flg (ob (C0 x v).S h) ((ob (C0 x v).S h).Fields.set n v)),(C0 x v).Roots,(C0 x v).Cells,(C0 x v).T,(C0 x v).Q⟩ (ob x.S h).Fields[n]=_ from hrel]
    unfold K8
    rw[hd,hof]
    rfl
   ·rw[a9V hR hv hS,d09,show (hO (C0 x v)).S=sO (C0 x v).S from rfl,p2,d09]
    have hrel:=a7w (x:=wS (C0 x v) (seO (C0 x v).S h (flg (ob (C0 x v).S h) ((ob (C0 x v).S h).Fields.set n v)))) sr2 old
    dsimp only
    rw[show G5 ⟨sO (seO (C0 x v).S h (flg (ob (C0 x v).S h) ((ob (C0 x v).S h).Fields.set n v))),(hO (C0 x v)).Roots,(hO (C0 x v)).Cells,(hO (C0 x v)).T,(hO (C0 x v)).Q⟩ (ob x.S h).Fields[n]=_ from hrel]
    unfold K8
    rw[hd,hof]
    rfl
  ·left
   refine⟨3,by decide,?_,?_⟩
   ·rw[decide_eq_false hn2,if_pos (by simp)]
   ·rw[decide_eq_false hn2,if_pos (by simp)]
theorem c4w(k v:Int)(hk:k≤9223372036854775807)(hv:v≤9223372036854775807) :
  (∃e,e≠0∧a0A x k v=some (x,e)∧a6H (hO x) k v=some (hO x,e)) ∨
  (k∈lv x.S∧(v=0∨v∈lv x.S)∧∃r,P1 x.T k v=some r∧r.2.2=0∧a0A x k v=some (a3I x v r.1 r.2.1,0)∧a6H (hO x) k v=some (hO (a3I x v r.1 r.2.1),0)):=by
 have hR:=hx.sh.sr
 unfold a0A a6H
 by_cases k0:k=0
 ·left
  subst k0
  exact⟨2,by decide,by simp,by simp⟩
 ·rw[if_neg (by simpa using k0),if_neg (by simpa using k0),R4 hR hk,d09,a5d hR hk,d09,R4 hR hv,a7f hR hv]
  have hkk:(k=0∨k∈lv x.S)↔k∈lv x.S:=by simp[k0]
  by_cases hl:k∈lv x.S∧(v=0∨v∈lv x.S)
  ·obtain⟨hl,hn⟩:=hl
   rw[decide_eq_true (hkk.2 hl),decide_eq_true hl,decide_eq_true hn]
   simp only[Bool.not_true,beq_self_eq_true,L7,d09,Bool.or_self,Bool.false_eq_true,if_false]
   obtain⟨r,r1,r2,r3,r4,r5⟩:=c0x hx.sh.hr k v
   rw[r1,d09,show (hO x).T=x.T.map I1 from rfl,r4,d09]
   by_cases h0:r.2.2=0
   ·right
    refine⟨hl,hn,r,rfl,h0,?_⟩
    have e1:(r.2.2 != 0)=false:=by simpa using h0
    have old:r.2.1≤9223372036854775807:=by
     rcases r5 with ⟨_,rfl⟩ | ⟨_,_,⟨i,hi,rfl⟩ | ⟨_,rfl⟩⟩ | ⟨_,_,⟨i,hi,rfl⟩ | ⟨d,_,_,_,_,rfl⟩ | ⟨_,_,rfl⟩⟩
     ·simp
     ·exact a6w hx hS (.inr (hx.sh.pr k _ ⟨i,hi,rfl⟩).2)
     ·simp
     ·exact a6w hx hS (.inr (hx.sh.pr k _ ⟨i,hi,rfl⟩).2)
     ·simp
     ·simp
    constructor
    ·rw[e1]
     simp only[Bool.false_eq_true,if_false]
     unfold D4 R1
     rw[a7x hR hv hS,d09,d09]
     dsimp only
     have hrel:=a5w (x:=wT (C0 x v) r.1) (a5x hR v) old
     rw[show D7 ⟨(C0 x v).S,(C0 x v).Roots,(C0 x v).Cells,r.1,(C0 x v).Q⟩ r.2.1=_ from hrel]
     rfl
    ·dsimp only
     rw[e1]
     simp only[Bool.false_eq_true,if_false]
     rw[a9V hR hv hS,d09]
     have hrel:=a7w (x:=wT (C0 x v) r.1) (a5x hR v) old
     rw[show G5 ⟨(hO (C0 x v)).S,(hO (C0 x v)).Roots,(hO (C0 x v)).Cells,r.1.map I1,(hO (C0 x v)).Q⟩ r.2.1=_ from hrel]
     rfl
   ·left
    have e1:(r.2.2 != 0)=true:=by simpa using h0
    refine⟨r.2.2,h0,by rw[if_pos e1],by dsimp only;rw[if_pos e1]⟩
  ·left
   refine⟨3,by decide,?_,?_⟩
   ·by_cases hl2:k∈lv x.S
    ·have:¬(v=0∨v∈lv x.S):=λq=>hl ⟨hl2,q⟩
     rw[decide_eq_true (hkk.2 hl2),decide_eq_false this]
     rfl
    ·rw[decide_eq_false λq=>hl2 (hkk.1 q)]
     rfl
   ·by_cases hl2:k∈lv x.S
    ·have:¬(v=0∨v∈lv x.S):=λq=>hl ⟨hl2,q⟩
     rw[decide_eq_true hl2,decide_eq_false this]
     rfl
    ·rw[decide_eq_false hl2]
     rfl
end
theorem b8U{s:store_Store}(hR:SR s){h:Int}{i:Nat}(q:Q4 s h i):K2 s.S h=some ((gvA s i).S,0):=by
 have hi:=q.1
 have hc:=hR.cell i hi
 have l9:=hR.l9
 unfold K2 gvA
 rw[a2q hR q,d09,if_neg (by simp),b4c hi,d09]
 by_cases g:(ce s i).Gen=s.S.Last
 ·rw[if_pos (by simpa using g),if_pos g,a4P rfl hi hR.len]
  rfl
 ·rw[if_neg (by simpa using g),if_neg g,a4P rfl hi hR.len,E5 (by omega) (by omega)]
  rfl
theorem c1Y{s:store_Store}{i:Nat}(hi:i<s.S.Cells.length):ix (sO s).Cells (i:Int)=some (cO (ce s i)):=by
 rw[b9v,b4c hi]
 rfl
theorem b9w(s:store_Store)(i:Nat)(c:slab_Cell_store_Obj):sO (E7 s i c)=⟨(sO s).Cells.set i (cO c),s.S.Last,s.Serial⟩:=by
 unfold sO E7
 rw[List.map_set]
theorem b3f(t:j1)(p:B1)(hl:t.Cells.length≤1000)(hp:p.Cells.length=t.Cells.length):a0u t p=some ⟨(List.range t.Cells.length).map λk=>⟨(p.Cells.getD k ⟨0,0,0⟩).State,(p.Cells.getD k ⟨0,0,0⟩).Gen,(t.Cells.getD k ⟨0,0,oo z0⟩).Val⟩,t.Last,t.Serial⟩:=by
 unfold a0u
 simp only[jn]
 rw[c11 (b:=80) t.Cells.length (λk=>⟨(p.Cells.getD k ⟨0,0,0⟩).State,(p.Cells.getD k ⟨0,0,0⟩).Gen,(t.Cells.getD k ⟨0,0,oo z0⟩).Val⟩) (by omega) (by omega) (λk acc hk=>?_) (λacc=>by simp)]
 ·rfl
 ·have hk2:k<p.Cells.length:=by omega
  simp only[Int.ofNat_lt,hk,decide_true,if_true,l6 hk,l6 hk2,d09]
  rw[List.getD_eq_getElem?_getD,List.getElem?_eq_getElem hk2,List.getD_eq_getElem?_getD,List.getElem?_eq_getElem hk]
  rfl
theorem c1K{s:store_Store}(hR:SR s){h:Int}{i:Nat}(q:Q4 s h i):a9A (sO s) h=some (sO (gvA s i)):=by
 have hi:=q.1
 have hc:=hR.cell i hi
 have l9:=hR.l9
 have hlen:=hR.len
 have hr:=q.rng hR
 have hH:Hnd h:=((a8s hR).2 q).2.1
 have hsl:(h-1) % 32=i:=((a8s hR).2 q).2.2.1
 have I1:i<(pl (sO s)).Cells.length:=by rw[a0t,y6];exact hi
 have key:∀st g,(st:Int)=st→a0u (sO s) ⟨(pl (sO s)).Cells.set i ⟨st,g,0⟩,(pl (sO s)).Last⟩=some ⟨(sO s).Cells.set i ⟨st,g,oo (ce s i).Val⟩,s.S.Last,s.Serial⟩:=λst g _=>by
  rw[b3f _ _ (by rw[y6];omega) (by simp[a0t])]
  congr 1
  congr 1
  refine List.ext_getElem (by simp) λk h1 h2=>?_
  have hk:k<s.S.Cells.length:=by simpa[y6] using h1
  have hk2:k<(sO s).Cells.length:=by rw[y6];exact hk
  have hk3:k<(pl (sO s)).Cells.length:=by rw[a0t];exact hk2
  simp only[List.getElem_map,List.getElem_range,List.getElem_set]
  have e1:(sO s).Cells.getD k ⟨0,0,oo z0⟩=cO (ce s k):=by
   rw[List.getD_eq_getElem?_getD,List.getElem?_eq_getElem hk2,C9 hk]
   simp[sO]
  have e2:((pl (sO s)).Cells.set i ⟨st,g,0⟩).getD k ⟨0,0,0⟩=if k=i then ⟨st,g,0⟩ else plc k (cO (ce s k)):=by
   rw[a4g I1]
   split
   ·rfl
   ·rw[List.getD_eq_getElem?_getD,List.getElem?_eq_getElem hk3,C9 hk]
    simp[pl,sO]
  rw[e1,e2]
  by_cases e:k=i
  ·subst e
   rw[if_pos rfl,if_pos rfl]
   rfl
  ·rw[if_neg e,if_neg (Ne.symm e)]
   rw[C9 hk]
   simp[sO,plc,cO]
 have fin:∀st g,(a11 ⟨(sO s).Cells.set i ⟨st,g,oo (ce s i).Val⟩,s.S.Last,s.Serial⟩ (i:Int) ⟨0,0,0,0,false,[]⟩)=some (sO (E7 s i ⟨st,g,z0⟩)):=λst g=>by
  unfold a11
  have hi2:i<((sO s).Cells.set i ⟨st,g,oo (ce s i).Val⟩).length:=by simp[y6];exact hi
  rw[K5 (by omega) (by simp[y6];omega),d09,l6 hi2,d09,b9w]
  simp[cO,oo,List.set_set]
 unfold a9A b6X gvA
 rw[a1Q _ (by rw[y6];omega),d09,a8r s (by omega),a2q hR q,d09,if_neg (by simp)]
 rw[b6U (by rw[y6];exact hi),d09]
 have hgen:(plc i ((sO s).Cells[i]'(by rw[y6];exact hi))).Gen=(ce s i).Gen:=by
  rw[C9 hi]
  simp[plc,sO,cO]
 have hlast:(pl (sO s)).Last=s.S.Last:=rfl
 have w3:∀c:z8,a0c (pl (sO s)) (i:Int) c=some ⟨(pl (sO s)).Cells.set i c,(pl (sO s)).Last⟩:=λc=>by
  unfold a0c
  rw[K5 (by omega) (by rw[a0t,y6];omega),d09,l6 I1,d09,Int.toNat_natCast]
 rw[hgen,hlast,a6C,if_pos hH,hsl]
 by_cases g:(ce s i).Gen=s.S.Last
 ·rw[if_pos (by simp[g]),if_pos g,w3,d09,d09,if_neg (by simp),key _ _ rfl,d09,d09,fin]
  rfl
 ·rw[if_neg (by simp;omega),if_neg g,w3,d09,d09,if_neg (by simp),key _ _ rfl,d09,d09,E5 (by omega) (by omega),fin]
  rfl
section
variable{x:Hp}(hR:SR x.S)
include hR
theorem b4h{h d:Int}(hh:h≤9223372036854775807)(hw:Q4 x.S h (B5 h) → -1000≤(ce x.S (B5 h)).Val.Weak+d∧(ce x.S (B5 h)).Val.Weak+d≤1000):W0 x h d=some (mkd x h d):=by
 unfold W0 mkd
 by_cases q:Q4 x.S h (B5 h)
 ·have:=hw q
  rw[if_pos q,a2q hR q,d09]
  simp only[beq_self_eq_true,if_true]
  rw[b4c q.1,d09,E5 (by omega) (by omega),b5K hR q,d09]
  rfl
 ·have hno:∀i,¬Q4 x.S h i:=λi hi=>q (by rw[hi.B5 hR];exact hi)
  rw[if_neg q,a2K hR hh hno,d09]
  have:((if h=0 then 2 else 3:Int)==0)=false:=by simpa using a0N h
  simp only[this,Bool.false_eq_true,if_false]
theorem b7r{h:Int}(hh:h≤9223372036854775807)(hw:Q4 x.S h (B5 h)→1≤(ce x.S (B5 h)).Val.Weak∧(ce x.S (B5 h)).Val.Weak≤1000):a0a x h=some (a8L x h):=by
 unfold a0a
 rw[b4h hR hh (λq=>by have:=hw q;omega),d09]
 unfold mkd a8L
 by_cases q:Q4 x.S h (B5 h)
 ·have hw:=hw q
  rw[if_pos q,if_pos q]
  have sr1:=b44 hR q.1 q.2.1 (d:=-1) (by omega)
  have q1:Q4 (mkA x.S (B5 h) (-1)) h (B5 h):=(b1E q.1 _).2 q
  dsimp only
  rw[a2q sr1 q1,d09,if_neg (by simp),b4c q1.1,d09,a2X hR q.1 q.2.1,if_pos rfl]
  dsimp only
  by_cases c:(ce x.S (B5 h)).State=2∧(ce x.S (B5 h)).Val.Weak=1
  ·rw[if_pos c,if_pos (by simp[c.1,c.2]),b8U sr1 q1,d09]
   rfl
  ·rw[if_neg c,if_neg (by simp only[Bool.and_eq_true,beq_iff_eq];omega)]
 ·have hno:∀i,¬Q4 x.S h i:=λi hi=>q (by rw[hi.B5 hR];exact hi)
  rw[if_neg q,if_neg q,a2K hR hh hno,d09]
  have:((if h=0 then 2 else 3:Int) != 0)=true:=by simpa using a0N h
  simp only[this,if_true]
theorem c0H{h:Int}(hh:h≤9223372036854775807)(hw:Q4 x.S h (B5 h)→1≤(ce x.S (B5 h)).Val.Weak∧(ce x.S (B5 h)).Val.Weak≤1000):a0E (hO x) h=some (hO (a8L x h)):=by
 have hl:=hR.len
 unfold a0E
 rw[show (hO x).S=sO x.S from rfl,a1Q _ (by rw[y6];omega),d09,a8r x.S hh]
 unfold a8L
 by_cases q:Q4 x.S h (B5 h)
 ·have hw:=hw q
  have hr:=q.rng hR
  rw[if_pos q,a2q hR q,d09,if_neg (by simp),c1Y q.1,d09]
  have sr1:=b44 hR q.1 q.2.1 (d:=-1) (by omega)
  have q1:Q4 (mkA x.S (B5 h) (-1)) h (B5 h):=(b1E q.1 _).2 q
  have hs:L0 (sO x.S) h (oo (wkg (ce x.S (B5 h)).Val ((ce x.S (B5 h)).Val.Weak + -1)))=some (sO (mkA x.S (B5 h) (-1)),0):=by
   rw[c25 x.S hl hh,b5K hR q]
   rfl
  have hw64:s7 ((cO (ce x.S (B5 h))).Val.Weak-1)=(ce x.S (B5 h)).Val.Weak + -1:=by
   show s7 ((ce x.S (B5 h)).Val.Weak-1)=_
   rw[E5 (by omega) (by omega)]
   omega
  rw[hw64]
  rw[show L0 (sO x.S) h ⟨(cO (ce x.S (B5 h))).Val.Serial,(cO (ce x.S (B5 h))).Val.Strong,(ce x.S (B5 h)).Val.Weak + -1,(cO (ce x.S (B5 h))).Val.Prog,(cO (ce x.S (B5 h))).Val.Started,(cO (ce x.S (B5 h))).Val.Fields⟩=_ from hs,d09,c1Y q1.1,d09,a2X hR q.1 q.2.1,if_pos rfl]
  by_cases c:(ce x.S (B5 h)).State=2∧(ce x.S (B5 h)).Val.Weak=1
  ·rw[if_pos c,if_pos (by simp[cO,c.1,c.2]),c1K sr1 q1,d09]
   rfl
  ·rw[if_neg c,if_neg (by simp only[cO,Bool.and_eq_true,beq_iff_eq,decide_eq_true_eq];omega)]
   rfl
 ·have hno:∀i,¬Q4 x.S h i:=λi hi=>q (by rw[hi.B5 hR];exact hi)
  rw[if_neg q,a2K hR hh hno,d09]
  have:((if h=0 then 2 else 3:Int) != 0)=true:=by simpa using a0N h
  simp only[this,if_true]
end
theorem c3j{l:List weak_Cell}(hl:l.length≤1000){n:Nat}(hn:n<l.length)(h call:Int):a62 l n h call=some (l.set n (wcl h call),l[n].Target,0):=by
 unfold a62 a4O W9
 simp only[d09]
 rw[if_neg (by simp;omega),b6M (by omega) (by omega),d09]
 have e:cpy (List.replicate l.length (⟨0,false,0⟩:weak_Cell)) l=some l:=by
  unfold cpy
  rw[if_pos (by simp)]
  simp
 rw[e,d09,d09,l6 hn,d09,d09,Int.toNat_natCast]
theorem b8I{l:List weak_Cell}(hl:l.length≤1000){n:Nat}(hn:n<l.length)(h call:Int):b5l (l.map wcR) n h call=some ((l.set n (wcl h call)).map wcR,l[n].Target,0):=by
 unfold b5l
 have hn':n<(l.map wcR).length:=by simpa using hn
 rw[if_neg (by simp;omega),K5 (by omega) (by simp;omega),d09,l6 hn',d09,d09,Int.toNat_natCast,List.map_set]
 simp[wcR]
theorem c2h(l:List weak_Cell)(h:Int):nmg l h≤l.length:=List.countP_le_length
theorem c42{x:Hp}(hx:Q5 x)(k h call:Int)(hh:h≤9223372036854775807)(hc : -1≤call∧call≤5) :
  (∃e,e≠0∧P3 x k h call=some (x,e)∧a21 (hO x) k h call=some (hO x,e)) ∨
  ((h=0∨h∈lv x.S)∧∃n:Nat,k=n∧n<6∧wts x.Q n=false∧P3 x k h call=some (S9 x n h call,0)∧a21 (hO x) k h call=some (hO (S9 x n h call),0)):=by
 have hR:=hx.sh.sr
 have c6:=hx.sh.c6
 have q30:=hx.sh.q30
 unfold P3 a21
 by_cases hk:k<0∨5<k
 ·left
  have e1:((decide (k<0))||(decide (k≥(x.Cells.length:Int))))=true:=by rw[c6];simp;omega
  have e2:((decide (k<0))||(decide (k > 5)))=true:=by simp;omega
  refine⟨7,by decide,?_,?_⟩
  ·rw[e1];rfl
  ·rw[e2];rfl
 ·obtain⟨n,rfl⟩:∃n:Nat,k=n:=⟨k.toNat,by omega⟩
  have hn6:n<6:=by omega
  have e1:((decide ((n:Int)<0))||(decide ((n:Int)≥(x.Cells.length:Int))))=false:=by rw[c6];simp;omega
  have e2:((decide ((n:Int)<0))||(decide ((n:Int) > 5)))=false:=by simp;omega
  rw[e1,e2]
  simp only[beq_self_eq_true,L7,Bool.false_or]
  have hwq:a1C x.Q n=some (wts x.Q n):=b9A (by omega)
  have hwr:a1y (hO x).Q n=some (wts x.Q n):=b9k (by omega)
  rw[hwq,d09,hwr,d09,R4 hR hh,d09,a7f hR hh,d09]
  by_cases hw:wts x.Q n=true
  ·left
   rw[if_pos hw,if_pos hw]
   exact⟨7,by decide,rfl,rfl⟩
  ·have hw:wts x.Q n=false:=by simpa using hw
   rw[hw,if_neg (show ¬(false=true) by decide),if_neg (show ¬(false=true) by decide)]
   by_cases hl:h=0∨h∈lv x.S
   ·right
    refine⟨hl,n,rfl,hn6,hw,?_⟩
    have hnl:n<x.Cells.length:=by omega
    rw[decide_eq_true hl,if_neg (by simp),if_neg (by simp),c3j (by omega) hnl,d09,show (hO x).Cells=x.Cells.map wcR from rfl,b8I (by omega) hnl,d09]
    have htg:tgt x n=x.Cells[n].Target:=by
     unfold tgt
     rw[List.getD_eq_getElem?_getD,List.getElem?_eq_getElem hnl]
     rfl
    have wkb:∀i,i<x.S.S.Cells.length→Th (ce x.S i)→0≤(ce x.S i).Val.Weak∧(ce x.S i).Val.Weak≤6:=λi hi ht=>by
     have:=(hx.wk i hi ht).1
     have:=c2h x.Cells (1+(i:Int)+32*(ce x.S i).Gen)
     omega
    have mk1:∃s2,mkd (wC x (x.Cells.set n (wcl h call))) h 1=wS (wC x (x.Cells.set n (wcl h call))) s2∧SR s2∧(∀k i,Q4 s2 k i↔Q4 x.S k i)∧(∀i,i<x.S.S.Cells.length→Th (ce x.S i)→(ce x.S i).Val.Weak≤(ce s2 i).Val.Weak∧(ce s2 i).Val.Weak≤(ce x.S i).Val.Weak+1) ∧
      (h≠0→C6 (sO x.S) h=some (oo (ce x.S (B5 h)).Val,0)∧L0 (sO x.S) h (oo (wkg (ce x.S (B5 h)).Val ((ce x.S (B5 h)).Val.Weak+1)))=some (sO s2,0))∧(h=0→s2=x.S):=by
     unfold mkd
     by_cases h0:h=0
     ·have hno:¬Q4 x.S h (B5 h):=λq=>by have:=q.rng hR;omega
      rw[if_neg hno]
      exact⟨x.S,rfl,hR,λ_ _=>Iff.rfl,λi _ _=>by omega,λq=>absurd h0 q,λ_=>rfl⟩
     ·have hll:=hl.resolve_left h0
      have hp:=u6 hR hll
      have hb:=wkb _ hp.1 (.inl hp.2.1)
      rw[if_pos hp.d]
      have kn:=a5i hR hp.1 (.inl hp.2.1) (d:=1) (by omega)
      refine⟨_,rfl,kn.sr,kn.ad,λi hi ht=>?_,λ_=>⟨?_,?_⟩,λq=>absurd q h0⟩
      ·rw[a2X hR hp.1 (.inl hp.2.1)]
       split
       ·rename_i e;subst e;dsimp only;omega
       ·omega
      ·rw[a2j x.S (by have:=hR.len;omega) hh,c5S hR hp]
       rfl
      ·rw[c25 x.S hR.len hh,b5K hR hp.d]
       rfl
    obtain⟨s2,m1,m2,m3,m4,m5,m6⟩:=mk1
    have hold:tgt x n≤9223372036854775807:=by
     by_cases q:tgt x n=0
     ·omega
     ·obtain⟨p,hp⟩:=(hx.sh.cl n hnl).2.2.2.1 (by rw[←htg];exact q)
      have:=hp.rng hR
      rw[htg];omega
    have hun:Q4 s2 (tgt x n) (B5 (tgt x n))→1≤(ce s2 (B5 (tgt x n))).Val.Weak∧(ce s2 (B5 (tgt x n))).Val.Weak≤1000:=λq=>by
     have q':=(m3 _ _).1 q
     have r:=q'.rng hR
     have:=(hx.wk _ q'.1 q'.2.1).1
     have hp:0<nmg x.Cells x.Cells[n].Target:=a9q hnl (by rw[←htg];omega)
     rw[←htg,q'.2.2] at hp
     have:=m4 _ q'.1 q'.2.1
     have:=wkb _ q'.1 q'.2.1
     omega
    have u1:=b7r (x:=wS (wC x (x.Cells.set n (wcl h call))) s2) m2 hold hun
    have u2:=c0H (x:=wS (wC x (x.Cells.set n (wcl h call))) s2) m2 hold hun
    have hwb:Q4 x.S h (B5 h) → -1000≤(ce x.S (B5 h)).Val.Weak+1∧(ce x.S (B5 h)).Val.Weak+1≤1000:=λq=>by
     have:=wkb _ q.1 q.2.1
     omega
    have mm:=b4h (x:=wC x (x.Cells.set n (wcl h call))) (d:=1) hR hh hwb
    constructor
    ·dsimp only
     rw[show W0 ⟨x.S,x.Roots,x.Cells.set n (wcl h call),x.T,x.Q⟩ h 1=_ from mm,d09,m1,←htg,u1,d09]
     unfold S9
     rw[m1]
    ·unfold S9
     rw[m1]
     dsimp only
     by_cases h0:h=0
     ·rw[if_neg (by simpa using h0),←htg]
      rw[m6 h0] at u2 ⊢
      rw[show a0E ⟨(hO x).S,(hO x).Roots,(x.Cells.set n (wcl h call)).map wcR,(hO x).T,(hO x).Q⟩ (tgt x n)=_ from u2,d09]
     ·obtain⟨g1,g2⟩:=m5 h0
      have hp:=u6 hR (hl.resolve_left h0)
      have hb:=wkb _ hp.1 (.inl hp.2.1)
      rw[if_pos (by simpa using h0),show (hO x).S=sO x.S from rfl,g1,d09]
      have e:s7 ((oo (ce x.S (B5 h)).Val).Weak+1)=(ce x.S (B5 h)).Val.Weak+1:=by
       show s7 ((ce x.S (B5 h)).Val.Weak+1)=_
       rw[E5 (by omega) (by omega)]
      dsimp only
      rw[e]
      rw[show L0 (sO x.S) h ⟨(oo (ce x.S (B5 h)).Val).Serial,(oo (ce x.S (B5 h)).Val).Strong,(ce x.S (B5 h)).Val.Weak+1,(oo (ce x.S (B5 h)).Val).Prog,(oo (ce x.S (B5 h)).Val).Started,(oo (ce x.S (B5 h)).Val).Fields⟩=_ from g2,d09,←htg]
      dsimp only
      rw[show a0E ⟨sO s2,(hO x).Roots,(x.Cells.set n (wcl h call)).map wcR,(hO x).T,(hO x).Q⟩ (tgt x n)=_ from u2,d09]
   ·left
    rw[decide_eq_false hl]
    refine⟨3,by decide,?_,?_⟩ <;> rw[if_pos (by rfl)]
end Go.Sh
namespace Go.Sh
theorem at1{l:List Int}{n:Nat}(hn:n<l.length):a6Z l n=some (l[n],0):=by
 unfold a6Z a3S
 rw[d09,if_neg (by simp;omega),l6 hn,d09]
section
variable{x:Hp}(hx:Q5 x)(hS:∀k∈lv x.S,(ob x.S k).Strong≤9223372036854775807)
include hx hS
end
end Go.Sh
namespace Go.Sh
abbrev tz:task_Task:=⟨0,0,0⟩
abbrev cz0:weak_Cell:=⟨0,false,0⟩
theorem A2{α:Type}{l:List α}{i:Nat}(h:i<l.length)(d:α):l.getD i d=l[i]:=by
 rw[List.getD_eq_getElem?_getD,List.getElem?_eq_getElem h]
 rfl
theorem c3n{q:TQ}{w:Int}:wts q w=true↔∃t∈q.L,t.Kind=2∧t.At=w:=by
 unfold wts
 rw[List.any_eq_true]
 simp
def TkP(x:Hp)(t:task_Task):Prop:=0≤t.Prog∧t.Prog≤5∧((t.Kind=1∧t.At∈lv x.S∧(ob x.S t.At).Started=true)∨(t.Kind=2∧0≤t.At∧t.At≤5))
def TkS(a b:task_Task):Prop:=a.Kind=b.Kind∧a.At=b.At
instance(a b:task_Task):Decidable (TkS a b):=by unfold TkS;infer_instance
section
variable{x:Hp}(hR:SR x.S)
include hR
theorem c4V(hq:x.Q.L.length≤1000)(hB:∀t∈x.Q.L,t.At≤9223372036854775807):∃b,a7u (hO x)=some b∧(b=true↔((∀t∈x.Q.L,TkP x t)∧x.Q.L.Pairwise (λa b=>¬TkS a b)∧x.Q.Cap=30∧x.Q.L.length≤30)):=by
 have hlen:(hO x).Q.L.length=x.Q.L.length:=by simp[hO,tqR]
 unfold a7u
 simp only[jn]
 rw[hlen]
 refine b6o x.Q.L.length (λi=>TkP x (x.Q.L.getD i tz)∧∀k,k<i→¬TkS (x.Q.L.getD k tz) (x.Q.L.getD i tz)) (by omega) (λi hi=>?_) (by simp) (λhall=>?_) (λhno=>?_)
 ·have hi':i<(hO x).Q.L.length:=by rw[hlen];exact hi
  have hg:(hO x).Q.L[i]=⟨(x.Q.L.getD i tz).Kind,(x.Q.L.getD i tz).At,(x.Q.L.getD i tz).Prog⟩:=by
   rw[A2 hi]
   simp[hO,tqR,tkR]
  have hat:=hB _ (List.getElem_mem hi)
  rw[←A2 hi tz] at hat
  simp only[Int.ofNat_lt,hi,decide_true,if_true,l6 hi',d09,hg]
  generalize ht:x.Q.L.getD i tz=t at hat
  by_cases c1:((((t.Kind != 1)&&(t.Kind != 2))||(decide (t.Prog<0)))||(decide (t.Prog > 5)))=true
  ·rw[if_pos c1]
   refine⟨_,rfl,.inr ⟨λq=>?_,rfl⟩⟩
   obtain⟨⟨q1,q2,q3⟩,_⟩:=q
   simp only[Bool.or_eq_true,Bool.and_eq_true,bne_iff_ne,ne_eq,decide_eq_true_eq] at c1
   rcases q3 with q3 | q3 <;> omega
  ·rw[if_neg c1]
   have c1':(t.Kind=1∨t.Kind=2)∧0≤t.Prog∧t.Prog≤5:=by
    simp only[Bool.or_eq_true,Bool.and_eq_true,bne_iff_ne,ne_eq,decide_eq_true_eq] at c1
    omega
   refine b6o i (λk=>¬TkS (x.Q.L.getD k tz) t) (by omega) (λk hk=>?_) (by simp) (λhall=>?_) (λhno=>?_)
   ·have hk1:k<x.Q.L.length:=by omega
    have hk':k<(hO x).Q.L.length:=by rw[hlen];exact hk1
    have hgk:(hO x).Q.L[k]=⟨(x.Q.L.getD k tz).Kind,(x.Q.L.getD k tz).At,(x.Q.L.getD k tz).Prog⟩:=by
     rw[A2 hk1]
     simp[hO,tqR,tkR]
    simp only[Int.ofNat_lt,hk,decide_true,if_true,l6 hk',d09,hgk]
    by_cases c:TkS (x.Q.L.getD k tz) t
    ·rw[if_pos (by simpa[TkS] using c)]
     exact⟨_,rfl,.inr ⟨λq=>q c,rfl⟩⟩
    ·rw[if_neg (by simpa[TkS] using c),g9]
     exact⟨_,rfl,.inl ⟨c,rfl⟩⟩
   ·dsimp only
    obtain⟨e,h1,h2⟩:=N3 (p5.2 hR) hat
    rw[show (hO x).S=sO x.S from rfl,a2j x.S (by have:=hR.len;omega) hat,h1,Option.map_some,d09]
    by_cases c2:TkP x t
    ·rw[if_neg,g9]
     ·exact⟨_,rfl,.inl ⟨⟨c2,hall⟩,rfl⟩⟩
     ·obtain⟨_,_,q | q⟩:=c2
      ·have:=h2.2 q.2.1
       simp[q.1,this,oo,q.2.2]
      ·simp[q.1]
       omega
    ·rw[if_pos]
     ·exact⟨_,rfl,.inr ⟨λq=>c2 q.1,rfl⟩⟩
     ·simp only[Bool.or_eq_true,Bool.and_eq_true,beq_iff_eq,bne_iff_ne,ne_eq,Bool.not_eq_true',decide_eq_true_eq,oo]
      rcases c1'.1 with k1 | k2
      ·left
       refine⟨k1,Classical.byContradiction λq=>c2 ⟨c1'.2.1,c1'.2.2,.inl ⟨k1,?_,?_⟩⟩⟩
       ·exact h2.1 (Classical.byContradiction λq2=>q (.inl q2))
       ·cases hst:(ob x.S t.At).Started
        ·exact absurd (.inr hst) q
        ·rfl
      ·right
       refine⟨k2,?_⟩
       have:¬(0≤t.At∧t.At≤5):=λq=>c2 ⟨c1'.2.1,c1'.2.2,.inr ⟨k2,q.1,q.2⟩⟩
       omega
   ·exact⟨_,rfl,.inr ⟨λq=>hno q.2,rfl⟩⟩
 ·refine⟨_,rfl,?_⟩
  rw[Bool.and_eq_true,beq_iff_eq,decide_eq_true_iff]
  constructor
  ·rintro⟨a,b⟩
   refine⟨λt ht=>?_,?_,a,by first | exact_mod_cast b | (simp[hO,tqR] at b;omega)⟩
   ·obtain⟨i,hi,rfl⟩:=List.getElem_of_mem ht
    have:=(hall i hi).1
    rwa [A2 hi] at this
   ·rw[List.pairwise_iff_getElem]
    intro i j hi hj hij
    have:=(hall j hj).2 i hij
    rwa [A2 hi,A2 hj] at this
  ·rintro⟨_,_,a,b⟩
   exact⟨a,by first | exact_mod_cast b | (simp[hO,tqR];omega)⟩
 ·refine⟨false,rfl,?_⟩
  simp only[Bool.false_eq_true,false_iff]
  rintro⟨a,b,_⟩
  refine hno λi hi=>⟨?_,λk hk=>?_⟩
  ·rw[A2 hi]
   exact a _ (List.getElem_mem hi)
  ·have hk1:k<x.Q.L.length:=by omega
   rw[A2 hi,A2 hk1]
   exact List.pairwise_iff_getElem.1 b k i hk1 hi hk
theorem c38(hT:HR x.T)(hB:HB x)(hr:x.Roots.length≤1000):∃b,a7t (hO x)=some b∧(b=true↔((∀h∈x.Roots,h=0∨h∈lv x.S)∧(∀h∈lv x.S,∀v∈(ob x.S h).Fields,v=0∨v∈lv x.S)∧∀k v,Has x.T k v→k∈lv x.S∧v∈lv x.S)):=by
 have hlen:(hO x).Roots.length=x.Roots.length:=rfl
 have h24:=U5 (p5.2 hR)
 unfold a7t
 simp only[jn]
 refine b6o x.Roots.length (λi=>x.Roots.getD i 0=0∨x.Roots.getD i 0∈lv x.S) (by omega) (λi hi=>?_) (by simp[hlen]) (λhall=>?_) (λhno=>?_)
 ·have hb:=hB.rb _ (List.getElem_mem hi)
  rw[hlen]
  simp only[Int.ofNat_lt,hi,decide_true,if_true]
  rw[show (hO x).Roots=x.Roots from rfl,l6 hi,d09,a7f hR hb,d09,A2 hi]
  by_cases c:x.Roots[i]=0∨x.Roots[i]∈lv x.S
  ·rw[decide_eq_true c,if_neg (by simp),g9]
   exact⟨_,rfl,.inl ⟨c,rfl⟩⟩
  ·rw[decide_eq_false c,if_pos (by simp)]
   exact⟨_,rfl,.inr ⟨c,rfl⟩⟩
 ·dsimp only
  have hall':∀h∈x.Roots,h=0∨h∈lv x.S:=λh hh=>by
   obtain⟨i,hi,rfl⟩:=List.getElem_of_mem hh
   have:=hall i hi
   rwa [A2 hi] at this
  rw[show (hO x).S=sO x.S from rfl,a8w (p5.2 hR),d09]
  refine b6o (lv x.S).length (λi=>∀v∈(ob x.S ((lv x.S).getD i 0)).Fields,v=0∨v∈lv x.S) (by omega) (λi hi=>?_) (by simp) (λhall2=>?_) (λhno=>?_)
  ·have hm:=List.getElem_mem hi
   have hle:=c12 (p5.2 hR) hi
   have hfl:=(H6 hR hm).fl
   simp only[Int.ofNat_lt,hi,decide_true,if_true]
   rw[l6 hi,d09,a2j x.S (by have:=hR.len;omega) hle,a5f (p5.2 hR) hm,Option.map_some,d09,A2 hi]
   have hff:(oo (ob x.S (lv x.S)[i])).Fields=(ob x.S (lv x.S)[i]).Fields:=rfl
   dsimp only
   rw[hff]
   refine b6o (ob x.S (lv x.S)[i]).Fields.length (λk=>(ob x.S (lv x.S)[i]).Fields.getD k 0=0∨(ob x.S (lv x.S)[i]).Fields.getD k 0∈lv x.S) (by omega) (λk hk=>?_) (by simp) (λhall3=>?_) (λhno=>?_)
   ·have hp:=u6 hR hm
    have hb:(ob x.S (lv x.S)[i]).Fields[k]≤9223372036854775807:=by
     have e:=O9 hR hp
     exact c5j.1 hB.fb _ hp.1 _ (by rw[←e];exact List.getElem_mem hk)
    simp only[Int.ofNat_lt,hk,decide_true,if_true]
    rw[l6 hk,d09,a7f hR hb,d09,A2 hk]
    by_cases c:(ob x.S (lv x.S)[i]).Fields[k]=0∨(ob x.S (lv x.S)[i]).Fields[k]∈lv x.S
    ·rw[decide_eq_true c,if_neg (by simp),g9]
     exact⟨_,rfl,.inl ⟨c,rfl⟩⟩
    ·rw[decide_eq_false c,if_pos (by simp)]
     exact⟨_,rfl,.inr ⟨c,rfl⟩⟩
   ·dsimp only
    rw[g9]
    refine⟨_,rfl,.inl ⟨λv hv=>?_,rfl⟩⟩
    obtain⟨k,hk,rfl⟩:=List.getElem_of_mem hv
    have:=hall3 k hk
    rwa [A2 hk] at this
   ·refine⟨_,rfl,.inr ⟨λq=>hno λk hk=>?_,rfl⟩⟩
    rw[A2 hk]
    exact q _ (List.getElem_mem hk)
  ·dsimp only
   have hall2':∀h∈lv x.S,∀v∈(ob x.S h).Fields,v=0∨v∈lv x.S:=λh hh=>by
    obtain⟨i,hi,rfl⟩:=List.getElem_of_mem hh
    have:=hall2 i hi
    rwa [A2 hi] at this
   have h8:=a33 hT.l8
   rw[show (hO x).T=x.T.map I1 from rfl,b0P hT,d09,List.length_map]
   refine b6o (Y9 x.T).length (λi=>((Y9 x.T).getD i ⟨0,0⟩).Key∈lv x.S∧((Y9 x.T).getD i ⟨0,0⟩).Val∈lv x.S) (by omega) (λi hi=>?_) (by simp) (λhall3=>?_) (λhno=>?_)
   ·have hi':i<((Y9 x.T).map pp).length:=by simpa using hi
    have hb:=hB.tb.has (a0m.1 (List.getElem_mem hi))
    simp only[Int.ofNat_lt,hi,decide_true,if_true]
    rw[l6 hi',d09,List.getElem_map,a5d hR hb.1,d09,A2 hi]
    by_cases c:(Y9 x.T)[i].Key∈lv x.S
    ·rw[decide_eq_true c]
     simp only[Bool.not_true,beq_self_eq_true,L7,Bool.false_or]
     rw[a5d hR hb.2,d09]
     by_cases c2:(Y9 x.T)[i].Val∈lv x.S
     ·rw[decide_eq_true c2,if_neg (by simp),g9]
      exact⟨_,rfl,.inl ⟨⟨c,c2⟩,rfl⟩⟩
     ·rw[decide_eq_false c2,if_pos (by simp)]
      exact⟨_,rfl,.inr ⟨λq=>c2 q.2,rfl⟩⟩
    ·rw[decide_eq_false c]
     simp only[Bool.not_false,show ((true==false):Bool)=false from rfl,b1d,d09,Bool.true_or,if_true]
     exact⟨_,rfl,.inr ⟨λq=>c q.1,rfl⟩⟩
   ·refine⟨true,rfl,?_⟩
    simp only[true_iff]
    refine⟨hall',hall2',λk v hkv=>?_⟩
    obtain⟨i,hi,e⟩:=List.getElem_of_mem (a0m (p:=⟨k,v⟩).2 hkv)
    have:=hall3 i hi
    rw[A2 hi,e] at this
    exact this
   ·refine⟨false,rfl,?_⟩
    simp only[Bool.false_eq_true,false_iff]
    rintro⟨_,_,q⟩
    refine hno λi hi=>?_
    rw[A2 hi]
    exact q _ _ (a0m.1 (List.getElem_mem hi))
  ·refine⟨false,rfl,?_⟩
   simp only[Bool.false_eq_true,false_iff]
   rintro⟨_,q,_⟩
   refine hno λi hi=>?_
   rw[A2 hi]
   exact q _ (List.getElem_mem hi)
 ·refine⟨false,rfl,?_⟩
  simp only[Bool.false_eq_true,false_iff]
  rintro⟨q,_⟩
  refine hno λi hi=>?_
  rw[A2 hi]
  exact q _ (List.getElem_mem hi)
def ClP(x:Hp)(i:Nat)(c:weak_Cell):Prop:=-1≤c.Call∧c.Call≤5∧(c.Target=0→c.Intact=false)∧(c.Target≠0→∃p,Q4 x.S c.Target p)∧(c.Intact=true→c.Target∈lv x.S∧wts x.Q i=false)
theorem c3H(hl:x.Cells.length≤1000)(hq:x.Q.L.length≤1000)(hB:∀c∈x.Cells,c.Target≤9223372036854775807):∃b,a7s (hO x)=some b∧(b=true↔∀i (hi:i<x.Cells.length),ClP x i x.Cells[i]):=by
 have hlen:(hO x).Cells.length=x.Cells.length:=by simp[hO]
 unfold a7s
 simp only[jn]
 rw[hlen]
 refine b6o x.Cells.length (λi=>ClP x i (x.Cells.getD i cz0)) (by omega) (λi hi=>?_) (by simp) (λhall=>⟨true,rfl,?_⟩) (λhno=>⟨false,rfl,?_⟩)
 ·have hi':i<(hO x).Cells.length:=by rw[hlen];exact hi
  have hg:(hO x).Cells[i]=⟨(x.Cells.getD i cz0).Target,(x.Cells.getD i cz0).Intact,(x.Cells.getD i cz0).Call⟩:=by
   rw[A2 hi]
   simp[hO,wcR]
  have hb:=hB _ (List.getElem_mem hi)
  rw[←A2 hi cz0] at hb
  simp only[Int.ofNat_lt,hi,decide_true,if_true,l6 hi',d09,hg]
  generalize x.Cells.getD i cz0=c at hb
  rw[show (hO x).S=sO x.S from rfl,a1Q _ (by rw[y6];have:=hR.len;omega),d09]
  rw[a8r x.S hb]
  obtain⟨z,z1,z2⟩:∃z,o9 x.S.S c.Target=some z∧(z.2=0↔∃p,Q4 x.S c.Target p):=by
   by_cases q:∃p,Q4 x.S c.Target p
   ·obtain⟨p,hp⟩:=q
    exact⟨_,a2q hR hp,by simp;exact⟨p,hp⟩⟩
   ·refine⟨_,a2K hR hb (λp hp=>q ⟨p,hp⟩),?_⟩
    simp only[q,iff_false]
    exact a0N _
  rw[z1,d09]
  by_cases c1:((((decide (c.Call<(-1)))||(decide (c.Call > 5)))||((c.Target==0)&&c.Intact))||((c.Target != 0)&&(z.2 != 0)))=true
  ·rw[c1]
   simp only[show ((true==false):Bool)=false from rfl,Bool.false_and,b1d,d09,Bool.true_or,if_true]
   refine⟨_,rfl,.inr ⟨λq=>?_,rfl⟩⟩
   obtain⟨q1,q2,q3,q4,q5⟩:=q
   simp only[Bool.or_eq_true,Bool.and_eq_true,decide_eq_true_eq,beq_iff_eq,bne_iff_ne,ne_eq] at c1
   rcases c1 with ((c1 | c1) | c1) | c1
   ·omega
   ·omega
   ·have:=q3 c1.1
    rw[this] at c1
    exact absurd c1.2 (by decide)
   ·exact c1.2 (z2.2 (q4 c1.1))
  ·have c1:((((decide (c.Call<(-1)))||(decide (c.Call > 5)))||((c.Target==0)&&c.Intact))||((c.Target != 0)&&(z.2 != 0)))=false:=by simpa using c1
   have c1' : -1≤c.Call∧c.Call≤5∧(c.Target=0→c.Intact=false)∧(c.Target≠0→∃p,Q4 x.S c.Target p):=by
    simp only[Bool.or_eq_false_iff,Bool.and_eq_false_iff,decide_eq_false_iff_not,beq_eq_false_iff_ne,ne_eq,bne_eq_false_iff_eq] at c1
    refine⟨by omega,by omega,λq=>c1.1.2.resolve_left (λq2=>q2 q),λq=>z2.1 (c1.2.resolve_left q)⟩
   rw[c1]
   simp only[beq_self_eq_true,Bool.true_and,Bool.false_or]
   cases hin:c.Intact
   ·simp only[show ((false==true):Bool)=false from rfl,b1d,d09,Bool.false_and,Bool.false_eq_true,if_false]
    rw[g9]
    exact⟨_,rfl,.inl ⟨⟨c1'.1,c1'.2.1,λ_=>hin,c1'.2.2.2,λq=>by rw[hin] at q;cases q⟩,rfl⟩⟩
   ·simp only[beq_self_eq_true,L7,Bool.true_and]
    rw[a5d hR hb,d09]
    by_cases c2:c.Target∈lv x.S
    ·rw[decide_eq_true c2]
     simp only[Bool.not_true,beq_self_eq_true,L7,Bool.false_or]
     rw[show a1y (hO x).Q i=some (wts x.Q i) from b9k hq,d09]
     cases hwt:wts x.Q i
     ·rw[if_neg (by decide),g9]
      exact⟨_,rfl,.inl ⟨⟨c1'.1,c1'.2.1,c1'.2.2.1,c1'.2.2.2,λ_=>⟨c2,hwt⟩⟩,rfl⟩⟩
     ·rw[if_pos rfl]
      refine⟨_,rfl,.inr ⟨λq=>?_,rfl⟩⟩
      have:=(q.2.2.2.2 hin).2
      rw[hwt] at this
      cases this
    ·rw[decide_eq_false c2]
     simp only[Bool.not_false,show ((true==false):Bool)=false from rfl,b1d,d09,Bool.true_or,if_true]
     exact⟨_,rfl,.inr ⟨λq=>c2 (q.2.2.2.2 hin).1,rfl⟩⟩
 ·simp only[true_iff]
  intro i hi
  have:=hall i hi
  rwa [A2 hi] at this
 ·simp only[Bool.false_eq_true,false_iff]
  intro q
  refine hno λi hi=>?_
  rw[A2 hi]
  exact q i hi
omit hR in
theorem c2g (l:List weak_Cell) (hl:l.length≤1000) (h:Int):a5o (l.map wcR) h=some (nmg l h:Int):=by
 unfold a5o
 simp only[jn]
 rw[List.length_map,b0B l (λ(b:Int) c=>if ((h != 0)&&(c.Target==h))=true then b+1 else b) id (λk b=>0≤b∧b≤k) (by omega) (by omega) (λk hk b hI=>?_) (λb _=>by simp),d09]
 ·congr 1
  have:∀(l:List weak_Cell) (n:Int),l.foldl (λ(b:Int) c=>if ((h != 0)&&(c.Target==h))=true then b+1 else b) n=n+(nmg l h:Int):=λl=>by
   induction l with
   | nil=>intro n;simp[nmg]
   | cons c l ih=>
    intro n
    rw[List.foldl_cons,ih]
    unfold nmg
    rw[List.countP_cons]
    split <;> simp_all <;> omega
  rw[id,this]
  omega
 ·have hk':k<(l.map wcR).length:=by simpa using hk
  simp only[Int.ofNat_lt,hk,decide_true,if_true,l6 hk',d09,List.getElem_map,wcR]
  by_cases c:((h != 0)&&(l[k].Target==h))=true
  ·rw[if_pos c,if_pos (by rw[Bool.and_comm];exact c),E5 (by omega) (by omega),g9]
   exact⟨rfl,by omega⟩
  ·rw[if_neg c,if_neg (by rw[Bool.and_comm];exact c),g9]
   exact⟨rfl,by omega⟩
omit hR in
theorem b99 (l:List weak_Cell) (hl:l.length≤1000) (h:Int):a17 l h=some (nmg l h:Int):=by
 unfold a17 L8 a1S
 simp only[jn,d09]
 have key:∃e,lp (S:=Int × (List Int)) (E:=(List Int)) (λ((s17,s18):Int × (List Int))=>
   if (decide (s17<(l.length:Int))) then
     (ix l s17).bind λv26=>
     if ((h != 0)&&(v26.Target==h)) then
      (app 8 s18 [s17]).bind λv28=>
      some (.inl (s7 (s17+1),v28))
     else
     some (.inl (s7 (s17+1),s18))
   else
   some (.inr s18)) (0,[])=some e∧e.length=nmg l h:=by
  refine a0Y l.length (λk (acc:List Int)=>acc.length=nmg (l.take k) h) (λ(e:List Int)=>e.length=nmg l h) (by omega) rfl (λk acc hk hP=>?_) (λacc hP=>⟨acc,by simp,by rwa [List.take_length] at hP⟩)
  left
  have hle:acc.length≤k:=by
   rw[hP]
   exact Nat.le_trans (c2h _ _) (by simp;omega)
  have hst:nmg (l.take (k+1)) h=nmg (l.take k) h+if ((h != 0)&&(l[k].Target==h))=true then 1 else 0:=by
   unfold nmg
   rw[List.take_succ_eq_append_getElem hk,List.countP_append,List.countP_cons,List.countP_nil]
   omega
  simp only[Int.ofNat_lt,hk,decide_true,if_true,l6 hk,d09]
  rw[g9]
  by_cases c:((h != 0)&&(l[k].Target==h))=true
  ·rw[if_pos c,A0 (by omega) (by simp;omega),d09]
   exact⟨_,rfl,by rw[hst,if_pos c];simp[hP]⟩
  ·rw[if_neg c]
   exact⟨_,rfl,by rw[hst,if_neg c];simpa using hP⟩
 obtain⟨e,e1,e2⟩:=key
 rw[show lp _ _=_ from e1,d09,d09,e2]
omit hR in
theorem c6v {s:store_Store} {i:Nat} (hi:i<s.S.Cells.length):ix (sO s).Cells (i:Int)=some ⟨(ce s i).State,(ce s i).Gen,⟨(ce s i).Val.Serial,(ce s i).Val.Strong,(ce s i).Val.Weak,(ce s i).Val.Prog,(ce s i).Val.Started,(ce s i).Val.Fields⟩⟩:=c1Y hi
theorem c43(hl:x.Cells.length≤1000):∃b,a7v (hO x)=some b∧(b=true↔Wk x):=by
 have hlen:(hO x).S.Cells.length=x.S.S.Cells.length:=by simp[hO,sO]
 have h24:=hR.len
 have l9:=hR.l9
 unfold a7v
 simp only[jn]
 rw[hlen]
 refine b6o x.S.S.Cells.length (λi=>Th (ce x.S i)→(ce x.S i).Val.Weak=(nmg x.Cells (1+(i:Int)+32*(ce x.S i).Gen):Int)∧((ce x.S i).State=2→1≤(ce x.S i).Val.Weak∧(ce x.S i).Val.Fields = []∧(ce x.S i).Val.Strong=0)) (by omega) (λi hi=>?_) (by simp) (λhall=>⟨true,rfl,by simp only[true_iff];exact λi hi=>hall i hi⟩) (λhno=>⟨false,rfl,by simp only[Bool.false_eq_true,false_iff];exact λq=>hno λi hi=>q i hi⟩)
 have hc:=hR.cell i hi
 simp only[Int.ofNat_lt,hi,decide_true,if_true]
 rw[show (hO x).S=sO x.S from rfl,c6v hi,d09]
 dsimp only
 by_cases ht:Th (ce x.S i)
 ·rw[if_neg (by unfold Th at ht;simp only[Bool.and_eq_true,bne_iff_ne,ne_eq];omega)]
  unfold a8C
  rw[a3J,if_pos ⟨by omega,by omega,hc.2.2.1,by omega⟩,d09,d09,show (hO x).Cells=x.Cells.map wcR from rfl,c2g x.Cells hl,d09]
  by_cases g:(ce x.S i).Val.Weak=(nmg x.Cells (1+(i:Int)+32*(ce x.S i).Gen):Int)∧((ce x.S i).State=2→1≤(ce x.S i).Val.Weak∧(ce x.S i).Val.Fields = []∧(ce x.S i).Val.Strong=0)
  ·rw[if_neg,g9]
   ·exact⟨_,rfl,.inl ⟨λ_=>g,rfl⟩⟩
   ·obtain⟨g1,g2⟩:=g
    simp only[Bool.or_eq_true,Bool.and_eq_true,bne_iff_ne,ne_eq,beq_iff_eq,decide_eq_true_eq,not_or,not_and,Decidable.not_not]
    refine⟨g1,λq=>?_⟩
    obtain⟨a,b,c⟩:=g2 q
    rw[b]
    exact⟨⟨by omega,by simp⟩,c⟩
  ·rw[if_pos]
   ·exact⟨_,rfl,.inr ⟨λq=>g (q ht),rfl⟩⟩
   ·simp only[Bool.or_eq_true,Bool.and_eq_true,bne_iff_ne,ne_eq,beq_iff_eq,decide_eq_true_eq]
    by_cases g1:(ce x.S i).Val.Weak=(nmg x.Cells (1+(i:Int)+32*(ce x.S i).Gen):Int)
    ·right
     refine Classical.byContradiction λq=>g ⟨g1,λq2=>?_⟩
     have q:¬(((ce x.S i).Val.Weak<1∨((ce x.S i).Val.Fields.length:Int) > 0)∨¬(ce x.S i).Val.Strong=0):=λq3=>q ⟨q2,q3⟩
     refine⟨by omega,List.eq_nil_of_length_eq_zero (by omega),by omega⟩
    ·exact .inl g1
 ·rw[if_pos (by unfold Th at ht;simp only[Bool.and_eq_true,bne_iff_ne,ne_eq];omega),g9]
  exact⟨_,rfl,.inl ⟨λq=>absurd q ht,rfl⟩⟩
omit hR in
theorem b2C (l:List Int) (hl:l.length≤1000):lp (S:=Int × (List Int)) (E:=(List Int)) (λ((s17,s18):Int × (List Int))=>
   if (decide (s17<(l.length:Int))) then
     (ix l s17).bind λv25=>
     if (v25 != 0) then
      (app 8 s18 [v25]).bind λv26=>
      some (.inl (s7 (s17+1),v26))
     else
     some (.inl (s7 (s17+1),s18))
   else
   some (.inr s18)) (0,[])=some (nz l):=by
 rw[H2 l (λb x=>if (x != 0)=true then b ++ [x] else b) id (λk b=>b.length≤k) (by omega) (by simp) (λk hk b hI=>?_) (λb _=>by simp)]
 ·rw[foldl_filter]
  rfl
 ·simp only[Int.ofNat_lt,hk,decide_true,if_true,l6 hk,d09]
  rw[g9]
  by_cases c:(l[k] != 0)=true
  ·rw[if_pos c,if_pos c,A0 (by omega) (by simp;omega),d09]
   exact⟨rfl,by simp;omega⟩
  ·rw[if_neg c,if_neg c]
   exact⟨rfl,by omega⟩
omit hR in
theorem a9t (hl:x.Roots.length≤1000) (hq:x.Q.L.length≤1000):(otr x).length≤2000:=by
 unfold otr b1v
 rw[List.length_append,List.length_map]
 have:=b8b x.Roots
 have:(x.Q.L.filter (·.Kind==1)).length≤x.Q.L.length:=List.length_filter_le ..
 omega
omit hR in
theorem b9e (hl:x.Roots.length≤1000) (hq:x.Q.L.length≤1000):a4D (hO x)=some (otr x):=by
 unfold a4D
 simp only[jn]
 rw[show (hO x).Roots=x.Roots from rfl,show lp _ _=_ from b2C x.Roots hl,d09,show a6G (hO x).Q=some (b1v x.Q) from c65 hq,d09]
 have:=a9t hl hq
 unfold otr at this ⊢
 rw[List.length_append] at this
 rw[A0 (by omega) (by omega)]
 rfl
omit hR in
theorem c2v (hl:x.Roots.length≤1000) (hq:x.Q.L.length≤1000):a43 x=some (otr x):=by
 unfold a43
 simp only[jn]
 rw[show lp _ _=_ from b2C x.Roots hl,d09,show a4K x.Q=some (b1v x.Q) from c7l hq,d09]
 have:=a9t hl hq
 unfold otr at this ⊢
 rw[List.length_append] at this
 rw[A0 (by omega) (by omega)]
 rfl
omit hR in
theorem b6r:b31 x.S x.T (otr x)↔a2J x []:=by
 constructor
 ·intro h k hk hlt
  have:=h k hk hlt
  unfold rst inr at this
  rw[if_pos hk] at this
  rw[R6]
  unfold nms
  omega
 ·intro h k hk hlt
  have:=h k hk hlt
  rw[R6] at this
  unfold nms at this
  unfold rst inr
  rw[if_pos hk]
  omega
end
theorem b1c(x:Hp)(hB:HB x)(hc:x.S.S.Cells.length≤1000)(hr:x.Roots.length≤1000)(hl:x.Cells.length≤1000)(ht:x.T.length≤1000)(hq:x.Q.L.length≤1000):∃b,a4E (hO x)=some b∧(b=true↔Q5 x):=by
 unfold a4E
 obtain⟨b1,e1,h1⟩:=c3A (sO x.S) (by rw[y6];exact hc)
 obtain⟨b2,e2,h2⟩:=c0u x.T ht
 rw[show (hO x).S=sO x.S from rfl,e1,d09,show (hO x).T=x.T.map I1 from rfl,e2]
 have hno:∀ {P:Prop},¬P→(false=true↔P):=λq=>by simp[q]
 cases b1
 ·refine⟨false,by simp[n9],hno λq=>?_⟩
  have:=h1.2 (p5.2 q.sh.sr)
  cases this
 ·have hR:=p5.1 (h1.1 rfl)
  cases b2
  ·refine⟨false,by simp[n9],hno λq=>?_⟩
   have:=h2.2 q.sh.hr
   cases this
  ·have hT:=h2.1 rfl
   simp only[Bool.not_true,beq_self_eq_true,L7,d09,Bool.or_self,Bool.false_or]
   by_cases hlen:x.Roots.length=6∧x.Cells.length=6
   ·rw[if_neg (by simp[hO];omega)]
    obtain⟨b3,e3,h3⟩:=c4V hR hq hB.qb
    rw[e3,d09]
    cases b3
    ·refine⟨false,by simp[n9],hno λq=>?_⟩
     have:=h3.2 ⟨q.sh.tk,q.sh.td,q.sh.cap,q.sh.q30⟩
     cases this
    ·obtain⟨t1,t2,t3,t4⟩:=h3.1 rfl
     obtain⟨b4,e4,h4⟩:=c38 hR hT hB hr
     simp only[beq_self_eq_true,L7,Bool.true_and]
     rw[e4,d09]
     cases b4
     ·refine⟨false,by simp[n9],hno λq=>?_⟩
      have:=h4.2 ⟨q.sh.rt,q.sh.fl,q.sh.pr⟩
      cases this
     ·obtain⟨n1,n2,n3⟩:=h4.1 rfl
      obtain⟨b5,e5,h5⟩:=c3H hR hl hq hB.cb
      simp only[beq_self_eq_true,L7,Bool.true_and]
      rw[e5,d09]
      cases b5
      ·refine⟨false,by simp[n9],hno λq=>?_⟩
       have:=h5.2 q.sh.cl
       cases this
      ·have c1:=h5.1 rfl
       obtain⟨b6,e6,h6⟩:=c43 hR hl
       simp only[beq_self_eq_true,L7,Bool.true_and]
       rw[e6,d09]
       cases b6
       ·refine⟨false,by simp[n9],hno λq=>?_⟩
        have:=h6.2 q.wk
        cases this
       ·have w1:=h6.1 rfl
        simp only[beq_self_eq_true,L7,Bool.true_and]
        rw[b9e hr hq,d09,b9U (p5.2 hR) hT hB.sb (by have:=a9t hr hq;omega),d09]
        refine⟨_,rfl,?_⟩
        rw[decide_eq_true_iff,b6r]
        exact⟨λq=>⟨⟨hR,hT,hlen.1,hlen.2,t3,t4,t1,t2,n1,n2,n3,c1⟩,w1,q⟩,λq=>q.fair⟩
   ·rw[if_pos (by simp[hO];omega)]
    exact⟨false,rfl,hno λq=>hlen ⟨q.sh.r6,q.sh.c6⟩⟩
end Go.Sh
namespace Go.Sh
theorem c8b{K V:Type}[BEq K](hr:∀a:K,(a==a)=true)(he:∀a b:K,(a==b)=true→a=b)(m:List (K × V))(k:K)(v:V)(k':K):y4 (m9 m k v) k'=if k'==k then some v else y4 m k':=by
 induction m with
 | nil=>simp[m9,y4]
 | cons p m ih=>
  unfold m9
  by_cases h:(k==p.1)=true
  ·have:=he _ _ h
   subst this
   rw[if_pos h]
   unfold y4
   by_cases h':(k'==p.1)=true
   ·simp[h']
   ·simp[h']
  ·rw[if_neg h]
   unfold y4
   by_cases h':(k'==p.1)=true
   ·have:=he _ _ h'
    subst this
    have:(p.1==k)≠true:=λq=>by
     have:=he _ _ q
     subst this
     exact h (hr _)
    simp[h',this]
   ·simp only[h',ih]
    simp
theorem c0F(a:task_Task):(a==a)=true:=by
 show ((a.Kind==a.Kind)&&((a.At==a.At)&&((a.Prog==a.Prog)&&true)))=true
 simp
section
variable{x:Hp}(hx:Q5 x)(hB:HB x)
include hx hB
theorem b2z:W1 x=some true:=by
 have hR:=hx.sh.sr
 have r6:=hx.sh.r6
 have h24:=U5 (p5.2 hR)
 unfold W1 E8
 rw[K5 (by omega) (by omega),d09]
 simp only[jn]
 rw[a5g (p5.2 hR),d09]
 have key:∃e,lp (S:=Int × (List Int)) (E:=(List Int)) (λ((s16,s17):Int × (List Int))=>
   if (decide (s16<((lv x.S).length:Int))) then
    (ix (lv x.S) s16).bind λv20=>
    (p8 x.S v20).bind λv21=>
    (app 8 s17 v21.1.Fields).bind λv22=>
    some (.inl (s7 (s16+1),v22))
   else
   some (.inr s17)) (0,x.Roots)=some e∧(e.length≤200∧∀v∈e,v=0∨v∈lv x.S):=by
  refine a0Y (lv x.S).length (λk (acc:List Int)=>acc.length≤6+4*k∧∀v∈acc,v=0∨v∈lv x.S) (λ(e:List Int)=>e.length≤200∧∀v∈e,v=0∨v∈lv x.S) (by omega) ⟨by omega,hx.sh.rt⟩ (λk acc hk hP=>?_) (λacc hP=>⟨acc,by simp,by omega,hP.2⟩)
  have hm:=List.getElem_mem hk
  have hf:=(H6 hR hm).fl
  left
  refine⟨acc++(ob x.S (lv x.S)[k]).Fields,?_,by rw[List.length_append];omega,λv hv=>?_⟩
  ·simp only[Int.ofNat_lt,hk,decide_true,if_true,l6 hk,d09]
   rw[a5f (p5.2 hR) hm,d09]
   dsimp only
   rw[A0 (by omega) (by omega),d09,g9]
  ·rcases List.mem_append.1 hv with q | q
   ·exact hP.2 v q
   ·exact hx.sh.fl _ hm v q
 obtain⟨e,e1,e2⟩:=key
 rw[show lp _ _=_ from e1,d09]
 have:D8 e x=some true:=by
  unfold D8 a1s
  simp only[jn]
  refine E9 e.length (λ_=>True) (by omega) trivial (λk hk _=>.inl ⟨?_,trivial⟩) (λ_=>⟨.inr (),by simp,rfl⟩)
  have hm:=e2.2 _ (List.getElem_mem hk)
  have hb:e[k]≤9223372036854775807:=by
   rcases hm with q | q
   ·omega
   ·have:=H7 hR q;omega
  simp only[Int.ofNat_lt,hk,decide_true,if_true,l6 hk,d09]
  rw[R4 hR hb,d09,d09,decide_eq_true hm,if_neg (by simp),g9]
 rw[this]
 rfl
theorem b2E:a0U x=some true:=by
 have hR:=hx.sh.sr
 have h8:=a33 hx.sh.hr.l8
 unfold a0U
 rw[c2C hx.sh.hr,d09]
 have:B0 (Y9 x.T) x=some true:=by
  unfold B0 a1t
  simp only[jn]
  refine E9 (Y9 x.T).length (λ_=>True) (by omega) trivial (λk hk _=>.inl ⟨?_,trivial⟩) (λ_=>⟨.inr (),by simp,rfl⟩)
  have hp:=a0m.1 (List.getElem_mem hk)
  have hb:=hB.tb.has hp
  have hl:=hx.sh.pr _ _ hp
  simp only[Int.ofNat_lt,hk,decide_true,if_true,l6 hk,d09]
  rw[a9i hR hb.1,d09,decide_eq_true hl.1]
  simp only[beq_self_eq_true,L7]
  rw[a9i hR hb.2,d09,d09,decide_eq_true hl.2,if_neg (by simp),g9]
 rw[this]
 rfl
theorem b3X:a1O x=some true:=by
 have hR:=hx.sh.sr
 have q30:=hx.sh.q30
 have c6:=hx.sh.c6
 unfold a1O
 simp only[jn]
 refine X7 x.Q.L.length (λk (m:List (task_Task × Bool))=>∀t:task_Task,t.Prog=0→((y4 m t).getD false=true→∃j,j<k∧TkS (x.Q.L.getD j tz) t)) (by omega) (λt _ q=>by simp[y4] at q) (λk m hk hP=>.inl ?_) (λm hP=>⟨.inr m,by simp,rfl⟩)
 have hm:=List.getElem_mem hk
 obtain⟨t1,t2,t3⟩:=hx.sh.tk _ hm
 have hb:=hB.qb _ hm
 have hno:(y4 m (⟨x.Q.L[k].Kind,x.Q.L[k].At,0⟩:task_Task)).getD false=false:=by
  rw[Bool.eq_false_iff]
  intro q
  obtain⟨j,hj,hs⟩:=hP ⟨x.Q.L[k].Kind,x.Q.L[k].At,0⟩ rfl q
  have hj1:j<x.Q.L.length:=by omega
  rw[A2 hj1] at hs
  exact List.pairwise_iff_getElem.1 hx.sh.td j k hj1 hk hj hs
 have hfor:a0W x x.Q.L[k]=some true:=by
  unfold a0W
  rcases t3 with ⟨a,b,c⟩ | ⟨a,b,c⟩
  ·rw[if_pos (by simpa using a),a5f (p5.2 hR) b,d09,c]
   rfl
  ·rw[if_neg (by simp[a]),if_pos (by simpa using a)]
   obtain⟨n,hn⟩:∃n:Nat,x.Q.L[k].At=n:=⟨x.Q.L[k].At.toNat,by omega⟩
   have hnl:n<x.Cells.length:=by omega
   have e1:((decide (x.Q.L[k].At≥0))&&(decide (x.Q.L[k].At<(x.Cells.length:Int))))=true:=by simp;omega
   rw[e1]
   simp only[beq_self_eq_true,L7,Bool.true_and]
   rw[hn,l6 hnl,d09]
   have:x.Cells[n].Intact=false:=by
    rw[Bool.eq_false_iff]
    intro q
    have:=((hx.sh.cl n hnl).2.2.2.2 q).2
    rw[Bool.eq_false_iff] at this
    exact this (c3n.2 ⟨_,hm,a,hn⟩)
   rw[this]
   rfl
 refine⟨m9 m (⟨x.Q.L[k].Kind,x.Q.L[k].At,0⟩:task_Task) true,?_,λt ht q=>?_⟩
 ·simp only[Int.ofNat_lt,hk,decide_true,if_true,l6 hk,d09]
  rw[hno,decide_eq_true (show x.Q.L[k].Prog≥0 from t1),decide_eq_true (show x.Q.L[k].Prog<6 by omega)]
  simp only[Bool.not_false,Bool.and_self,beq_self_eq_true,L7]
  rw[hfor,d09,if_neg (by simp),g9]
 ·rw[c8b c0F task_Task.beq_eq] at q
  by_cases e:(t==(⟨x.Q.L[k].Kind,x.Q.L[k].At,0⟩:task_Task))=true
  ·have:=task_Task.beq_eq _ _ e
   refine⟨k,by omega,?_⟩
   rw[A2 hk,this]
   exact⟨rfl,rfl⟩
  ·rw[if_neg e] at q
   obtain⟨j,hj,hs⟩:=hP t ht q
   exact⟨j,by omega,hs⟩
theorem b3z:a1M x=some true:=by
 have hR:=hx.sh.sr
 have c6:=hx.sh.c6
 unfold a1M
 have:B9 x.Cells x=some true:=by
  unfold B9 a2b
  simp only[jn]
  refine E9 x.Cells.length (λ_=>True) (by omega) trivial (λk hk _=>.inl ⟨?_,trivial⟩) (λ_=>⟨.inr (),by simp,rfl⟩)
  obtain⟨a1,a2,a3,a4,a5⟩:=hx.sh.cl k hk
  have hb:=hB.cb _ (List.getElem_mem hk)
  simp only[Int.ofNat_lt,hk,decide_true,if_true,l6 hk,d09]
  rw[if_neg (by simp;omega)]
  by_cases hin:x.Cells[k].Intact=true
  ·rw[if_pos hin,a9i hR hb,d09,d09,decide_eq_true (a5 hin).1,if_neg (by simp),g9]
  ·rw[if_neg hin]
   by_cases h0:x.Cells[k].Target=0
   ·have hno:∀i,¬Q4 x.S x.Cells[k].Target i:=λi q=>by have:=q.rng hR;omega
    rw[a2K hR hb hno,d09,d09,h0,if_neg (by simp),g9]
   ·obtain⟨p,hp⟩:=a4 h0
    rw[a2q hR hp,d09,d09,if_neg (by simp),g9]
 rw[this]
 rfl
theorem b3C:a1N x=some true:=by
 have hR:=hx.sh.sr
 have c6:=hx.sh.c6
 have h24:=hR.len
 have l9:=hR.l9
 unfold a1N
 simp only[jn]
 refine E9 x.S.S.Cells.length (λ_=>True) (by omega) trivial (λk hk _=>.inl ⟨?_,trivial⟩) (λ_=>⟨.inr (),by simp,rfl⟩)
 have hc:=hR.cell k hk
 simp only[Int.ofNat_lt,hk,decide_true,if_true]
 rw[b4c hk,d09]
 by_cases ht:Th (ce x.S k)
 ·rw[if_neg (by unfold Th at ht;simp only[Bool.and_eq_true,bne_iff_ne,ne_eq];omega),a2R (by omega) (by omega) hc.2.2.1 (by omega),d09,b99 x.Cells (by omega),d09]
  obtain⟨g1,g2⟩:=hx.wk k hk ht
  rw[if_neg (by simpa using g1),if_neg,g9]
  simp only[Bool.or_eq_true,Bool.and_eq_true,bne_iff_ne,ne_eq,beq_iff_eq,decide_eq_true_eq,not_or,not_and,Decidable.not_not]
  intro q
  obtain⟨a,b,c⟩:=g2 q
  rw[b]
  exact⟨⟨by omega,by simp⟩,c⟩
 ·rw[if_pos (by unfold Th at ht;simp only[Bool.and_eq_true,bne_iff_ne,ne_eq];omega),g9]
open Classical in
theorem b1w:a48 x=some true:=by
 have hR:=hx.sh.sr
 have r6:=hx.sh.r6
 have q30:=hx.sh.q30
 unfold a48
 have hsh:a0V x=some true:=by
  unfold a0V
  have hsr:a14 x.S=some true:=by
   rw[b5P x.S (by have:=hR.len;omega)]
   congr 1
   rw[decide_eq_true_iff]
   exact p5.2 hR
  obtain⟨b,b1,b2⟩:=b93 x.T (by have:=hx.sh.hr.l8;omega)
  rw[show a97=some ⟨[],30⟩ from rfl,d09,hsr,d09]
  simp only[beq_self_eq_true,L7,Bool.true_and]
  rw[b1,d09,b2.2 hx.sh.hr,hx.sh.r6,hx.sh.c6,hx.sh.cap]
  have:decide ((x.Q.L.length:Int)≤30)=true:=by simp;omega
  rw[this]
  rfl
 rw[hsh,d09,if_neg (by simp)]
 simp only[jn]
 have f1:X5 (some 88) x=some true:=by
  unfold X5
  rw[if_pos rfl]
  exact b2z hx hB
 have f2:X5 (some 89) x=some true:=by
  unfold X5
  rw[if_neg (by decide),if_pos rfl]
  exact b2E hx hB
 have f3:X5 (some 90) x=some true:=by
  unfold X5
  rw[if_neg (by decide),if_neg (by decide),if_pos rfl]
  exact b3X hx hB
 have f4:X5 (some 91) x=some true:=by
  unfold X5
  rw[if_neg (by decide),if_neg (by decide),if_neg (by decide),if_pos rfl]
  exact b3z hx hB
 have f5:X5 (some 92) x=some true:=by
  unfold X5
  rw[if_neg (by decide),if_neg (by decide),if_neg (by decide),if_neg (by decide),if_pos rfl]
  exact b3C hx hB
 refine E9 5 (λ_=>True) (by omega) trivial (λk hk _=>.inl ⟨?_,trivial⟩) (λ_=>⟨.inr (),by kernel_rfl,?_⟩)
 ·match k,hk with
  | 0,_=>
   refine (if_pos (by rfl)).trans ?_
   refine bnd (a:=some 88) (by kernel_rfl) ?_
   refine bnd f1 ?_
   kernel_rfl
  | 1,_=>
   refine (if_pos (by rfl)).trans ?_
   refine bnd (a:=some 89) (by kernel_rfl) ?_
   refine bnd f2 ?_
   kernel_rfl
  | 2,_=>
   refine (if_pos (by rfl)).trans ?_
   refine bnd (a:=some 90) (by kernel_rfl) ?_
   refine bnd f3 ?_
   kernel_rfl
  | 3,_=>
   refine (if_pos (by rfl)).trans ?_
   refine bnd (a:=some 91) (by kernel_rfl) ?_
   refine bnd f4 ?_
   kernel_rfl
  | 4,_=>
   refine (if_pos (by rfl)).trans ?_
   refine bnd (a:=some 92) (by kernel_rfl) ?_
   refine bnd f5 ?_
   kernel_rfl
 ·dsimp only
  rw[c2v (by omega) (by omega),d09,c3P (p5.2 hR) hx.sh.hr hB.sb (by have:=a9t (x:=x) (by omega) (by omega);omega),d09,decide_eq_true (b6r.2 hx.fair)]
end
end Go.Sh
namespace Go.Sh
def SL(x:Hp):Prop:=∀k∈lv x.S,(ob x.S k).Strong≤9223372036854775807
theorem SB.sl{x:Hp}(hR:SR x.S)(h:SB x.S):SL x:=λk hk=>c0E hR h k hk
theorem c5n{x:Hp}(hx:Q5 x)(hS:SL x):HB x:=by
 have hR:=hx.sh.sr
 have bd:∀v,v=0∨v∈lv x.S→v≤9223372036854775807:=λv q=>by
  rcases q with q | q
  ·omega
  ·have:=H7 hR q;omega
 refine⟨c8D.2 λi hi=>?_,c5j.2 λi hi v hv=>?_,λv hv=>bd v (hx.sh.rt v hv),λc hc=>?_,λp hp=>?_,λt ht=>?_⟩
 ·by_cases t:Th (ce x.S i)
  ·rcases t with t | t
   ·have q:At x.S (1+(i:Int)+32*(ce x.S i).Gen) i:=⟨hi,t,rfl⟩
    have:=hS _ ((a5V hR).2 ⟨i,q⟩)
    rwa [O9 hR q] at this
   ·have:=((hx.wk i hi (.inr t)).2 t).2.2
    omega
  ·have:=(hR.no i hi t).2.1
   simp only[oo] at this
   omega
 ·by_cases t:Th (ce x.S i)
  ·rcases t with t | t
   ·have q:At x.S (1+(i:Int)+32*(ce x.S i).Gen) i:=⟨hi,t,rfl⟩
    have hm:=(a5V hR).2 ⟨i,q⟩
    exact bd v (hx.sh.fl _ hm v (by rw[O9 hR q];exact hv))
   ·rw[((hx.wk i hi (.inr t)).2 t).2.1] at hv
    cases hv
  ·have:=(hR.no i hi t).2.2.2.2.2
   simp only[oo] at this
   rw[List.eq_nil_of_length_eq_zero this] at hv
   cases hv
 ·obtain⟨i,hi,rfl⟩:=List.getElem_of_mem hc
  by_cases e:x.Cells[i].Target=0
  ·omega
  ·obtain⟨p,hp⟩:=(hx.sh.cl i hi).2.2.2.1 e
   have:=hp.rng hR
   omega
 ·obtain⟨i,hi,rfl⟩:=List.getElem_of_mem hp
  have e:pt x.T i=x.T[i]:=by
   unfold pt
   rw[List.getD_eq_getElem?_getD,List.getElem?_eq_getElem hi]
   rfl
  by_cases s1:(pt x.T i).State=1
  ·obtain⟨a,b⟩:=hx.sh.pr (pt x.T i).Key (pt x.T i).Val ⟨i,⟨hi,s1,rfl⟩,rfl⟩
   rw[e] at a b
   exact⟨bd _ (.inr a),bd _ (.inr b)⟩
  ·obtain⟨a,b⟩:=(hx.sh.hr.st i hi).2 s1
   rw[e] at a b
   omega
 ·obtain⟨_,_,q | q⟩:=hx.sh.tk t ht
  ·exact bd _ (.inr q.2.1)
  ·omega
theorem c8E{s:store_Store}(hR:SR s):Sm s:=by
 refine⟨by have:=hR.len;omega,λi hi=>?_⟩
 by_cases t:Th (ce s i)
 ·have:=(hR.ok i hi t).fl
  rw[C9 hi] at this
  omega
 ·have:=(hR.no i hi t).2.2.2.2.2
  simp only[oo] at this
  rw[C9 hi] at this
  omega
theorem c3V(c:Int):Z2 c≤12:=by unfold Z2;split <;> (try split) <;> omega
theorem c3L{c:Int}(h:c≤9223372036854775807):a7P c≤9223372036854775807:=by unfold a7P;split <;> (try split) <;> omega
theorem SL.of{x y:Hp}(h:SL x)(hl:lv y.S=lv x.S)(hs:∀k∈lv x.S,(ob y.S k).Strong=(ob x.S k).Strong):SL y:=λk hk=>by
 rw[hl] at hk
 rw[hs k hk]
 exact h k hk
theorem SL.st{x:Hp}(h:SL x)(hR:SR x.S)(v:Int){f:Int→Int}(hf:∀c,0≤c→0≤f c)(hb:∀c,c≤9223372036854775807→f c≤9223372036854775807):SL (stO x v f):=λk hk=>by
 rw[(G0 hR v hf).lv] at hk
 rw[b5O hR v hf hk]
 split
 ·exact hb _ (h k hk)
 ·exact h k hk
theorem SL.C0{x:Hp}(h:SL x)(hR:SR x.S)(v:Int):SL (C0 x v):=h.st hR v (λc=>E2) λc _=>by have:=c3V c;omega
theorem SL.rls{x:Hp}(h:SL x)(hR:SR x.S)(v:Int):SL (O1 x v):=h.st hR v (λc=>X0) λc hc=>c3L hc
theorem b8r{x:Hp}(hR:SR x.S)(v:Int):SR (O1 x v).S:=(G0 hR v λc=>X0).sr
theorem b2W{x:Hp}(hR:SR x.S)(h:SL x)(r:Nat)(v:Int):SL (Q6 x r v):=by
 unfold Q6
 exact SL.rls (x:=wR (C0 x v) (x.Roots.set r v)) (h.C0 hR v) (a5x hR v) _
theorem b9W{x:Hp}(hR:SR x.S)(hS:SL x){h:Int}(hh:h∈lv x.S)(k:Nat)(v:Int):SL (K8 x h k v):=by
 have kin:=G0 hR v (f:=Z2) λc=>E2
 have hR1:SR (C0 x v).S:=kin.sr
 have hl1:h∈lv (C0 x v).S:=by rw[show lv (C0 x v).S=lv x.S from kin.lv];exact hh
 have hof:(ob (C0 x v).S h).Fields=(ob x.S h).Fields:=by
  obtain⟨m,e⟩:=kin.ob h (by have:=H7 hR hh;omega)
  show (ob (stO x v Z2).S h).Fields=_
  rw[e]
 have ok:=H6 hR1 hl1
 have ho:OkO (C0 x v).S (flg (ob (C0 x v).S h) ((ob x.S h).Fields.set k v)):=⟨ok.s1,ok.s2,ok.st,ok.wk,ok.p1,ok.p2,by have:=ok.fl;rw[hof] at this;simpa using this⟩
 have sr2:=a07 (o:=flg (ob (C0 x v).S h) ((ob x.S h).Fields.set k v)) hR1 hl1 rfl ho
 unfold K8
 refine SL.rls (x:=wS (C0 x v) (seO (C0 x v).S h (flg (ob (C0 x v).S h) ((ob x.S h).Fields.set k v)))) ?_ sr2 _
 refine (hS.C0 hR v).of (a3d hR1 hl1 rfl ho) λj hj=>?_
 dsimp only
 rw[a1B (o:=flg (ob (C0 x v).S h) ((ob x.S h).Fields.set k v)) hR1 hl1 rfl ho (by have:=H7 hR1 hj;omega)]
 split
 ·rename_i e;rw[e]
 ·rfl
theorem c2z{x:Hp}(hR:SR x.S)(hS:SL x)(v:Int)(t:Tb)(old:Int):SL (a3I x v t old):=by
 unfold a3I
 exact SL.rls (x:=wT (C0 x v) t) (hS.C0 hR v) (a5x hR v) _
theorem c6D{x:Hp}(hR:SR x.S)(hS:SL x)(h:Int){d:Int}(hd:Q4 x.S h (B5 h)→0≤(ce x.S (B5 h)).Val.Weak+d):SL (mkd x h d):=by
 unfold mkd
 split
 ·rename_i q
  exact hS.of (a5i hR q.1 q.2.1 (hd q)).lv λk hk=>a5j hR q.1 q.2.1 (hd q) hk
 ·exact hS
theorem b9C{x:Hp}(hR:SR x.S)(hS:SL x)(h:Int)(hd:Q4 x.S h (B5 h)→1≤(ce x.S (B5 h)).Val.Weak):SL (a8L x h):=by
 unfold a8L
 split
 ·rename_i q
  have hd:=hd q
  have kn:=a5i (d:=-1) hR q.1 q.2.1 (by omega)
  have s1:SL (wS x (mkA x.S (B5 h) (-1))):=hS.of kn.lv λk hk=>a5j hR q.1 q.2.1 (by omega) hk
  split
  ·rename_i c
   have hi1:B5 h<(mkA x.S (B5 h) (-1)).S.Cells.length:=by rw[kn.len];exact q.1
   have hce:ce (mkA x.S (B5 h) (-1)) (B5 h)=⟨(ce x.S (B5 h)).State,(ce x.S (B5 h)).Gen,wkg (ce x.S (B5 h)).Val ((ce x.S (B5 h)).Val.Weak + -1)⟩:=by
    rw[a2X hR q.1 q.2.1,if_pos rfl]
   have h2:(ce (mkA x.S (B5 h) (-1)) (B5 h)).State=2:=by rw[hce];exact c.1
   exact s1.of (b4R kn.sr hi1 h2) λk hk=>by
    dsimp only
    rw[b4S kn.sr hi1 h2 hk]
  ·exact s1
 ·exact hS
theorem c3h{x:Hp}(hx:Q5 x)(hS:SL x){n:Nat}(hn:n<6)(h call:Int):SL (S9 x n h call):=by
 have hR:=hx.sh.sr
 have hnl:n<x.Cells.length:=by have:=hx.sh.c6;omega
 have ok:∀k i,Q4 x.S k i→0≤(ce x.S i).Val.Weak:=λk i q=>(hR.ok i q.1 q.2.1).wk
 have tw:∀i,Q4 x.S (tgt x n) i→1≤(ce x.S i).Val.Weak:=λi q=>by
  have htg:tgt x n=x.Cells[n].Target:=by
   unfold tgt
   rw[List.getD_eq_getElem?_getD,List.getElem?_eq_getElem hnl]
   rfl
  have r:=q.rng hR
  have p:=a9q hnl (by rw[←htg];omega)
  rw[←htg,q.2.2] at p
  have:=(hx.wk i q.1 q.2.1).1
  omega
 unfold S9
 have s1:SL (mkd (wC x (x.Cells.set n (wcl h call))) h 1):=c6D (x:=wC x (x.Cells.set n (wcl h call))) hR hS h λq=>by
  have:=ok _ _ q
  dsimp only
  omega
 by_cases q:Q4 x.S h (B5 h)
 ·have e:mkd (wC x (x.Cells.set n (wcl h call))) h 1=wS (wC x (x.Cells.set n (wcl h call))) (mkA x.S (B5 h) 1):=by
   unfold mkd
   rw[if_pos q]
  have hd:=ok _ _ q
  have kn:=a5i (d:=1) hR q.1 q.2.1 (by omega)
  rw[e] at s1 ⊢
  refine b9C kn.sr s1 _ λq2=>?_
  dsimp only at q2 ⊢
  have q3:=(kn.ad _ _).1 q2
  have:=tw _ q3
  rw[a2X hR q.1 q.2.1]
  split
  ·rename_i e2
   rw[e2] at this
   show 1≤(ce x.S (B5 h)).Val.Weak+1
   omega
  ·exact this
 ·have e:mkd (wC x (x.Cells.set n (wcl h call))) h 1=wC x (x.Cells.set n (wcl h call)):=by
   unfold mkd
   rw[if_neg q]
  rw[e] at s1 ⊢
  exact b9C (x:=wC x (x.Cells.set n (wcl h call))) hR s1 _ λq2=>tw _ q2
section
variable{x:Hp}(hx:Q5 x)(hS:SL x)
include hx hS
end
end Go.Sh
namespace Go.Sh
end Go.Sh
namespace Go.Sh
end Go.Sh
namespace Go.Sh
def b03(x:Hp):Prop:=Sm x.S∧x.Roots.length≤20∧x.Cells.length≤20∧x.T.length≤20∧x.Q.L.length≤60
instance(x:Hp):Decidable (b03 x):=by unfold b03;infer_instance
theorem HpS.c9N{x:Hp}(h:HpS x):b03 x:=by
 have h1:=h.r6
 have h2:=h.c6
 have h3:=h.hr.l8
 have h4:=h.q30
 exact⟨c8E h.sr,by omega,by omega,by omega,by omega⟩
end Go.Sh
namespace Go.Sh
def c1T:Hp:=⟨⟨⟨[],0⟩,0⟩,[],[],[],⟨[],0⟩⟩
def c7G(x:Hp):Bool:=x.S.S.Cells.all (λc=>decide (c.Val.Strong≤9223372036854775807)&&c.Val.Fields.all λv=>decide (v≤9223372036854775807))&&(x.Roots.all (λv=>decide (v≤9223372036854775807))&&(x.Cells.all (λc=>decide (c.Target≤9223372036854775807))&&(x.T.all (λp=>decide (p.Key≤9223372036854775807∧p.Val≤9223372036854775807))&&x.Q.L.all λt=>decide (t.At≤9223372036854775807))))
theorem c6o{x:Hp}(h:c7G x=true):HB x:=by
 unfold c7G at h
 simp only[Bool.and_eq_true,List.all_eq_true,decide_eq_true_iff] at h
 obtain⟨h1,h2,h3,h4,h5⟩:=h
 exact⟨λc hc=>(h1 c hc).1,λc hc=>(h1 c hc).2,h2,h3,h4,h5⟩
theorem b29(x:Hp)(h:Int)(f:Int→Int):(stO x h f).Roots=x.Roots∧(stO x h f).Cells=x.Cells∧(stO x h f).T=x.T∧(stO x h f).Q=x.Q:=by
 unfold stO
 split <;> exact⟨rfl,rfl,rfl,rfl⟩
theorem a8E(x:Hp)(r:Nat)(h:Int):(Q6 x r h).Roots=x.Roots.set r h∧(Q6 x r h).Cells=x.Cells∧(Q6 x r h).T=x.T∧(Q6 x r h).Q=x.Q:=by
 obtain⟨a,b,c,d⟩:=b29 (wR (C0 x h) (x.Roots.set r h)) (x.Roots.getD r 0) a7P
 obtain⟨a',b',c',d'⟩:=b29 x h Z2
 exact⟨a,b.trans b',c.trans c',d.trans d'⟩
section
variable{x:Hp}(hB:HB x)
include hB
end
end Go.Sh
namespace Go.Sh
abbrev ded(o:store_Obj):store_Obj:=⟨o.Serial,0,o.Weak,o.Prog,o.Started,[]⟩
def gnC(s:store_Store)(i:Nat):slab_Cell_store_Obj:=
 if (ce s i).Val.Weak=0 then (if (ce s i).Gen=s.S.Last then ⟨3,(ce s i).Gen,z0⟩ else ⟨0,(ce s i).Gen+1,z0⟩) else ⟨2,(ce s i).Gen,ded (ce s i).Val⟩
def gnA(s:store_Store)(d:Int):store_Store:=E7 s (B5 d) (gnC s (B5 d))
def gnL(s:store_Store)(ds:List Int):store_Store:=ds.foldl gnA s
theorem c6j(s:store_Store)(i:Nat):(gnC s i).State≠1:=by
 unfold gnC
 split
 ·split <;> simp
 ·simp
theorem b8h{s:store_Store}(hR:SR s){a b:Int}(ha:a∈lv s)(hb:b∈lv s)(h:a≠b):B5 a≠B5 b:=λe=>by
 have h1:=u6 hR ha
 have h2:=u6 hR hb
 rw[e] at h1
 exact h (h1.2.2.trans h2.2.2.symm)
section
variable{s:store_Store}(hR:SR s){d:Int}(hd:d∈lv s)
include hR hd
theorem b73:SR (gnA s d):=by
 have q:=u6 hR hd
 have hc:=hR.cell _ q.1
 have ho:=hR.ok _ q.1 (.inl q.2.1)
 have no:b0n (oo z0):=⟨rfl,rfl,rfl,rfl,rfl,rfl⟩
 unfold gnA gnC
 split
 ·split
  ·exact hR.E7 q.1 ⟨by simp,by simp,hc.2.2.1,hc.2.2.2⟩ (λ_=>no) (λq=>absurd q (by unfold Th;simp))
  ·refine hR.E7 q.1 ⟨by simp,by simp,?_,?_⟩ (λ_=>no) (λq=>absurd q (by unfold Th;simp))
   ·show 0≤(ce s (B5 d)).Gen+1;omega
   ·show (ce s (B5 d)).Gen+1≤s.S.Last;omega
 ·exact hR.E7 q.1 ⟨by simp,by simp,hc.2.2.1,hc.2.2.2⟩ (λq=>absurd (.inr rfl) q) (λ_=>⟨⟨ho.s1,ho.s2,Int.le_refl _,ho.wk,ho.p1,ho.p2,Nat.zero_le _⟩,.inl q.2.1,rfl⟩)
theorem c1L(j:Nat):ce (gnA s d) j=if j=B5 d then gnC s (B5 d) else ce s j:=J3 (u6 hR hd).1 _ j
theorem c6h:lv (gnA s d)=(lv s).filter λh=>decide (h≠d):=by
 have hS:=b73 hR hd
 unfold gnA at hS ⊢
 have hc:=c6j s (B5 d)
 rw[b85 hR (u6 hR hd).1 hc hS]
 refine List.filter_congr λh hh=>decide_eq_decide.2 ⟨λq e=>q (by rw[e]),λq=>b8h hR hh hd q⟩
theorem c6i{k:Int}(hk:k∈lv s)(hne:k≠d):ob (gnA s d) k=ob s k:=by
 have hS:=b73 hR hd
 unfold gnA at hS ⊢
 exact b9c hR (u6 hR hd).1 hS hk (b8h hR hk hd hne)
end
structure Gn (s s':store_Store) (ds:List Int):Prop where
 sr:SR s'
 len:s'.S.Cells.length=s.S.Cells.length
 last:s'.S.Last=s.S.Last
 Y4:s'.Serial=s.Serial
 lv:lv s'=(lv s).filter λh=>decide (h∉ds)
 ob:∀k∈Sh.lv s,k∉ds→ob s' k=ob s k
 ce:∀j,ce s' j=if j∈ds.map B5 then gnC s j else ce s j
theorem a2P:∀(ds:List Int) {s:store_Store} (hR:SR s),ds.Nodup→(∀d∈ds,d∈lv s)→Gn s (gnL s ds) ds
 | [],s,hR,_,_=>⟨hR,rfl,rfl,rfl,(List.filter_eq_self.2 (λa _=>by simp)).symm,λ_ _ _=>rfl,λj=>by simp[gnL]⟩
 | d::ds,s,hR,hn,hm=>by
  rw[List.nodup_cons] at hn
  have hd:=hm d (List.mem_cons_self ..)
  have hlv:=c6h hR hd
  have hm':∀e∈ds,e∈lv (gnA s d):=λe he=>by
   rw[hlv,List.mem_filter,decide_eq_true_iff]
   exact⟨hm e (List.mem_cons_of_mem _ he),λq=>hn.1 (q▸he)⟩
  have ih:=a2P ds (b73 hR hd) hn.2 hm'
  refine⟨ih.sr,ih.len.trans (W4 ..),ih.last,ih.Y4,?_,λk hk hne=>?_,λj=>?_⟩
  ·show lv (gnL (gnA s d) ds)=_
   rw[ih.lv,hlv,List.filter_filter]
   refine List.filter_congr λh hh=>?_
   rw[Bool.eq_iff_iff]
   simp only[Bool.and_eq_true,decide_eq_true_iff,List.mem_cons,not_or]
   exact⟨λq=>⟨q.2,q.1⟩,λq=>⟨q.2,q.1⟩⟩
  ·show ob (gnL (gnA s d) ds) k=_
   rw[List.mem_cons,not_or] at hne
   rw[ih.ob k (by rw[hlv,List.mem_filter,decide_eq_true_iff];exact⟨hk,hne.1⟩) hne.2,c6i hR hd hk hne.1]
  ·show ce (gnL (gnA s d) ds) j=_
   have hg:∀e∈ds,B5 e≠B5 d:=λe he=>b8h hR (hm e (List.mem_cons_of_mem _ he)) hd λq=>hn.1 (q▸he)
   rw[ih.ce]
   by_cases h1:j∈ds.map B5
   ·obtain⟨e,he,rfl⟩:=List.mem_map.1 h1
    rw[if_pos h1,if_pos (by rw[List.map_cons];exact List.mem_cons_of_mem _ h1)]
    unfold gnC
    rw[c1L hR hd,if_neg (hg e he)]
    rfl
   ·rw[if_neg h1,c1L hR hd,List.map_cons]
    by_cases h2:j=B5 d
    ·subst h2
     rw[if_pos rfl,if_pos (List.mem_cons_self ..)]
    ·rw[if_neg h2,if_neg]
     rw[List.mem_cons]
     exact λq=>q.elim h2 h1
theorem b4x{α:Type}(p:α→Bool)(f:α→Nat):∀l:List α,(l.map f).sum=((l.filter p).map f).sum+((l.filter λx => !p x).map f).sum
 | []=>rfl
 | x::l=>by
  rw[List.map_cons,List.sum_cons,b4x p f l,List.filter_cons,List.filter_cons]
  cases p x <;> simp <;> omega
theorem b7p(f:Int→List Int)(y:Int):∀l:List Int,Q3 (l.flatMap f) y=(l.map λx=>Q3 (f x) y).sum
 | []=>R6 y
 | x::l=>by rw[List.flatMap_cons,R5,b7p f y l,List.map_cons,List.sum_cons]
theorem Gn.inn{s s':store_Store}{ds:List Int}(hR:SR s)(hn:ds.Nodup)(hm:∀d∈ds,d∈Sh.lv s)(g:Gn s s' ds)(y:Int):inn s' y+Q3 (ds.flatMap (outs s)) y=inn s y:=by
 unfold Sh.inn
 rw[g.lv,b4x (λh=>decide (h∉ds)) (λx=>Q3 (outs s x) y) (Sh.lv s),b7p]
 have h1:((Sh.lv s).filter λh=>decide (h∉ds)).map (λx=>Q3 (outs s' x) y)=((Sh.lv s).filter λh=>decide (h∉ds)).map λx=>Q3 (outs s x) y:=List.map_congr_left λx hx=>by
  rw[List.mem_filter,decide_eq_true_iff] at hx
  unfold Sh.outs
  rw[g.ob x hx.1 hx.2]
 have h2:((Sh.lv s).filter λx => !decide (x∉ds)).Perm ds:=by
  rw[List.perm_ext_iff_of_nodup ((a9m (p5.2 hR)).filter _) hn]
  intro a
  rw[List.mem_filter]
  simp only[decide_not,Bool.not_not,decide_eq_true_iff]
  exact⟨λq=>q.2,λq=>⟨hm a q,q⟩⟩
 rw[h1,(h2.map λx=>Q3 (outs s x) y).sum_nat]
theorem b6O{L:List task_Task}(hd:L.Pairwise λa b=>¬(a.Kind=b.Kind∧a.At=b.At))(k:Int):((L.filter (·.Kind==k)).map (·.At)).Nodup:=by
 unfold List.Nodup
 rw[List.pairwise_map]
 refine (hd.filter _).imp_of_mem λ{a b} ha hb h e=>?_
 rw[List.mem_filter,beq_iff_eq] at ha hb
 exact h ⟨ha.2.trans hb.2.symm,e⟩
theorem b7m{L:List task_Task}{m:List Int}(hd:L.Pairwise λa b=>¬(a.Kind=b.Kind∧a.At=b.At))(h:∀t∈L,(t.Kind=1∧t.At∈m)∨(t.Kind=2∧0≤t.At∧t.At≤5)):L.length≤m.length+6:=by
 have h1:L.length=(L.filter (·.Kind==1)).length+(L.filter (·.Kind==2)).length:=by
  rw[a83 (λt:task_Task=>t.Kind==1) L]
  congr 2
  refine List.filter_congr λt ht=>?_
  rcases h t ht with q | q
  ·simp[q.1]
  ·simp[q.1]
 have h2:=a9r (b6O hd 1) (m:=m) λa ha=>by
  obtain⟨t,ht,rfl⟩:=List.mem_map.1 ha
  rw[List.mem_filter,beq_iff_eq] at ht
  rcases h t ht.1 with q | q
  ·exact q.2
  ·omega
 have h3:=a9r (b6O hd 2) (m:=[0,1,2,3,4,5]) λa ha=>by
  obtain⟨t,ht,rfl⟩:=List.mem_map.1 ha
  rw[List.mem_filter,beq_iff_eq] at ht
  rcases h t ht.1 with q | q
  ·omega
  ·simp only[List.mem_cons,List.not_mem_nil,or_false]
   omega
 rw[List.length_map] at h2 h3
 simp only[List.length_cons,List.length_nil] at h3
 omega
theorem b0h{q:TQ}{w:Int}:wts q w=true↔∃t∈q.L,t.Kind=2∧t.At=w:=by
 unfold wts
 rw[List.any_eq_true]
 simp
theorem a9p{q:TQ}{h:Int}:h∈b1v q↔∃t∈q.L,t.Kind=1∧t.At=h:=by
 unfold b1v
 rw[List.mem_map]
 simp only[List.mem_filter,beq_iff_eq]
 exact⟨λ⟨t,⟨a,b⟩,c⟩=>⟨t,a,b,c⟩,λ⟨t,a,b,c⟩=>⟨t,⟨a,b⟩,c⟩⟩
abbrev cz:weak_Cell:=⟨0,false,0⟩
def a2U(ds:List Int)(c:weak_Cell):Bool:=c.Intact&&c.Target != 0&&decide (c.Target∈ds)
def a6g(ds:List Int)(c:weak_Cell):weak_Cell:=if a2U ds c then ⟨c.Target,false,c.Call⟩ else c
def clr(l:List weak_Cell)(ds:List Int):List weak_Cell:=l.map (a6g ds)
def cls(l:List weak_Cell)(ds:List Int):List Nat:=(List.range l.length).filter λw=>a2U ds (l.getD w cz)&&decide (0≤(l.getD w cz).Call)
def clt(l:List weak_Cell)(ds:List Int):List task_Task:=(cls l ds).map λ(w:Nat)=>⟨2,(w:Int),(l.getD w cz).Call⟩
theorem b4D(ds:List Int)(c:weak_Cell):(a6g ds c).Target=c.Target∧(a6g ds c).Call=c.Call∧((a6g ds c).Intact=true↔c.Intact=true∧a2U ds c=false):=by
 unfold a6g
 cases h:a2U ds c
 ·rw[if_neg (by simp)]
  simp
 ·rw[if_pos rfl]
  simp
theorem c4a(l:List weak_Cell)(ds:List Int)(h:Int):nmg (clr l ds) h=nmg l h:=by
 unfold nmg clr
 rw[List.countP_map]
 congr 1
 funext c
 simp only[Function.comp_apply,(b4D ds c).1]
theorem a7g{l:List weak_Cell}{ds:List Int}{t:task_Task}:t∈clt l ds↔∃w,∃hw:w<l.length,t=⟨2,(w:Int),l[w].Call⟩∧a2U ds l[w]=true∧0≤l[w].Call:=by
 unfold clt cls
 rw[List.mem_map]
 constructor
 ·rintro⟨w,hw,rfl⟩
  rw[List.mem_filter,List.mem_range] at hw
  obtain⟨h1,h2⟩:=hw
  have e:l.getD w cz=l[w]:=by rw[List.getD_eq_getElem?_getD,List.getElem?_eq_getElem h1];rfl
  rw[e] at h2 ⊢
  rw[Bool.and_eq_true,decide_eq_true_iff] at h2
  exact⟨w,h1,rfl,h2.1,h2.2⟩
 ·rintro⟨w,hw,rfl,h2,h3⟩
  have e:l.getD w cz=l[w]:=by rw[List.getD_eq_getElem?_getD,List.getElem?_eq_getElem hw];rfl
  refine⟨w,?_,by rw[e]⟩
  rw[List.mem_filter,List.mem_range,e,Bool.and_eq_true,decide_eq_true_iff]
  exact⟨hw,h2,h3⟩
theorem b9O(l:List weak_Cell)(ds:List Int):(clt l ds).Pairwise λa b=>¬(a.Kind=b.Kind∧a.At=b.At):=by
 unfold clt cls
 rw[List.pairwise_map]
 refine (List.Pairwise.filter _ (List.nodup_range (n:=l.length))).imp λ{a b} h=>?_
 rintro⟨_,e⟩
 dsimp only at e
 omega
end Go.Sh
namespace Go.Sh
def a4U(x:Hp)(ds:List Int)(t:Tb):Hp:=⟨gnL x.S ds,x.Roots,clr x.Cells ds,t,⟨x.Q.L++clt x.Cells ds,x.Q.Cap⟩⟩
theorem b6B(q:TQ)(l:List task_Task)(c:Int)(h:∀t∈l,t.Kind≠1):b1v ⟨q.L++l,c⟩=b1v q:=by
 unfold b1v
 dsimp only
 rw[List.filter_append]
 have:l.filter (λt=>t.Kind==1) = []:=by
  rw[List.filter_eq_nil_iff]
  intro t ht
  simpa using h t ht
 rw[this,List.append_nil]
theorem b9I{x:Hp}(hx:Q5 x){ds:List Int}(hn:ds.Nodup)(hm:∀d∈ds,d∈lv x.S)
  (ho:∀d∈ds,d∉otr x)(hf:∀h∈lv x.S,h∉ds→∀v∈(ob x.S h).Fields,v∉ds)(hp:∀k v,Has x.T k v→k∉ds→v∉ds)
  {t:Tb}{vals:List Int}(ht:HR t)(h1:∀k v,Has t k v↔k∉ds∧Has x.T k v)(h2:∀y,own t y+Q3 vals y=own x.T y) :
  HpS (a4U x ds t)∧Wk (a4U x ds t)∧a2J (a4U x ds t) (ds.flatMap (outs x.S)++vals):=by
 have hS:=hx.sh
 have hR:=hS.sr
 have g:=a2P ds hR hn hm
 have hlv:∀h,h∈lv (gnL x.S ds)↔h∈lv x.S∧h∉ds:=λh=>by rw[g.lv,List.mem_filter,decide_eq_true_iff]
 have hlen:(lv x.S).length≤24:=U5 (p5.2 hR)
 have hcl:∀w (hw:w<x.Cells.length),a2U ds x.Cells[w]=true→x.Cells[w].Intact=true:=λw hw q=>by
  unfold a2U at q
  rw[Bool.and_eq_true,Bool.and_eq_true] at q
  exact q.1.1
 have htd:(x.Q.L++clt x.Cells ds).Pairwise λa b=>¬(a.Kind=b.Kind∧a.At=b.At):=by
  rw[List.pairwise_append]
  refine⟨hS.td,b9O ..,λa ha b hb q=>?_⟩
  obtain⟨w,hw,rfl,hh,_⟩:=a7g.1 hb
  have:=((hS.cl w hw).2.2.2.2 (hcl w hw hh)).2
  rw[Bool.eq_false_iff] at this
  exact this (b0h.2 ⟨a,ha,q.1,q.2⟩)
 have htk:∀t∈x.Q.L++clt x.Cells ds,0≤t.Prog∧t.Prog≤5∧((t.Kind=1∧t.At∈lv (gnL x.S ds)∧(ob (gnL x.S ds) t.At).Started=true)∨(t.Kind=2∧0≤t.At∧t.At≤5)):=λt htt=>by
  rcases List.mem_append.1 htt with q | q
  ·obtain⟨a,b,c⟩:=hS.tk t q
   refine⟨a,b,?_⟩
   rcases c with ⟨c1,c2,c3⟩ | c
   ·have hnd:t.At∉ds:=λhd=>ho _ hd (List.mem_append.2 (.inr (a9p.2 ⟨t,q,c1,rfl⟩)))
    exact .inl ⟨c1,(hlv _).2 ⟨c2,hnd⟩,by rw[g.ob _ c2 hnd];exact c3⟩
   ·exact .inr c
  ·obtain⟨w,hw,rfl,hh,hc⟩:=a7g.1 q
   have c6:=hS.c6
   have:=(hS.cl w hw).2.1
   exact⟨hc,this,.inr ⟨rfl,by dsimp only;omega,by dsimp only;omega⟩⟩
 have hq30:(x.Q.L++clt x.Cells ds).length≤30:=by
  have:=b7m (m:=lv x.S) htd λt htt=>by
   rcases (htk t htt).2.2 with q | q
   ·exact .inl ⟨q.1,((hlv _).1 q.2.1).1⟩
   ·exact .inr q
  omega
 have hwts:∀i:Nat,wts x.Q i=false→(∀hi:i<x.Cells.length,a2U ds x.Cells[i]=false)→wts ⟨x.Q.L++clt x.Cells ds,x.Q.Cap⟩ i=false:=λi q1 q2=>by
  rw[Bool.eq_false_iff] at q1 ⊢
  intro q
  obtain⟨t,ht,a,b⟩:=b0h.1 q
  rcases List.mem_append.1 ht with c | c
  ·exact q1 (b0h.2 ⟨t,c,a,b⟩)
  ·obtain⟨w,hw,rfl,hh,_⟩:=a7g.1 c
   dsimp only at b
   have:w=i:=by omega
   subst this
   rw[q2 hw] at hh
   cases hh
 refine⟨⟨g.sr,ht,hS.r6,?_,hS.cap,hq30,htk,htd,λh hh=>?_,λh hh v hv=>?_,λk v hkv=>?_,λi hi=>?_⟩,λi hi hti=>?_,λh hh hlt=>?_⟩
 ·unfold a4U clr
  rw[List.length_map]
  exact hS.c6
 ·rcases hS.rt h hh with q | q
  ·exact .inl q
  ·have h0:h≠0:=λe=>a4q hR (e▸q)
   exact .inr ((hlv h).2 ⟨q,λhd=>ho h hd (List.mem_append.2 (.inl (a8y.2 ⟨hh,h0⟩)))⟩)
 ·obtain⟨a,b⟩:=(hlv h).1 hh
  have hv':v∈(ob x.S h).Fields:=by
   have e:=g.ob h a b
   unfold a4U at hv
   rwa [e] at hv
  rcases hS.fl h a v hv' with q | q
  ·exact .inl q
  ·exact .inr ((hlv v).2 ⟨q,hf h a b v hv'⟩)
 ·obtain⟨a,b⟩:=(h1 k v).1 hkv
  obtain⟨c,d⟩:=hS.pr k v b
  exact⟨(hlv k).2 ⟨c,a⟩,(hlv v).2 ⟨d,hp k v b a⟩⟩
 ·have hi':i<x.Cells.length:=by
   unfold a4U clr at hi
   simpa using hi
  have e:(a4U x ds t).Cells[i]=a6g ds x.Cells[i]:=List.getElem_map _
  obtain⟨a1,a2,a3,a4,a5⟩:=hS.cl i hi'
  obtain⟨b1,b2,b3⟩:=b4D ds x.Cells[i]
  rw[e,b1,b2]
  refine⟨a1,a2,λq=>?_,λq=>?_,λq=>?_⟩
  ·rw[Bool.eq_false_iff]
   intro q2
   rw[a3 q] at b3
   exact absurd (b3.1 q2).1 (by decide)
  ·obtain⟨p,hp1,hp2,hp3⟩:=a4 q
   refine⟨p,by show p<(gnL x.S ds).S.Cells.length;rw[g.len];exact hp1,?_⟩
   show Th (ce (gnL x.S ds) p)∧_=1+(p:Int)+32*(ce (gnL x.S ds) p).Gen
   rw[g.ce]
   split
   ·have hw:=(hx.wk p hp1 hp2).1
    have:=a9q hi' q
    rw[hp3] at this
    unfold gnC
    rw[if_neg (by omega)]
    exact⟨.inr rfl,hp3⟩
   ·exact⟨hp2,hp3⟩
  ·obtain⟨c1,c2⟩:=b3.1 q
   obtain⟨d1,d2⟩:=a5 c1
   have h0:x.Cells[i].Target≠0:=λe=>a4q hR (e▸d1)
   refine⟨(hlv _).2 ⟨d1,λhd=>?_⟩,hwts i d2 λ_=>c2⟩
   have:a2U ds x.Cells[i]=true:=by
    unfold a2U
    simp[c1,h0,hd]
   rw[this] at c2
   cases c2
 ·have hi':i<x.S.S.Cells.length:=by
   have:=g.len
   have hi:i<(gnL x.S ds).S.Cells.length:=hi
   omega
  show (ce (gnL x.S ds) i).Val.Weak=(nmg (clr x.Cells ds) (1+(i:Int)+32*(ce (gnL x.S ds) i).Gen):Int)∧((ce (gnL x.S ds) i).State=2→_)
  have hti':Th (ce (gnL x.S ds) i):=hti
  show _∧((ce (gnL x.S ds) i).State=2→1≤(ce (gnL x.S ds) i).Val.Weak∧(ce (gnL x.S ds) i).Val.Fields = []∧(ce (gnL x.S ds) i).Val.Strong=0)
  rw[c4a]
  rw[g.ce] at hti' ⊢
  split
  ·rename_i q
   rw[if_pos q] at hti'
   obtain⟨d,hd,rfl⟩:=List.mem_map.1 q
   have hp:=u6 hR (hm d hd)
   have hw:=(hx.wk _ hi' (.inl hp.2.1)).1
   unfold gnC at hti' ⊢
   split at hti'
   ·exfalso
    unfold Th at hti'
    split at hti' <;> simp at hti'
   ·rename_i q2
    rw[if_neg q2]
    have:=(hR.ok _ hi' (.inl hp.2.1)).wk
    exact⟨hw,λ_=>⟨by dsimp only;omega,rfl,rfl⟩⟩
  ·rename_i q
   rw[if_neg q] at hti'
   exact hx.wk i hi' hti'
 ·obtain⟨a,b⟩:=(hlv h).1 hh
  have e:=g.ob h a b
  have e':ob (a4U x ds t).S h=ob x.S h:=e
  rw[e'] at hlt ⊢
  have hf:=hx.fair h a hlt
  rw[R6] at hf
  rw[hf]
  have i1:=g.inn hR hn hm h
  have i2:=h2 h
  have i3:b1v ⟨x.Q.L++clt x.Cells ds,x.Q.Cap⟩=b1v x.Q:=b6B _ _ _ λt ht=>by
   obtain⟨w,_,rfl,_⟩:=a7g.1 ht
   simp
  unfold nms otr a4U
  dsimp only
  rw[i3,R5 (ds.flatMap (outs x.S)),R5]
  omega
theorem b2U:∀(l:List Int) {x:Hp},HpS x→Wk x→a2J x l→Q5 (l.foldl O1 x)
 | [],x,h1,h2,h3=>⟨h1,h2,h3⟩
 | v::l,x,h1,h2,h3=>b2U l (h1.st v λc=>X0) (h2.st h1.sr v λc=>X0) (b7c h1.sr h3)
abbrev srt(o:store_Obj):store_Obj:=⟨o.Serial,o.Strong,o.Weak,o.Prog,true,o.Fields⟩
abbrev qtk(x:Hp)(h:Int):task_Task:=⟨1,h,(ob x.S h).Prog⟩
noncomputable def quH(x:Hp)(h:Int):Hp:=C0 ⟨seO x.S h (srt (ob x.S h)),x.Roots,x.Cells,x.T,⟨x.Q.L ++ [qtk x h],x.Q.Cap⟩⟩ h
theorem b4q{x:Hp}(hx:Q5 x){h:Int}(hh:h∈lv x.S)(hp:0≤(ob x.S h).Prog)(hs:(ob x.S h).Started=false):Q5 (quH x h):=by
 have hS:=hx.sh
 have hR:=hS.sr
 have oko:=H6 hR hh
 have ho:OkO x.S (srt (ob x.S h)):=⟨oko.s1,oko.s2,oko.st,oko.wk,oko.p1,oko.p2,oko.fl⟩
 have r1:=a07 (o:=srt (ob x.S h)) hR hh rfl ho
 have l1:=a3d (o:=srt (ob x.S h)) hR hh rfl ho
 have o1:∀j,j∈lv x.S→ob (seO x.S h (srt (ob x.S h))) j=if j=h then srt (ob x.S h) else ob x.S j:=λj hj=>by
  have:=H7 hR hj
  exact a1B (o:=srt (ob x.S h)) hR hh rfl ho (by omega)
 have hlen:(lv x.S).length≤24:=U5 (p5.2 hR)
 have s1:HpS (wS x (seO x.S h (srt (ob x.S h)))):=hS.of r1 l1 (λk i q=>(b8z (o:=srt (ob x.S h)) hR hh rfl ho).2 q) (λk hk q=>by
  rw[o1 k hk]
  split
  ·rfl
  ·exact q) λk hk v hv=>by
  rw[o1 k hk] at hv
  split at hv
  ·rename_i e;subst e;exact hS.fl k hk v hv
  ·exact hS.fl k hk v hv
 have w1:Wk (wS x (seO x.S h (srt (ob x.S h)))):=λi hi ht=>by
  have I1:=u6 hR hh
  have hc:=b8A (o:=srt (ob x.S h)) hR hh rfl ho i
  dsimp only at hi ht ⊢
  rw[hc] at ht ⊢
  have hi':i<x.S.S.Cells.length:=by unfold seO at hi;rwa [L3] at hi
  split at ht
  ·rename_i e
   subst e
   rw[if_pos rfl]
   dsimp only
   have:=hx.wk _ hi' (.inl I1.2.1)
   rw[O9 hR I1]
   exact⟨this.1,λq=>absurd q (by rw[I1.2.1];decide)⟩
  ·rename_i e
   rw[if_neg e]
   exact hx.wk i hi' ht
 have htd:(x.Q.L ++ [qtk x h]).Pairwise λa b=>¬(a.Kind=b.Kind∧a.At=b.At):=by
  rw[List.pairwise_append]
  refine⟨hS.td,by simp,λa ha b hb q=>?_⟩
  rw[List.mem_singleton] at hb
  subst hb
  dsimp only at q
  rcases (hS.tk a ha).2.2 with c | c
  ·rw[q.2,hs] at c
   exact absurd c.2.2 (by decide)
  ·omega
 have htk:∀t∈x.Q.L ++ [qtk x h],0≤t.Prog∧t.Prog≤5∧((t.Kind=1∧t.At∈lv (seO x.S h (srt (ob x.S h)))∧(ob (seO x.S h (srt (ob x.S h))) t.At).Started=true)∨(t.Kind=2∧0≤t.At∧t.At≤5)):=λt ht=>by
  rcases List.mem_append.1 ht with q | q
  ·exact s1.tk t q
  ·rw[List.mem_singleton] at q
   subst q
   refine⟨hp,oko.p2,.inl ⟨rfl,by rw[l1];exact hh,?_⟩⟩
   dsimp only
   rw[o1 h hh,if_pos rfl]
 have hq30:(x.Q.L ++ [qtk x h]).length≤30:=by
  have:=b7m (m:=lv x.S) htd λt ht=>by
   rcases (htk t ht).2.2 with q | q
   ·exact .inl ⟨q.1,by rw[←l1];exact q.2.1⟩
   ·exact .inr q
  omega
 have s2:HpS ⟨seO x.S h (srt (ob x.S h)),x.Roots,x.Cells,x.T,⟨x.Q.L ++ [qtk x h],x.Q.Cap⟩⟩:=by
  refine⟨s1.sr,s1.hr,s1.r6,s1.c6,s1.cap,hq30,htk,htd,s1.rt,s1.fl,s1.pr,λi hi=>?_⟩
  obtain⟨a,b,c,d,e⟩:=s1.cl i hi
  refine⟨a,b,c,d,λq=>⟨(e q).1,?_⟩⟩
  have:=(e q).2
  rw[Bool.eq_false_iff] at this ⊢
  intro q2
  obtain⟨t,ht,k1,k2⟩:=b0h.1 q2
  rcases List.mem_append.1 ht with q3 | q3
  ·exact this (b0h.2 ⟨t,q3,k1,k2⟩)
  ·rw[List.mem_singleton] at q3
   subst q3
   dsimp only at k1
   omega
 have w2:Wk ⟨seO x.S h (srt (ob x.S h)),x.Roots,x.Cells,x.T,⟨x.Q.L ++ [qtk x h],x.Q.Cap⟩⟩:=w1
 refine⟨s2.st h λc=>E2,w2.st s2.sr h λc=>E2,λk hk hlt=>?_⟩
 have hk':k∈lv x.S:=by
  have:lv (quH x h).S=lv x.S:=(G0 s2.sr h λc=>E2).lv.trans l1
  rw[←this];exact hk
 have hst:(ob (quH x h).S k).Strong=if k=h then Z2 (ob x.S k).Strong else (ob x.S k).Strong:=by
  have:=b5O (x:=⟨seO x.S h (srt (ob x.S h)),x.Roots,x.Cells,x.T,⟨x.Q.L ++ [qtk x h],x.Q.Cap⟩⟩) s2.sr h (f:=Z2) (λc=>E2) (k:=k) (by rw[←l1] at hk';exact hk')
  refine Eq.trans this ?_
  dsimp only
  rw[o1 k hk']
  by_cases e:k=h
  ·subst e
   rw[if_pos rfl,if_pos rfl,if_pos rfl]
  ·rw[if_neg e,if_neg e,if_neg e]
 have hnm:nms (quH x h) k=nms x k+if k=h then 1 else 0:=by
  have:=b1T (x:=⟨seO x.S h (srt (ob x.S h)),x.Roots,x.Cells,x.T,⟨x.Q.L ++ [qtk x h],x.Q.Cap⟩⟩) s2.sr h (f:=Z2) (λc=>E2) k
  refine Eq.trans this ?_
  have hi:=b8Y (o:=srt (ob x.S h)) hR hh rfl ho k
  dsimp only at hi
  have h0:k≠0:=λe=>a4q hR (e▸hk')
  unfold nms otr b1v
  dsimp only
  rw[List.filter_append,List.map_append,R5,R5,R5]
  have:Q3 (List.map (·.At) (List.filter (λt:task_Task=>t.Kind==1) [qtk x h])) k=if k=h then 1 else 0:=by
   show Q3 [h] k=_
   rw[J2,R6]
   by_cases e:k=h
   ·rw[if_pos ⟨e.symm,h0⟩,if_pos e]
   ·rw[if_neg (λq=>e q.1.symm),if_neg e]
  rw[this]
  omega
 rw[hst] at hlt ⊢
 rw[hnm,R6]
 have hpos:=(H6 hR hk').st
 by_cases e:k=h
 ·rw[if_pos e] at hlt ⊢
  rw[if_pos e]
  have:=hx.fair k hk' (by unfold Z2 at hlt;split at hlt <;> omega)
  rw[R6] at this
  unfold Z2 at hlt ⊢
  split at hlt
  ·omega
  ·rename_i q
   rw[if_neg q,if_neg (by omega)]
   omega
 ·rw[if_neg e] at hlt ⊢
  rw[if_neg e]
  have:=hx.fair k hk' hlt
  rw[R6] at this
  exact this
end Go.Sh
namespace Go.Sh
noncomputable def zr(x:Hp):List Int:=(lv x.S).filter λh=>(ob x.S h).Strong==0
theorem a3n{x:Hp}{h:Int}:h∈zr x↔h∈lv x.S∧(ob x.S h).Strong=0:=by
 unfold zr
 rw[List.mem_filter,beq_iff_eq]
theorem b9F{x:Hp}(hx:Q5 x){z:Int}(hz:z∈zr x):nms x z=0:=by
 obtain⟨a,b⟩:=a3n.1 hz
 have:=hx.fair z a (by omega)
 rw[R6] at this
 omega
theorem b7q{l:List Int}{h:Int}(h0:h≠0)(e:Q3 l h=0):h∉l:=λq=>by
 have:=a5I.2 ⟨h0,q⟩
 omega
theorem c10{α:Type}(f:α→Nat):∀ {l:List α} {a:α},a∈l→f a≤(l.map f).sum
 | b::l,a,h=>by
  rw[List.map_cons,List.sum_cons]
  rcases List.mem_cons.1 h with e | e
  ·subst e;omega
  ·have:=c10 f e;omega
theorem b8X{s:store_Store}{a y:Int}(ha:a∈lv s):Q3 (outs s a) y≤inn s y:=c10 (λx=>Q3 (outs s x) y) ha
theorem b9h{t:Tb}{k v:Int}(h:Has t k v)(h0:v≠0):0<own t v:=List.countP_pos_iff.2 ⟨⟨k,v⟩,a0m.2 h,by simp[h0]⟩
def wot(t:Tb)(ks:List Int):Tb × List Int:=(T0 t ks).getD (t,[])
theorem a3m{t:Tb}(hT:HR t)(ks:List Int)(hks:ks.length≤1000):T0 t ks=some (wot t ks)∧HR (wot t ks).1∧(wot t ks).2.length≤ks.length∧a3L (t.map I1) ks=some ((wot t ks).1.map I1,(wot t ks).2) ∧
  (∀k v,Has (wot t ks).1 k v↔k∉ks∧Has t k v)∧∀y,own (wot t ks).1 y+Q3 (wot t ks).2 y=own t y:=by
 obtain⟨a,had,h1,h2,h3,h4,h5,h6,h7,h8,h9⟩:=b7x hT ks hks
 have:wot t ks=(a,had):=by unfold wot;rw[h1];rfl
 rw[this]
 exact⟨h1,h2,h4,h5,h6,h9⟩
noncomputable def buH(x:Hp)(ds:List Int):Hp:=(ds.flatMap (outs x.S)++(wot x.T ds).2).foldl O1 (a4U x ds (wot x.T ds).1)
theorem a6L:∀(l:List Int) {x:Hp},SR x.S→Kin x.S (l.foldl O1 x).S∧l.foldl O1 x=wS x (l.foldl O1 x).S
 | [],x,h=>⟨Kin.refl h,rfl⟩
 | v::l,x,h=>by
  have k1:=G0 h v (f:=a7P) λc=>X0
  obtain⟨k2,e⟩:=a6L l (x:=O1 x v) k1.sr
  refine⟨k1.trans k2,?_⟩
  show l.foldl O1 (O1 x v)=wS x (l.foldl O1 (O1 x v)).S
  rw[e,c7a x v]
theorem b9J{x:Hp}(hx:Q5 x){ds:List Int}(hn:ds.Nodup)(hm:∀d∈ds,d∈lv x.S)
  (ho:∀d∈ds,d∉otr x)(hf:∀h∈lv x.S,h∉ds→∀v∈(ob x.S h).Fields,v∉ds)(hp:∀k v,Has x.T k v→k∉ds→v∉ds):Q5 (buH x ds):=by
 have hl:ds.length≤24:=Nat.le_trans (a9r hn hm) (U5 (p5.2 hx.sh.sr))
 obtain⟨_,w1,_,_,w2,w3⟩:=a3m hx.sh.hr ds (by omega)
 obtain⟨a,b,c⟩:=b9I hx hn hm ho hf hp w1 w2 w3
 exact b2U _ a b c
theorem b7D{x:Hp}(hR:SR x.S){ds:List Int}(hn:ds.Nodup)(hm:∀d∈ds,d∈lv x.S):lv (buH x ds).S=(lv x.S).filter λh=>decide (h∉ds):=by
 have g:=a2P ds hR hn hm
 exact (a6L (ds.flatMap (outs x.S)++(wot x.T ds).2) (x:=a4U x ds (wot x.T ds).1) g.sr).1.lv.trans g.lv
theorem c0W{x:Hp}(hR:SR x.S){ds:List Int}(hn:ds.Nodup)(hm:∀d∈ds,d∈lv x.S){k:Int}(hk:k∈lv x.S)(hd:k∉ds):∃n,ob (buH x ds).S k=stg (ob x.S k) n:=by
 have g:=a2P ds hR hn hm
 have hr:=H7 hR hk
 obtain⟨n,e⟩:=(a6L (ds.flatMap (outs x.S)++(wot x.T ds).2) (x:=a4U x ds (wot x.T ds).1) g.sr).1.ob k (by omega)
 refine⟨n,?_⟩
 have e':ob (buH x ds).S k=_:=e
 have g':ob (a4U x ds (wot x.T ds).1).S k=ob x.S k:=g.ob k hk hd
 rw[e',g']
theorem b14{x:Hp}(hR:SR x.S){ds:List Int}(hn:ds.Nodup)(hm:∀d∈ds,d∈lv x.S):(buH x ds).Roots=x.Roots∧(buH x ds).Cells=clr x.Cells ds∧(buH x ds).T=(wot x.T ds).1∧(buH x ds).Q=⟨x.Q.L++clt x.Cells ds,x.Q.Cap⟩:=by
 have g:=a2P ds hR hn hm
 have e:=(a6L (ds.flatMap (outs x.S)++(wot x.T ds).2) (x:=a4U x ds (wot x.T ds).1) g.sr).2
 have e':buH x ds=wS (a4U x ds (wot x.T ds).1) (buH x ds).S:=e
 rw[e']
 exact⟨rfl,rfl,rfl,rfl⟩
theorem b3q{x:Hp}(hx:Q5 x){z:Int}(hz:z∈zr x):Q5 (buH x [z]):=by
 obtain⟨a,b⟩:=a3n.1 hz
 have h0:z≠0:=λe=>a4q hx.sh.sr (e▸a)
 have hn:=b9F hx hz
 unfold nms at hn
 refine b9J hx (by simp) (by simpa using a) (λd hd=>?_) (λh hh hne v hv q=>?_) (λk v hkv _ q=>?_)
 ·rw[List.mem_singleton] at hd
  subst hd
  exact b7q h0 (by omega)
 ·rw[List.mem_singleton] at q
  subst q
  have:=b8X (y:=v) hh
  have h1:=a5I.2 ⟨h0,show v∈outs x.S h from a8y.2 ⟨hv,h0⟩⟩
  omega
 ·rw[List.mem_singleton] at q
  subst q
  have:=b9h hkv h0
  omega
def due(o:store_Obj):Bool:=decide (0≤o.Prog) && !o.Started
noncomputable def stp(x:Hp):Hp:=match zr x with
 | []=>x
 | z::_=>if due (ob x.S z) then quH x z else buH x [z]
noncomputable def stN:Nat→Hp→Hp
 | 0,x=>x
 | n+1,x=>stN n (stp x)
theorem a1b(n:Nat)(x:Hp):stN (n+1) x=stp (stN n x):=by
 induction n generalizing x with
 | zero=>rfl
 | succ n ih=>exact ih (stp x)
theorem a7B{x:Hp}(h:zr x = []):stp x=x:=by unfold stp;rw[h]
theorem a3i{x:Hp}{z:Int}{l:List Int}(h:zr x=z::l):stp x=if due (ob x.S z) then quH x z else buH x [z]:=by unfold stp;rw[h]
theorem c0D{x:Hp}(hx:Q5 x):Q5 (stp x):=by
 cases h:zr x with
 | nil=>rw[a7B h];exact hx
 | cons z l=>
  have hz:z∈zr x:=by rw[h];exact List.mem_cons_self ..
  rw[a3i h]
  split
  ·rename_i q
   unfold due at q
   rw[Bool.and_eq_true,decide_eq_true_iff,Bool.not_eq_true'] at q
   exact b4q hx (a3n.1 hz).1 q.1 q.2
  ·exact b3q hx hz
theorem T7{x:Hp}(hx:Q5 x)(n:Nat):Q5 (stN n x):=by
 induction n with
 | zero=>exact hx
 | succ n ih=>rw[a1b];exact c0D ih
section
variable{x:Hp}(hR:SR x.S){h:Int}(hh:h∈lv x.S)
include hR hh
theorem a9v:Kin (seO x.S h (srt (ob x.S h))) (quH x h).S∧(quH x h).Roots=x.Roots∧(quH x h).Cells=x.Cells∧(quH x h).T=x.T∧(quH x h).Q=⟨x.Q.L ++ [qtk x h],x.Q.Cap⟩:=by
 have oko:=H6 hR hh
 have r1:=a07 (o:=srt (ob x.S h)) hR hh rfl ⟨oko.s1,oko.s2,oko.st,oko.wk,oko.p1,oko.p2,oko.fl⟩
 refine⟨G0 (x:=⟨seO x.S h (srt (ob x.S h)),x.Roots,x.Cells,x.T,⟨x.Q.L ++ [qtk x h],x.Q.Cap⟩⟩) r1 h λc=>E2,?_⟩
 have e:quH x h=wS ⟨seO x.S h (srt (ob x.S h)),x.Roots,x.Cells,x.T,⟨x.Q.L ++ [qtk x h],x.Q.Cap⟩⟩ (quH x h).S:=b2Y _ h
 rw[e]
 exact⟨rfl,rfl,rfl,rfl⟩
theorem c2J:lv (quH x h).S=lv x.S:=by
 have oko:=H6 hR hh
 exact (a9v hR hh).1.lv.trans (a3d (o:=srt (ob x.S h)) hR hh rfl ⟨oko.s1,oko.s2,oko.st,oko.wk,oko.p1,oko.p2,oko.fl⟩)
theorem b8j{k:Int}(hk:k∈lv x.S):∃n,ob (quH x h).S k=stg (if k=h then srt (ob x.S h) else ob x.S k) n:=by
 have oko:=H6 hR hh
 have hr:=H7 hR hk
 obtain⟨n,e⟩:=(a9v hR hh).1.ob k (by omega)
 refine⟨n,?_⟩
 rw[e,a1B (o:=srt (ob x.S h)) hR hh rfl ⟨oko.s1,oko.s2,oko.st,oko.wk,oko.p1,oko.p2,oko.fl⟩ (by omega)]
end
noncomputable def mu(x:Hp):Nat:=(lv x.S).length+((lv x.S).filter λh => !(ob x.S h).Started).length
theorem c8e{x:Hp}(hR:SR x.S):mu x≤48:=by
 have h1:(lv x.S).length≤24:=U5 (p5.2 hR)
 have h2:((lv x.S).filter λh => !(ob x.S h).Started).length≤(lv x.S).length:=List.length_filter_le ..
 unfold mu
 omega
theorem c7j{x:Hp}(hx:Q5 x)(h:zr x ≠ []):mu (stp x)<mu x:=by
 cases hz:zr x with
 | nil=>exact absurd hz h
 | cons z l=>
  have hzm:z∈zr x:=by rw[hz];exact List.mem_cons_self ..
  have hzl:=(a3n.1 hzm).1
  have hR:=hx.sh.sr
  rw[a3i hz]
  split
  ·rename_i q
   unfold due at q
   rw[Bool.and_eq_true,decide_eq_true_iff,Bool.not_eq_true'] at q
   unfold mu
   rw[c2J hR hzl]
   have:=filter_lt (p:=λh => !(ob (quH x z).S h).Started) (q:=λh => !(ob x.S h).Started) (l:=lv x.S) (λk hk hp=>by
    obtain⟨n,e⟩:=b8j hR hzl hk
    rw[e] at hp
    split at hp
    ·exact absurd hp (by simp)
    ·exact hp) z hzl (by rw[q.2];rfl) (by
    obtain⟨n,e⟩:=b8j hR hzl hzl
    rw[e,if_pos rfl]
    rfl)
   omega
  ·unfold mu
   have hn:([z]:List Int).Nodup:=by simp
   have hm:∀d ∈ [z],d∈lv x.S:=by simpa using hzl
   rw[b7D hR hn hm,List.filter_filter]
   have h1:((lv x.S).filter λh=>decide (h ∉ [z])).length<((lv x.S).filter λ_=>true).length:=filter_lt (λ_ _ _=>rfl) z hzl rfl (by simp)
   rw[List.filter_eq_self.2 (λ_ _=>rfl)] at h1
   have h2:((lv x.S).filter λa=>(!(ob (buH x [z]).S a).Started)&&decide (a ∉ [z])).length≤((lv x.S).filter λh => !(ob x.S h).Started).length:=by
    rw[←List.countP_eq_length_filter,←List.countP_eq_length_filter]
    refine List.countP_mono_left λa ha hp=>?_
    rw[Bool.and_eq_true,decide_eq_true_iff] at hp
    obtain⟨n,e⟩:=c0W hR hn hm ha hp.2
    rw[e] at hp
    exact hp.1
   omega
noncomputable def M6(x:Hp):Hp:=stN 100 x
theorem b0U{x:Hp}(hx:Q5 x):∃n,n≤48∧zr (stN n x) = []∧(∀j,j<n→zr (stN j x) ≠ [])∧M6 x=stN n x:=by
 have key:∀m,(∃n,n≤m∧zr (stN n x) = [])∨mu (stN m x)+m≤mu x:=by
  intro m
  induction m with
  | zero=>exact .inr (Nat.le_refl _)
  | succ m ih=>
   rcases ih with ⟨n,h1,h2⟩ | ih
   ·exact .inl ⟨n,by omega,h2⟩
   ·by_cases q:zr (stN m x) = []
    ·exact .inl ⟨m,by omega,q⟩
    ·have:=c7j (T7 hx m) q
     rw[←a1b] at this
     exact .inr (by omega)
 have h48:=c8e hx.sh.sr
 have hex:∃n,n≤48∧zr (stN n x) = []:=by
  rcases key 49 with ⟨n,h1,h2⟩ | h
  ·rcases Nat.lt_or_ge n 49 with q | q
   ·exact⟨n,by omega,h2⟩
   ·rcases key 48 with h | h
    ·exact h
    ·have:mu (stN 48 x)=0:=by omega
     refine⟨48,Nat.le_refl _,?_⟩
     have hl:(lv (stN 48 x).S).length=0:=by unfold mu at this;omega
     unfold zr
     rw[List.eq_nil_of_length_eq_zero hl]
     rfl
  ·omega
 obtain⟨n,⟨hn,hz⟩,hmin⟩:=V4 hex
 refine⟨n,hn,hz,λj hj q=>?_,?_⟩
 ·have:=hmin j ⟨by omega,q⟩
  omega
 ·have:∀k,stN (n+k) x=stN n x:=λk=>by
   induction k with
   | zero=>rfl
   | succ k ih=>rw[show n+(k+1)=(n+k)+1 by omega,a1b,ih,a7B hz]
  have h100:=this (100-n)
  rw[show n+(100-n)=100 by omega] at h100
  exact h100
theorem a3e{x:Hp}(hx:Q5 x):Q5 (M6 x):=T7 hx 100
theorem c0y{x:Hp}(hx:Q5 x):zr (M6 x) = []:=by
 obtain⟨n,_,h,_,e⟩:=b0U hx
 rw[e];exact h
theorem c28{x:Hp}(h:zr x = []):M6 x=x:=by
 have:∀n,stN n x=x:=λn=>by
  induction n with
  | zero=>rfl
  | succ n ih=>rw[a1b,ih,a7B h]
 exact this 100
end Go.Sh
namespace Go.Sh
section
variable{x:Hp}(hR:SR x.S)
include hR
theorem a4r{h:Int}(hh:h∈lv x.S):h≤9223372036854775807:=by have:=H7 hR hh;omega
theorem b2m{h:Int}(hh:h∈lv x.S):p8 x.S h=some (ob x.S h,0):=by
 obtain⟨e,h1,h2⟩:=N3 (p5.2 hR) (a4r hR hh)
 rw[h1,h2.2 hh]
theorem a6o{h:Int}(hh:h∈lv x.S):C6 (sO x.S) h=some (oo (ob x.S h),0):=by
 have:=hR.len
 rw[a2j x.S (by omega) (a4r hR hh),b2m hR hh]
 rfl
theorem zero_eq:a0H x=some (zr x):=by
 have h24:(lv x.S).length≤24:=U5 (p5.2 hR)
 unfold a0H
 simp only[jn]
 rw[a5g (p5.2 hR),d09]
 rw[H2 (lv x.S) (λb h=>if (ob x.S h).Strong==0 then b ++ [h] else b) id (λk b=>b.length≤k) (by omega) (Nat.le_refl _) (λk hk b hb=>?_) (λb hb=>by simp)]
 ·rw[foldl_filter]
  rfl
 ·simp only[Int.ofNat_lt,hk,decide_true,if_true,l6 hk,d09,b2m hR (List.getElem_mem hk)]
  by_cases c:((ob x.S (lv x.S)[k]).Strong==0)=true
  ·rw[if_pos c,if_pos c,A0 (by omega) (by simp;omega),d09,g9]
   exact⟨rfl,by simp;omega⟩
  ·rw[if_neg c,if_neg c,g9]
   exact⟨rfl,by omega⟩
theorem b6b:a23 (hO x)=some (zr x):=by
 have h24:(lv x.S).length≤24:=U5 (p5.2 hR)
 unfold a23
 simp only[jn]
 rw[show (hO x).S=sO x.S from rfl,a8w (p5.2 hR),d09]
 rw[H2 (lv x.S) (λb h=>if (ob x.S h).Strong==0 then b ++ [h] else b) id (λk b=>b.length≤k) (by omega) (Nat.le_refl _) (λk hk b hb=>?_) (λb hb=>by simp)]
 ·rw[foldl_filter]
  rfl
 ·simp only[Int.ofNat_lt,hk,decide_true,if_true,l6 hk,d09,a6o hR (List.getElem_mem hk)]
  by_cases c:((ob x.S (lv x.S)[k]).Strong==0)=true
  ·rw[show ((oo (ob x.S (lv x.S)[k])).Strong==0)=true from c,if_pos rfl,if_pos c,A0 (by omega) (by simp;omega),d09,g9]
   exact⟨rfl,by simp;omega⟩
  ·rw[if_neg (show ¬((oo (ob x.S (lv x.S)[k])).Strong==0)=true from c),if_neg c,g9]
   exact⟨rfl,by omega⟩
theorem c0z:a3M (hO x)=some (decide (zr x = [])):=by
 unfold a3M
 rw[b6b hR,d09]
 congr 1
 cases zr x <;> simp
 omega
end
noncomputable def quD(x:Hp)(h:Int):Hp:=if h∈lv x.S∧due (ob x.S h)=true then quH x h else x
theorem b5M{s:store_Store}(hR:SR s){h:Int}(hl:h∈lv s):OkO s (srt (ob s h)):=by
 have oko:=H6 hR hl
 exact⟨oko.s1,oko.s2,oko.st,oko.wk,oko.p1,oko.p2,oko.fl⟩
theorem b9g(o:store_Obj):I9 o=some (due o):=by
 unfold I9 due
 congr 1
section
variable{x:Hp}(hx:Q5 x)(hS:SL x){h:Int}(hh:h≤9223372036854775807)
include hx hS hh
theorem b2K(hl:h∈lv x.S)(hd:due (ob x.S h)=true):x.Q.L.length<30:=by
 have hb:0≤(ob x.S h).Prog∧(ob x.S h).Started=false:=by
  unfold due at hd
  rw[Bool.and_eq_true,decide_eq_true_iff,Bool.not_eq_true'] at hd
  exact hd
 have:=(b4q hx hl hb.1 hb.2).sh.q30
 rw[(a9v hx.sh.sr hl).2.2.2.2] at this
 simp at this
 omega
theorem c0i:T5 x h=some (quD x h):=by
 have hR:=hx.sh.sr
 have cap:=hx.sh.cap
 obtain⟨e,h1,h2⟩:=N3 (p5.2 hR) hh
 unfold T5 quD
 rw[h1,d09]
 by_cases hl:h∈lv x.S
 ·have e0:e=0:=h2.2 hl
  subst e0
  have e1:(((0:Int) != 0)==false)=true:=rfl
  simp only[e1,L7,b9g,d09]
  cases hd:due (ob x.S h)
  ·rw[if_pos (by simp),if_neg (by simp)]
  ·rw[if_neg (by simp),if_pos ⟨hl,rfl⟩]
   have hr:=b2K hx hS hh hl hd
   have hok:=b5M hR hl
   have l1:=a3d (o:=srt (ob x.S h)) hR hl rfl hok
   have r1:=a07 (o:=srt (ob x.S h)) hR hl rfl hok
   rw[a93 (o:=srt (ob x.S h)) hR hl rfl hok,d09,c5F _ (by omega),d09]
   have et:tad x.Q ⟨1,h,(ob x.S h).Prog⟩=(⟨x.Q.L ++ [qtk x h],x.Q.Cap⟩,0):=by
    unfold tad
    rw[if_neg (by omega)]
   rw[et]
   dsimp only
   rw[a7x r1 hh (λk hk=>?_),d09]
   ·rfl
   ·dsimp only at hk ⊢
    rw[l1] at hk
    rw[a1B (o:=srt (ob x.S h)) hR hl rfl hok (a4r hR hk)]
    split
    ·exact hS h hl
    ·exact hS k hk
 ·have e0:e≠0:=λq=>hl (h2.1 q)
  have e1:(e != 0)=true:=by simpa using e0
  rw[e1]
  simp only[show ((true==false)=true)=False by simp,n9,if_false,d09,Bool.true_or,if_true]
  rw[if_neg (λq=>hl q.1)]
theorem c5c:a9O (hO x) h=some (decide (h∈lv x.S)&&due (ob x.S h)):=by
 have hR:=hx.sh.sr
 have hlen:=hR.len
 obtain⟨e,h1,h2⟩:=N3 (p5.2 hR) hh
 unfold a9O
 rw[show (hO x).S=sO x.S from rfl,a2j x.S (by omega) hh,h1,Option.map_some,d09,a5d hR hh,d09]
 unfold due oo
 rw[Bool.and_assoc]
theorem c2K:a5t (hO x) h=some (hO (quD x h)):=by
 have hR:=hx.sh.sr
 have cap:=hx.sh.cap
 unfold a5t quD
 rw[c5c hx hS hh,d09]
 by_cases hl:h∈lv x.S
 ·rw[decide_eq_true hl,Bool.true_and]
  cases hd:due (ob x.S h)
  ·rw[if_pos (by simp),if_neg (by simp)]
  ·rw[if_neg (by simp),if_pos ⟨hl,rfl⟩]
   have hr:=b2K hx hS hh hl hd
   have hok:=b5M hR hl
   have l1:=a3d (o:=srt (ob x.S h)) hR hl rfl hok
   have r1:=a07 (o:=srt (ob x.S h)) hR hl rfl hok
   rw[show (hO x).S=sO x.S from rfl,a6o hR hl,d09]
   have es:L0 (sO x.S) h (oo (srt (ob x.S h)))=some (sO (seO x.S h (srt (ob x.S h))),0):=a94 hR hl rfl hok
   have es':L0 (sO x.S) h ⟨(oo (ob x.S h)).Serial,(oo (ob x.S h)).Strong,(oo (ob x.S h)).Weak,(oo (ob x.S h)).Prog,true,(oo (ob x.S h)).Fields⟩=some (sO (seO x.S h (srt (ob x.S h))),0):=es
   rw[es',d09]
   have ea:a5r (hO x).Q ⟨1,h,(oo (ob x.S h)).Prog⟩=some (tqR ⟨x.Q.L ++ [qtk x h],x.Q.Cap⟩,0):=by
    have:=c5z (q:=x.Q) (qtk x h) (by omega)
    have et:tad x.Q (qtk x h)=(⟨x.Q.L ++ [qtk x h],x.Q.Cap⟩,0):=by
     unfold tad
     rw[if_neg (by omega)]
    rw[et] at this
    exact this
   rw[ea,d09]
   have er:=a9V (x:=⟨seO x.S h (srt (ob x.S h)),x.Roots,x.Cells,x.T,⟨x.Q.L ++ [qtk x h],x.Q.Cap⟩⟩) r1 hh (λk hk=>by
    dsimp only at hk ⊢
    rw[l1] at hk
    rw[a1B (o:=srt (ob x.S h)) hR hl rfl hok (a4r hR hk)]
    split
    ·exact hS h hl
    ·exact hS k hk)
   have er':a0v ⟨sO (seO x.S h (srt (ob x.S h))),(hO x).Roots,(hO x).Cells,(hO x).T,tqR ⟨x.Q.L ++ [qtk x h],x.Q.Cap⟩⟩ h=_:=er
   dsimp only
   rw[er',d09]
   rfl
 ·rw[decide_eq_false hl,Bool.false_and]
  rw[if_pos (by simp),if_neg (λq=>hl q.1)]
end
noncomputable def lvo(x:Hp)(l:List Int):List Int:=l.foldl (λb h=>if h∈lv x.S∧h∉b then b ++ [h] else b) []
theorem b6J{x:Hp}{z:Int}(hz:z∈lv x.S):lvo x [z] = [z]:=by
 unfold lvo
 simp[hz]
section
variable{x:Hp}(hR:SR x.S)
include hR
theorem b43(l:List Int)(hl:l.length≤1000)(hb:∀h∈l,h≤9223372036854775807):P7 x l=some (lvo x l):=by
 unfold P7
 simp only[jn]
 have key:=H2 (f:=λ((s20,s21,s22):Int × (List (Int × Bool)) × (List Int))=>
   if (decide (s20<(l.length:Int))) then
     (ix l s20).bind λv32=>
     (p8 x.S v32).bind λv33=>
     if ((v33.2==0)==true) then
      if (!((y4 s21 v32).getD (false:Bool))) then
       (app 8 s22 [v32]).bind λv34=>
       some (Sum.inl (s7 (s20+1),(m9 s21 v32 true),v34))
      else
      some (.inl (s7 (s20+1),s21,s22))
     else
     some (.inl (s7 (s20+1),s21,s22))
   else
   some (.inr s22)) l (λ(b:List (Int × Bool) × List Int) h=>if h∈lv x.S∧h∉b.2 then (m9 b.1 h true,b.2 ++ [h]) else b) (λb=>b.2) (λk b=>b.2.length≤k∧∀d,(y4 b.1 d).getD false=decide (d∈b.2)) (b0:=([],[])) (by omega) ⟨Nat.le_refl _,λd=>by simp[y4]⟩ (λk hk b hb2=>?_) (λb hb2=>by simp)
 ·rw[key,d09]
  congr 1
  have:∀(l:List Int) (m:List (Int × Bool)) (b:List Int),(l.foldl (λ(b:List (Int × Bool) × List Int) h=>if h∈lv x.S∧h∉b.2 then (m9 b.1 h true,b.2 ++ [h]) else b) (m,b)).2=l.foldl (λb h=>if h∈lv x.S∧h∉b then b ++ [h] else b) b:=λl=>by
   induction l with
   | nil=>intro m b;rfl
   | cons h l ih=>
    intro m b
    rw[List.foldl_cons,List.foldl_cons]
    by_cases c:h∈lv x.S∧h∉b
    ·rw[if_pos c,if_pos c,ih]
    ·rw[if_neg c,if_neg c,ih]
  exact this l [] []
 ·obtain⟨hb1,hb3⟩:=hb2
  obtain⟨e,h1,h2⟩:=N3 (p5.2 hR) (hb _ (List.getElem_mem hk))
  simp only[Int.ofNat_lt,hk,decide_true,if_true,l6 hk,d09,h1,hb3]
  by_cases hl:l[k]∈lv x.S
  ·have e0:e=0:=h2.2 hl
   subst e0
   by_cases hm:l[k]∈b.2
   ·rw[if_pos (by rfl),if_neg (by simp[hm]),if_neg (λq=>q.2 hm),g9]
    exact⟨rfl,by omega,hb3⟩
   ·rw[if_pos (by rfl),if_pos (by simp[hm]),if_pos ⟨hl,hm⟩,A0 (by omega) (by simp;omega),d09,g9]
    refine⟨rfl,by simp;omega,λd=>?_⟩
    rw[a7h]
    by_cases q:d=l[k]
    ·rw[if_pos q]
     simp[q]
    ·rw[if_neg q,hb3]
     simp[q]
  ·have e0:e≠0:=λq=>hl (h2.1 q)
   rw[if_neg (by simp[e0]),if_neg (λq=>hl q.1),g9]
   exact⟨rfl,by omega,hb3⟩
theorem c56(l:List Int)(hl:l.length≤1000)(hb:∀h∈l,h≤9223372036854775807):a9P (hO x) l=some (lvo x l):=by
 unfold a9P
 simp only[jn]
 rw[H2 l (λb h=>if h∈lv x.S∧h∉b then b ++ [h] else b) id (λk b=>b.length≤k) (by omega) (Nat.le_refl _) (λk hk b hb2=>?_) (λb hb=>by simp)]
 ·rfl
 ·simp only[Int.ofNat_lt,hk,decide_true,if_true,l6 hk,d09,a5d hR (hb _ (List.getElem_mem hk))]
  by_cases hl:l[k]∈lv x.S
  ·have h0:l[k]≠0:=λe=>a4q hR (e▸hl)
   rw[decide_eq_true hl]
   simp only[beq_self_eq_true,L7,b2n b _ (by omega:b.length≤1000000),d09,Bool.true_and]
   by_cases hm:l[k]∈b
   ·rw[if_neg (by simp[hm,h0]),if_neg (λq=>q.2 hm),g9]
    exact⟨rfl,by omega⟩
   ·rw[if_pos (by simp[hm]),if_pos ⟨hl,hm⟩,A0 (by omega) (by simp;omega),d09,g9]
    exact⟨rfl,by simp;omega⟩
  ·rw[decide_eq_false hl]
   simp only[show ((false==true)=true)=False by simp,n9,if_false,d09,Bool.false_and]
   rw[if_neg (by simp),if_neg (λq=>hl q.1),g9]
   exact⟨rfl,by omega⟩
end
end Go.Sh
namespace Go.Sh
theorem b2k{α β:Type}(p:α→Bool)(f:α→β):∀(xs:List α) (acc:List β),xs.foldl (λb x=>if p x then b ++ [f x] else b) acc=acc++(xs.filter p).map f
 | [],acc=>by simp
 | x::xs,acc=>by
  rw[List.foldl_cons,b2k p f xs]
  by_cases h:p x=true
  ·simp[h]
  ·simp[h]
theorem a0k{α:Type}{l:List α}{i:Nat}(h:i<l.length)(d:α):l.getD i d=l[i]:=by
 rw[List.getD_eq_getElem?_getD,List.getElem?_eq_getElem h];rfl
theorem b9L(c:weak_Cell)(ds:List Int)(hl:ds.length≤1000):Y7 c ds=some (a2U ds c):=by
 unfold Y7 a2U
 rw[contains_eq _ _ (by omega)]
 cases (c.Intact&&c.Target != 0)
 ·rfl
 ·simp[n9]
def pks(l:List weak_Cell)(ds:List Int):List Nat:=(List.range l.length).filter λw=>a2U ds (l.getD w cz)
theorem c6W{l:List weak_Cell}{ds:List Int}{w:Nat}(h:w∈pks l ds):w<l.length:=by
 unfold pks at h
 rw[List.mem_filter,List.mem_range] at h
 exact h.1
theorem c4y(l:List weak_Cell)(ds:List Int):(pks l ds).length≤l.length:=by
 unfold pks
 exact Nat.le_trans (List.length_filter_le ..) (by simp)
theorem c6X(l:List weak_Cell)(ds:List Int):(pks l ds).Nodup:=List.Pairwise.filter _ List.nodup_range
theorem c3J(l:List weak_Cell)(ds:List Int):cls l ds=(pks l ds).filter λw=>decide (0≤(l.getD w cz).Call):=by
 unfold cls pks
 rw[List.filter_filter]
 refine List.filter_congr λw _=>?_
 rw[Bool.and_comm]
def a5b(l:List Nat):List Int:=l.map λ(n:Nat)=>(n:Int)
theorem b40{l:List Nat}{k:Nat}(h:k<l.length):ix (a5b l) (k:Int)=some ((l[k]:Nat):Int):=by
 unfold a5b
 rw[a0X,l6 h];rfl
theorem a4n(l:List Nat):(a5b l).length=l.length:=List.length_map ..
theorem c0h(l:List weak_Cell)(ds:List Int)(hl:l.length≤1000)(hd:ds.length≤1000):H0 l ds=some (a5b (pks l ds)):=by
 unfold H0
 simp only[jn]
 have hr:(List.range l.length).length=l.length:=by simp
 have key:=H2 (List.range l.length) (λ(b:List Int) (w:Nat)=>if a2U ds (l.getD w cz) then b ++ [(w:Int)] else b) id (λk b=>b.length≤k) (b0:=[]) (f:=λ((s17,s18):Int × (List Int))=>
   if (decide (s17<(l.length:Int))) then
     (ix l s17).bind λv26=>
     (Y7 v26 ds).bind λv27=>
     if v27 then
      (app 8 s18 [s17]).bind λv28=>
      some (Sum.inl (s7 (s17+1),v28))
     else
     some (.inl (s7 (s17+1),s18))
   else
   some (.inr s18)) (by omega) (Nat.le_refl _) (λk hk b hb=>?_) (λb hb=>by simp)
 ·rw[key,b2k]
  rfl
 ·rw[hr] at hk
  simp only[Int.ofNat_lt,hk,decide_true,if_true,l6 hk,d09,b9L _ _ hd,List.getElem_range,a0k hk]
  by_cases c:a2U ds l[k]=true
  ·rw[if_pos c,if_pos c,A0 (by omega) (by simp;omega),d09,g9]
   exact⟨rfl,by simp;omega⟩
  ·rw[if_neg c,if_neg c,g9]
   exact⟨rfl,by omega⟩
theorem b9P(l:List weak_Cell)(hl:l.length≤1000):W9 l=some l:=by
 unfold W9
 rw[b6M (by omega) (by omega),d09]
 unfold cpy
 rw[if_pos (by simp),d09]
 simp
def a8Y(l:List weak_Cell)(K:List Nat):List weak_Cell:=(List.range l.length).map λi=>if i∈K then ⟨(l.getD i cz).Target,false,(l.getD i cz).Call⟩ else l.getD i cz
theorem a4d(l:List weak_Cell)(K:List Nat):(a8Y l K).length=l.length:=by simp[a8Y]
theorem a8Z{l:List weak_Cell}{K:List Nat}{i:Nat}(h:i<(a8Y l K).length):(a8Y l K)[i]=if i∈K then ⟨(l.getD i cz).Target,false,(l.getD i cz).Call⟩ else l.getD i cz:=by simp[a8Y]
theorem c00(l:List weak_Cell):a8Y l []=l:=by
 refine List.ext_getElem (a4d ..) λi h1 h2=>?_
 rw[a8Z,if_neg (by simp),a0k h2]
theorem b9N{l:List weak_Cell}{K:List Nat}{w:Nat}(hw:w<l.length):a8Y l (K ++ [w])=(a8Y l K).set w ⟨(l.getD w cz).Target,false,(l.getD w cz).Call⟩:=by
 refine List.ext_getElem (by rw[List.length_set,a4d,a4d]) λi h1 h2=>?_
 rw[a8Z,List.getElem_set]
 by_cases e:w=i
 ·subst e
  rw[if_pos rfl,if_pos (by simp)]
 ·rw[if_neg e,a8Z]
  by_cases q:i∈K
  ·rw[if_pos (List.mem_append_left _ q),if_pos q]
  ·rw[if_neg,if_neg q]
   rw[List.mem_append,List.mem_singleton]
   exact λq2=>q2.elim q λq3=>e q3.symm
theorem c0Z(l:List weak_Cell)(ds:List Int):a8Y l (pks l ds)=clr l ds:=by
 refine List.ext_getElem (by rw[a4d];simp[clr]) λi h1 h2=>?_
 have hi:i<l.length:=by rw[a4d] at h1;exact h1
 have ec:(clr l ds)[i]=a6g ds l[i]:=List.getElem_map _
 rw[a8Z,ec,a0k hi]
 unfold a6g
 by_cases c:a2U ds l[i]=true
 ·rw[if_pos c,if_pos]
  unfold pks
  rw[List.mem_filter,List.mem_range,a0k hi]
  exact⟨hi,c⟩
 ·rw[if_neg c,if_neg]
  unfold pks
  rw[List.mem_filter,List.mem_range,a0k hi]
  exact λq=>c q.2
theorem a0J{α:Type}{l:List α}{k:Nat}(h:k<l.length):l.take (k+1)=l.take k ++ [l[k]]:=List.take_succ_eq_append_getElem h
theorem c0Y(l:List weak_Cell)(ds:List Int)(hl:l.length≤1000)(hd:ds.length≤1000):a3l l ds=some (clr l ds,a5b (cls l ds)):=by
 unfold a3l
 rw[c0h l ds hl hd,d09,b9P l hl,d09]
 simp only[jn,a4n]
 have hp:=c4y l ds
 refine X7 (pks l ds).length (λk (b:List weak_Cell × List Int)=>b.1=a8Y l ((pks l ds).take k)∧b.2=a5b (((pks l ds).take k).filter λw=>decide (0≤(l.getD w cz).Call))) (by omega) ⟨by simp[c00],by simp[a5b]⟩ ?_ ?_
 ·rintro k ⟨b1,b2⟩ hk ⟨rfl,rfl⟩
  left
  have hw:=c6W (List.getElem_mem hk)
  have hnm:(pks l ds)[k]∉(pks l ds).take k:=λq=>by
   have hn:=c6X l ds
   rw[←List.take_append_drop k (pks l ds),List.nodup_append] at hn
   exact hn.2.2 _ q (pks l ds)[k] (by rw[List.drop_eq_getElem_cons hk];exact List.mem_cons_self ..) rfl
  have h1:(pks l ds)[k]<(a8Y l ((pks l ds).take k)).length:=by rw[a4d];exact hw
  have e1:ix (a8Y l ((pks l ds).take k)) (((pks l ds)[k]:Nat):Int)=some (l.getD (pks l ds)[k] cz):=by rw[l6 h1,a8Z,if_neg hnm]
  have h2:(pks l ds)[k]<((a8Y l ((pks l ds).take k)).set (pks l ds)[k] ⟨(l.getD (pks l ds)[k] cz).Target,false,(l.getD (pks l ds)[k] cz).Call⟩).length:=by rw[List.length_set];exact h1
  have e2:ix ((a8Y l ((pks l ds).take k)).set (pks l ds)[k] ⟨(l.getD (pks l ds)[k] cz).Target,false,(l.getD (pks l ds)[k] cz).Call⟩) (((pks l ds)[k]:Nat):Int)=some ⟨(l.getD (pks l ds)[k] cz).Target,false,(l.getD (pks l ds)[k] cz).Call⟩:=by rw[l6 h2,List.getElem_set_self]
  dsimp only
  simp only[Int.ofNat_lt,hk,decide_true,if_true,b40 hk,d09,e1,Int.toNat_natCast,e2]
  have hle:(a5b (((pks l ds).take k).filter λw=>decide (0≤(l.getD w cz).Call))).length≤1000:=by
   rw[a4n]
   exact Nat.le_trans (List.length_filter_le ..) (by simp;omega)
  rw[a0J hk,b9N hw,List.filter_append]
  by_cases c:0≤(l.getD (pks l ds)[k] cz).Call
  ·rw[if_pos (decide_eq_true c),A0 (by omega) (by simp only[List.length_cons,List.length_nil];omega),d09,g9]
   refine⟨_,rfl,rfl,?_⟩
   rw[List.filter_cons,if_pos (decide_eq_true c)]
   simp[a5b]
  ·rw[if_neg (λq=>c (of_decide_eq_true q)),g9]
   refine⟨_,rfl,rfl,?_⟩
   rw[List.filter_cons,if_neg (λq=>c (of_decide_eq_true q))]
   simp[a5b]
 ·rintro⟨b1,b2⟩ ⟨rfl,rfl⟩
  refine⟨_,if_neg (by simp),?_⟩
  dsimp only
  rw[List.take_length,c0Z,←c3J]
theorem c7Z(c:weak_Cell)(ds:List Int)(hd:ds.length≤1000):((n9 ((wcR c).Intact==true) 0 (Y1 ds (wcR c).Target)).bind λv=>some ((wcR c).Intact&&decide (v > 0)))=some (a2U ds c):=by
 unfold a2U wcR
 dsimp only
 cases hI:c.Intact
 ·rfl
 ·simp only[beq_self_eq_true,L7]
  rw[a3j _ _ (by omega),d09]
  congr 1
  rw[Bool.true_and,Bool.true_and,Bool.eq_iff_iff]
  simp only[decide_eq_true_iff,Bool.and_eq_true,bne_iff_ne]
  have:=a5I (l:=ds) (h:=c.Target)
  constructor
  ·intro q
   exact this.1 (by omega)
  ·intro q
   have:=this.2 q
   omega
theorem c3I(l:List weak_Cell)(ds:List Int)(hl:l.length≤1000)(hd:ds.length≤1000):b0K (l.map wcR) ds=some ((clr l ds).map wcR,a5b (cls l ds)):=by
 unfold b0K
 simp only[jn,List.length_map]
 refine X7 l.length (λk (b:List p7 × List Int)=>b.1=((clr l ds).take k).map wcR∧b.2=a5b ((List.range k).filter λw=>a2U ds (l.getD w cz)&&decide (0≤(l.getD w cz).Call))) (by omega) ⟨by simp,by simp[a5b]⟩ ?_ ?_
 ·rintro k ⟨b1,b2⟩ hk ⟨rfl,rfl⟩
  left
  have hk2:k<(clr l ds).length:=by simp[clr];exact hk
  have e1:ix (l.map wcR) (k:Int)=some (wcR l[k]):=by rw[a0X,l6 hk];rfl
  have hle:(a5b ((List.range k).filter λw=>a2U ds (l.getD w cz)&&decide (0≤(l.getD w cz).Call))).length≤1000:=by
   rw[a4n]
   exact Nat.le_trans (List.length_filter_le ..) (by simp;omega)
  dsimp only
  simp only[Int.ofNat_lt,hk,decide_true,if_true,e1,d09]
  obtain⟨v,hv,hv2⟩:=a5N (c7Z l[k] ds hd)
  rw[hv,d09]
  have hv2:=Option.some.inj hv2
  rw[hv2,a0J hk2,List.map_append,List.range_succ,List.filter_append]
  have ec:(clr l ds)[k]=a6g ds l[k]:=List.getElem_map _
  have lc:(List.map wcR (List.take k (clr l ds))).length≤1000:=by simp[clr];omega
  rw[ec]
  unfold a6g
  by_cases c:a2U ds l[k]=true
  ·rw[if_pos c,if_pos c]
   by_cases c2:0≤l[k].Call
   ·rw[if_pos (by simpa[wcR] using c2),A0 (by omega) (by simp only[List.length_cons,List.length_nil];omega),d09,A0 (by omega) (by simp only[List.length_cons,List.length_nil];omega),d09,g9]
    refine⟨_,rfl,rfl,?_⟩
    simp only[List.filter_cons,List.filter_nil,a0k hk,c,c2,decide_true,Bool.and_self,if_true]
    simp[a5b]
   ·rw[if_neg (by simpa[wcR] using c2),A0 (by omega) (by simp only[List.length_cons,List.length_nil];omega),d09,g9]
    refine⟨_,rfl,rfl,?_⟩
    simp only[List.filter_cons,List.filter_nil,a0k hk,c,c2,decide_false,Bool.and_false,Bool.false_eq_true,if_false,List.append_nil]
  ·rw[if_neg c,if_neg c,A0 (by omega) (by simp only[List.length_cons,List.length_nil];omega),d09,g9]
   refine⟨_,rfl,rfl,?_⟩
   have c:a2U ds l[k]=false:=by simpa using c
   simp only[List.filter_cons,List.filter_nil,a0k hk,c,Bool.false_and,Bool.false_eq_true,if_false,List.append_nil]
 ·rintro⟨b1,b2⟩ ⟨rfl,rfl⟩
  refine⟨_,if_neg (by simp),?_⟩
  dsimp only
  rw[List.take_of_length_le (by simp[clr])]
  rfl
end Go.Sh
namespace Go.Sh
def clH(x:Hp)(ds:List Int):Hp:=⟨x.S,x.Roots,clr x.Cells ds,x.T,⟨x.Q.L++clt x.Cells ds,x.Q.Cap⟩⟩
theorem a1I(l:List weak_Cell)(ds:List Int):(clt l ds).length=(cls l ds).length:=List.length_map ..
theorem c01{l:List weak_Cell}{ds:List Int}{w:Nat}(h:w∈cls l ds):w<l.length:=by
 unfold cls at h
 rw[List.mem_filter,List.mem_range] at h
 exact h.1
theorem c02{l:List weak_Cell}{ds:List Int}{k:Nat}(h:k<(clt l ds).length):(clt l ds)[k]=⟨2,(((cls l ds)[k]'(by rw[←a1I];exact h):Nat):Int),(l.getD ((cls l ds)[k]'(by rw[←a1I];exact h)) cz).Call⟩:=List.getElem_map _
theorem b6m{l:List weak_Cell}{ds:List Int}{w:Nat}(h:w<l.length):ix (clr l ds) (w:Int)=some (a6g ds l[w]):=by
 unfold clr
 rw[a0X,l6 h];rfl
section
variable{x:Hp}{ds:List Int}(hc:x.Cells.length≤6)(hd:ds.length≤1000)(hq:(x.Q.L++clt x.Cells ds).length≤30)(hcap:x.Q.Cap=30)
include hc hd hq hcap
theorem b32{k:Nat}(hk:k<(clt x.Cells ds).length):tad ⟨x.Q.L++(clt x.Cells ds).take k,x.Q.Cap⟩ (clt x.Cells ds)[k]=(⟨x.Q.L++(clt x.Cells ds).take (k+1),x.Q.Cap⟩,0):=by
 rw[List.length_append] at hq
 unfold tad
 rw[if_neg (by dsimp only;rw[List.length_append,List.length_take,hcap];omega),a0J hk,List.append_assoc]
theorem b7E:a08 x ds=some (clH x ds):=by
 unfold a08
 rw[c0Y _ _ (by omega) hd,d09]
 dsimp only
 simp only[jn,a4n]
 have hq2:=hq
 rw[List.length_append] at hq2
 refine X7 (cls x.Cells ds).length (λk (q:TQ)=>q=⟨x.Q.L++(clt x.Cells ds).take k,x.Q.Cap⟩) (by rw[←a1I];omega) (by simp) ?_ ?_
 ·rintro k q hk rfl
  left
  have hw:=c01 (List.getElem_mem hk)
  have hk2:k<(clt x.Cells ds).length:=by rw[a1I];exact hk
  simp only[Int.ofNat_lt,hk,decide_true,if_true,b40 hk,d09,b6m hw]
  have et:(⟨2,(((cls x.Cells ds)[k]:Nat):Int),(a6g ds x.Cells[(cls x.Cells ds)[k]]).Call⟩:task_Task)=(clt x.Cells ds)[k]:=by
   rw[c02,(b4D ds _).2.1,a0k hw]
  rw[et,c5F _ (by dsimp only;rw[List.length_append,List.length_take];omega),b32 hc hd hq hcap hk2,d09,g9 (by rw[←a1I] at hk;omega)]
  exact⟨_,rfl,rfl⟩
 ·rintro q rfl
  refine⟨_,if_neg (by simp),?_⟩
  rw[←a1I,List.take_length]
  rfl
theorem c5P{K:x6→Option g6}:((lp (S:=Int × x6) (E:=x6) (λ((s68,s69):Int × x6)=>
   if (decide (s68<((a5b (cls x.Cells ds)).length:Int))) then
    (ix (a5b (cls x.Cells ds)) s68).bind λv72=>
    (ix ((clr x.Cells ds).map wcR) v72).bind λv73=>
    (a5r s69 (⟨2,v72,v73.Call⟩:p6)).bind λv74=>
    some (.inl (s7 (s68+1),v74.1))
   else
   some (.inr s69)) (0,tqR x.Q)).bind K)=K (tqR (clH x ds).Q):=by
 have hq2:=hq
 rw[List.length_append] at hq2
 have key:=a0Y (f:=λ((s68,s69):Int × x6)=>
   if (decide (s68<((a5b (cls x.Cells ds)).length:Int))) then
    (ix (a5b (cls x.Cells ds)) s68).bind λv72=>
    (ix ((clr x.Cells ds).map wcR) v72).bind λv73=>
    (a5r s69 (⟨2,v72,v73.Call⟩:p6)).bind λv74=>
    some (Sum.inl (s7 (s68+1),v74.1))
   else
   some (.inr s69)) (t0:=tqR x.Q) (cls x.Cells ds).length (λk (q:x6)=>q=tqR ⟨x.Q.L++(clt x.Cells ds).take k,x.Q.Cap⟩) (λq=>q=tqR (clH x ds).Q) (by rw[←a1I];omega) (by simp) ?_ ?_
 ·obtain⟨e,h1,h2⟩:=key
  rw[h1,d09,h2]
 ·rintro k q hk rfl
  left
  have hw:=c01 (List.getElem_mem hk)
  have hk2:k<(clt x.Cells ds).length:=by rw[a1I];exact hk
  have ei:ix ((clr x.Cells ds).map wcR) (((cls x.Cells ds)[k]:Nat):Int)=some (wcR (a6g ds x.Cells[(cls x.Cells ds)[k]])):=by rw[a0X,b6m hw];rfl
  simp only[a4n,Int.ofNat_lt,hk,decide_true,if_true,b40 hk,d09,ei]
  have et:(⟨2,(((cls x.Cells ds)[k]:Nat):Int),(wcR (a6g ds x.Cells[(cls x.Cells ds)[k]])).Call⟩:p6)=tkR (clt x.Cells ds)[k]:=by
   rw[c02,a0k hw]
   show (⟨2,_,(a6g ds x.Cells[(cls x.Cells ds)[k]]).Call⟩:p6)=_
   rw[(b4D ds _).2.1]
   rfl
  rw[et,c5z _ (by dsimp only;rw[List.length_append,List.length_take];omega),b32 hc hd hq hcap hk2,d09,g9 (by rw[←a1I] at hk;omega)]
  exact⟨_,rfl,rfl⟩
 ·rintro q rfl
  refine⟨_,if_neg (by rw[a4n];simp),?_⟩
  rw[←a1I,List.take_length]
  rfl
end
theorem b0T(s:store_Store)(i:Nat)(c d:slab_Cell_store_Obj):E7 (E7 s i c) i d=E7 s i d:=by
 unfold E7
 dsimp only
 rw[List.set_set]
section
variable{s:store_Store}(hR:SR s){d:Int}(hd:d∈lv s)
include hR hd
def k1(s:store_Store)(d:Int):store_Store:=E7 s (B5 d) ⟨1,(ce s (B5 d)).Gen,ded (ob s d)⟩
def k2(s:store_Store)(d:Int):store_Store:=E7 s (B5 d) ⟨2,(ce s (B5 d)).Gen,ded (ob s d)⟩
theorem b4G:OkO s (ded (ob s d)):=by
 have ho:=H6 hR hd
 exact⟨ho.s1,ho.s2,Int.le_refl _,ho.wk,ho.p1,ho.p2,Nat.zero_le _⟩
theorem b76:seO s d (ded (ob s d))=k1 s d:=by
 have q:=u6 hR hd
 unfold seO a02 k1 E7
 rw[q.2.1]
theorem c5r:At (k1 s d) d (B5 d):=by
 have q:=u6 hR hd
 refine⟨by unfold k1;rw[W4];exact q.1,?_,?_⟩
 ·unfold k1;rw[J3 q.1,if_pos rfl]
 ·unfold k1;rw[J3 q.1,if_pos rfl];exact q.2.2
theorem c5s:SR (k1 s d):=by rw[←b76 hR hd];exact a07 (o:=ded (ob s d)) hR hd rfl (b4G hR hd)
theorem c5v:SR (k2 s d):=by
 have q:=u6 hR hd
 have hc:=hR.cell _ q.1
 unfold k2
 refine hR.E7 q.1 ⟨by simp,by simp,hc.2.2.1,hc.2.2.2⟩ (λq=>absurd (.inr rfl) q) (λ_=>⟨b4G hR hd,.inl q.2.1,?_⟩)
 show (ob s d).Serial=_
 rw[O9 hR q]
theorem c5t:Q4 (k2 s d) d (B5 d):=by
 have q:=u6 hR hd
 refine⟨by unfold k2;rw[W4];exact q.1,?_,?_⟩
 ·unfold k2;rw[J3 q.1,if_pos rfl];exact .inr rfl
 ·unfold k2;rw[J3 q.1,if_pos rfl];exact q.2.2
theorem c3Y:O5 (k1 s d).S d=some ((k2 s d).S,0):=by
 have q:=u6 hR hd
 have hR1:=c5s hR hd
 have q1:=c5r hR hd
 have hr:=H7 hR hd
 have hlen:=hR1.len
 have hH:Hnd d:=((a8s hR1).2 q1.d).2.1
 have hsl:(d-1) % 32=(B5 d:Nat):=((a8s hR1).2 q1.d).2.2.1
 have hg:(d-1) / 32=(ce s (B5 d)).Gen:=by
  have:=q.2.2
  have h24:=hR.len
  have:=q.1
  omega
 unfold O5 C2
 rw[a2q hR1 q1.d,d09,if_neg (by simp),b4c q1.1,d09,q1.2.1,if_neg (by simp),d09,if_neg (by simp),a2T (by omega),d09,if_pos hH,hsl,a31 (by omega),d09,if_pos hH,hg,a4P rfl q1.1 hlen,d09]
 have e:(ce (k1 s d) (B5 d)).Val=ded (ob s d):=by unfold k1;rw[J3 q.1,if_pos rfl]
 rw[e]
 congr 2
 show (E7 (k1 s d) (B5 d) _).S=(k2 s d).S
 unfold k1 k2
 rw[b0T]
theorem c5m(hw:(ob s d).Weak=0):gvA (k2 s d) (B5 d)=gnA s d:=by
 have q:=u6 hR hd
 have e:ce (k2 s d) (B5 d)=⟨2,(ce s (B5 d)).Gen,ded (ob s d)⟩:=by unfold k2;rw[J3 q.1,if_pos rfl]
 unfold gvA gnA gnC
 rw[e]
 rw[O9 hR q] at hw
 rw[if_pos hw]
 unfold k2
 rw[b0T]
 rfl
theorem c5u(hw:(ob s d).Weak≠0):k2 s d=gnA s d:=by
 have q:=u6 hR hd
 unfold k2 gnA gnC
 rw[O9 hR q] at hw ⊢
 rw[if_neg hw]
end
theorem b96{x:Hp}(hR:SR x.S){d:Int}(hd:d∈lv x.S):T6 x d=some (wS x (gnA x.S d)):=by
 unfold T6
 rw[b2m hR hd,d09]
 have e1:H9 x.S d (⟨(ob x.S d).Serial,0,(ob x.S d).Weak,(ob x.S d).Prog,(ob x.S d).Started,[]⟩:store_Obj)=some (k1 x.S d,0):=by
  rw[←b76 hR hd]
  exact a93 (o:=ded (ob x.S d)) hR hd rfl (b4G hR hd)
 rw[e1,d09,c3Y hR hd,d09]
 by_cases hw:(ob x.S d).Weak=0
 ·rw[if_pos (by simpa using hw),b8U (c5v hR hd) (c5t hR hd),d09,c5m hR hd hw]
  rfl
 ·rw[if_neg (by simpa using hw)]
  show some (wS x (k2 x.S d))=_
  rw[c5u hR hd hw]
theorem c6w{s:store_Store}(hR:SR s){d:Int}(hd:d∈lv s):b2M (sO (k1 s d)) d=some (sO (k2 s d)):=by
 have q:=u6 hR hd
 have hR1:=c5s hR hd
 have q1:=c5r hR hd
 have hlen:=hR1.len
 have hr:=H7 hR hd
 have hi:=q1.1
 have hi2:B5 d<(sO (k1 s d)).Cells.length:=by rw[y6];exact hi
 have I1:B5 d<(pl (sO (k1 s d))).Cells.length:=by rw[a0t];exact hi2
 have hlen2:(sO (k1 s d)).Cells.length≤24:=by rw[y6];exact hlen
 unfold b2M b6Y a9z
 rw[a1Q _ (by omega),d09,a8r (k1 s d) (by omega),a2q hR1 q1.d,d09,if_neg (by simp),b6U hi2,d09]
 have hst:(plc (B5 d) (sO (k1 s d)).Cells[B5 d]).State=1:=by
  have:=q1.2.1
  rw[C9 hi] at this
  simpa[plc,sO,cO] using this
 have hgen:(plc (B5 d) (sO (k1 s d)).Cells[B5 d]).Gen=(ce s (B5 d)).Gen:=by
  have:(ce (k1 s d) (B5 d)).Gen=(ce s (B5 d)).Gen:=by unfold k1;rw[J3 q.1,if_pos rfl]
  rw[C9 hi] at this
  simpa[plc,sO,cO] using this
 rw[hst,if_neg (by simp),d09,if_neg (by simp),d09]
 dsimp only
 rw[b6U hi2,d09]
 have w3:∀c:z8,a0c (pl (sO (k1 s d))) ((B5 d:Nat):Int) c=some ⟨(pl (sO (k1 s d))).Cells.set (B5 d) c,(pl (sO (k1 s d))).Last⟩:=λc=>by
  unfold a0c
  rw[K5 (by omega) (by rw[a0t];omega),d09,l6 I1,d09,Int.toNat_natCast]
 rw[w3,d09,d09,b3f _ _ (by omega) (by simp[a0t]),d09,hgen]
 unfold k2
 rw[←b0T s (B5 d) ⟨1,(ce s (B5 d)).Gen,ded (ob s d)⟩,b9w]
 show some _=some (⟨(sO (k1 s d)).Cells.set (B5 d) _,_,_⟩:j1)
 congr 1
 congr 1
 refine List.ext_getElem (by simp) λk h1 h2=>?_
 have hk:k<(k1 s d).S.Cells.length:=by simpa[y6] using h1
 have hk2:k<(sO (k1 s d)).Cells.length:=by rw[y6];exact hk
 have hk3:k<(pl (sO (k1 s d))).Cells.length:=by rw[a0t];exact hk2
 simp only[List.getElem_map,List.getElem_range,List.getElem_set]
 rw[a4g I1,a0k hk2,a0k hk3]
 by_cases e:k=B5 d
 ·subst e
  rw[if_pos rfl,if_pos rfl]
  have e2:(sO (k1 s d)).Cells[B5 d].Val=oo (ded (ob s d)):=by
   have:(ce (k1 s d) (B5 d)).Val=ded (ob s d):=by unfold k1;rw[J3 q.1,if_pos rfl]
   rw[←this,C9 hi]
   simp[sO,cO]
  rw[e2]
  rfl
 ·rw[if_neg e,if_neg (Ne.symm e)]
  simp[sO,pl,plc,cO]
theorem c6k{x:Hp}(hR:SR x.S){d:Int}(hd:d∈lv x.S):a6I (hO x) d=some (hO (wS x (gnA x.S d))):=by
 unfold a6I
 rw[show (hO x).S=sO x.S from rfl,a6o hR hd,d09]
 have e1:L0 (sO x.S) d (⟨(oo (ob x.S d)).Serial,0,(oo (ob x.S d)).Weak,(oo (ob x.S d)).Prog,(oo (ob x.S d)).Started,[]⟩:A5)=some (sO (k1 x.S d),0):=by
  rw[←b76 hR hd]
  exact a94 (o:=ded (ob x.S d)) hR hd rfl (b4G hR hd)
 rw[e1,d09,c6w hR hd,d09]
 by_cases hw:(ob x.S d).Weak=0
 ·rw[if_pos (by simpa[oo] using hw),c1K (c5v hR hd) (c5t hR hd),d09,c5m hR hd hw]
  rfl
 ·rw[if_neg (by simpa[oo] using hw)]
  show some (hO (wS x (k2 x.S d)))=_
  rw[c5u hR hd hw]
end Go.Sh
namespace Go.Sh
theorem b9t:∀(l:List Int) {x:Hp},SR x.S→SR (l.foldl O1 x).S
 | [],x,h=>h
 | v::l,x,h=>b9t l (x:=O1 x v) (b8r h v)
theorem b9s:∀(l:List Int) {x:Hp},SR x.S→SL x→SL (l.foldl O1 x)
 | [],x,_,h=>h
 | v::l,x,hR,h=>b9s l (x:=O1 x v) (b8r hR v) (h.rls hR v)
theorem c0n(l:List Int){k:Nat}(hk:k<l.length)(x:Hp):(l.take (k+1)).foldl O1 x=O1 ((l.take k).foldl O1 x) l[k]:=by
 rw[a0J hk,List.foldl_append]
 rfl
theorem b5A{y:Hp}(hR:SR y.S)(l:List Int)(hl:l.length≤1000000)(hb:∀v∈l,v≤9223372036854775807){K:Hp→Option Hp}:((lp (S:=Int × hold_Heap) (E:=hold_Heap) (λ((s35,s36):Int × hold_Heap)=>
     if (decide (s35<(l.length:Int))) then
      (ix l s35).bind λv39=>
      (D7 s36 v39).bind λv40=>
      some (.inl (s7 (s35+1),v40))
     else
     some (.inr s36)) (0,y)).bind K)=K (l.foldl O1 y):=by
 have key:=H2 l O1 id (λk z=>SR z.S) (b0:=y) (f:=λ((s35,s36):Int × hold_Heap)=>
     if (decide (s35<(l.length:Int))) then
      (ix l s35).bind λv39=>
      (D7 s36 v39).bind λv40=>
      some (Sum.inl (s7 (s35+1),v40))
     else
     some (.inr s36)) (by omega) hR (λk hk z hz=>?_) (λz hz=>by simp)
 ·rw[key,d09]
  rfl
 ·simp only[Int.ofNat_lt,hk,decide_true,if_true,l6 hk,d09,a5w hz (hb _ (List.getElem_mem hk))]
  rw[g9]
  exact⟨rfl,b8r hz _⟩
theorem b2R{y:Hp}(hR:SR y.S)(l:List Int)(hl:l.length≤1000000)(hb:∀v∈l,v≤9223372036854775807){K:g6→Option g6}:((lp (S:=Int × g6) (E:=g6) (λ((s45,s46):Int × g6)=>
      if (decide (s45<(l.length:Int))) then
       (ix l s45).bind λv49=>
       (G5 s46 v49).bind λv50=>
       some (.inl (s7 (s45+1),v50))
      else
      some (.inr s46)) (0,hO y)).bind K)=K (hO (l.foldl O1 y)):=by
 have key:=a0Y (f:=λ((s45,s46):Int × g6)=>
      if (decide (s45<(l.length:Int))) then
       (ix l s45).bind λv49=>
       (G5 s46 v49).bind λv50=>
       some (Sum.inl (s7 (s45+1),v50))
      else
      some (.inr s46)) (t0:=hO y) l.length (λk z=>z=hO ((l.take k).foldl O1 y)) (λz=>z=hO (l.foldl O1 y)) (by omega) rfl ?_ ?_
 ·obtain⟨e,h1,h2⟩:=key
  rw[h1,d09,h2]
 ·rintro k z hk rfl
  left
  have hz:=b9t (l.take k) hR
  simp only[Int.ofNat_lt,hk,decide_true,if_true,l6 hk,d09,a7w hz (hb _ (List.getElem_mem hk))]
  rw[g9,←c0n l hk]
  exact⟨_,rfl,rfl⟩
 ·rintro z rfl
  exact⟨_,if_neg (by simp),by rw[List.take_length]⟩
theorem b6x(s:store_Store)(ds:List Int){k:Nat}(hk:k<ds.length):gnL s (ds.take (k+1))=gnA (gnL s (ds.take k)) ds[k]:=by
 unfold gnL
 rw[a0J hk,List.foldl_append]
 rfl
section
variable{y:Hp}(hR:SR y.S){ds:List Int}(hn:ds.Nodup)(hm:∀d∈ds,d∈lv y.S)
include hR hn hm
theorem b2s{k:Nat}(hk:k<ds.length):SR (gnL y.S (ds.take k))∧ds[k]∈lv (gnL y.S (ds.take k)):=by
 have g:=a2P (ds.take k) hR ((List.take_sublist k ds).nodup hn) λd hd=>hm d (List.mem_of_mem_take hd)
 refine⟨g.sr,?_⟩
 rw[g.lv,List.mem_filter,decide_eq_true_iff]
 refine⟨hm _ (List.getElem_mem hk),λq=>?_⟩
 rw[←List.take_append_drop k ds,List.nodup_append] at hn
 exact hn.2.2 _ q ds[k] (by rw[List.drop_eq_getElem_cons hk];exact List.mem_cons_self ..) rfl
theorem b95(hl:ds.length≤1000){K:Hp→Option Hp}:((lp (S:=Int × hold_Heap) (E:=hold_Heap) (λ((s42,s43):Int × hold_Heap)=>
    if (decide (s42<(ds.length:Int))) then
     (ix ds s42).bind λv46=>
     (T6 s43 v46).bind λv47=>
     some (.inl (s7 (s42+1),v47))
    else
    some (.inr s43)) (0,y)).bind K)=K (wS y (gnL y.S ds)):=by
 have key:=a0Y (f:=λ((s42,s43):Int × hold_Heap)=>
    if (decide (s42<(ds.length:Int))) then
     (ix ds s42).bind λv46=>
     (T6 s43 v46).bind λv47=>
     some (Sum.inl (s7 (s42+1),v47))
    else
    some (.inr s43)) (t0:=y) ds.length (λk z=>z=wS y (gnL y.S (ds.take k))) (λz=>z=wS y (gnL y.S ds)) (by omega) rfl ?_ ?_
 ·obtain⟨e,h1,h2⟩:=key
  rw[h1,d09,h2]
 ·rintro k z hk rfl
  left
  obtain⟨h1,h2⟩:=b2s hR hn hm hk
  simp only[Int.ofNat_lt,hk,decide_true,if_true,l6 hk,d09,b96 (x:=wS y (gnL y.S (ds.take k))) h1 h2]
  rw[g9,b6x _ _ hk]
  exact⟨_,rfl,rfl⟩
 ·rintro z rfl
  exact⟨_,if_neg (by simp),by rw[List.take_length]⟩
theorem b6H(hl:ds.length≤1000){K:g6→Option g6}:((lp (S:=Int × g6) (E:=g6) (λ((s52,s53):Int × g6)=>
     if (decide (s52<(ds.length:Int))) then
      (ix ds s52).bind λv56=>
      (a6I s53 v56).bind λv57=>
      some (.inl (s7 (s52+1),v57))
     else
     some (.inr s53)) (0,hO y)).bind K)=K (hO (wS y (gnL y.S ds))):=by
 have key:=a0Y (f:=λ((s52,s53):Int × g6)=>
     if (decide (s52<(ds.length:Int))) then
      (ix ds s52).bind λv56=>
      (a6I s53 v56).bind λv57=>
      some (Sum.inl (s7 (s52+1),v57))
     else
     some (.inr s53)) (t0:=hO y) ds.length (λk z=>z=hO (wS y (gnL y.S (ds.take k)))) (λz=>z=hO (wS y (gnL y.S ds))) (by omega) rfl ?_ ?_
 ·obtain⟨e,h1,h2⟩:=key
  rw[h1,d09,h2]
 ·rintro k z hk rfl
  left
  obtain⟨h1,h2⟩:=b2s hR hn hm hk
  simp only[Int.ofNat_lt,hk,decide_true,if_true,l6 hk,d09,c6k (x:=wS y (gnL y.S (ds.take k))) h1 h2]
  rw[g9,b6x _ _ hk]
  exact⟨_,rfl,rfl⟩
 ·rintro z rfl
  exact⟨_,if_neg (by simp),by rw[List.take_length]⟩
end
section
variable{x:Hp}(hx:Q5 x){ds:List Int}(hn:ds.Nodup)(hm:∀d∈ds,d∈lv x.S)
include hx hn hm
theorem b4H:ds.length≤24:=Nat.le_trans (a9r hn hm) (U5 (p5.2 hx.sh.sr))
theorem b4O{d:Int}(hd:d∈lv x.S):(ob x.S d).Fields.length≤4:=(H6 hx.sh.sr hd).fl
theorem b5b{d:Int}(hd:d∈lv x.S):(outs x.S d).length≤4:=Nat.le_trans (b8b _) (b4O hx hn hm hd)
theorem a7c:∀(l:List Int),(∀d∈l,d∈lv x.S)→(l.flatMap (outs x.S)).length≤4*l.length
 | [],_=>by simp
 | d::l,h=>by
  rw[List.flatMap_cons,List.length_append,List.length_cons]
  have:=a7c l λe he=>h e (List.mem_cons_of_mem _ he)
  have:=b5b hx hn hm (h d (List.mem_cons_self ..))
  omega
theorem b9f:∀v∈ds.flatMap (outs x.S)++(wot x.T ds).2,v≤9223372036854775807:=λv hv=>by
 rcases List.mem_append.1 hv with q | q
 ·obtain⟨d,hd,q⟩:=List.mem_flatMap.1 q
  obtain⟨q,_⟩:=a8y.1 q
  rcases hx.sh.fl d (hm d hd) v q with e | e
  ·omega
  ·exact a4r hx.sh.sr e
 ·by_cases h0:v=0
  ·omega
  ·have hl:=b4H hx hn hm
   have h3:=(a3m hx.sh.hr ds (by omega)).2.2.2.2.2 v
   have h4:=a5I.2 ⟨h0,q⟩
   have h5:0<own x.T v:=by omega
   obtain⟨p,hp,hq⟩:=List.countP_pos_iff.1 h5
   have hq:(v != 0&&p.Val==v)=true:=hq
   rw[Bool.and_eq_true,beq_iff_eq] at hq
   have:=(hx.sh.pr _ _ (a0m.1 hp)).2
   rw[hq.2] at this
   exact a4r hx.sh.sr this
theorem b6R:(ds.flatMap (outs x.S)++(wot x.T ds).2).length≤200:=by
 have hl:=b4H hx hn hm
 have h1:=a7c hx hn hm ds hm
 have h2:=(a3m hx.sh.hr ds (by omega)).2.2.1
 rw[List.length_append]
 omega
theorem c3G(hq:(x.Q.L++clt x.Cells ds).length≤30){l:List Int}(h1:P7 x l=some ds):a0G x l=some (buH x ds):=by
 have hl:=b4H hx hn hm
 have hR:=hx.sh.sr
 obtain⟨w1,w2,w3,w4,w5,w6⟩:=a3m hx.sh.hr ds (by omega)
 have ol:=b6R hx hn hm
 have fl:=a7c hx hn hm ds hm
 unfold a0G
 rw[h1,d09,b7E (by have:=hx.sh.c6;omega) (by omega) hq hx.sh.cap,d09]
 simp only[jn]
 have key:=H2 ds (λb d=>b++outs x.S d) id (λk b=>b.length≤4*k) (b0:=[]) (f:=λ((s49,s50):Int × (List Int))=>
   if (decide (s49<(ds.length:Int))) then
    (ix ds s49).bind λv53=>
    (p8 (clH x ds).S v53).bind λv54=>
    (a2H v54.1.Fields).bind λv55=>
    (app 8 s50 v55).bind λv56=>
    some (Sum.inl (s7 (s49+1),v56))
   else
   some (.inr s50)) (by omega) (by simp) (λk hk b hb=>?_) (λb hb=>by simp)
 ·rw[key,d09,a2O,List.nil_append]
  dsimp only[id]
  rw[show (clH x ds).T=x.T from rfl,w1,d09]
  have ol2:=ol
  rw[List.length_append] at ol2
  rw[A0 (by omega) (by omega),d09]
  have k1:=b95 (y:=⟨(clH x ds).S,(clH x ds).Roots,(clH x ds).Cells,(wot x.T ds).1,(clH x ds).Q⟩) hR hn hm (by omega) (K:=λe=>(lp (S:=Int × hold_Heap) (E:=hold_Heap) (λ((s35,s36):Int × hold_Heap)=>
     if (decide (s35<((ds.flatMap (outs x.S)++(wot x.T ds).2).length:Int))) then
      (ix (ds.flatMap (outs x.S)++(wot x.T ds).2) s35).bind λv39=>
      (D7 s36 v39).bind λv40=>
      some (.inl (s7 (s35+1),v40))
     else
     some (.inr s36)) (0,e)).bind λe34=>some e34)
  refine Eq.trans k1 ?_
  have g:=a2P ds hR hn hm
  have k2:=b5A (y:=wS (⟨(clH x ds).S,(clH x ds).Roots,(clH x ds).Cells,(wot x.T ds).1,(clH x ds).Q⟩:Hp) (gnL x.S ds)) g.sr _ (by omega) (b9f hx hn hm) (K:=λe34=>some e34)
  refine Eq.trans k2 ?_
  rfl
 ·have hd:=hm _ (List.getElem_mem hk)
  have f4:=b4O hx hn hm hd
  have o4:=b5b hx hn hm hd
  simp only[Int.ofNat_lt,hk,decide_true,if_true,l6 hk,d09,show (clH x ds).S=x.S from rfl,b2m hR hd,b6N _ (by omega:(ob x.S ds[k]).Fields.length≤1000000)]
  have e:nz (ob x.S ds[k]).Fields=outs x.S ds[k]:=rfl
  rw[e,A0 (by omega) (by omega),d09,g9]
  exact⟨rfl,by rw[List.length_append];omega⟩
theorem b9K(hq:(x.Q.L++clt x.Cells ds).length≤30){l:List Int}(h1:a9P (hO x) l=some ds):a9N (hO x) l=some (hO (buH x ds)):=by
 have hl:=b4H hx hn hm
 have hR:=hx.sh.sr
 obtain⟨w1,w2,w3,w4,w5,w6⟩:=a3m hx.sh.hr ds (by omega)
 have ol:=b6R hx hn hm
 have fl:=a7c hx hn hm ds hm
 have c6:=hx.sh.c6
 unfold a9N
 rw[h1,d09,show (hO x).Cells=x.Cells.map wcR from rfl,c3I _ _ (by omega) (by omega),d09]
 simp only[jn]
 rw[show (hO x).Q=tqR x.Q from rfl,c5P (by omega) (by omega) hq hx.sh.cap]
 have key:=H2 ds (λb d=>b++outs x.S d) id (λk b=>b.length≤4*k) (b0:=[]) (f:=λ((s59,s60):Int × (List Int))=>
    if (decide (s59<(ds.length:Int))) then
     (ix ds s59).bind λv63=>
     (C6 (hO x).S v63).bind λv64=>
     (a1x v64.1.Fields).bind λv65=>
     (app 8 s60 v65).bind λv66=>
     some (Sum.inl (s7 (s59+1),v66))
    else
    some (.inr s60)) (by omega) (by simp) (λk hk b hb=>?_) (λb hb=>by simp)
 ·rw[key,d09,a2O,List.nil_append]
  dsimp only[id]
  rw[show (hO x).T=x.T.map I1 from rfl,w4,d09]
  dsimp only
  have ol2:=ol
  rw[List.length_append] at ol2
  rw[A0 (by omega) (by omega),d09]
  have k1:=b6H (y:=⟨(clH x ds).S,(clH x ds).Roots,(clH x ds).Cells,(wot x.T ds).1,(clH x ds).Q⟩) hR hn hm (by omega) (K:=λe=>(lp (S:=Int × g6) (E:=g6) (λ((s45,s46):Int × g6)=>
      if (decide (s45<((ds.flatMap (outs x.S)++(wot x.T ds).2).length:Int))) then
       (ix (ds.flatMap (outs x.S)++(wot x.T ds).2) s45).bind λv49=>
       (G5 s46 v49).bind λv50=>
       some (.inl (s7 (s45+1),v50))
      else
      some (.inr s46)) (0,e)).bind λe44=>some e44)
  refine Eq.trans k1 ?_
  have g:=a2P ds hR hn hm
  have k2:=b2R (y:=wS (⟨(clH x ds).S,(clH x ds).Roots,(clH x ds).Cells,(wot x.T ds).1,(clH x ds).Q⟩:Hp) (gnL x.S ds)) g.sr _ (by omega) (b9f hx hn hm) (K:=λe44=>some e44)
  refine Eq.trans k2 ?_
  rfl
 ·have hd:=hm _ (List.getElem_mem hk)
  have f4:=b4O hx hn hm hd
  have o4:=b5b hx hn hm hd
  simp only[Int.ofNat_lt,hk,decide_true,if_true,l6 hk,d09,show (hO x).S=sO x.S from rfl,a6o hR hd]
  have e:a1x (oo (ob x.S ds[k])).Fields=some (outs x.S ds[k]):=b2y _ (by show (ob x.S ds[k]).Fields.length≤_;omega)
  rw[e,d09,A0 (by omega) (by omega),d09,g9]
  exact⟨rfl,by rw[List.length_append];omega⟩
end
end Go.Sh
namespace Go.Sh
theorem c3E{x:Hp}(hR:SR x.S)(hS:SL x){ds:List Int}(hn:ds.Nodup)(hm:∀d∈ds,d∈lv x.S)(t:Tb):SL (a4U x ds t):=λk hk=>by
 have g:=a2P ds hR hn hm
 have hk:k∈lv (gnL x.S ds):=hk
 rw[g.lv,List.mem_filter,decide_eq_true_iff] at hk
 have e:ob (a4U x ds t).S k=ob x.S k:=g.ob k hk.1 hk.2
 rw[e]
 exact hS k hk.1
theorem c5T{x:Hp}(hR:SR x.S)(hS:SL x){ds:List Int}(hn:ds.Nodup)(hm:∀d∈ds,d∈lv x.S):SL (buH x ds):=
 b9s _ (x:=a4U x ds (wot x.T ds).1) (a2P ds hR hn hm).sr (c3E hR hS hn hm _)
theorem c64{x:Hp}(hR:SR x.S)(hS:SL x){h:Int}(hh:h∈lv x.S):SL (quH x h):=by
 have hok:=b5M hR hh
 have r1:=a07 (o:=srt (ob x.S h)) hR hh rfl hok
 refine SL.C0 (x:=⟨seO x.S h (srt (ob x.S h)),x.Roots,x.Cells,x.T,⟨x.Q.L ++ [qtk x h],x.Q.Cap⟩⟩) (λk hk=>?_) r1 h
 dsimp only at hk ⊢
 rw[a3d (o:=srt (ob x.S h)) hR hh rfl hok] at hk
 rw[a1B (o:=srt (ob x.S h)) hR hh rfl hok (a4r hR hk)]
 split
 ·exact hS h hh
 ·exact hS k hk
theorem c7k{x:Hp}(hx:Q5 x)(hS:SL x):SL (stp x):=by
 cases h:zr x with
 | nil=>rw[a7B h];exact hS
 | cons z l=>
  have hz:=(a3n.1 (show z∈zr x by rw[h];exact List.mem_cons_self ..)).1
  rw[a3i h]
  split
  ·exact c64 hx.sh.sr hS hz
  ·exact c5T hx.sh.sr hS (by simp) (by simpa using hz)
theorem b5N{x:Hp}(hx:Q5 x)(hS:SL x)(n:Nat):SL (stN n x):=by
 induction n with
 | zero=>exact hS
 | succ n ih=>rw[a1b];exact c7k (T7 hx n) ih
theorem c4O{x:Hp}(hx:Q5 x)(hS:SL x):SL (M6 x):=b5N hx hS 100
section
variable{x:Hp}(hx:Q5 x)(hS:SL x)
include hx hS
theorem b4z{z:Int}(hz:z∈zr x):(x.Q.L++clt x.Cells [z]).length≤30:=by
 have h1:=(b3q hx hz).sh.q30
 have hzl:=(a3n.1 hz).1
 rw[(b14 hx.sh.sr (ds:=[z]) (by simp) (by simpa using hzl)).2.2.2] at h1
 exact h1
theorem c0r(h:zr x = []):((a0H x).bind λv4=>
  if ((v4.length:Int)==0) then
   some (Sum.inr x)
  else
  (ix v4 0).bind λv5=>
  (p8 x.S v5).bind λv6=>
  (I9 v6.1).bind λv7=>
  if v7 then
   (T5 x v5).bind λv8=>
   some (.inl v8)
  else
  (cut v4 0 1).bind λv9=>
  (a0G x v9).bind λv10=>
  some (Sum.inl (α:=Hp) (β:=Hp) v10))=some (.inr x):=by
 rw[zero_eq hx.sh.sr,d09,h]
 rfl
theorem c7P(z:Int)(l:List Int):cut (z::l) 0 1=some [z]:=by
 unfold cut
 rw[if_pos (by simp;omega)]
 simp
theorem b8t(h:zr x ≠ []):((a0H x).bind λv4=>
  if ((v4.length:Int)==0) then
   some (Sum.inr x)
  else
  (ix v4 0).bind λv5=>
  (p8 x.S v5).bind λv6=>
  (I9 v6.1).bind λv7=>
  if v7 then
   (T5 x v5).bind λv8=>
   some (.inl v8)
  else
  (cut v4 0 1).bind λv9=>
  (a0G x v9).bind λv10=>
  some (Sum.inl (α:=Hp) (β:=Hp) v10))=some (.inl (stp x)):=by
 cases hz:zr x with
 | nil=>exact absurd hz h
 | cons z l=>
  have hzm:z∈zr x:=by rw[hz];exact List.mem_cons_self ..
  have hzl:=(a3n.1 hzm).1
  have hR:=hx.sh.sr
  rw[zero_eq hR,d09,hz,if_neg (by simp;omega),show ix (z::l) 0=some z from rfl,d09,b2m hR hzl,d09,b9g,d09,a3i hz]
  by_cases hd:due (ob x.S z)=true
  ·rw[if_pos hd,if_pos hd,c0i hx hS (a4r hR hzl),d09]
   unfold quD
   rw[if_pos ⟨hzl,hd⟩]
  ·rw[if_neg hd,if_neg hd,c7P hx hS,d09,c3G hx (ds:=[z]) (by simp) (by simpa using hzl) (b4z hx hS hzm) (by rw[b43 hR [z] (by simp) (by simpa using a4r hR hzl),b6J hzl]),d09]
theorem b0X:a0g x=some (M6 x):=by
 obtain⟨n,hn,h1,h2,h3⟩:=b0U hx
 unfold a0g
 refine a4p (λj=>stN j x) rfl n (λ_=>True) (by omega) trivial (λk hk _=>.inl ⟨?_,trivial⟩) (λ_=>⟨stN n x,?_,by rw[h3]⟩)
 ·have:=b8t (T7 hx k) (b5N hx hS k) (h2 k hk)
  rw[←a1b] at this
  exact this
 ·exact c0r (T7 hx n) (b5N hx hS n) h1
theorem c4I{k:Nat}(hk:k<100)(h:zr x ≠ []){E:Type}{e:E}:((a23 (hO x)).bind λv35=>
     if ((v35.length:Int)==0) then
      some (Sum.inr e)
     else
     (ix v35 0).bind λv36=>
     (a9O (hO x) v36).bind λv37=>
     if v37 then
      (a5t (hO x) v36).bind λv38=>
      some (.inl (s7 ((k:Int)+1),v38))
     else
     (cut v35 0 1).bind λv39=>
     (a9N (hO x) v39).bind λv40=>
     some (Sum.inl (s7 ((k:Int)+1),v40)))=some (.inl (((k+1:Nat):Int),hO (stp x))):=by
 cases hz:zr x with
 | nil=>exact absurd hz h
 | cons z l=>
  have hzm:z∈zr x:=by rw[hz];exact List.mem_cons_self ..
  have hzl:=(a3n.1 hzm).1
  have hR:=hx.sh.sr
  rw[b6b hR,d09,hz,if_neg (by simp;omega),show ix (z::l) 0=some z from rfl,d09,c5c hx hS (a4r hR hzl),d09,decide_eq_true hzl,Bool.true_and,a3i hz,g9]
  by_cases hd:due (ob x.S z)=true
  ·rw[if_pos hd,if_pos hd,c2K hx hS (a4r hR hzl),d09]
   unfold quD
   rw[if_pos ⟨hzl,hd⟩]
  ·rw[if_neg hd,if_neg hd,c7P hx hS,d09,b9K hx (ds:=[z]) (by simp) (by simpa using hzl) (b4z hx hS hzm) (by rw[c56 hR [z] (by simp) (by simpa using a4r hR hzl),b6J hzl]),d09]
theorem b25:W2 (hO x)=some (hO (M6 x)):=by
 obtain⟨n,hn,h1,h2,h3⟩:=b0U hx
 unfold W2
 simp only[jn]
 refine a4p (λj=>((j:Int),hO (stN j x))) (by rfl) n (λ_=>True) (by omega) trivial (λk hk _=>.inl ⟨?_,trivial⟩) (λ_=>⟨.inl (hO (stN n x)),?_,by rw[h3]⟩)
 ·dsimp only
  rw[if_pos (by simp;omega)]
  have:=c4I (T7 hx k) (b5N hx hS k) (k:=k) (by omega) (h2 k hk) (e:=(Sum.inl (hO (stN k x)):g6 ⊕ g6))
  rw[←a1b] at this
  exact this
 ·dsimp only
  rw[if_pos (by simp;omega),b6b (T7 hx n).sh.sr,d09,h1]
  rfl
end
end Go.Sh
namespace Go.Sh
def D6(n l m e:Int):Int:=if n<l∨n > m then e else 0
def N9(a b c:Int):Int:=if a≠0 then a else if b≠0 then b else c
def A7(k a b c:Int):Int:=
 if k=1 then N9 (D6 a 0 5 6) (D6 b 0 4 1) (D6 c (-1) 5 13)
 else if k=2∨k=9∨k=10 then N9 (D6 a 0 5 6) (D6 b 0 5 6) 0
 else if k=3 then D6 a 0 5 6
 else if k=4 then N9 (D6 a 0 5 6) (D6 b 0 5 6) (D6 c 0 3 5)
 else if k=5 then N9 (D6 a 0 5 6) (D6 b 0 3 5) (D6 c (-1) 5 6)
 else if k=6 then N9 (D6 a 0 5 7) (D6 b (-1) 5 6) (D6 c (-1) 5 13)
 else if k=7 then N9 (D6 a 0 5 6) (D6 b 0 5 7) 0
 else if k=8 then N9 (D6 a 0 5 6) (D6 b (-1) 5 6) 0
 else if k=11 then 0
 else if k=12 then D6 a 0 200 12
 else 14
def b5z:g7:=⟨some 178,0,5,6⟩
def c4C:g7:=⟨some 179,0,5,6⟩
def c8f:g7:=⟨some 179,-1,5,6⟩
def c8m:g7:=⟨some 181,-1,5,13⟩
def b06:List (Int × List g7):=[(1,[b5z,⟨some 179,0,4,1⟩,c8m]),(2,[b5z,c4C]),(3,[b5z]),(4,[b5z,c4C,⟨some 181,0,3,5⟩]),
 (5,[b5z,⟨some 179,0,3,5⟩,⟨some 181,-1,5,6⟩]),(6,[⟨some 178,0,5,7⟩,c8f,c8m]),(7,[b5z,⟨some 179,0,5,7⟩]),(8,[b5z,c8f]),(9,[b5z,c4C]),(10,[b5z,c4C]),(11,[]),(12,[⟨some 178,0,200,12⟩])]
theorem b7F:a4W=some b06:=by kernel_rfl
def a1Y(o:code_Op)(d:g7):Int:=if d.part=some 178 then o.A else if d.part=some 179 then o.B else o.C
def a7Y(o:code_Op)(d:g7):Bool:=decide (a1Y o d<d.least)||decide (a1Y o d > d.most)
def a85(o:code_Op):List g7→Int ⊕ Unit
 | []=>.inr ()
 | d::ds=>if a7Y o d then .inl d.e else a85 o ds
theorem b6v(o:code_Op)(d:g7)(ds:List g7):a85 o (d::ds)=if a7Y o d then .inl d.e else a85 o ds:=rfl
def b8N(d:g7):Prop:=d.part=some 178∨d.part=some 179∨d.part=some 181
theorem c6Y(o:code_Op){d:g7}(h:b8N d):a86 d.part o=some (a1Y o d):=by
 unfold a1Y
 rcases h with h | h | h
 ·rw[h];rfl
 ·rw[h];rfl
 ·rw[h];rfl
theorem c6z(o:code_Op)(ds:List g7)(hl:ds.length≤10)(hp:∀d∈ds,b8N d):lp (S:=Int) (E:=Int ⊕ Unit) (λ(s11:Int)=>
   if (decide (s11<(ds.length:Int))) then
    (ix ds s11).bind λv13=>
    (a86 v13.part o).bind λv14=>
    if ((decide (v14<v13.least))||(decide (v14 > v13.most))) then
     some (.inr (.inl v13.e))
    else
    some (.inl (s7 (s11+1)))
   else
   some (.inr (.inr ()))) 0=some (a85 o ds):=by
 refine a2v (b4g ds.length (λk=>a85 o ds=a85 o (ds.drop k)) (λe=>e=a85 o ds) (by omega) rfl (λk hk hP=>?_) (λhP=>?_))
 ·rw[if_pos (by simpa using hk),l6 hk,d09,c6Y o (hp _ (List.getElem_mem hk)),d09]
  rw[List.drop_eq_getElem_cons hk,b6v] at hP
  by_cases c:a7Y o ds[k]=true
  ·rw[if_pos (show ((decide (a1Y o ds[k]<ds[k].least))||(decide (a1Y o ds[k] > ds[k].most)))=true from c)]
   rw[if_pos c] at hP
   exact .inr ⟨_,rfl,hP.symm⟩
  ·rw[if_neg (show ¬((decide (a1Y o ds[k]<ds[k].least))||(decide (a1Y o ds[k] > ds[k].most)))=true from c),g9]
   rw[if_neg c] at hP
   exact .inl ⟨rfl,hP⟩
 ·rw[List.drop_length] at hP
  exact⟨_,if_neg (by simp),hP.symm⟩
theorem c3M:∀p∈b06,p.2.length≤10∧∀d∈p.2,b8N d:=by
 have:b06.all (λp=>decide (p.2.length≤10)&&p.2.all λd=>(d.part==some 178)||(d.part==some 179)||(d.part==some 181))=true:=by kernel_rfl
 intro p hp
 have:=List.all_eq_true.1 this p hp
 rw[Bool.and_eq_true,decide_eq_true_iff,List.all_eq_true] at this
 refine⟨this.1,λd hd=>?_⟩
 have:=this.2 d hd
 simp only[Bool.or_eq_true,beq_iff_eq] at this
 unfold b8N
 rcases this with (h | h) | h
 ·exact .inl h
 ·exact .inr (.inl h)
 ·exact .inr (.inr h)
theorem b86{m:List (Int × List g7)}{k:Int}{v:List g7}(h:y4 m k=some v):(k,v)∈m:=by
 induction m with
 | nil=>cases h
 | cons p m ih=>
  unfold y4 at h
  split at h
  ·rename_i c
   have:k=p.1:=by simpa using c
   cases h
   subst this
   exact List.mem_cons_self ..
  ·exact List.mem_cons_of_mem _ (ih h)
def b0c(o:code_Op)(ds:List g7):Int:=match a85 o ds with
 | .inl e=>e
 | .inr _=>0
theorem c41(o:code_Op):b0c o []=0:=rfl
theorem b0d(o:code_Op)(d:g7)(ds:List g7):b0c o (d::ds)=if a7Y o d then d.e else b0c o ds:=by
 unfold b0c
 rw[b6v]
 cases a7Y o d <;> rfl
theorem b4Z(o:code_Op)(d:g7):D6 (a1Y o d) d.least d.most d.e=if a7Y o d then d.e else 0:=by
 unfold D6 a7Y
 by_cases h:a1Y o d<d.least∨a1Y o d > d.most
 ·rw[if_pos h,if_pos (by simpa using h)]
 ·rw[if_neg h,if_neg (by simpa using h)]
theorem c4Z(o:code_Op)(d:g7):b0c o [d]=D6 (a1Y o d) d.least d.most d.e:=by rw[b0d,c41,b4Z]
theorem c3f(o:code_Op)(d e:g7)(h1:d.e≠0):b0c o [d,e]=N9 (D6 (a1Y o d) d.least d.most d.e) (D6 (a1Y o e) e.least e.most e.e) 0:=by
 rw[b0d,c4Z,b4Z o d]
 unfold N9
 cases a7Y o d
 ·simp only[Bool.false_eq_true,if_false,ne_eq,not_true_eq_false]
  split
  ·rfl
  ·rename_i h;simpa using h
 ·simp[h1]
theorem c40(o:code_Op)(d e f:g7)(h1:d.e≠0)(h2:e.e≠0):b0c o [d,e,f]=N9 (D6 (a1Y o d) d.least d.most d.e) (D6 (a1Y o e) e.least e.most e.e) (D6 (a1Y o f) f.least f.most f.e):=by
 rw[b0d,b0d,c4Z,b4Z o d,b4Z o e]
 unfold N9
 cases a7Y o d <;> cases a7Y o e <;> simp[h1,h2]
theorem c1Z(o:code_Op):(match y4 b06 o.Kind with
  | none=>14
  | some ds=>b0c o ds)=A7 o.Kind o.A o.B o.C:=by
 obtain⟨k,a,b,c⟩:=o
 dsimp only
 by_cases h:1≤k∧k≤12
 ·have:k=1∨k=2∨k=3∨k=4∨k=5∨k=6∨k=7∨k=8∨k=9∨k=10∨k=11∨k=12:=by omega
  rcases this with rfl | rfl | rfl | rfl | rfl | rfl | rfl | rfl | rfl | rfl | rfl | rfl
  ·exact c40 _ _ _ _ (by decide) (by decide)
  ·exact c3f _ _ _ (by decide)
  ·exact c4Z _ _
  ·exact c40 _ _ _ _ (by decide) (by decide)
  ·exact c40 _ _ _ _ (by decide) (by decide)
  ·exact c40 _ _ _ _ (by decide) (by decide)
  ·exact c3f _ _ _ (by decide)
  ·exact c3f _ _ _ (by decide)
  ·exact c3f _ _ _ (by decide)
  ·exact c3f _ _ _ (by decide)
  ·rfl
  ·exact c4Z _ _
 ·have e:y4 b06 k=none:=by
   cases hm:y4 b06 k with
   | none=>rfl
   | some v=>
    have:=b86 hm
    simp only[b06,List.mem_cons,Prod.mk.injEq,List.not_mem_nil,or_false] at this
    omega
  rw[e]
  unfold A7
  repeat rw[if_neg (by omega)]
theorem b15(o:code_Op):a2L o=some (A7 o.Kind o.A o.B o.C):=by
 rw[←c1Z]
 unfold a2L
 rw[b7F,d09]
 cases h:y4 b06 o.Kind with
 | none=>rfl
 | some ds=>
  obtain⟨h1,h2⟩:=c3M _ (b86 h)
  rw[if_neg (by simp)]
  simp only[jn,Option.getD_some]
  rw[c6z o ds h1 h2,d09]
  unfold b0c
  cases a85 o ds <;> rfl
theorem c3U(n l m e:Int):a0w n l m e=some (D6 n l m e):=by
 unfold a0w D6
 by_cases h:n<l∨n > m
 ·rw[if_pos h,if_pos (by simpa using h)]
 ·rw[if_neg h,if_neg (by simpa using h)]
theorem c1H(a b c:Int):Y2 a b c=some (N9 a b c):=by
 unfold Y2 N9
 by_cases h:a=0
 ·by_cases g:b=0
  ·rw[if_neg (by simpa using h),if_neg (by simpa using g),if_neg (by simpa using h),if_neg (by simpa using g)]
  ·rw[if_neg (by simpa using h),if_pos (by simpa using g),if_neg (by simpa using h),if_pos (by simpa using g)]
 ·rw[if_pos (by simpa using h),if_pos (by simpa using h)]
theorem a63(o:a2f):b0L o=some (A7 o.Kind o.A o.B o.C):=by
 unfold b0L A7
 simp only[c3U,c1H,d09,jn]
 by_cases h:1≤o.Kind∧o.Kind≤12
 ·have:o.Kind=1∨o.Kind=2∨o.Kind=3∨o.Kind=4∨o.Kind=5∨o.Kind=6∨o.Kind=7∨o.Kind=8∨o.Kind=9∨o.Kind=10∨o.Kind=11∨o.Kind=12:=by omega
  rcases this with h | h | h | h | h | h | h | h | h | h | h | h <;> rw[h] <;> rfl
 ·have n:∀j:Int,1≤j→j≤12→(o.Kind==j)=false:=λj h1 h2=>by
   rw[beq_eq_false_iff_ne];omega
  simp only[n 1 (by omega) (by omega),n 2 (by omega) (by omega),n 3 (by omega) (by omega),n 4 (by omega) (by omega),n 5 (by omega) (by omega),n 6 (by omega) (by omega),n 7 (by omega) (by omega),n 8 (by omega) (by omega),n 9 (by omega) (by omega),n 10 (by omega) (by omega),n 11 (by omega) (by omega),n 12 (by omega) (by omega),Bool.false_eq_true,if_false]
  repeat rw[if_neg (by omega)]
end Go.Sh
namespace Go.Sh
end Go.Sh
namespace Go.Sh
end Go.Sh
namespace Go.Sh
end Go.Sh
namespace Go.Sh
def ooI(o:A5):store_Obj:=⟨o.Serial,o.Strong,o.Weak,o.Prog,o.Started,o.Fields⟩
def sOI(s:j1):store_Store:=⟨⟨s.Cells.map λc=>⟨c.State,c.Gen,ooI c.Val⟩,s.Last⟩,s.Serial⟩
def hOI(x:g6):Hp:=⟨sOI x.S,x.Roots,x.Cells.map λc=>⟨c.Target,c.Intact,c.Call⟩,x.T.map λp=>⟨p.State,p.Key,p.Val⟩,⟨x.Q.L.map λt=>⟨t.Kind,t.At,t.Prog⟩,x.Q.Cap⟩⟩
theorem c1P(x:Hp):hOI (hO x)=x:=by
 obtain⟨⟨⟨cs,l⟩,n⟩,r,w,t,⟨q,c⟩⟩:=x
 unfold hOI hO sOI sO tqR
 dsimp only
 have a1:(cs.map cO).map (λc=>(⟨c.State,c.Gen,ooI c.Val⟩:slab_Cell_store_Obj))=cs:=by
  rw[List.map_map]
  refine Eq.trans (List.map_congr_left λa _=>?_) (List.map_id cs)
  rfl
 have a2:(w.map wcR).map (λc=>(⟨c.Target,c.Intact,c.Call⟩:weak_Cell))=w:=by
  rw[List.map_map]
  refine Eq.trans (List.map_congr_left λa _=>?_) (List.map_id w)
  rfl
 have a3:(t.map I1).map (λp=>(⟨p.State,p.Key,p.Val⟩:hash_Place))=t:=by
  rw[List.map_map]
  refine Eq.trans (List.map_congr_left λa _=>?_) (List.map_id t)
  rfl
 have a4:(q.map tkR).map (λt=>(⟨t.Kind,t.At,t.Prog⟩:task_Task))=q:=by
  rw[List.map_map]
  refine Eq.trans (List.map_congr_left λa _=>?_) (List.map_id q)
  rfl
 rw[a1,a2,a3,a4]
theorem c6x{s:store_Store}(hR:SR s):E0 s=a0d (sO s):=by rw[a5g (p5.2 hR),a8w (p5.2 hR)]
section
variable{x:Hp}(hB:HB x)
include hB
end
end Go.Sh
namespace Go.Sh
structure Stl (x y:Hp):Prop where
 lv:∀h∈lv y.S,h∈lv x.S
 Y4:y.S.Serial=x.S.Serial
 len:y.S.S.Cells.length=x.S.S.Cells.length
 ob:∀h∈Sh.lv y.S,(ob y.S h).Serial=(ob x.S h).Serial∧(Sh.ob y.S h).Prog=(Sh.ob x.S h).Prog∧(Sh.ob y.S h).Fields=(Sh.ob x.S h).Fields∧((Sh.ob x.S h).Started=true→(Sh.ob y.S h).Started=true)
 rt:y.Roots=x.Roots
 cn:y.Cells.length=x.Cells.length
 cl:∀i (h:i<y.Cells.length) (h':i<x.Cells.length),y.Cells[i]=⟨x.Cells[i].Target,x.Cells[i].Intact&&decide (x.Cells[i].Target∈Sh.lv y.S),x.Cells[i].Call⟩
 q:∃l,y.Q=⟨x.Q.L++l,x.Q.Cap⟩∧(∀t∈l,t.Kind=1→t.At∈Sh.lv x.S∧(Sh.ob x.S t.At).Started=false)∧∀h∈Sh.lv y.S,(Sh.ob y.S h).Started=true→(Sh.ob x.S h).Started=false→∃t∈l,t.Kind=1∧t.At=h
 rc:∀h,a3U x.S x.T (otr x) h→a3U y.S y.T (otr y) h
 has:∀k v,Has y.T k v→Has x.T k v
theorem Stl.refl{x:Hp}(hx:HpS x):Stl x x:=by
 refine⟨λ_ h=>h,rfl,rfl,λh _=>⟨rfl,rfl,rfl,id⟩,rfl,rfl,λi h h'=>?_,⟨[],by simp,by simp,λh _ a b=>?_⟩,λ_ h=>h,λ_ _ h=>h⟩
 ·have:=(hx.cl i h).2.2.2.2
  cases hI:x.Cells[i].Intact
  ·rw[Bool.false_and,←hI]
  ·rw[decide_eq_true (this hI).1,Bool.and_self,←hI]
 ·rw[a] at b;cases b
theorem Stl.trans{x y z:Hp}(a:Stl x y)(b:Stl y z):Stl x z:=by
 obtain⟨l1,q1,q2,q3⟩:=a.q
 obtain⟨l2,r1,r2,r3⟩:=b.q
 refine⟨λh hh=>a.lv h (b.lv h hh),b.Y4.trans a.Y4,b.len.trans a.len,λh hh=>?_,b.rt.trans a.rt,b.cn.trans a.cn,λi h h'=>?_,⟨l1++l2,?_,λt ht hk=>?_,λh hh s1 s2=>?_⟩,λh hh=>b.rc h (a.rc h hh),λk v hh=>a.has k v (b.has k v hh)⟩
 ·obtain⟨b1,b2,b3,b4⟩:=b.ob h hh
  obtain⟨a1,a2,a3,a4⟩:=a.ob h (b.lv h hh)
  exact⟨b1.trans a1,b2.trans a2,b3.trans a3,λq=>b4 (a4 q)⟩
 ·have hy:i<y.Cells.length:=by rw[a.cn];exact h'
  rw[b.cl i h hy,a.cl i hy h']
  dsimp only
  congr 1
  rw[Bool.and_assoc]
  congr 1
  by_cases q:x.Cells[i].Target∈Sh.lv z.S
  ·rw[decide_eq_true q,decide_eq_true (b.lv _ q)];rfl
  ·rw[decide_eq_false q,Bool.and_false]
 ·rw[r1,q1,List.append_assoc]
 ·rcases List.mem_append.1 ht with q | q
  ·exact q2 t q hk
  ·obtain⟨e1,e2⟩:=r2 t q hk
   refine⟨a.lv _ e1,?_⟩
   cases hs:(Sh.ob x.S t.At).Started
   ·rfl
   ·rw[(a.ob _ e1).2.2.2 hs] at e2;cases e2
 ·cases hs:(Sh.ob y.S h).Started
  ·obtain⟨t,ht,e⟩:=r3 h hh s1 hs
   exact⟨t,List.mem_append_right _ ht,e⟩
  ·obtain⟨t,ht,e⟩:=q3 h (b.lv h hh) hs s2
   exact⟨t,List.mem_append_left _ ht,e⟩
theorem c4N(s:store_Store)(h:Int)(o:store_Obj):(seO s h o).S.Cells.length=s.S.Cells.length:=L3 ..
theorem c4B{x:Hp}(hx:Q5 x){z:Int}(hz:z∈lv x.S)(hs:(ob x.S z).Started=false):Stl x (quH x z):=by
 have hR:=hx.sh.sr
 obtain⟨k,e1,e2,e3,e4⟩:=a9v hR hz
 have l1:=c2J hR hz
 have hob:∀h∈lv x.S,(ob (quH x z).S h).Serial=(ob x.S h).Serial∧(ob (quH x z).S h).Prog=(ob x.S h).Prog∧(ob (quH x z).S h).Fields=(ob x.S h).Fields∧((ob (quH x z).S h).Started=true↔(ob x.S h).Started=true∨h=z):=λh hh=>by
  obtain⟨n,e⟩:=b8j hR hz hh
  rw[e]
  by_cases q:h=z
  ·subst q
   rw[if_pos rfl]
   exact⟨rfl,rfl,rfl,by simp⟩
  ·rw[if_neg q]
   exact⟨rfl,rfl,rfl,by simp[q]⟩
 have hot:∀h∈otr x,h∈otr (quH x z):=λh hh=>by
  unfold otr at hh ⊢
  rw[e1,e4]
  rcases List.mem_append.1 hh with q | q
  ·exact List.mem_append_left _ q
  ·refine List.mem_append_right _ ?_
   obtain⟨t,ht,a,b⟩:=a9p.1 q
   exact a9p.2 ⟨t,List.mem_append_left _ ht,a,b⟩
 have rf:=Stl.refl hx.sh
 refine⟨λh hh=>by rw[l1] at hh;exact hh,k.Y4,k.len.trans (c4N ..),λh hh=>?_,e1,by rw[e2],λi h h'=>?_,⟨[qtk x z],by rw[e4],λt ht hk=>?_,λh hh s1 s2=>?_⟩,λh hh=>?_,λk v hh=>by rw[e3] at hh;exact hh⟩
 ·rw[l1] at hh
  obtain⟨a,b,c,d⟩:=hob h hh
  exact⟨a,b,c,λq=>d.2 (.inl q)⟩
 ·have e5:(quH x z).Cells[i]=x.Cells[i]:=by simp only[e2]
  rw[e5,l1]
  exact rf.cl i h' h'
 ·rw[List.mem_singleton] at ht
  subst ht
  exact⟨hz,hs⟩
 ·rw[l1] at hh
  rcases (hob h hh).2.2.2.1 s1 with q | q
  ·rw[q] at s2;cases s2
  ·exact⟨qtk x z,List.mem_singleton_self _,rfl,q.symm⟩
 ·induction hh with
  | base h1 h2=>exact .base (hot _ h1) (by rw[l1];exact h2)
  | step h0 h1 h2 ih=>
   refine .step ih ?_ (by rw[l1];exact h2)
   unfold outs at h1 ⊢
   rw[(hob _ h0.live).2.2.1]
   exact h1
  | pair h1 h0 h2 ih=>exact .pair (by rw[e3];exact h1) ih (by rw[l1];exact h2)
theorem c3F{x:Hp}(hx:Q5 x){z:Int}(hz:z∈zr x):Stl x (buH x [z]):=by
 have hR:=hx.sh.sr
 have hzl:=(a3n.1 hz).1
 have h0:z≠0:=λe=>a4q hR (e▸hzl)
 have hfree:=b9F hx hz
 have hn:([z]:List Int).Nodup:=by simp
 have hm:∀d ∈ [z],d∈lv x.S:=by simpa using hzl
 have g:=a2P [z] hR hn hm
 have k:=(a6L ([z].flatMap (outs x.S)++(wot x.T [z]).2) (x:=a4U x [z] (wot x.T [z]).1) g.sr).1
 obtain⟨e1,e2,e3,e4⟩:=b14 hR hn hm
 obtain⟨_,w2,_,_,w5,w6⟩:=a3m hx.sh.hr [z] (by simp)
 have l1:∀h,h∈lv (buH x [z]).S↔h∈lv x.S∧h≠z:=λh=>by
  rw[b7D hR hn hm,List.mem_filter,decide_eq_true_iff,List.mem_singleton]
 have hob:∀h∈lv (buH x [z]).S,(ob (buH x [z]).S h).Serial=(ob x.S h).Serial∧(ob (buH x [z]).S h).Prog=(ob x.S h).Prog∧(ob (buH x [z]).S h).Fields=(ob x.S h).Fields∧(ob (buH x [z]).S h).Started=(ob x.S h).Started:=λh hh=>by
  obtain⟨a,b⟩:=(l1 h).1 hh
  obtain⟨n,e⟩:=c0W hR hn hm a (by simpa using b)
  rw[e]
  exact⟨rfl,rfl,rfl,rfl⟩
 refine⟨λh hh=>((l1 h).1 hh).1,k.Y4.trans g.Y4,k.len.trans g.len,λh hh=>?_,e1,by rw[e2];simp[clr],λi h h'=>?_,⟨clt x.Cells [z],by rw[e4],λt ht hk=>?_,λh hh s1 s2=>?_⟩,λh hh=>?_,λk v hh=>?_⟩
 ·obtain⟨a,b,c,d⟩:=hob h hh
  exact⟨a,b,c,λq=>d.trans q⟩
 ·have e5:(buH x [z]).Cells[i]=a6g [z] x.Cells[i]:=by
   simp only[e2]
   exact List.getElem_map _
  rw[e5]
  have hc:=(hx.sh.cl i h').2.2.2.2
  unfold a6g a2U
  cases hI:x.Cells[i].Intact
  ·rw[if_neg (by simp),Bool.false_and,←hI]
  ·have ht:=(hc hI).1
   have ht0:x.Cells[i].Target≠0:=λe=>a4q hR (e▸ht)
   by_cases q:x.Cells[i].Target=z
   ·rw[if_pos (by simp[q,h0]),decide_eq_false (λr=>((l1 _).1 r).2 q)]
    rfl
   ·rw[if_neg (by simp[q]),decide_eq_true ((l1 _).2 ⟨ht,q⟩),Bool.and_self,←hI]
 ·obtain⟨w,hw,rfl,_,_⟩:=a7g.1 ht
  simp at hk
 ·rw[(hob h hh).2.2.2,s2] at s1
  cases s1
 ·unfold nms at hfree
  have key:a3U (buH x [z]).S (buH x [z]).T (otr (buH x [z])) h∧h≠z:=by
   induction hh with
   | base h1 h2=>
    rename_i a
    have hne:a≠z:=λe=>by
     subst e
     exact b7q h0 (by omega:Q3 (otr x) a=0) h1
    refine⟨.base ?_ ((l1 _).2 ⟨h2,hne⟩),hne⟩
    unfold otr at h1 ⊢
    rw[e1,e4,b6B _ _ _ λt ht=>by
     obtain⟨w,_,rfl,_⟩:=a7g.1 ht
     simp]
    exact h1
   | step q0 q1 q2 ih=>
    rename_i a b
    have hne:b≠z:=λe=>by
     subst e
     have:=b8X (y:=b) q0.live
     have h1:=a5I.2 ⟨h0,q1⟩
     omega
    refine⟨.step ih.1 ?_ ((l1 _).2 ⟨q2,hne⟩),hne⟩
    unfold outs at q1 ⊢
    rw[(hob _ ((l1 _).2 ⟨q0.live,ih.2⟩)).2.2.1]
    exact q1
   | pair q1 q0 q2 ih=>
    rename_i a b
    have hne:b≠z:=λe=>by
     subst e
     have:=b9h q1 h0
     omega
    exact⟨.pair (by rw[e3];exact (w5 _ _).2 ⟨by simpa using ih.2,q1⟩) ih.1 ((l1 _).2 ⟨q2,hne⟩),hne⟩
  exact key.1
 ·rw[e3] at hh
  exact ((w5 _ _).1 hh).2
theorem b9y{x:Hp}(hx:Q5 x):Stl x (stp x):=by
 cases h:zr x with
 | nil=>rw[a7B h];exact Stl.refl hx.sh
 | cons z l=>
  have hz:z∈zr x:=by rw[h];exact List.mem_cons_self ..
  rw[a3i h]
  split
  ·rename_i q
   unfold due at q
   rw[Bool.and_eq_true,decide_eq_true_iff,Bool.not_eq_true'] at q
   exact c4B hx (a3n.1 hz).1 q.2
  ·exact c3F hx hz
theorem c4S{x:Hp}(hx:Q5 x)(n:Nat):Stl x (stN n x):=by
 induction n with
 | zero=>exact Stl.refl hx.sh
 | succ n ih=>rw[a1b];exact ih.trans (b9y (T7 hx n))
theorem a6U{x:Hp}(hx:Q5 x):Stl x (M6 x):=c4S hx 100
end Go.Sh
namespace Go.Sh
section
variable{x:Hp}(hB:HB x)
include hB
end
end Go.Sh
namespace Go.Sh
theorem c5q(s:store_Store)(h:s.S.Cells.length≤30):b0g s=some (sO s):=by
 unfold b0g
 simp only[jn,b1X,d09]
 have e:=a5e (b:=80) cO s.S.Cells (by omega) (by omega)
 simp only[cO,oo] at e
 rw[e]
 rfl
theorem c4Q(s:store_Store):a7J s=some (decide (Sm s)):=by
 unfold a7J
 simp only[jn]
 refine E9 (min s.S.Cells.length 30) (λk=>∀j (h:j<s.S.Cells.length),j<k→s.S.Cells[j].Val.Fields.length≤10) (by omega) (λ_ _ h=>by omega) (λk hk hP=>?_) (λhP=>?_)
 ·have hk1:k<s.S.Cells.length:=by omega
  have hk2:k<30:=by omega
  have hc:((decide ((k:Int)<(s.S.Cells.length:Int)))&&(decide ((k:Int)<30)))=true:=by simp;omega
  by_cases g:s.S.Cells[k].Val.Fields.length≤10
  ·refine .inl ⟨?_,λj h hj=>?_⟩
   ·rw[hc]
    simp only[if_true,l6 hk1,d09]
    rw[if_neg (by simp;omega),g9]
   ·rcases Nat.lt_or_ge j k with q | q
    ·exact hP j h q
    ·have:j=k:=by omega
     subst this;exact g
  ·refine .inr ⟨.inl false,?_,?_⟩
   ·rw[hc]
    simp only[if_true,l6 hk1,d09]
    rw[if_pos (by simp;omega)]
   ·simp only
    rw[decide_eq_false (λq:Sm s=>g (q.2 k hk1))]
 ·refine⟨.inr (),?_,?_⟩
  ·rw[show ((decide (((min s.S.Cells.length 30:Nat):Int)<(s.S.Cells.length:Int)))&&(decide (((min s.S.Cells.length 30:Nat):Int)<30)))=false by
    rcases Nat.lt_or_ge s.S.Cells.length 30 with q | q
    ·simp;omega
    ·simp;omega]
   rfl
  ·simp only
   congr 1
   rw[decide_eq_decide]
   constructor
   ·intro q
    exact⟨by omega,λi h=>hP i h (by omega)⟩
   ·intro q
    have:=q.1
    omega
end Go.Sh
namespace Go.Sh
theorem c8F(t:Tb)(h:t.length≤1000):b1Y t=some (t.map I1):=by
 unfold b1Y
 simp only[jn]
 have e:=a5e (b:=24) I1 t (by omega) (by omega)
 simp only[I1] at e
 rw[e]
 rfl
end Go.Sh
namespace Go.Sh
theorem c7O(l:List weak_Cell)(h:l.length≤1000):a7I l=some (l.map wcR):=by
 unfold a7I
 simp only[jn]
 have e:=a5e (b:=24) wcR l (by omega) (by omega)
 simp only[wcR] at e
 rw[e]
 rfl
theorem c8G(q:TQ)(h:q.L.length≤1000):a7L q=some (tqR q):=by
 unfold a7L
 simp only[jn]
 have e:=a5e (b:=24) tkR q.L (by omega) (by omega)
 simp only[tkR] at e
 rw[e]
 rfl
theorem c1R{x:Hp}(h1:x.S.S.Cells.length≤30)(h2:x.Cells.length≤1000)(h3:x.T.length≤1000)(h4:x.Q.L.length≤1000):a16 x=some (hO x):=by
 unfold a16
 rw[c5q x.S h1,d09,c7O x.Cells h2,d09,c8F x.T h3,d09,c8G x.Q h4,d09]
 rfl
theorem b8V{x:Hp}(h:HpS x):a16 x=some (hO x):=by
 have h1:=h.sr.len
 have h2:=h.c6
 have h3:=h.hr.l8
 have h4:=h.q30
 exact c1R (by omega) (by omega) (by omega) (by omega)
theorem b6s(x:Hp):a5L x=some (decide (b03 x)):=by
 unfold a5L
 rw[c4Q,d09]
 congr 1
 rw[Bool.eq_iff_iff]
 simp only[Bool.and_eq_true,decide_eq_true_iff]
 unfold b03
 constructor
 ·rintro⟨⟨⟨⟨a,b⟩,c⟩,d⟩,e⟩
  exact⟨a,by omega,by omega,by omega,by omega⟩
 ·rintro⟨a,b,c,d,e⟩
  exact⟨⟨⟨⟨a,by omega⟩,by omega⟩,by omega⟩,by omega⟩
theorem c5k{x:Hp}(h:HpS x):a5L x=some true:=by rw[b6s,decide_eq_true h.c9N]
theorem c4R{x:Hp}(hB:HB x):∃b,a7K x=some b∧(b=true→Q5 x∧x.S.Serial<1000000000):=by
 unfold a7K
 rw[b6s,d09]
 by_cases c:b03 x∧x.S.Serial<1000000000
 ·have e:((decide (b03 x))&&(decide (x.S.Serial<1000000000)))=true:=by simp[c.1,c.2]
  rw[e]
  obtain⟨f,f2,f3,f4,f5⟩:=c.1
  simp only[beq_self_eq_true,L7,Bool.true_and]
  rw[c1R f.1 (by omega) (by omega) (by omega),d09]
  obtain⟨b,h1,h2⟩:=b1c x hB (by have:=f.1;omega) (by omega) (by omega) (by omega) (by omega)
  rw[h1,d09]
  exact⟨b,rfl,λq=>⟨h2.1 q,c.2⟩⟩
 ·have e:((decide (b03 x))&&(decide (x.S.Serial<1000000000)))=false:=by
   rw[Bool.and_eq_false_iff,decide_eq_false_iff_not,decide_eq_false_iff_not];exact Decidable.not_and_iff_or_not.1 c
  rw[e]
  exact⟨false,by simp[n9],λq=>by cases q⟩
end Go.Sh
namespace Go.Sh
structure Ks (s s':store_Store):Prop where
 sr:SR s'
 Y4:s'.Serial=s.Serial
 lv:lv s'=lv s
 ob:∀h∈Sh.lv s,(ob s' h).Serial=(ob s h).Serial
theorem Ks.refl{s:store_Store}(hR:SR s):Ks s s:=⟨hR,rfl,rfl,λ_ _=>rfl⟩
theorem Ks.trans{a b c:store_Store}(h:Ks a b)(q:Ks b c):Ks a c:=⟨q.sr,q.Y4.trans h.Y4,q.lv.trans h.lv,λk hk=>(q.ob k (by rw[h.lv];exact hk)).trans (h.ob k hk)⟩
theorem Kin.ks{s s':store_Store}(hR:SR s)(k:Kin s s'):Ks s s':=⟨k.sr,k.Y4,k.lv,λh hh=>by
 obtain⟨n,e⟩:=k.ob h (by have:=H7 hR hh;omega)
 rw[e]⟩
theorem Kn.ks{s s':store_Store}(k:Kn s s')(e:s'.Serial=s.Serial):Ks s s':=⟨k.sr,e,k.lv,λh hh=>by
 obtain⟨n,m,e⟩:=k.ob h hh
 rw[e]⟩
theorem c7d{s:store_Store}(hR:SR s){h:Int}(hh:h∈lv s){o:store_Obj}(hs:o.Serial=(ob s h).Serial)(ho:OkO s o):Ks s (seO s h o):=⟨a07 hR hh hs ho,rfl,a3d hR hh hs ho,λk hk=>by
 rw[a1B hR hh hs ho (by have:=H7 hR hk;omega)]
 split
 ·rename_i e;subst e;exact hs
 ·rfl⟩
theorem b8w{x:Hp}(hR:SR x.S)(h:Int):Ks x.S (C0 x h).S:=(G0 hR h λc=>E2).ks hR
theorem b8q{x:Hp}(hR:SR x.S)(h:Int):Ks x.S (O1 x h).S:=(G0 hR h λc=>X0).ks hR
theorem b7d(x:Hp)(h:Int):(O1 x h).Roots=x.Roots∧(O1 x h).Cells=x.Cells∧(O1 x h).T=x.T∧(O1 x h).Q=x.Q:=b29 x h a7P
theorem b2V{x:Hp}(hR:SR x.S)(r:Nat)(h:Int):Ks x.S (Q6 x r h).S:=
 (b8w hR h).trans (b8q (x:=wR (C0 x h) (x.Roots.set r h)) (a5x hR h) _)
theorem b9V{x:Hp}(hR:SR x.S){h:Int}(hh:h∈lv x.S){n:Nat}(hn:n<(ob x.S h).Fields.length)(v:Int):Ks x.S (K8 x h n v).S:=by
 have k1:=b8w hR v
 have hh1:h∈lv (C0 x v).S:=by rw[k1.lv];exact hh
 have hof:(ob (C0 x v).S h).Fields=(ob x.S h).Fields:=by
  obtain⟨n,e⟩:=(G0 hR v (f:=Z2) λc=>E2).ob h (by have:=H7 hR hh;omega)
  show (ob (stO x v Z2).S h).Fields=_
  rw[e]
 have ho:OkO (C0 x v).S (flg (ob (C0 x v).S h) ((ob x.S h).Fields.set n v)):=by
  have:=H6 k1.sr hh1
  refine⟨this.s1,this.s2,this.st,this.wk,this.p1,this.p2,?_⟩
  have h4:=this.fl
  rw[hof] at h4
  simpa using h4
 have k2:=c7d (o:=flg (ob (C0 x v).S h) ((ob x.S h).Fields.set n v)) k1.sr hh1 rfl ho
 exact (k1.trans k2).trans (b8q (x:=wS (C0 x v) (seO (C0 x v).S h (flg (ob (C0 x v).S h) ((ob x.S h).Fields.set n v)))) k2.sr _)
theorem a6l(x:Hp)(h:Int)(n:Nat)(v:Int):(K8 x h n v).Roots=x.Roots∧(K8 x h n v).Cells=x.Cells∧(K8 x h n v).T=x.T∧(K8 x h n v).Q=x.Q:=by
 obtain⟨a,b,c,d⟩:=b7d (wS (C0 x v) (seO (C0 x v).S h (flg (ob (C0 x v).S h) ((ob x.S h).Fields.set n v)))) ((ob x.S h).Fields.getD n 0)
 obtain⟨a',b',c',d'⟩:=a9X x v
 exact⟨a.trans a',b.trans b',c.trans c',d.trans d'⟩
theorem c2y{x:Hp}(hR:SR x.S)(v:Int)(t:Tb)(old:Int):Ks x.S (a3I x v t old).S:=
 (b8w hR v).trans (b8q (x:=wT (C0 x v) t) (a5x hR v) old)
theorem a8A(x:Hp)(v:Int)(t:Tb)(old:Int):(a3I x v t old).Roots=x.Roots∧(a3I x v t old).Cells=x.Cells∧(a3I x v t old).T=t∧(a3I x v t old).Q=x.Q:=by
 obtain⟨a,b,c,d⟩:=b7d (wT (C0 x v) t) old
 obtain⟨a',b',c',d'⟩:=a9X x v
 exact⟨a.trans a',b.trans b',c,d.trans d'⟩
end Go.Sh
namespace Go.Sh
theorem c6m{s:store_Store}(hR:SR s){i:Nat}(hi:i<s.S.Cells.length)(h2:(ce s i).State=2):Ks s (gvA s i):=⟨b4T hR hi,rfl,b4R hR hi h2,λh hh=>by rw[b4S hR hi h2 hh]⟩
theorem c6C{x:Hp}(hR:SR x.S)(h:Int){d:Int}(hd:Q4 x.S h (B5 h)→0≤(ce x.S (B5 h)).Val.Weak+d):Ks x.S (mkd x h d).S:=by
 unfold mkd
 split
 ·rename_i q
  exact (a5i hR q.1 q.2.1 (hd q)).ks rfl
 ·exact Ks.refl hR
theorem c2b(x:Hp)(h d:Int):(mkd x h d).Roots=x.Roots∧(mkd x h d).Cells=x.Cells∧(mkd x h d).T=x.T∧(mkd x h d).Q=x.Q:=by
 unfold mkd
 split <;> exact⟨rfl,rfl,rfl,rfl⟩
theorem c0G(x:Hp)(h:Int):(a8L x h).Roots=x.Roots∧(a8L x h).Cells=x.Cells∧(a8L x h).T=x.T∧(a8L x h).Q=x.Q:=by
 unfold a8L
 split
 ·split <;> exact⟨rfl,rfl,rfl,rfl⟩
 ·exact⟨rfl,rfl,rfl,rfl⟩
theorem b9B{x:Hp}(hR:SR x.S)(h:Int)(hd:Q4 x.S h (B5 h)→1≤(ce x.S (B5 h)).Val.Weak):Ks x.S (a8L x h).S:=by
 unfold a8L
 split
 ·rename_i q
  have hd:=hd q
  have kn:=a5i (d:=-1) hR q.1 q.2.1 (by omega)
  split
  ·rename_i c
   have hi1:B5 h<(mkA x.S (B5 h) (-1)).S.Cells.length:=by rw[kn.len];exact q.1
   have hce:ce (mkA x.S (B5 h) (-1)) (B5 h)=⟨(ce x.S (B5 h)).State,(ce x.S (B5 h)).Gen,wkg (ce x.S (B5 h)).Val ((ce x.S (B5 h)).Val.Weak + -1)⟩:=by
    rw[a2X hR q.1 q.2.1,if_pos rfl]
   have h2:(ce (mkA x.S (B5 h) (-1)) (B5 h)).State=2:=by rw[hce];exact c.1
   exact (kn.ks rfl).trans (c6m kn.sr hi1 h2)
  ·exact kn.ks rfl
 ·exact Ks.refl hR
theorem c3g{x:Hp}(hx:Q5 x){n:Nat}(hn:n<6)(h call:Int):Ks x.S (S9 x n h call).S:=by
 have hR:=hx.sh.sr
 have hnl:n<x.Cells.length:=by have:=hx.sh.c6;omega
 have ok:∀k i,Q4 x.S k i→0≤(ce x.S i).Val.Weak:=λk i q=>(hR.ok i q.1 q.2.1).wk
 have tw:∀i,Q4 x.S (tgt x n) i→1≤(ce x.S i).Val.Weak:=λi q=>by
  have htg:tgt x n=x.Cells[n].Target:=by
   unfold tgt
   rw[List.getD_eq_getElem?_getD,List.getElem?_eq_getElem hnl]
   rfl
  have r:=q.rng hR
  have p:=a9q hnl (by rw[←htg];omega)
  rw[←htg,q.2.2] at p
  have:=(hx.wk i q.1 q.2.1).1
  omega
 unfold S9
 have s1:Ks x.S (mkd (wC x (x.Cells.set n (wcl h call))) h 1).S:=c6C (x:=wC x (x.Cells.set n (wcl h call))) hR h λq=>by
  have:=ok _ _ q
  dsimp only
  omega
 by_cases q:Q4 x.S h (B5 h)
 ·have e:mkd (wC x (x.Cells.set n (wcl h call))) h 1=wS (wC x (x.Cells.set n (wcl h call))) (mkA x.S (B5 h) 1):=by
   unfold mkd
   rw[if_pos q]
  have hd:=ok _ _ q
  have kn:=a5i (d:=1) hR q.1 q.2.1 (by omega)
  rw[e] at s1 ⊢
  refine s1.trans (b9B (x:=wS (wC x (x.Cells.set n (wcl h call))) (mkA x.S (B5 h) 1)) kn.sr _ λq2=>?_)
  dsimp only at q2 ⊢
  have q3:=(kn.ad _ _).1 q2
  have:=tw _ q3
  rw[a2X hR q.1 q.2.1]
  split
  ·rename_i e2
   rw[e2] at this
   show 1≤(ce x.S (B5 h)).Val.Weak+1
   omega
  ·exact this
 ·have e:mkd (wC x (x.Cells.set n (wcl h call))) h 1=wC x (x.Cells.set n (wcl h call)):=by
   unfold mkd
   rw[if_neg q]
  rw[e] at s1 ⊢
  exact s1.trans (b9B (x:=wC x (x.Cells.set n (wcl h call))) hR _ λq2=>tw _ q2)
theorem b3k(x:Hp)(n:Nat)(h call:Int):(S9 x n h call).Roots=x.Roots∧(S9 x n h call).Cells=x.Cells.set n (wcl h call)∧(S9 x n h call).T=x.T∧(S9 x n h call).Q=x.Q:=by
 obtain⟨a,b,c,d⟩:=c0G (mkd (wC x (x.Cells.set n (wcl h call))) h 1) (tgt x n)
 obtain⟨a',b',c',d'⟩:=c2b (wC x (x.Cells.set n (wcl h call))) h 1
 exact⟨a.trans a',b.trans b',c.trans c',d.trans d'⟩
end Go.Sh
namespace Go.Sh
abbrev nwo(s:store_Store)(n:Nat)(p:Int):store_Obj:=⟨s.Serial+1,0,0,p,false,List.replicate n 0⟩
def mkS(s:store_Store)(i n:Nat)(p:Int):store_Store:=⟨⟨s.S.Cells.set i ⟨1,(ce s i).Gen,nwo s n p⟩,s.S.Last⟩,s.Serial+1⟩
section
variable{s:store_Store}(hR:SR s){i:Nat}(hi:i<s.S.Cells.length)(h0:(ce s i).State=0){n:Nat}(hn:n≤4){p:Int}(hp : -1≤p∧p≤5)
include hR hi h0 hn hp
theorem a5k:(mkS s i n p).S.Cells.length=s.S.Cells.length:=by simp[mkS]
theorem a6y(j:Nat):ce (mkS s i n p) j=if j=i then ⟨1,(ce s i).Gen,nwo s n p⟩ else ce s j:=a4g hi _ _ j
theorem b88:SR (mkS s i n p):=by
 have hser:=hR.Y4
 have hc:=hR.cell i hi
 have hnt:¬Th (ce s i):=λh=>by
  rcases h with h | h <;> omega
 refine⟨by rw[a5k hR hi h0 hn hp];exact hR.len,hR.l0,hR.l9,by show 0≤s.Serial+1;omega,λj hj=>?_,λj hj ht=>?_,λj hj ht=>?_,λj k hj hk a b e=>?_⟩
 ·rw[a5k hR hi h0 hn hp] at hj
  rw[a6y hR hi h0 hn hp]
  split
  ·exact⟨show (0:Int)≤1 by decide,show (1:Int)≤3 by decide,hc.2.2.1,hc.2.2.2⟩
  ·exact hR.cell j hj
 ·rw[a5k hR hi h0 hn hp] at hj
  rw[a6y hR hi h0 hn hp] at ht ⊢
  split at ht
  ·exact absurd (.inl rfl) ht
  ·rename_i e
   rw[if_neg e];exact hR.no j hj ht
 ·rw[a5k hR hi h0 hn hp] at hj
  rw[a6y hR hi h0 hn hp] at ht ⊢
  split at ht
  ·rename_i e
   rw[if_pos e]
   exact⟨by show 1≤s.Serial+1;omega,Int.le_refl _,Int.le_refl 0,Int.le_refl 0,hp.1,hp.2,by simpa using hn⟩
  ·rename_i e
   rw[if_neg e]
   have:=hR.ok j hj ht
   exact⟨this.s1,by show _≤s.Serial+1;have:=this.s2;omega,this.st,this.wk,this.p1,this.p2,this.fl⟩
 ·rw[a5k hR hi h0 hn hp] at hj hk
  rw[a6y hR hi h0 hn hp] at a e
  rw[a6y hR hi h0 hn hp] at b e
  have old:∀m,m<s.S.Cells.length→Th (ce s m)→(ce s m).Val.Serial≠s.Serial+1:=λm hm t q=>by
   have:=(hR.ok m hm t).s2
   omega
  by_cases ej:j=i <;> by_cases ek:k=i
  ·rw[ej,ek]
  ·rw[if_neg ek] at b e
   rw[if_pos ej] at e
   exact absurd e.symm (old k hk b)
  ·rw[if_neg ej] at a e
   rw[if_pos ek] at e
   exact absurd e (old j hj a)
  ·rw[if_neg ej] at a e
   rw[if_neg ek] at b e
   exact hR.dif j k hj hk a b e
theorem b79{k:Int}{j:Nat}(q:Q4 s k j):j≠i:=λe=>by
 subst e
 rcases q.2.1 with h | h <;> omega
theorem c6B{k:Int}{j:Nat}:Q4 (mkS s i n p) k j↔Q4 s k j∨(j=i∧k=hdl s i):=by
 unfold Q4
 rw[a5k hR hi h0 hn hp,a6y hR hi h0 hn hp]
 by_cases e:j=i
 ·rw[if_pos e]
  subst e
  constructor
  ·rintro⟨a,b,c⟩
   exact .inr ⟨rfl,c⟩
  ·rintro (⟨a,b,c⟩ | ⟨_,c⟩)
   ·exact absurd rfl (b79 hR hi h0 hn hp ⟨a,b,c⟩)
   ·exact⟨hi,.inl rfl,c⟩
 ·rw[if_neg e]
  constructor
  ·exact .inl
  ·rintro (h | ⟨h,_⟩)
   ·exact h
   ·exact absurd h e
theorem b87:lv (mkS s i n p)=lv s ++ [hdl s i]:=by
 have e:=b78 (s:=s) (p5.2 hR) hi (by rw[←C9 hi];exact h0) (nwo s n p) rfl (a5g (p5.2 hR))
 unfold mkS
 rw[show (ce s i).Gen=s.S.Cells[i].Gen by rw[C9 hi]]
 have e2:hdl s i=1+(i:Int)+32*s.S.Cells[i].Gen:=by unfold hdl;rw[C9 hi]
 rw[e2]
 have:=a5g (p5.2 (by have:=b88 hR hi h0 hn hp;unfold mkS at this;rw[show (ce s i).Gen=s.S.Cells[i].Gen by rw[C9 hi]] at this;exact this))
 rw[e] at this
 exact (Option.some.inj this).symm
theorem c19:hdl s i∉lv s:=λh=>by
 obtain⟨j,q⟩:=(a5V hR).1 h
 have:i=j:=by
  have a:=q.2.2
  have b:=q.1
  unfold hdl at a
  have:=hR.len
  omega
 subst this
 have:=q.2.1
 omega
theorem b4k{k:Int}(hk:k∈lv s):ob (mkS s i n p) k=ob s k:=by
 obtain⟨j,q⟩:=(a5V hR).1 hk
 have hj:=b79 hR hi h0 hn hp q.d
 have q2:At (mkS s i n p) k j:=by
  refine⟨by rw[a5k hR hi h0 hn hp];exact q.1,?_,?_⟩ <;> rw[a6y hR hi h0 hn hp,if_neg hj]
  ·exact q.2.1
  ·exact q.2.2
 rw[O9 (b88 hR hi h0 hn hp) q2,O9 hR q,a6y hR hi h0 hn hp,if_neg hj]
theorem b0G:ob (mkS s i n p) (hdl s i)=nwo s n p:=by
 have q2:At (mkS s i n p) (hdl s i) i:=by
  refine⟨by rw[a5k hR hi h0 hn hp];exact hi,?_,?_⟩ <;> rw[a6y hR hi h0 hn hp,if_pos rfl]
  rfl
 rw[O9 (b88 hR hi h0 hn hp) q2,a6y hR hi h0 hn hp,if_pos rfl]
end
theorem b5Y{l:List Int}{h:Int}(e:h∉l):Q3 l h=0:=Nat.eq_zero_of_not_pos λq=>e (a5I.1 q).2
theorem c2a{x:Hp}(hx:Q5 x){i:Nat}(hi:i<x.S.S.Cells.length)(h0:(ce x.S i).State=0){n:Nat}(hn:n≤4){p:Int}(hp : -1≤p∧p≤5):Q5 (wS x (mkS x.S i n p)):=by
 have hR:=hx.sh.sr
 have hS:=b88 hR hi h0 hn hp
 have hl:=b87 hR hi h0 hn hp
 have hnew:=c19 hR hi h0 hn hp
 have mem:∀ {k},k∈lv x.S→k∈lv (mkS x.S i n p):=λhk=>by rw[hl];exact List.mem_append_left _ hk
 have mem0:∀ {k},k=0∨k∈lv x.S→k=0∨k∈lv (mkS x.S i n p):=λhk=>hk.imp id mem
 have hpos:=b1J hR hi
 have split:∀ {k},k∈lv (mkS x.S i n p)→k∈lv x.S∨k=hdl x.S i:=λhk=>by
  rw[hl] at hk
  rcases List.mem_append.1 hk with q | q
  ·exact .inl q
  ·exact .inr (List.mem_singleton.1 q)
 have rep:∀v∈List.replicate n (0:Int),v=0:=λv hv=>(List.mem_replicate.1 hv).2
 have ntgt:∀j (hj:j<x.Cells.length),x.Cells[j].Target≠hdl x.S i:=λj hj e=>by
  obtain⟨q,hq⟩:=(hx.sh.cl j hj).2.2.2.1 (by rw[e];omega)
  rw[e] at hq
  have:q=i:=by
   have a:=hq.2.2
   have b:=hq.1
   unfold hdl at a
   have:=hR.len
   omega
  exact b79 hR hi h0 hn hp hq this
 refine⟨⟨hS,hx.sh.hr,hx.sh.r6,hx.sh.c6,hx.sh.cap,hx.sh.q30,λt ht=>?_,hx.sh.td,λh hh=>mem0 (hx.sh.rt h hh),λh hh v hv=>?_,λk v hk=>?_,λj hj=>?_⟩,λj hj ht=>?_,λh hh hs=>?_⟩
 ·obtain⟨a,b,c⟩:=hx.sh.tk t ht
  refine⟨a,b,c.imp (λ⟨d,e,f⟩=>⟨d,mem e,?_⟩) id⟩
  show (ob (mkS x.S i n p) t.At).Started=true
  rw[b4k hR hi h0 hn hp e];exact f
 ·rcases split hh with q | q
  ·have hv':v∈(ob (mkS x.S i n p) h).Fields:=hv
   rw[b4k hR hi h0 hn hp q] at hv'
   exact mem0 (hx.sh.fl h q v hv')
  ·subst q
   have hv':v∈(ob (mkS x.S i n p) (hdl x.S i)).Fields:=hv
   rw[b0G hR hi h0 hn hp] at hv'
   exact .inl (rep v hv')
 ·obtain⟨a,b⟩:=hx.sh.pr k v hk
  exact⟨mem a,mem b⟩
 ·obtain⟨a,b,c,d,e⟩:=hx.sh.cl j hj
  refine⟨a,b,c,λq=>?_,λq=>⟨mem (e q).1,(e q).2⟩⟩
  obtain⟨m,hm⟩:=d q
  exact⟨m,(c6B hR hi h0 hn hp).2 (.inl hm)⟩
 ·have hj':j<x.S.S.Cells.length:=by have:j<(mkS x.S i n p).S.Cells.length:=hj;rwa [a5k hR hi h0 hn hp] at this
  show (ce (mkS x.S i n p) j).Val.Weak=(nmg x.Cells (1+(j:Int)+32*(ce (mkS x.S i n p) j).Gen):Int)∧_
  have ht':Th (ce (mkS x.S i n p) j):=ht
  rw[a6y hR hi h0 hn hp] at ht' ⊢
  by_cases e:j=i
  ·subst e
   rw[if_pos rfl]
   refine⟨?_,λq=>absurd (show (1:Int)=2 from q) (by decide)⟩
   show (0:Int)=(nmg x.Cells (hdl x.S j):Int)
   have:nmg x.Cells (hdl x.S j)=0:=by
    unfold nmg
    rw[List.countP_eq_zero]
    intro c hc
    obtain⟨m,hm,rfl⟩:=List.getElem_of_mem hc
    have:=ntgt m hm
    simp[this]
   rw[this];rfl
  ·rw[if_neg e] at ht' ⊢
   exact hx.wk j hj' ht'
 ·have hinn:∀y,inn (mkS x.S i n p) y=inn x.S y:=λy=>by
   unfold inn
   rw[hl,List.map_append,List.sum_append]
   have e1:(lv x.S).map (λk=>Q3 (outs (mkS x.S i n p) k) y)=(lv x.S).map λk=>Q3 (outs x.S k) y:=List.map_congr_left λk hk=>by
    unfold outs
    rw[b4k hR hi h0 hn hp hk]
   rw[e1]
   have e2:outs (mkS x.S i n p) (hdl x.S i) = []:=by
    refine List.eq_nil_iff_forall_not_mem.2 λv hv=>?_
    have h1:=a8y.1 hv
    rw[b0G hR hi h0 hn hp] at h1
    exact h1.2 (rep v h1.1)
   simp[e2,R6]
  have hnm:∀y,nms (wS x (mkS x.S i n p)) y=nms x y:=λy=>by
   unfold nms
   show inn (mkS x.S i n p) y+own x.T y+Q3 (otr x) y=_
   rw[hinn]
  rw[hnm]
  have hs':(ob (mkS x.S i n p) h).Strong<12:=hs
  show (ob (mkS x.S i n p) h).Strong=_
  rcases split hh with q | q
  ·rw[b4k hR hi h0 hn hp q] at hs' ⊢
   exact hx.fair h q hs'
  ·subst q
   rw[b0G hR hi h0 hn hp]
   have h1:nms x (hdl x.S i)=0:=by
    unfold nms
    have a1:inn x.S (hdl x.S i)=0:=by
     unfold inn
     have:=b5S (λk=>Q3 (outs x.S k) (hdl x.S i)) 0 (lv x.S) λk hk=>Nat.le_of_eq<|b5Y λq=>by
      have q2:=a8y.1 q
      rcases hx.sh.fl k hk _ q2.1 with e | e
      ·exact q2.2 e
      ·exact hnew e
     omega
    have a2:own x.T (hdl x.S i)=0:=by
     unfold own
     rw[List.countP_eq_zero]
     intro c hc
     have:=(hx.sh.pr _ _ (a0m.1 hc)).2
     have hne:c.Val≠hdl x.S i:=λe=>hnew (e▸this)
     simp[hne]
    have a3:Q3 (otr x) (hdl x.S i)=0:=b5Y λq=>by
     unfold otr at q
     rcases List.mem_append.1 q with q | q
     ·have q2:=a8y.1 q
      rcases hx.sh.rt _ q2.1 with e | e
      ·exact q2.2 e
      ·exact hnew e
     ·obtain⟨t,ht,k1,k2⟩:=a9p.1 q
      rcases (hx.sh.tk t ht).2.2 with ⟨_,b,_⟩ | ⟨b,_⟩
      ·exact hnew (k2▸b)
      ·omega
    omega
   rw[h1,R6]
   rfl
end Go.Sh
namespace Go.Sh
structure Ev (x y:Hp):Prop where
 lv:∀h∈lv y.S,(h∈Sh.lv x.S∧(ob y.S h).Serial=(ob x.S h).Serial)∨(h∉Sh.lv x.S∧(ob y.S h).Serial=x.S.Serial+1)
 s1:x.S.Serial≤y.S.Serial
 s2:y.S.Serial≤x.S.Serial+1
theorem Ev.refl(x:Hp):Ev x x:=⟨λh hh=>.inl ⟨hh,rfl⟩,by omega,by omega⟩
theorem Ks.ev{x y:Hp}(k:Ks x.S y.S):Ev x y:=⟨λh hh=>by
 rw[k.lv] at hh
 exact .inl ⟨hh,k.ob h hh⟩,by rw[k.Y4];omega,by rw[k.Y4];omega⟩
theorem Ev.ks{x y z:Hp}(e:Ev x y)(k:Ks y.S z.S):Ev x z:=⟨λh hh=>by
 rw[k.lv] at hh
 rw[k.ob h hh]
 exact e.lv h hh,by rw[k.Y4];exact e.s1,by rw[k.Y4];exact e.s2⟩
theorem Ev.stl{x y z:Hp}(e:Ev x y)(s:Stl y z):Ev x z:=⟨λh hh=>by
 rw[(s.ob h hh).1]
 exact e.lv h (s.lv h hh),by rw[s.Y4];exact e.s1,by rw[s.Y4];exact e.s2⟩
theorem c8c{x:Hp}(hx:Q5 x){i:Nat}(hi:i<x.S.S.Cells.length)(h0:(ce x.S i).State=0){n:Nat}(hn:n≤4){p:Int}(hp : -1≤p∧p≤5):Ev x (wS x (mkS x.S i n p)):=⟨λh hh=>by
 have hR:=hx.sh.sr
 have hh':h∈lv (mkS x.S i n p):=hh
 show (_∧(ob (mkS x.S i n p) h).Serial=_)∨_∧(ob (mkS x.S i n p) h).Serial=_
 rw[b87 hR hi h0 hn hp] at hh'
 rcases List.mem_append.1 hh' with q | q
 ·exact .inl ⟨q,by rw[b4k hR hi h0 hn hp q]⟩
 ·rw[List.mem_singleton.1 q]
  exact .inr ⟨c19 hR hi h0 hn hp,by rw[b0G hR hi h0 hn hp]⟩,by show _≤x.S.Serial+1;omega,Int.le_refl _⟩
def Cw(x y:Hp)(w:Int):Prop:=∀i:Nat,(i:Int)≠w→(y.Cells.getD i cz).Target=(x.Cells.getD i cz).Target∧((y.Cells.getD i cz).Intact=true→(x.Cells.getD i cz).Intact=true)
theorem Cw.refl(x:Hp)(w:Int):Cw x x w:=λi _=>⟨rfl,id⟩
theorem Cw.same{x y:Hp}(h:y.Cells=x.Cells)(w:Int):Cw x y w:=λi _=>by rw[h];exact⟨rfl,id⟩
theorem Cw.trans{x y z:Hp}{w:Int}(a:Cw x y w)(b:Cw y z w):Cw x z w:=λi hi=>⟨(b i hi).1.trans (a i hi).1,λq=>(a i hi).2 ((b i hi).2 q)⟩
theorem Stl.cw{x y:Hp}(s:Stl x y)(w:Int):Cw x y w:=λi _=>by
 by_cases h:i<x.Cells.length
 ·have h':i<y.Cells.length:=by rw[s.cn];exact h
  rw[A2 h,A2 h',s.cl i h' h]
  exact⟨rfl,λq=>(Bool.and_eq_true _ _▸q).1⟩
 ·have h':¬i<y.Cells.length:=by rw[s.cn];exact h
  rw[List.getD_eq_getElem?_getD,List.getD_eq_getElem?_getD,List.getElem?_eq_none (by omega),List.getElem?_eq_none (by omega)]
  exact⟨rfl,id⟩
theorem Cw.set{x y:Hp}{w:Nat}{c:weak_Cell}(h:y.Cells=x.Cells.set w c):Cw x y w:=λi hi=>by
 rw[h,List.getD_eq_getElem?_getD,List.getD_eq_getElem?_getD,List.getElem?_set_ne (by omega)]
 exact⟨rfl,id⟩
theorem c4T{x:Hp}(hx:Q5 x){k v:Int}(h:Has x.T k v)(hk:k∈lv (stp x).S):Has (stp x).T k v:=by
 have hR:=hx.sh.sr
 cases e:zr x with
 | nil=>rw[a7B e];exact h
 | cons z l=>
  have hz:z∈zr x:=by rw[e];exact List.mem_cons_self ..
  have hzl:=(a3n.1 hz).1
  rw[a3i e] at hk ⊢
  split
  ·rename_i q
   rw[(a9v (x:=x) hR hzl).2.2.2.1]
   exact h
  ·rename_i q
   rw[if_neg q] at hk
   have hn:([z]:List Int).Nodup:=by simp
   have hm:∀d ∈ [z],d∈lv x.S:=by simpa using hzl
   obtain⟨_,_,e3,_⟩:=b14 hR hn hm
   rw[b7D hR hn hm,List.mem_filter,decide_eq_true_iff] at hk
   rw[e3]
   exact ((a3m hx.sh.hr [z] (by simp)).2.2.2.2.1 k v).2 ⟨hk.2,h⟩
theorem b9x{x:Hp}(hx:Q5 x){k v:Int}(h:Has x.T k v):∀n,k∈lv (stN n x).S→Has (stN n x).T k v
 | 0,_=>h
 | n+1,hk=>by
  rw[a1b] at hk ⊢
  exact c4T (T7 hx n) (b9x hx h n ((b9y (T7 hx n)).lv k hk)) hk
theorem c27{x:Hp}(hx:Q5 x){k v:Int}(h:Has x.T k v)(hk:k∈lv (M6 x).S):Has (M6 x).T k v:=b9x hx h 100 hk
end Go.Sh
namespace Go.Sh
def Fst(s:store_Store)(i:Nat):Prop:=i<s.S.Cells.length∧(ce s i).State=0∧∀j,j<i→(ce s j).State≠0
theorem c78{s:store_Store}(hR:SR s)(hb:s.Serial<9223372036854775807)(a p:Int) :
  (¬(0≤a∧a≤4)∧N8 s a p=some (s,0,1)) ∨
  ((0≤a∧a≤4)∧¬(-1≤p∧p≤5)∧N8 s a p=some (s,0,13)) ∨
  ((0≤a∧a≤4)∧(-1≤p∧p≤5)∧(∀i,i<s.S.Cells.length→(ce s i).State≠0)∧N8 s a p=some (s,0,4)) ∨
  ((0≤a∧a≤4)∧(-1≤p∧p≤5)∧∃i,Fst s i∧N8 s a p=some (mkS s i a.toNat p,hdl s i,0)):=by
 have hs':=hR.Y4
 have hR':=p5.2 hR
 unfold N8 b51
 by_cases ha:0≤a∧a≤4
 ·right
  obtain⟨ha1,ha2⟩:=ha
  obtain⟨n,rfl⟩:∃n:Nat,a=n:=⟨a.toNat,by omega⟩
  rw[if_neg (by simp;omega),b6M (by omega) (by omega)]
  simp only[d09]
  by_cases hp : -1≤p∧p≤5
  ·right
   unfold G2
   simp only[d09]
   have e1:(decide (p ≥ -1)&&decide (p<6))=true:=by simp;omega
   rw[e1]
   have hl:SlO s.S:=⟨a06 hR',hR'.l0,hR'.l9,λi hi=>b5D hR' i hi⟩
   rcases b5T hl ⟨s.Serial+1,0,0,p,false,List.replicate n 0⟩ with ⟨i,hi,h0,hf,e⟩ | ⟨hf,e⟩
   ·right
    refine⟨⟨ha1,ha2⟩,hp,i,⟨hi,by rw[C9 hi];exact h0,λj hj=>by rw[C9 (by omega)];exact hf j hj⟩,?_⟩
    simp only[bne_self_eq_false,Bool.false_eq_true,if_false,Bool.not_true]
    rw[show s7 (s.Serial+1)=s.Serial+1 from E5 (by omega) (by omega),e]
    unfold mkS hdl
    rw[C9 hi]
    simp
   ·left
    refine⟨⟨ha1,ha2⟩,hp,λi hi=>by rw[C9 hi];exact hf i hi,?_⟩
    simp only[bne_self_eq_false,Bool.false_eq_true,if_false,Bool.not_true]
    rw[show s7 (s.Serial+1)=s.Serial+1 from E5 (by omega) (by omega),e]
    simp
  ·left
   refine⟨⟨ha1,ha2⟩,hp,?_⟩
   unfold G2
   simp only[d09]
   have e1:(decide (p ≥ -1)&&decide (p<6))=false:=by rw[Bool.eq_false_iff];simp;omega
   rw[e1]
   simp
 ·left
  refine⟨ha,?_⟩
  rw[if_pos (by simp;omega)]
  simp
end Go.Sh
namespace Go.Sh
def sd(x:Hp)(r:Int):Int:=if r<0 then 0 else x.Roots.getD r.toNat 0
def asd(x:Hp)(r:Int):Int × Int:=if sd x r=0 then (0,2) else (sd x r,0)
def Y4(x:Hp)(h:Int):Int:=(ob x.S h).Serial
theorem in0{n l m e:Int}(he:e≠0)(h:D6 n l m e=0):l≤n∧n≤m:=by
 unfold D6 at h
 split at h
 ·exact absurd h he
 ·omega
theorem b7V{a b c:Int}(h:N9 a b c=0):a=0∧b=0∧c=0:=by
 unfold N9 at h
 split at h
 ·contradiction
 ·split at h
  ·contradiction
  ·omega
theorem c30{k a b c:Int}(h:A7 k a b c=0):1≤k∧k≤12:=by
 refine Decidable.byContradiction λq=>?_
 have:A7 k a b c=14:=by
  unfold A7
  repeat rw[if_neg (by omega)]
 omega
theorem c9t{a b c:Int}(h:A7 1 a b c=0):(0≤a∧a≤5)∧(0≤b∧b≤4) ∧ -1≤c∧c≤5:=by
 obtain⟨h1,h2,h3⟩:=b7V (show N9 (D6 a 0 5 6) (D6 b 0 4 1) (D6 c (-1) 5 13)=0 from h)
 exact⟨in0 (by decide) h1,in0 (by decide) h2,in0 (by decide) h3⟩
theorem c5V{a b c:Int}(h:A7 2 a b c=0):(0≤a∧a≤5)∧(0≤b∧b≤5):=by
 obtain⟨h1,h2,_⟩:=b7V (show N9 (D6 a 0 5 6) (D6 b 0 5 6) 0=0 from h)
 exact⟨in0 (by decide) h1,in0 (by decide) h2⟩
theorem c9u{a b c:Int}(h:A7 3 a b c=0):0≤a∧a≤5:=in0 (by decide) (show D6 a 0 5 6=0 from h)
theorem c9v{a b c:Int}(h:A7 4 a b c=0):(0≤a∧a≤5)∧(0≤b∧b≤5)∧0≤c∧c≤3:=by
 obtain⟨h1,h2,h3⟩:=b7V (show N9 (D6 a 0 5 6) (D6 b 0 5 6) (D6 c 0 3 5)=0 from h)
 exact⟨in0 (by decide) h1,in0 (by decide) h2,in0 (by decide) h3⟩
theorem c9w{a b c:Int}(h:A7 5 a b c=0):(0≤a∧a≤5)∧(0≤b∧b≤3) ∧ -1≤c∧c≤5:=by
 obtain⟨h1,h2,h3⟩:=b7V (show N9 (D6 a 0 5 6) (D6 b 0 3 5) (D6 c (-1) 5 6)=0 from h)
 exact⟨in0 (by decide) h1,in0 (by decide) h2,in0 (by decide) h3⟩
theorem c9x{a b c:Int}(h:A7 6 a b c=0):(0≤a∧a≤5)∧(-1≤b∧b≤5) ∧ -1≤c∧c≤5:=by
 obtain⟨h1,h2,h3⟩:=b7V (show N9 (D6 a 0 5 7) (D6 b (-1) 5 6) (D6 c (-1) 5 13)=0 from h)
 exact⟨in0 (by decide) h1,in0 (by decide) h2,in0 (by decide) h3⟩
theorem c9y{a b c:Int}(h:A7 7 a b c=0):(0≤a∧a≤5)∧(0≤b∧b≤5):=by
 obtain⟨h1,h2,_⟩:=b7V (show N9 (D6 a 0 5 6) (D6 b 0 5 7) 0=0 from h)
 exact⟨in0 (by decide) h1,in0 (by decide) h2⟩
theorem c9z{a b c:Int}(h:A7 8 a b c=0):(0≤a∧a≤5)∧(-1≤b∧b≤5):=by
 obtain⟨h1,h2,_⟩:=b7V (show N9 (D6 a 0 5 6) (D6 b (-1) 5 6) 0=0 from h)
 exact⟨in0 (by decide) h1,in0 (by decide) h2⟩
theorem c9A{a b c:Int}(h:A7 9 a b c=0):(0≤a∧a≤5)∧(0≤b∧b≤5):=c5V (show A7 2 a b c=0 from h)
theorem c7N{a b c:Int}(h:A7 10 a b c=0):(0≤a∧a≤5)∧(0≤b∧b≤5):=c5V (show A7 2 a b c=0 from h)
section
variable{x:Hp}(hx:HpS x)
include hx
theorem b1j{r:Int}(h:0≤r∧r≤5):ix x.Roots r=some (sd x r):=by
 have:=hx.r6
 obtain⟨n,rfl⟩:∃n:Nat,r=n:=⟨r.toNat,by omega⟩
 have hn:n<x.Roots.length:=by omega
 rw[l6 hn]
 unfold sd
 rw[if_neg (by omega),Int.toNat_natCast,List.getD_eq_getElem?_getD,List.getElem?_eq_getElem hn]
 rfl
theorem b22{r:Int}(h:¬(0≤r∧r≤5)):sd x r=0:=by
 have:=hx.r6
 unfold sd
 split
 ·rfl
 ·rw[List.getD_eq_getElem?_getD,List.getElem?_eq_none (by omega)]
  rfl
theorem a5Y(r:Int):sd x r=0∨sd x r∈lv x.S:=by
 by_cases h:0≤r∧r≤5
 ·have e:=b1j hx h
  unfold ix at e
  rw[if_pos h.1] at e
  exact hx.rt _ (List.mem_of_getElem? e)
 ·exact .inl (b22 hx h)
theorem a92(r:Int):sd x r≤9223372036854775807:=by
 rcases a5Y hx r with h | h
 ·omega
 ·have:=H7 hx.sr h;omega
theorem a5A(r:Int):I4 x r=some (sd x r):=by
 have h6:=hx.r6
 unfold I4
 by_cases h:0≤r∧r≤5
 ·rw[if_neg (by simp;omega),b1j hx h]
  rfl
 ·rw[if_pos (by simp;omega),b22 hx h]
theorem c23{r:Int}(h:r≤5):a4F (hO x) r=some (sd x r):=by
 unfold a4F
 by_cases q:r<0
 ·rw[if_pos (by simpa using q),b22 hx (by omega)]
 ·rw[if_neg (by simpa using q),show (hO x).Roots=x.Roots from rfl,b1j hx (by omega)]
  rfl
theorem a4u(r:Int):I7 x r=some (asd x r):=by
 unfold I7 asd
 rw[a5A hx,d09]
 by_cases h:sd x r=0
 ·rw[if_pos (by simpa using h),if_pos h]
 ·rw[if_neg (by simpa using h),if_neg h]
theorem a8U{r:Int}(h:0≤r∧r≤5):T4 (hO x) r=some (asd x r):=by
 unfold T4 asd
 rw[show (hO x).Roots=x.Roots from rfl,b1j hx h,d09]
 by_cases h:sd x r=0
 ·rw[if_pos (by simpa using h),if_pos h]
 ·rw[if_neg (by simpa using h),if_neg h]
theorem c7f{h:Int}(hh:h≤9223372036854775807):a0Z x h=some (Y4 x h):=by
 obtain⟨e,h1,_⟩:=N3 (p5.2 hx.sr) hh
 unfold a0Z
 rw[h1]
 rfl
theorem c5D{h:Int}(hh:h≤9223372036854775807):a3a (hO x) h=some (Y4 x h):=by
 obtain⟨e,h1,_⟩:=N3 (p5.2 hx.sr) hh
 unfold a3a
 rw[show (hO x).S=sO x.S from rfl,a2j x.S (by have:=hx.sr.len;omega) hh,h1]
 rfl
theorem b12(r:Int):J9 x r=some (Y4 x (sd x r)):=by
 unfold J9
 rw[a5A hx,d09,c7f hx (a92 hx r)]
 rfl
theorem b23:Y4 x 0=0:=by
 unfold Y4
 rw[a8d (p5.2 hx.sr) (by omega) (a4q hx.sr)]
theorem c7J(r:Int):b0M (hO x) r=some (Y4 x (sd x r)):=by
 unfold b0M
 by_cases h:0≤r∧r≤5
 ·rw[if_neg (by simp;omega),show (hO x).Roots=x.Roots from rfl,b1j hx h,d09,c5D hx (a92 hx r)]
  rfl
 ·rw[if_pos (by simp;omega),b22 hx h,b23 hx]
end
theorem c7g{x z:Hp}(hx:HpS x)(k:Ks x.S z.S){h:Int}(hh:h=0∨h∈lv x.S):Y4 z h=Y4 x h:=by
 rcases hh with e | e
 ·subst e
  unfold Y4
  rw[a8d (p5.2 hx.sr) (by omega) (a4q hx.sr),a8d (p5.2 k.sr) (by omega) (a4q k.sr)]
 ·exact k.ob h e
theorem b5J{x z:Hp}(h:z.Roots=x.Roots)(r:Int):sd z r=sd x r:=by unfold sd;rw[h]
noncomputable def doR(x:Hp)(o:code_Op)(v:Hp × Int):Option (Hp × Int × Int):=
 if (v.2 != 0) then some (x,0,v.2) else (a0g v.1).bind λv5=>(P5 v.1 v5 o).bind λv6=>some (v5,v6,0)
theorem a74{x:Hp}{o:code_Op}{n:Option Nat}(hc:A7 o.Kind o.A o.B o.C=0)(hk:∃l,a1P=some l∧y4 l o.Kind=some n):l5 x o=(b1G n ⟨x,o⟩).bind (doR x o):=by
 obtain⟨l,h1,h2⟩:=hk
 unfold l5
 rw[b15,hc,d09,if_neg (by simp),h1,d09,h2,if_neg (by simp)]
 rfl
theorem c51{x:Hp}{o:code_Op}(hc:A7 o.Kind o.A o.B o.C≠0):l5 x o=some (x,0,A7 o.Kind o.A o.B o.C)∧A8 (hO x) ⟨o.Kind,o.A,o.B,o.C⟩=some (hO x,0,A7 o.Kind o.A o.B o.C):=by
 constructor
 ·unfold l5
  rw[b15,d09,if_pos (by simpa using hc)]
 ·unfold A8
  rw[a63,d09,if_pos (by simpa using hc)]
section
variable{x:Hp}{a b c:Int}
theorem c9B(hc:A7 1 a b c=0):l5 x ⟨1,a,b,c⟩=(O2 ⟨x,⟨1,a,b,c⟩⟩).bind (doR x ⟨1,a,b,c⟩):=a74 (o:=⟨1,a,b,c⟩) (n:=some 96) hc ⟨_,rfl,rfl⟩
theorem c9C(hc:A7 2 a b c=0):l5 x ⟨2,a,b,c⟩=(F6 ⟨x,⟨2,a,b,c⟩⟩).bind (doR x ⟨2,a,b,c⟩):=a74 (o:=⟨2,a,b,c⟩) (n:=some 97) hc ⟨_,rfl,rfl⟩
theorem c9D(hc:A7 3 a b c=0):l5 x ⟨3,a,b,c⟩=(U8 ⟨x,⟨3,a,b,c⟩⟩).bind (doR x ⟨3,a,b,c⟩):=a74 (o:=⟨3,a,b,c⟩) (n:=some 98) hc ⟨_,rfl,rfl⟩
theorem c9E(hc:A7 4 a b c=0):l5 x ⟨4,a,b,c⟩=(U9 ⟨x,⟨4,a,b,c⟩⟩).bind (doR x ⟨4,a,b,c⟩):=a74 (o:=⟨4,a,b,c⟩) (n:=some 99) hc ⟨_,rfl,rfl⟩
theorem c9F(hc:A7 5 a b c=0):l5 x ⟨5,a,b,c⟩=(R3 ⟨x,⟨5,a,b,c⟩⟩).bind (doR x ⟨5,a,b,c⟩):=a74 (o:=⟨5,a,b,c⟩) (n:=some 100) hc ⟨_,rfl,rfl⟩
theorem c9G(hc:A7 6 a b c=0):l5 x ⟨6,a,b,c⟩=(O3 ⟨x,⟨6,a,b,c⟩⟩).bind (doR x ⟨6,a,b,c⟩):=a74 (o:=⟨6,a,b,c⟩) (n:=some 101) hc ⟨_,rfl,rfl⟩
theorem c9H(hc:A7 7 a b c=0):l5 x ⟨7,a,b,c⟩=(R9 ⟨x,⟨7,a,b,c⟩⟩).bind (doR x ⟨7,a,b,c⟩):=a74 (o:=⟨7,a,b,c⟩) (n:=some 102) hc ⟨_,rfl,rfl⟩
theorem c9I(hc:A7 8 a b c=0):l5 x ⟨8,a,b,c⟩=(V0 ⟨x,⟨8,a,b,c⟩⟩).bind (doR x ⟨8,a,b,c⟩):=a74 (o:=⟨8,a,b,c⟩) (n:=some 103) hc ⟨_,rfl,rfl⟩
theorem c9J(hc:A7 9 a b c=0):l5 x ⟨9,a,b,c⟩=(X8 ⟨x,⟨9,a,b,c⟩⟩).bind (doR x ⟨9,a,b,c⟩):=a74 (o:=⟨9,a,b,c⟩) (n:=some 104) hc ⟨_,rfl,rfl⟩
theorem c7R(hc:A7 10 a b c=0):l5 x ⟨10,a,b,c⟩=(L6 ⟨x,⟨10,a,b,c⟩⟩).bind (doR x ⟨10,a,b,c⟩):=a74 (o:=⟨10,a,b,c⟩) (n:=some 105) hc ⟨_,rfl,rfl⟩
theorem c05{k:Int}(hk:k=11∨k=12)(hc:A7 k a b c=0):l5 x ⟨k,a,b,c⟩=some (x,0,14)∧A8 (hO x) ⟨k,a,b,c⟩=some (hO x,0,14):=by
 constructor
 ·unfold l5
  rw[b15,hc,d09,if_neg (by simp)]
  rcases hk with rfl | rfl <;> rfl
 ·unfold A8 a2E
  rw[a63,hc,d09,if_neg (by simp)]
  rcases hk with rfl | rfl <;> rfl
variable{y:g6}
def rT(y:g6)(a:Int)(v:Int × Int):Option (g6 × Int × Int):=
 if (v.2 != 0) then some (y,0,v.2) else (a20 y a v.1).bind λv15=>(W2 v15.1).bind λv16=>(b0M v16 a).bind λv17=>some (v16,v17,0)
def rO(y:g6)(v:g6 × Int × Int):Option (g6 × Int × Int):=
 if (v.2.2 != 0) then some (y,0,v.2.2) else (W2 v.1).bind λv8=>(a3a y v.2.1).bind λv9=>some (v8,v9,0)
theorem b9o{k:Int}(hk:k=2∨k=3∨k=4∨k=7∨k=9)(hc:A7 k a b c=0):A8 y ⟨k,a,b,c⟩=(a1z y ⟨k,a,b,c⟩).bind (rT y a):=by
 unfold A8 a2E
 rw[a63,hc,d09,if_neg (by simp)]
 rcases hk with rfl | rfl | rfl | rfl | rfl <;> rfl
theorem b9n{k:Int}(hk:k=5∨k=6∨k=8)(hc:A7 k a b c=0):A8 y ⟨k,a,b,c⟩=(a0F y ⟨k,a,b,c⟩).bind (rO y):=by
 unfold A8 a2E
 rw[a63,hc,d09,if_neg (by simp)]
 rcases hk with rfl | rfl | rfl <;> rfl
theorem c8y(hc:A7 1 a b c=0):A8 y ⟨1,a,b,c⟩=(a10 y.S b c).bind λv10=>if (v10.2.2 != 0) then some (y,0,v10.2.2) else (a20 ⟨v10.1,y.Roots,y.Cells,y.T,y.Q⟩ a v10.2.1).bind λv11=>(W2 v11.1).bind λv12=>(b0M v12 a).bind λv13=>some (v12,v13,0):=by
 unfold A8 a2E
 rw[a63,hc,d09,if_neg (by simp)]
 rfl
theorem c68(hc:A7 10 a b c=0):A8 y ⟨10,a,b,c⟩=(ix y.Roots a).bind λv3=>(ix y.Roots b).bind λv4=>if (v3==v4) then some (y,1,0) else some (y,0,0):=by
 unfold A8 a2E
 rw[a63,hc,d09,if_neg (by simp)]
 rfl
end
end Go.Sh
