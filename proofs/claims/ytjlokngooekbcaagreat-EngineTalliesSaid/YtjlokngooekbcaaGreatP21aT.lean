/-
 Several texts of one kind, one behind the other.
-/
import Derived.Test.YtjlokngooekbcaaGreatP21aSh
import Derived.Test.YtjlokngooekbcaaGreatP21aSh1
import Derived.Test.YtjlokngooekbcaaGreatP21aSh
import Derived.Test.YtjlokngooekbcaaGreatP21aSh
import Derived.Test.YtjlokngooekbcaaGreatP21aSh
set_option linter.unusedVariables false
set_option linter.unusedSimpArgs false
set_option linter.unusedSectionVars false
namespace Go.Sh
def Hnd(h:Int):Prop:=1≤h∧(h-1) % 32<24∧(h-1) / 32≤9
instance(h:Int):Decidable (Hnd h):=by unfold Hnd;infer_instance
theorem b4E{h:Int}(q:Hnd h):1≤h∧h≤320:=by unfold Hnd at q;omega
theorem a7X{i g:Int}(h1:0≤i)(h2:i<24)(h3:0≤g)(h4:g≤9):a1p i g=some (1+i+32*g):=by
 unfold a1p;rw[if_neg (by simp;omega)]
 rw[show u5 (i*1)=i by rw[a3T];omega,show u5 (1+i)=1+i by rw[a3T];omega,show u5 (g*32)=32*g by rw[a3T];omega,show u5 (1+i+32*g)=1+i+32*g by rw[a3T];omega]
theorem a49{i g:Int}:a3g i g=some (if 0≤i∧i<24∧0≤g∧g≤9 then 1+i+32*g else 0):=by
 unfold a3g;split;·rename_i h;rw[if_neg (by simp at h;omega)]
 ·rename_i h;have h:0≤i∧i<24∧0≤g∧g≤9:=by simp at h;omega
  rw[if_pos h];rw[show u5 (1+i)=1+i by rw[a3T];omega,show u5 (32*g)=32*g by rw[a3T];omega,show u5 (1+i+32*g)=1+i+32*g by rw[a3T];omega]
theorem a7p{h:Int}(hh:h≤9223372036854775807):a1R h=some (if Hnd h then ((h-1) % 32,(h-1) / 32,true) else (-1,-1,false)):=by
 unfold a1R;split
 ·rename_i q;rw[if_neg (by unfold Hnd;simp at q;omega)]
 ·rename_i q;have q:1≤h:=by simpa using q
  rw[C6 (n:=h-1),a9d (by omega) (by omega),d6y,b3N (by omega) (by omega) (by omega),d6y,b3N (by omega) (by omega) (by omega),d6y,Int.ediv_one]
  split
  ·rename_i q2;rw[if_neg (by unfold Hnd;simp at q2;omega)]
  ·rename_i q2;rw[if_pos (by unfold Hnd;simp at q2;omega)]
theorem a4j{h:Int}(hh:h≤9223372036854775807):a27 h=some (if Hnd h then (h-1) % 32 else -1):=by
 unfold a27;rw[a7p hh,d6y];split <;> rfl
theorem a5q{h:Int}(hh:h≤9223372036854775807):a4i h=some (if Hnd h then (h-1) / 32 else -1):=by
 unfold a4i;rw[a7p hh,d6y];split <;> rfl
theorem b1k{h:Int}:a5V h=some (decide (Hnd h)):=by
 unfold a5V;split
 ·rename_i q;rw[decide_eq_false (by unfold Hnd;simp at q;omega)]
 ·rename_i q;have q:1≤h∧h≤400:=by simp at q;omega
  rw[C6 (n:=h-1),a9d (by omega) (by omega),d6y,b3N (by omega) (by omega) (by omega),d6y,a49,d6y]
  congr 1;by_cases k:Hnd h
  ·rw[decide_eq_true k,if_pos (by unfold Hnd at k;omega)]
   simp;omega
  ·rw[decide_eq_false k,if_neg (by unfold Hnd at k;omega)]
   simp;omega
theorem a8b{h:Int}:a5U h=some (if Hnd h then (h-1) % 32 else -1):=by
 unfold a5U;rw[b1k,d6y];by_cases k:Hnd h
 ·have:=b4E k;rw[decide_eq_true k,if_neg (by simp),if_pos k,C6 (n:=h-1),a9d (by omega) (by omega),d6y]
 ·rw[decide_eq_false k,if_pos (by simp),if_neg k]
theorem c1F{h:Int}:b3O h=some (if Hnd h then (h-1) / 32 else -1):=by
 unfold b3O;rw[b1k,d6y];by_cases k:Hnd h
 ·have:=b4E k;rw[decide_eq_true k,if_neg (by simp),if_pos k,C6 (n:=h-1),b3N (by omega) (by omega) (by omega),d6y]
 ·rw[decide_eq_false k,if_pos (by simp),if_neg k]
end Go.Sh
namespace Go.Sh
theorem c2b(a b:List Int)(ha:a.length<4611686018427387904):b40 a b=some (decide (a=b)):=by
 unfold b40;by_cases hl:a.length=b.length
 ·rw[if_neg (by simp[hl])]
  simp only[jn];refine R6 a.length (λk=>∀j (h1:j<a.length) (h2:j<b.length),j<k→a[j]=b[j]) ha (λ_ _ _ h=>by omega) (λk hk hP=>?_) (λhP=>?_)
  ·have hk2:k<b.length:=by omega
   simp only[Int.ofNat_lt,hk,decide_true,if_true,o9 hk,o9 hk2,d6y];by_cases e:a[k]=b[k]
   ·refine .inl ⟨?_,λj h1 h2 hj=>?_⟩;·rw[if_neg (by simpa using e),l5]
    ·rcases Nat.lt_or_ge j k with q | q
     ·exact hP j h1 h2 q
     ·have:j=k:=by omega
      subst this;exact e
   ·refine .inr ⟨.inl false,by rw[if_pos (by simpa using e)],?_⟩
    simp only;rw[decide_eq_false (λq=>e (by subst q;rfl))]
  ·refine⟨.inr (),by simp,?_⟩
   simp only;rw[decide_eq_true (List.ext_getElem hl λi h1 h2=>hP i h1 h2 h1)]
 ·rw[if_pos (by rw[bne_iff_ne];omega)]
  rw[decide_eq_false (λq=>hl (by rw[q]))]
end Go.Sh
namespace Go.Sh
abbrev z0:m8:=⟨0,0,0,0,false,[]⟩
structure SlO (s:c8):Prop where
 len:s.a8.length≤24
 l0:0≤s.Last
 l9:s.Last≤9
 cell:∀i (h:i<s.a8.length),0≤s.a8[i].State∧s.a8[i].State≤3∧0≤s.a8[i].Gen∧s.a8[i].Gen≤s.Last
theorem a6i{s:c8}{i:Int}{k:Nat}{c:b8}(hi:i=k)(hk:k<s.a8.length)(hl:s.a8.length≤24):D0 s i c=some ⟨s.a8.set k c,s.Last⟩:=by
 subst hi;unfold D0 y5;rw[M3 (by omega) (by omega),d6y,o9 hk,d6y,Int.toNat_natCast]
theorem b8L{s:c8}(hR:SlO s)(v:m8) :
  (∃i,∃h:i<s.a8.length,s.a8[i].State=0∧(∀j (hj:j<i),s.a8[j].State≠0)∧I9 s v=some (⟨s.a8.set i ⟨1,s.a8[i].Gen,v⟩,s.Last⟩,1+i+32*s.a8[i].Gen,0)) ∨
  ((∀i (h:i<s.a8.length),s.a8[i].State≠0)∧I9 s v=some (s,0,4)):=by
 have hlen:=hR.len;by_cases q:∃i,∃h:i<s.a8.length,s.a8[i].State=0
 ·obtain⟨i,⟨hi,h0⟩,hmin⟩:=W0 (p:=λi=>∃h:i<s.a8.length,s.a8[i].State=0) q;left;refine⟨i,hi,h0,λj hj=>λe=>by have:=hmin j ⟨by omega,e⟩;omega,?_⟩
  unfold I9;simp only[jn,N6,d6y];have hc:=hR.cell i hi;refine R6 s.a8.length (λk=>k≤i) (by omega) (by omega) (λk hk hP=>?_) (λhP=>by omega)
  rcases Nat.lt_or_ge k i with g | g
  ·refine .inl ⟨?_,g⟩;have:s.a8[k].State≠0:=λe=>by have:=hmin k ⟨hk,e⟩;omega
   simp only[Int.ofNat_lt,hk,decide_true,if_true,o9 hk,d6y];rw[if_neg (by simpa using this),l5]
  ·have:k=i:=by omega
   subst this;refine .inr ⟨.inl _,?_,rfl⟩;simp only[Int.ofNat_lt,hk,decide_true,if_true,o9 hk,d6y,h0,a6i rfl hk hlen];rw[a7X (by omega) (by omega) hc.2.2.1 (by have:=hR.l9;omega)]
   simp
 ·right;refine⟨λi h e=>q ⟨i,h,e⟩,?_⟩;unfold I9;simp only[jn,N6,d6y];refine R6 s.a8.length (λk=>True) (by omega) trivial (λk hk _=>?_) (λhP=>⟨.inr (),by simp,rfl⟩)
  refine .inl ⟨?_,trivial⟩;have:s.a8[k].State≠0:=λe=>q ⟨k,hk,e⟩;simp only[Int.ofNat_lt,hk,decide_true,if_true,o9 hk,d6y];rw[if_neg (by simpa using this),l5]
def b10(s:c8)(h:Int)(i:Nat):Prop:=∃hi:i<s.a8.length,Hnd h∧(h-1) % 32=i∧s.a8[i].Gen=(h-1) / 32∧(s.a8[i].State=1∨s.a8[i].State=2)
theorem a1O(s:c8){h:Int}(hh:h≤9223372036854775807) :
  (∃i,b10 s h i∧w8 s h=some ((i:Int),0))∨((∀i,¬b10 s h i)∧w8 s h=some (-1,if h=0 then 2 else 3)):=by
 unfold w8;by_cases h0:h=0
 ·right;subst h0;exact⟨λi ⟨_,h1,_⟩=>by unfold Hnd at h1;omega,by simp⟩
 ·rw[if_neg (by simpa using h0),a4j hh,d6y,if_neg h0]
  by_cases hd:Hnd h
  ·rw[if_pos hd];have hd':=hd;unfold Hnd at hd';obtain⟨k,hk⟩:∃k:Nat,(h-1) % 32=k:=⟨((h-1) % 32).toNat,by omega⟩
   rw[hk];by_cases hl:k<s.a8.length
   ·rw[if_neg (by simp;omega),o9 hl,d6y,a5q hh,d6y,if_pos hd]
    by_cases g:s.a8[k].Gen=(h-1) / 32∧(s.a8[k].State=1∨s.a8[k].State=2)
    ·left;refine⟨k,⟨hl,hd,hk,g⟩,?_⟩;rw[if_neg];simp;omega
    ·right;refine⟨λi ⟨hi,_,h2,h3⟩=>?_,?_⟩
     ·have:i=k:=by omega
      subst this;exact g h3
     ·rw[if_pos];simp;omega
   ·right;refine⟨λi ⟨hi,_,h2,h3⟩=>by omega,?_⟩
    rw[if_pos (by simp;omega)]
  ·right;refine⟨λi ⟨hi,h1,_⟩=>hd h1,?_⟩;rw[if_neg hd,if_pos (by simp)]
theorem a8N{s:c8}{h:Int}{i:Nat}(hf:b10 s h i):w8 s h=some ((i:Int),0):=by
 have hh:=b4E hf.2.1;rcases a1O s (h:=h) (by omega) with ⟨j,h1,h2⟩ | ⟨h1,_⟩
 ·obtain⟨_,_,e1,_⟩:=hf;obtain⟨_,_,e2,_⟩:=h1;have:i=j:=by omega
  subst this;exact h2
 ·exact absurd hf (h1 i)
theorem b2f{s:c8}{h:Int}(hh:h≤9223372036854775807)(hf:∀i,¬b10 s h i):w8 s h=some (-1,if h=0 then 2 else 3):=by
 rcases a1O s hh with ⟨j,h1,_⟩ | ⟨_,h2⟩;·exact absurd h1 (hf j)
 ·exact h2
theorem a1M(h:Int):(if h=0 then 2 else 3:Int)≠0:=by split <;> omega
theorem b9v{s:c8}{h:Int}{i:Nat}(hf:b10 s h i):∃hi:i<s.a8.length,E0 s h=some (if s.a8[i].State=2 then (z0,3) else (s.a8[i].Val,0)):=by
 refine⟨hf.1,?_⟩;unfold E0;rw[a8N hf,d6y,if_neg (by simp),o9 hf.1,d6y]
 split <;> rename_i q
 ·rw[if_pos (by simpa using q)]
 ·rw[if_neg (by simpa using q)]
theorem c53{s:c8}{h:Int}(hh:h≤9223372036854775807)(hf:∀i,¬b10 s h i):E0 s h=some (z0,if h=0 then 2 else 3):=by
 unfold E0;rw[b2f hh hf,d6y,if_pos (by simpa using a1M h)]
theorem c0m{s:c8}{h:Int}{v:m8}{i:Nat}(hl:s.a8.length≤24)(hf:b10 s h i):∃hi:i<s.a8.length,K1 s h v=some (⟨s.a8.set i ⟨s.a8[i].State,s.a8[i].Gen,v⟩,s.Last⟩,0):=by
 refine⟨hf.1,?_⟩;unfold K1;rw[a8N hf,d6y,if_neg (by simp),o9 hf.1,d6y,a6i rfl hf.1 hl,d6y]
theorem c7u{s:c8}{h:Int}{v:m8}(hh:h≤9223372036854775807)(hf:∀i,¬b10 s h i):K1 s h v=some (s,if h=0 then 2 else 3):=by
 unfold K1;rw[b2f hh hf,d6y,if_pos (by simpa using a1M h)]
end Go.Sh
namespace Go.Sh
def oo(o:m8):D9:=⟨o.Serial,o.Strong,o.Weak,o.Prog,o.Started,o.Fields⟩
def cO(c:b8):p9:=⟨c.State,c.Gen,oo c.Val⟩
def sO(s:a7):m9:=⟨s.S.a8.map cO,s.S.Last,s.Serial⟩
def Sm(s:a7):Prop:=s.S.a8.length≤30∧∀i (h:i<s.S.a8.length),s.S.a8[i].Val.Fields.length≤10
instance(s:a7):Decidable (Sm s):=by unfold Sm;infer_instance
def plc(i:Nat)(c:p9):B8:=⟨c.State,c.Gen,(i:Int)⟩
def pl(t:m9):B9:=⟨t.a8.mapIdx plc,t.Last⟩
theorem a2Y(t:m9)(h:t.a8.length≤1000):K0 t=some (pl t):=by
 unfold K0;simp only[jn];refine M4 t.a8.length (λk acc=>acc=(t.a8.mapIdx plc).take k) (by omega) (by simp) (λk acc hk hP=>?_) (λacc hP=>?_)
 ·subst hP;refine .inl ⟨_,?_,rfl⟩;simp only[Int.ofNat_lt,hk,decide_true,if_true,o9 hk,d6y];rw[A2 (by omega) (by simp;omega),d6y,l5]
  have e:(t.a8.mapIdx plc).take (k+1)=(t.a8.mapIdx plc).take k ++ [plc k t.a8[k]]:=by
   rw[List.take_add_one,List.getElem?_eq_getElem (by simpa using hk)]
   simp
  rw[e];rfl
 ·subst hP;rw[List.take_of_length_le (by simp)]
  exact⟨t.a8.mapIdx plc,by simp only[Int.lt_irrefl,decide_false,Bool.false_eq_true,if_false],rfl⟩
theorem c7X(s:B9):a8V s=some (decide (s.a8.length≤24∧0≤s.Last∧s.Last≤9∧∀i (h:i<s.a8.length),0≤s.a8[i].State∧s.a8[i].State≤3∧0≤s.a8[i].Gen∧s.a8[i].Gen≤s.Last)):=by
 unfold a8V;split
 ·rename_i q;rw[decide_eq_false (by simp at q;omega)]
 ·rename_i q;have q:s.a8.length≤24∧0≤s.Last∧s.Last≤9:=by simp at q;omega
  simp only[jn];refine R6 s.a8.length (λk=>∀j (h:j<s.a8.length),j<k→0≤s.a8[j].State∧s.a8[j].State≤3∧0≤s.a8[j].Gen∧s.a8[j].Gen≤s.Last) (by omega) (λ_ _ h=>by omega) (λk hk hP=>?_) (λhP=>?_)
  ·by_cases g:0≤s.a8[k].State∧s.a8[k].State≤3∧0≤s.a8[k].Gen∧s.a8[k].Gen≤s.Last
   ·refine .inl ⟨?_,λj h hj=>?_⟩
    ·simp only[Int.ofNat_lt,hk,decide_true,if_true,o9 hk,d6y];rw[if_neg (by simp;omega),l5]
    ·rcases Nat.lt_or_ge j k with q' | q'
     ·exact hP j h q'
     ·have:j=k:=by omega
      subst this;exact g
   ·refine .inr ⟨.inl false,?_,?_⟩
    ·simp only[Int.ofNat_lt,hk,decide_true,if_true,o9 hk,d6y];rw[if_pos (by simp;omega)]
    ·simp only;rw[decide_eq_false (λq'=>g (q'.2.2.2 k hk))]
  ·refine⟨.inr (),by simp,?_⟩
   simp only;rw[decide_eq_true ⟨q.1,q.2.1,q.2.2,λi h=>hP i h h⟩]
def Thr(c:p9):Prop:=c.State=1∨c.State=2
instance(c:p9):Decidable (Thr c):=by unfold Thr;infer_instance
theorem b1N(c:p9):a30 c=some (decide (Thr c)):=by
 unfold a30;congr 1;rw[Bool.eq_iff_iff,decide_eq_true_iff,Bool.or_eq_true,beq_iff_eq,beq_iff_eq];rfl
def c4W(t:m9)(o:D9):Prop:=1≤o.Serial∧o.Serial≤t.Serial∧0≤o.Strong∧0≤o.Weak ∧ -1≤o.Prog∧o.Prog≤5∧o.Fields.length≤4
def b5J(o:D9):Prop:=o.Serial=0∧o.Strong=0∧o.Weak=0∧o.Prog=0∧o.Started=false∧o.Fields.length=0
structure RtR (t:m9):Prop where
 len:t.a8.length≤24
 l0:0≤t.Last
 l9:t.Last≤9
 ser:0≤t.Serial
 cell:∀i (h:i<t.a8.length),0≤t.a8[i].State∧t.a8[i].State≤3∧0≤t.a8[i].Gen∧t.a8[i].Gen≤t.Last
 no:∀i (h:i<t.a8.length),¬Thr t.a8[i]→b5J t.a8[i].Val
 ok:∀i (h:i<t.a8.length),Thr t.a8[i]→c4W t t.a8[i].Val
 dif:∀i (h:i<t.a8.length) k (hk:k<i),Thr t.a8[i]→Thr t.a8[k]→t.a8[k].Val.Serial≠t.a8[i].Val.Serial
def c7T(t:m9)(i:Nat)(h:i<t.a8.length):Prop:=
 (¬Thr t.a8[i]→b5J t.a8[i].Val)∧(Thr t.a8[i]→c4W t t.a8[i].Val)∧∀k (hk:k<i),Thr t.a8[i]→Thr t.a8[k]→t.a8[k].Val.Serial≠t.a8[i].Val.Serial
theorem c7Y(t:m9)(hl:t.a8.length≤1000):∃b,a8W t=some b∧(b=true↔RtR t):=by
 unfold a8W;rw[a2Y t hl,d6y,c7X,d6y];by_cases hR:(pl t).a8.length≤24∧0≤(pl t).Last∧(pl t).Last≤9∧∀i (h:i<(pl t).a8.length),0≤(pl t).a8[i].State∧(pl t).a8[i].State≤3∧0≤(pl t).a8[i].Gen∧(pl t).a8[i].Gen≤(pl t).Last
 ·by_cases hs:0≤t.Serial
  ·rw[decide_eq_true hR];rw[if_neg (by simp;omega)]
   simp only[jn];have hcell:∀i (h:i<t.a8.length),0≤t.a8[i].State∧t.a8[i].State≤3∧0≤t.a8[i].Gen∧t.a8[i].Gen≤t.Last:=λi h=>by
    have:=hR.2.2.2 i (by simpa[pl] using h)
    simpa[pl,plc] using this
   have key:(∀i (h:i<t.a8.length),c7T t i h)↔RtR t:=by
    constructor
    ·intro q;exact⟨by simpa[pl] using hR.1,hR.2.1,hR.2.2.1,hs,hcell,λi h=>(q i h).1,λi h=>(q i h).2.1,λi h=>(q i h).2.2⟩
    ·intro q i h;exact⟨q.no i h,q.ok i h,q.dif i h⟩
   by_cases hall:∀i (h:i<t.a8.length),c7T t i h
   ·refine⟨true,?_,by simpa using key.1 hall⟩
    refine R6 t.a8.length (λ_=>True) (by omega) trivial (λk hk _=>.inl ⟨?_,trivial⟩) (λ_=>⟨.inr (),by simp,rfl⟩)
    obtain⟨q1,q2,q3⟩:=hall k hk;simp only[Int.ofNat_lt,hk,decide_true,if_true,o9 hk,d6y,b1N];by_cases ht:Thr t.a8[k]
    ·rw[decide_eq_true ht];obtain⟨o1,o2,o3,o4,o5,o6,o7⟩:=q2 ht;rw[if_neg (by simp),if_neg (by simp;omega)]
     refine R6 k (λ_=>True) (by omega) trivial (λj hj _=>.inl ⟨?_,trivial⟩) (λ_=>⟨.inr (),by simp,by rw[l5]⟩)
     have hj':j<t.a8.length:=by omega
     simp only[Int.ofNat_lt,hj,decide_true,if_true,o9 hj',d6y,b1N];rw[if_neg (by simp only[Bool.and_eq_true,decide_eq_true_eq,beq_iff_eq,not_and];exact λa=>q3 j hj ht a),l5]
    ·rw[decide_eq_false ht];obtain⟨o1,o2,o3,o4,o5,o6⟩:=q1 ht;rw[if_pos (by simp),if_neg (by simp[o1,o2,o3,o4,o5,o6]),l5]
   ·refine⟨false,?_,by simpa using λq=>hall (key.2 q)⟩
    obtain⟨i,⟨hi,hbad⟩,hmin⟩:=W0 (p:=λi=>∃h:i<t.a8.length,¬c7T t i h) (by
     have:=Classical.not_forall.1 hall;obtain⟨i,q⟩:=this;obtain⟨h,q⟩:=Classical.not_forall.1 q;exact⟨i,h,q⟩)
    refine R6 t.a8.length (λk=>k≤i) (by omega) (by omega) (λk hk hP=>?_) (λhP=>by omega)
    simp only[Int.ofNat_lt,hk,decide_true,if_true,o9 hk,d6y,b1N];rcases Nat.lt_or_ge k i with g | g
    ·refine .inl ⟨?_,g⟩;have hok:c7T t k hk:=Classical.byContradiction λq=>by have:=hmin k ⟨hk,q⟩;omega
     obtain⟨q1,q2,q3⟩:=hok;by_cases ht:Thr t.a8[k]
     ·rw[decide_eq_true ht];obtain⟨o1,o2,o3,o4,o5,o6,o7⟩:=q2 ht;rw[if_neg (by simp),if_neg (by simp;omega)]
      refine R6 k (λ_=>True) (by omega) trivial (λj hj _=>.inl ⟨?_,trivial⟩) (λ_=>⟨.inr (),by simp,by rw[l5]⟩)
      have hj':j<t.a8.length:=by omega
      simp only[Int.ofNat_lt,hj,decide_true,if_true,o9 hj',d6y,b1N];rw[if_neg (by simp only[Bool.and_eq_true,decide_eq_true_eq,beq_iff_eq,not_and];exact λa=>q3 j hj ht a),l5]
     ·rw[decide_eq_false ht];obtain⟨o1,o2,o3,o4,o5,o6⟩:=q1 ht;rw[if_pos (by simp),if_neg (by simp[o1,o2,o3,o4,o5,o6]),l5]
    ·have:k=i:=by omega
     subst this;refine .inr ⟨.inl false,?_,rfl⟩;by_cases ht:Thr t.a8[k]
     ·rw[decide_eq_true ht];rw[if_neg (by simp)]
      by_cases ho:c4W t t.a8[k].Val
      ·have ho':=ho;obtain⟨o1,o2,o3,o4,o5,o6,o7⟩:=ho';rw[if_neg (by simp;omega)]
       have:∃j,j<k∧∃h:j<t.a8.length,Thr t.a8[j]∧t.a8[j].Val.Serial=t.a8[k].Val.Serial:=Classical.byContradiction λq=>hbad ⟨λn=>absurd ht n,λ_=>ho,λj hj _ h2 h3=>q ⟨j,hj,by omega,h2,h3⟩⟩
       obtain⟨j,⟨hj,hj',h2,h3⟩,hjm⟩:=W0 this;refine R6 k (λm=>m≤j) (by omega) (by omega) (λm hm hP2=>?_) (λhP2=>by omega)
       have hm':m<t.a8.length:=by omega
       simp only[Int.ofNat_lt,hm,decide_true,if_true,o9 hm',d6y,b1N];rcases Nat.lt_or_ge m j with g2 | g2
       ·refine .inl ⟨?_,g2⟩;rw[if_neg (by
         simp only[Bool.and_eq_true,decide_eq_true_eq,beq_iff_eq,not_and];intro a b;have:=hjm m ⟨by omega,hm',a,b⟩
         omega),l5]
       ·have:m=j:=by omega
        subst this;refine .inr ⟨.inl false,?_,rfl⟩;rw[if_pos (by simp only[Bool.and_eq_true,decide_eq_true_eq,beq_iff_eq];exact⟨h2,h3⟩)]
      ·rw[if_pos (by
        unfold c4W at ho;simp only[Bool.or_eq_true,decide_eq_true_eq];omega)]
     ·rw[decide_eq_false ht];rw[if_pos (by simp)]
      have hno:¬b5J t.a8[k].Val:=λq=>hbad ⟨λ_=>q,λn=>absurd n ht,λj hj h1 _=>absurd h1 ht⟩;rw[if_pos (by
       unfold b5J at hno;simp only[Bool.or_eq_true,bne_iff_ne,ne_eq];cases hst:t.a8[k].Val.Started
       ·simp only[hst,true_and,Bool.false_eq_true,or_false] at hno ⊢;omega
       ·simp)]
  ·refine⟨false,?_,by simp;exact λq=>hs q.ser⟩
   rw[if_pos (by simp;omega)]
 ·refine⟨false,?_,?_⟩;·rw[decide_eq_false hR,if_pos (by simp)]
  ·simp only[Bool.false_eq_true,false_iff];intro q;exact hR ⟨by simpa[pl] using q.len,q.l0,q.l9,λi h=>by have:=q.cell i (by simpa[pl] using h);simpa[pl,plc] using this⟩
end Go.Sh
namespace Go.Sh
theorem c0p{c:Int→Int→Option Int}{xs:List Int}(key:Int→Int)(hc:∀x y,∃r,c x y=some r∧(r<0↔key x<key y))(hl:xs.length<4611686018427387904) :
  ∃ys,b2K c xs=some ys∧ys.Perm xs∧ys.Pairwise (λa b=>key a≤key b):=by
 have hlt:∀x y,Go.Proofs.ltOf (λx y=>(c x y).getD 0) x y=decide (key x<key y):=λx y=>by
  obtain⟨r,h1,h2⟩:=hc x y;show decide ((c x y).getD 0<0)=_;rw[h1,Option.getD_some];exact decide_eq_decide.2 h2
 have hO:Go.Sort.SWO (Go.Proofs.ltOf λx y=>(c x y).getD 0):=by
  refine⟨λx=>?_,λx y z=>?_,λx y z=>?_⟩;·rw[hlt];simp
  ·rw[hlt,hlt,hlt];simp;omega
  ·rw[hlt,hlt,hlt];simp;omega
 have hcond:(∀x y,(c x y).isSome=true)∧Go.Sort.SWO (Go.Proofs.ltOf λx y=>(c x y).getD 0)∧xs.length<4611686018427387904:=⟨λx y=>by
  obtain⟨r,h1,_⟩:=hc x y;rw[h1];rfl,hO,hl⟩
 unfold b2K;rw[if_pos hcond];refine⟨_,rfl,?_⟩;obtain⟨⟨p1,p2,p3⟩,p4⟩:=Go.Sort.pdq_sorts (Go.Proofs.ltOf λx y=>(c x y).getD 0) hO xs.toArray 0 xs.length (Go.Lib.bitLen xs.length) true true (Nat.zero_le _) (by simp) (Or.inl rfl)
 generalize Go.Sort.pdq (Go.Proofs.ltOf λx y=>(c x y).getD 0) xs.toArray 0 xs.length (Go.Lib.bitLen xs.length) true true=d at p1 p2 p3 p4 ⊢;have hs:d.size=xs.length:=by simpa using p1
 refine⟨?_,?_⟩
 ·have e1:d.extract 0 xs.length=d:=by rw[←hs];exact Array.extract_size
  have e2:xs.toArray.extract 0 xs.length=xs.toArray:=by
   simp
  rw[e1,e2] at p3;simpa using p3
 ·rw[List.pairwise_iff_getElem];intro i j hi hj hij;have hi':i<d.size:=by simpa using hi
  have hj':j<d.size:=by simpa using hj
  have:=p4 i j (Nat.zero_le _) hij (by omega)
  rw[hlt,getElem!_pos d j hj',getElem!_pos d i hi'] at this;have:=of_decide_eq_false this;simp only[Array.getElem_toList];omega
def W1:Nat→List b8→List Int
 | _,[]=>[]
 | k,c::r=>(if c.State=1 then [1+(k:Int)+32*c.Gen] else [])++W1 (k+1) r
theorem a8R(c:b8):∀(k:Nat) (xs:List b8),W1 k (xs ++ [c])=W1 k xs++(if c.State=1 then [1+((k+xs.length:Nat):Int)+32*c.Gen] else [])
 | k,[]=>by simp[W1]
 | k,x::r=>by
  simp only[List.cons_append,W1,a8R c (k+1) r,List.append_assoc,List.length_cons];rw[show k+1+r.length=k+(r.length+1) by omega]
theorem a5M:∀(k:Nat) (xs:List b8),(W1 k xs).length≤xs.length
 | _,[]=>by simp[W1]
 | k,c::r=>by
  have:=a5M (k+1) r;simp only[W1,List.length_append,List.length_cons];split <;> simp <;> omega
theorem a72{h:Int}:∀ {k:Nat} {xs:List b8},h∈W1 k xs↔∃i,∃hi:i<xs.length,xs[i].State=1∧h=1+((k+i:Nat):Int)+32*xs[i].Gen
 | k,[]=>by simp[W1]
 | k,c::r=>by
  simp only[W1,List.mem_append,a72 (k:=k+1) (xs:=r)];constructor
  ·rintro (q | ⟨i,hi,q1,q2⟩)
   ·by_cases hc:c.State=1
    ·rw[if_pos hc] at q;exact⟨0,by simp,by simpa using hc,by simpa using q⟩
    ·rw[if_neg hc] at q;cases q
   ·exact⟨i+1,by simpa using hi,by simpa using q1,by simp only[List.getElem_cons_succ];rw[q2,show k+1+i=k+(i+1) by omega]⟩
  ·rintro⟨i,hi,q1,q2⟩;cases i with
   | zero=>
    left;simp only[List.getElem_cons_zero] at q1 q2;rw[if_pos q1];simp[q2]
   | succ i=>
    right;simp only[List.getElem_cons_succ] at q1 q2;exact⟨i,by simpa using hi,q1,by rw[q2,show k+1+i=k+(i+1) by omega]⟩
def sk(cs:List b8)(h:Int):Int:=match cs[((h-1) % 32).toNat]? with
 | some c=>c.Val.Serial
 | none=>0
theorem c0o{cs:List b8}{i:Nat}{g:Int}(h:i<cs.length)(h32:cs.length≤32):sk cs (1+(i:Int)+32*g)=cs[i].Val.Serial:=by
 unfold sk;have:((1+(i:Int)+32*g-1) % 32).toNat=i:=by omega
 rw[this,List.getElem?_eq_getElem h]
structure Slb (cs:List b8):Prop where
 len:cs.length≤24
 gen:∀i (h:i<cs.length),0≤cs[i].Gen∧cs[i].Gen≤9
theorem b6E{s:a7}(hR:Slb s.S.a8):∃l,E2 s=some l∧l.Perm (W1 0 s.S.a8)∧l.Pairwise (λa b=>sk s.S.a8 a≤sk s.S.a8 b):=by
 have hlen:=hR.len;unfold E2;simp only[jn];have hh:=a5M 0 s.S.a8;have hloop:∃e:List (Int × Int) × List Int,lp (S:=Int × (List (Int × Int)) × (List Int)) (E:=((List (Int × Int)) × (List Int))) (λ((s23,s24,s25):Int × (List (Int × Int)) × (List Int))=>
   if (decide (s23<(s.S.a8.length:Int))) then
    ((ix s.S.a8 s23).bind λv35=>
     if (v35.State==1) then
      (a1p s23 v35.Gen).bind λv36=>
      (app 8 s25 [v36]).bind λv37=>
      some (.inl (u5 (s23+1),(r8 s24 v36 v35.Val.Serial),v37))
     else
     some (.inl (u5 (s23+1),s24,s25)))
   else
   some (.inr (s24,s25))) (0,[],[])=some e∧e.2=W1 0 s.S.a8∧∀h∈e.2,B5 e.1 h=some (sk s.S.a8 h):=by
  refine a2w (T:=List (Int × Int) × List Int) s.S.a8.length (λk e=>e.2=W1 0 (s.S.a8.take k)∧∀h∈e.2,B5 e.1 h=some (sk s.S.a8 h)) (λe:List (Int × Int) × List Int=>e.2=W1 0 s.S.a8∧∀h∈e.2,B5 e.1 h=some (sk s.S.a8 h)) (by omega) ⟨by simp[W1],by simp⟩ (λk e hk hP=>?_) (λe hP=>?_)
  ·obtain⟨h1,h2⟩:=hP;obtain⟨m,l⟩:=e;simp only at h1 h2;left;have hc:=hR.gen k hk;have hl:l.length≤24:=by rw[h1];have:=a5M 0 (s.S.a8.take k);simp at this;omega
   have et:s.S.a8.take (k+1)=s.S.a8.take k ++ [s.S.a8[k]]:=by rw[List.take_add_one,List.getElem?_eq_getElem hk];rfl
   have el:(s.S.a8.take k).length=k:=by simp;omega
   by_cases q:s.S.a8[k].State=1
   ·refine⟨(r8 m (1+(k:Int)+32*s.S.a8[k].Gen) s.S.a8[k].Val.Serial,l ++ [1+(k:Int)+32*s.S.a8[k].Gen]),?_,?_,?_⟩
    ·simp only[Int.ofNat_lt,hk,decide_true,if_true,o9 hk,d6y,q,beq_self_eq_true];rw[a7X (by omega) (by omega) hc.1 hc.2,d6y,A2 (by omega) (by simp;omega),d6y,l5]
    ·simp only;rw[et,a8R,if_pos q,el,h1,Nat.zero_add]
    ·intro h hh;simp only[List.mem_append,List.mem_singleton] at hh ⊢;rw[a8S];rcases hh with hh | rfl
     ·split;·rename_i e;rw[e,c0o hk (by omega)]
      ·exact h2 h hh
     ·rw[if_pos rfl,c0o hk (by omega)]
   ·refine⟨(m,l),?_,?_,h2⟩
    ·simp only[Int.ofNat_lt,hk,decide_true,if_true,o9 hk,d6y];rw[if_neg (by simpa using q),l5]
    ·simp only;rw[et,a8R,if_neg q,h1,List.append_nil]
  ·obtain⟨h1,h2⟩:=hP;obtain⟨m,l⟩:=e;refine⟨(m,l),by simp only[Int.lt_irrefl,decide_false,Bool.false_eq_true,if_false],?_,h2⟩
   simpa using h1
 obtain⟨⟨m,l⟩,e1,e2,e3⟩:=hloop;rw[show lp _ _=_ from e1,d6y];simp only at e2 e3 ⊢;subst e2;obtain⟨ys,q1,q2,q3⟩:=c0p (c:=λp q=>a3S p q m) (xs:=W1 0 s.S.a8) (λh=>(B5 m h).getD 0) (λx y=>by
  unfold a3S a3o a0U;simp only[d6y,bne_self_eq_false,Bool.false_eq_true,if_false];generalize (B5 m x).getD 0=a;generalize (B5 m y).getD 0=b;by_cases h1:a<b
  ·rw[decide_eq_true h1];exact⟨-1,rfl,by simp[h1]⟩
  ·rw[decide_eq_false h1];by_cases h2:a > b
   ·rw[decide_eq_true h2];exact⟨1,rfl,by simp[h1]⟩
   ·rw[decide_eq_false h2];exact⟨0,rfl,by simp[h1]⟩) (by omega)
 refine⟨ys,by rw[q1];rfl,q2,q3.imp_of_mem λ{a b} ha hb hab=>?_⟩
 rw[e3 a (q2.mem_iff.1 ha),e3 b (q2.mem_iff.1 hb)] at hab;simpa using hab
theorem a69{key:Int→Int}:∀ {l m:List Int},l.Perm m→l.Pairwise (λa b=>key a≤key b)→m.Pairwise (λa b=>key a≤key b)→(∀a∈l,∀b∈l,key a=key b→a=b)→l=m
 | [],m,hp,_,_,_=>(List.nil_perm.1 hp).symm
 | a::l,[],hp,_,_,_=>by simp at hp
 | a::l,b::m,hp,h1,h2,hk=>by
  have ha:=List.pairwise_cons.1 h1;have hb:=List.pairwise_cons.1 h2;have e:a=b:=by
   have m1:b∈a::l:=hp.mem_iff.2 (List.mem_cons_self ..);have m2:a∈b::m:=hp.mem_iff.1 (List.mem_cons_self ..);rcases List.mem_cons.1 m1 with q | q
   ·exact q.symm
   ·rcases List.mem_cons.1 m2 with q' | q'
    ·exact q'
    ·exact hk a (List.mem_cons_self ..) b m1 (Int.le_antisymm (ha.1 b q) (hb.1 a q'))
  subst e;rw[a69 (List.perm_cons a |>.1 hp) ha.2 hb.2 λx hx y hy=>hk x (List.mem_cons_of_mem _ hx) y (List.mem_cons_of_mem _ hy)]
end Go.Sh
namespace Go.Sh
theorem C0(s:a7):(sO s).a8.length=s.S.a8.length:=by simp[sO]
theorem c3A(s:a7)(i:Int):ix (sO s).a8 i=(ix s.S.a8 i).map cO:=a0y cO s.S.a8 i
theorem a1e(t:m9):(pl t).a8.length=t.a8.length:=by simp[pl]
theorem b9W{t:m9}{k:Nat}(h:k<t.a8.length):ix (pl t).a8 k=some (plc k t.a8[k]):=by
 rw[o9 (by simpa[pl] using h)]
 simp[pl]
theorem a99(s:a7){h:Int}(hh:h≤9223372036854775807):N4 (pl (sO s)) h=w8 s.S h:=by
 unfold N4 w8;rw[a8b,a4j hh,c1F,a5q hh];simp only[d6y,a1e,C0];generalize (if Hnd h then (h-1) % 32 else -1:Int)=v
 generalize (if Hnd h then (h-1) / 32 else -1:Int)=g
 split;·rfl
 ·split;·rfl
  ·rename_i q;have q:0≤v∧v<s.S.a8.length:=by simp at q;omega
   obtain⟨k,rfl⟩:∃k:Nat,v=k:=⟨v.toNat,by omega⟩
   have hk:k<s.S.a8.length:=by omega
   rw[b9W (by rw[C0];exact hk),o9 hk]
   simp only[d6y,plc,sO,List.getElem_map,cO]
theorem c7t(s:a7)(hl:s.S.a8.length≤24){h:Int}(hh:h≤9223372036854775807)(o:m8):O2 (sO s) h (oo o)=(K2 s h o).map λp=>(sO p.1,p.2):=by
 unfold O2 K2;rw[a2Y _ (by rw[C0];omega),d6y,a99 s hh]
 rcases a1O s.S hh with ⟨i,hf,e⟩ | ⟨hf,e⟩
 ·obtain⟨hi,e2⟩:=c0m (v:=o) hl hf;rw[e,e2];simp only[d6y,bne_self_eq_false,Bool.false_eq_true,if_false,Option.map_some];unfold a3i;rw[M3 (by omega) (by rw[C0];omega),d6y,o9 (by rw[C0];exact hi),d6y]
  simp[sO,cO,oo,List.map_set]
 ·rw[e,c7u hh hf];simp only[d6y];rw[if_pos (by simpa using a1M h)]
  rfl
end Go.Sh
namespace Go.Sh
theorem a16{s:a7}(h:RtR (sO s)):s.S.a8.length≤24:=by have:=h.len;rwa [C0] at this
theorem b8w{s:a7}(h:RtR (sO s))(i:Nat)(hi:i<s.S.a8.length):0≤s.S.a8[i].State∧s.S.a8[i].State≤3∧0≤s.S.a8[i].Gen∧s.S.a8[i].Gen≤s.S.Last:=by
 have:=h.cell i (by rw[C0];exact hi)
 simpa[sO,cO] using this
theorem b8x{s:a7}(h:RtR (sO s)):Slb s.S.a8:=⟨a16 h,λi hi=>by have:=b8w h i hi;have h9:s.S.Last≤9:=h.l9;omega⟩
theorem c7l{s:a7}(h:RtR (sO s))(i:Nat)(hi:i<s.S.a8.length)(ht:s.S.a8[i].State=1∨s.S.a8[i].State=2):c4W (sO s) (oo s.S.a8[i].Val):=by
 have:=h.ok i (by rw[C0];exact hi)
 simp only[sO,List.getElem_map,cO,Thr] at this;exact this ht
theorem c7k{s:a7}(h:RtR (sO s)){i j:Nat}(hi:i<s.S.a8.length)(hj:j<s.S.a8.length)(a:s.S.a8[i].State=1∨s.S.a8[i].State=2)(b:s.S.a8[j].State=1∨s.S.a8[j].State=2)(e:s.S.a8[i].Val.Serial=s.S.a8[j].Val.Serial):i=j:=by
 have key:∀i (hi:i<s.S.a8.length) j (hj:j<i),(s.S.a8[i].State=1∨s.S.a8[i].State=2)→(s.S.a8[j].State=1∨s.S.a8[j].State=2)→s.S.a8[j].Val.Serial≠s.S.a8[i].Val.Serial:=λi hi j hj a b=>by
  have:=h.dif i (by rw[C0];exact hi) j hj
  simp only[sO,List.getElem_map,cO,Thr,oo] at this;exact this a b
 rcases Nat.lt_trichotomy i j with q | q | q
 ·exact absurd e (key j hj i q b a)
 ·exact q
 ·exact absurd e.symm (key i hi j q a b)
theorem a5L{s:a7}(hR:RtR (sO s)){x:Int}(hx:x∈W1 0 s.S.a8):∃i,∃hi:i<s.S.a8.length,s.S.a8[i].State=1∧x=1+(i:Int)+32*s.S.a8[i].Gen∧b10 s.S x i∧sk s.S.a8 x=s.S.a8[i].Val.Serial∧y4 s x=some (s.S.a8[i].Val,0):=by
 obtain⟨i,hi,h1,h2⟩:=a72.1 hx;rw[Nat.zero_add] at h2;have hl:=(a16 hR);have hc:=(b8x hR).gen i hi;have hf:b10 s.S x i:=⟨hi,by unfold Hnd;omega,by omega,by omega,.inl h1⟩
 refine⟨i,hi,h1,h2,hf,by rw[h2];exact c0o hi (by omega),?_⟩
 obtain⟨_,e⟩:=b9v hf;unfold y4;rw[e,if_neg (by omega)]
 rfl
theorem c50{s:a7}{x:Int}{i:Nat}(hf:b10 s.S x i)(h1:∀hi:i<s.S.a8.length,s.S.a8[i].State=1):x∈W1 0 s.S.a8:=by
 obtain⟨hi,q1,q2,q3,_⟩:=hf;refine a72.2 ⟨i,hi,h1 hi,?_⟩;unfold Hnd at q1;rw[Nat.zero_add];omega
theorem b8E{s:a7}(hR:RtR (sO s)){x y:Int}(hx:x∈W1 0 s.S.a8)(hy:y∈W1 0 s.S.a8)(e:sk s.S.a8 x=sk s.S.a8 y):x=y:=by
 obtain⟨i,hi,a1,a2,_,a4,_⟩:=a5L hR hx;obtain⟨j,hj,b1,b2,_,b4,_⟩:=a5L hR hy;have:=(c7k hR) hi hj (.inl a1) (.inl b1) (by rw[←a4,←b4];exact e)
 subst this;rw[a2,b2]
theorem a6D:∀(k:Nat) (cs:List b8),k+cs.length≤32→(W1 k cs).Nodup
 | _,[],_=>List.nodup_nil
 | k,c::r,h=>by
  simp only[List.length_cons] at h;unfold W1;rw[List.nodup_append];refine⟨by split <;> simp,a6D (k+1) r (by omega),λa ha b hb e=>?_⟩
  split at ha
  ·simp only[List.mem_singleton] at ha;subst ha;subst e;obtain⟨i,hi,h1,h2⟩:=a72.1 hb;have:((1+(k:Int)+32*c.Gen)-1) % 32=((1+((k+1+i:Nat):Int)+32*r[i].Gen)-1) % 32:=by rw[h2]
   omega
  ·cases ha
theorem c2X{s:a7}(hR:RtR (sO s)):∃l,E2 s=some l∧l.Perm (W1 0 s.S.a8)∧l.Pairwise (λa b=>sk s.S.a8 a<sk s.S.a8 b):=by
 obtain⟨l,h1,h2,h3⟩:=b6E (b8x hR);refine⟨l,h1,h2,?_⟩;have hn:l.Nodup:=h2.nodup_iff.2 (a6D 0 _ (by have:=(a16 hR);omega))
 have:=List.Pairwise.and h3 hn;refine this.imp_of_mem λ{a b} ha hb ⟨q1,q2⟩=>?_;rcases Int.lt_or_eq_of_le q1 with q | q
 ·exact q
 ·exact absurd (b8E hR (h2.mem_iff.1 ha) (h2.mem_iff.1 hb) q) q2
end Go.Sh
namespace Go.Sh
theorem b05:∀(k:Nat) (cs:List b8) (i:Nat) (c:b8) (hi:i<cs.length),cs[i].State≠1→c.State=1→(W1 k (cs.set i c)).Perm ((1+((k+i:Nat):Int)+32*c.Gen)::W1 k cs)
 | _,[],i,_,hi,_,_=>by simp at hi
 | k,d::r,0,c,hi,h1,h2=>by
  simp only[List.getElem_cons_zero] at h1;simp only[List.set_cons_zero,W1,if_pos h2,if_neg h1,List.nil_append,Nat.add_zero];exact List.Perm.refl _
 | k,d::r,i+1,c,hi,h1,h2=>by
  simp only[List.getElem_cons_succ] at h1;simp only[List.set_cons_succ,W1];have:=b05 (k+1) r i c (by simpa using hi) h1 h2
  rw[show k+1+i=k+(i+1) by omega] at this
  exact (List.Perm.append_left _ this).trans List.perm_middle
theorem d3i{cs:List b8}{i:Nat}{c:b8}{x:Int}(h:((x-1) % 32).toNat≠i):sk (cs.set i c) x=sk cs x:=by
 unfold sk;rw[List.getElem?_set_ne (by omega)]
theorem c1m{s:a7}(hR:RtR (sO s)){i:Nat}(hi:i<s.S.a8.length)(h0:s.S.a8[i].State=0)(o:m8)(ho:o.Serial=s.Serial+1){l:List Int}(hl:E2 s=some l) :
  E2 ⟨⟨s.S.a8.set i ⟨1,s.S.a8[i].Gen,o⟩,s.S.Last⟩,s.Serial+1⟩=some (l ++ [1+(i:Int)+32*s.S.a8[i].Gen]):=by
 obtain⟨l',e,l1,l2⟩:=c2X hR;rw[hl] at e;cases e;have hlen:=a16 hR;have hsl:Slb (s.S.a8.set i ⟨1,s.S.a8[i].Gen,o⟩):=⟨by simpa using hlen,λj hj=>by
  rw[List.getElem_set];have:=(b8x hR).gen;split;·exact this i hi
  ·exact this j (by simpa using hj)⟩
 obtain⟨m,m1,m2,m3⟩:=b6E (s:=⟨⟨s.S.a8.set i ⟨1,s.S.a8[i].Gen,o⟩,s.S.Last⟩,s.Serial+1⟩) hsl;have hp:=b05 0 s.S.a8 i ⟨1,s.S.a8[i].Gen,o⟩ hi (by omega) rfl
 rw[Nat.zero_add] at hp;have hold:∀x∈l,sk (s.S.a8.set i ⟨1,s.S.a8[i].Gen,o⟩) x=sk s.S.a8 x∧sk s.S.a8 x≤s.Serial:=λx hx=>by
  obtain⟨j,hj,a1,a2,a3,a4,_⟩:=a5L hR (l1.mem_iff.1 hx);refine⟨d3i ?_,?_⟩
  ·obtain⟨_,_,q,_⟩:=a3;intro e;have:j=i:=by omega
   subst this;omega
  ·rw[a4];exact (c7l hR j hj (.inl a1)).2.1
 have hnew:sk (s.S.a8.set i ⟨1,s.S.a8[i].Gen,o⟩) (1+(i:Int)+32*s.S.a8[i].Gen)=s.Serial+1:=by
  rw[c0o (by simpa using hi) (by simp;omega)]
  simp[ho]
 rw[m1];congr 1;refine a69 (key:=sk (s.S.a8.set i ⟨1,s.S.a8[i].Gen,o⟩)) ?_ m3 ?_ ?_
 ·refine m2.trans (hp.trans ?_);refine List.Perm.trans (List.Perm.cons _ l1.symm) ?_;exact (List.perm_append_singleton _ _).symm
 ·rw[List.pairwise_append];refine⟨l2.imp_of_mem λ{a b} ha hb hab=>?_,by simp,λa ha b hb=>?_⟩
  ·rw[(hold a ha).1,(hold b hb).1];omega
  ·rw[List.mem_singleton] at hb;subst hb;rw[hnew,(hold a ha).1];have:=(hold a ha).2;omega
 ·have hm:∀a∈m,a∈l∨a=1+(i:Int)+32*s.S.a8[i].Gen:=λa ha=>by
   have:=hp.mem_iff.1 (m2.mem_iff.1 ha);rcases List.mem_cons.1 this with q | q
   ·exact .inr q
   ·exact .inl (l1.mem_iff.2 q)
  intro a ha b hb hab;rcases hm a ha with qa | rfl <;> rcases hm b hb with qb | rfl
  ·rw[(hold a qa).1,(hold b qb).1] at hab;exact b8E hR (l1.mem_iff.1 qa) (l1.mem_iff.1 qb) hab
  ·rw[(hold a qa).1,hnew] at hab;have:=(hold a qa).2;omega
  ·rw[(hold b qb).1,hnew] at hab;have:=(hold b qb).2;omega
  ·rfl
end Go.Sh
namespace Go.Sh
theorem d4x(n last:Int):∃a,a1z n last=some a∧b75 n last=some (sO a)∧RtR (sO a)∧a.S.a8.length≤24∧∀i (h:i<a.S.a8.length),a.S.a8[i].Val.Fields.length≤4:=by
 unfold a1z b75 P5 c3i;by_cases h:0≤n∧n≤24∧0≤last∧last≤9
 ·obtain⟨h1,h2,h3,h4⟩:=h;obtain⟨k,rfl⟩:∃k:Nat,n=k:=⟨n.toNat,by omega⟩
  rw[if_neg (by simp;omega),if_neg (by simp;omega),a7u (by omega) (by omega),a7u (by omega) (by omega)]
  simp only[d6y,List.length_replicate];rw[a7u (by omega) (by omega)]
  refine⟨_,rfl,?_,?_,by simp;omega,λi h=>by simp⟩
  ·simp[sO,cO,oo]
  ·refine⟨by simp[sO];omega,h3,h4,by simp[sO],λi h=>?_,λi h=>?_,λi h q=>?_,λi h k hk q=>?_⟩
   ·simp[sO,cO];omega
   ·simp[sO,cO,oo,b5J]
   ·exfalso;simp[sO,cO,oo,Thr] at q
   ·exfalso;simp[sO,cO,oo,Thr] at q
 ·rw[if_pos (by simp;omega),if_pos (by simp;omega)]
  simp only[d6y,List.length_nil];rw[show mk 80 ((0:Nat):Int) (⟨0,0,⟨0,0,0,0,false,[]⟩⟩:p9)=some [] from rfl];refine⟨_,rfl,rfl,⟨by simp[sO],by simp[sO],by simp[sO],by simp[sO],?_,?_,?_,?_⟩,by simp,λi h=>by simp at h⟩ <;> (intro i h;simp[sO] at h)
end Go.Sh
namespace Go.Sh
noncomputable def lv(s:a7):List Int:=(E2 s).getD []
def ob(s:a7)(h:Int):m8:=((y4 s h).getD (z0,0)).1
def outs(s:a7)(h:Int):List Int:=nz (ob s h).Fields
def FB(s:a7):Prop:=∀c∈s.S.a8,∀x∈c.Val.Fields,x≤9223372036854775807
section
variable{s:a7}(hR:RtR (sO s))
include hR
theorem a3I:E2 s=some (lv s)∧(lv s).Perm (W1 0 s.S.a8)∧(lv s).Pairwise (λa b=>sk s.S.a8 a<sk s.S.a8 b):=by
 obtain⟨l,h1,h2,h3⟩:=c2X hR;have:lv s=l:=by unfold lv;rw[h1];rfl
 rw[this];exact⟨h1,h2,h3⟩
theorem a1W:E2 s=some (lv s):=(a3I hR).1
theorem b2k{h:Int}:h∈lv s↔h∈W1 0 s.S.a8:=(a3I hR).2.1.mem_iff
theorem F3:(lv s).length≤24:=by
 rw[(a3I hR).2.1.length_eq];exact Nat.le_trans (a5M 0 s.S.a8) (a16 hR)
theorem b1e:(lv s).Nodup:=(a3I hR).2.1.nodup_iff.2 (a6D 0 _ (by have:=(a16 hR);omega))
theorem b2j{h:Int}(hh:h∈lv s):y4 s h=some (ob s h,0):=by
 obtain⟨i,hi,_,_,_,_,e⟩:=a5L hR ((b2k hR).1 hh);unfold ob;rw[e];rfl
theorem b7L{h:Int}(hh:h∈lv s):∃i,∃hi:i<s.S.a8.length,s.S.a8[i].State=1∧h=1+(i:Int)+32*s.S.a8[i].Gen∧b10 s.S h i∧ob s h=s.S.a8[i].Val:=by
 obtain⟨i,hi,h1,h2,h3,_,e⟩:=a5L hR ((b2k hR).1 hh);refine⟨i,hi,h1,h2,h3,?_⟩;unfold ob;rw[e];rfl
theorem a5s{h:Int}(hh:h∈lv s):1≤h∧h≤320:=by
 obtain⟨i,hi,_,_,hf,_⟩:=b7L hR hh;exact b4E hf.2.1
theorem d0M{h:Int}(hh:h≤9223372036854775807)(hn:h∉lv s):∃e,e≠0∧y4 s h=some (z0,e):=by
 rcases a1O s.S hh with ⟨i,hf,_⟩ | ⟨hf,_⟩
 ·obtain⟨hi,e⟩:=b9v hf;unfold y4;rw[e];by_cases h2:s.S.a8[i].State=2
  ·rw[if_pos h2];exact⟨3,by decide,rfl⟩
  ·exact absurd ((b2k hR).2 (c50 hf λ_=>hf.2.2.2.2.resolve_right h2)) hn
 ·unfold y4;rw[c53 hh hf];exact⟨_,a1M h,rfl⟩
theorem a9Q{h:Int}(hh:h≤9223372036854775807)(hn:h∉lv s):ob s h=z0:=by
 obtain⟨e,_,h1⟩:=d0M hR hh hn;unfold ob;rw[h1];rfl
theorem Q1{h:Int}(hh:h≤9223372036854775807):∃e,y4 s h=some (ob s h,e)∧(e=0↔h∈lv s):=by
 by_cases q:h∈lv s
 ·exact⟨0,b2j hR q,by simp[q]⟩
 ·obtain⟨e,h0,h1⟩:=d0M hR hh q;refine⟨e,?_,by simp[h0,q]⟩
  rw[h1,a9Q hR hh q]
theorem c3c{h:Int}(hh:h≤9223372036854775807)(hn:h∉lv s):outs s h = []:=by
 unfold outs;rw[a9Q hR hh hn];rfl
theorem b7P(h:Int)(hh:h≤9223372036854775807):(ob s h).Fields.length≤4:=by
 by_cases q:h∈lv s
 ·obtain⟨i,hi,h1,_,_,e⟩:=b7L hR q;rw[e];exact (c7l hR i hi (.inl h1)).2.2.2.2.2.2
 ·rw[a9Q hR hh q];exact Nat.zero_le _
theorem a5R(h:Int)(hh:h≤9223372036854775807):(outs s h).length≤4:=Nat.le_trans (c1p _) (b7P hR h hh)
theorem c9G(hF:FB s){h x:Int}(hh:h≤9223372036854775807)(hx:x∈outs s h):x≤9223372036854775807:=by
 by_cases q:h∈lv s
 ·obtain⟨i,hi,h1,_,_,e⟩:=b7L hR q;unfold outs at hx;rw[e] at hx;exact hF _ (List.getElem_mem hi) x (a6O.1 hx).1
 ·rw[c3c hR hh q] at hx;cases hx
end
theorem c9H{s:a7}{h x:Int}(hx:x∈outs s h):x≠0:=(a6O.1 hx).2
theorem a4h(s:a7)(hl:s.S.a8.length≤1000){h:Int}(hh:h≤9223372036854775807):F1 (sO s) h=(y4 s h).map λp=>(oo p.1,p.2):=by
 unfold F1 y4 E0 b1m;rw[a2Y _ (by rw[C0];exact hl),d6y,a99 s hh]
 rcases a1O s.S hh with ⟨i,hf,e⟩ | ⟨hf,e⟩
 ·rw[e];have hi:=hf.1;simp only[d6y,bne_self_eq_false,Bool.false_eq_true,if_false];rw[b9W (by rw[C0];exact hi),o9 hi]
  simp only[d6y,plc,sO,List.getElem_map,cO];split;·rfl
  ·simp only[d6y,bne_self_eq_false,Bool.false_eq_true,if_false];rw[o9 (by simpa using hi)]
   simp[cO,oo]
 ·rw[e];simp only[d6y];have hne:((if h=0 then 2 else 3:Int) != 0)=true:=by simpa using a1M h
  simp only[hne,if_true,d6y];rfl
end Go.Sh
namespace Go.Sh
theorem c7v{s:a7}(hR:RtR (sO s)){l:List Int}(hl:∀x∈l,x∈lv s)(hn:l.length≤100) :
  ∃m,a4p (sO s) l=some m∧m.Perm l∧m.Pairwise (λa b=>sk s.S.a8 a≤sk s.S.a8 b):=by
 have hfind:∀x∈l,∃i:Nat,∃hi:i<s.S.a8.length,N4 (pl (sO s)) x=some ((i:Int),0)∧s.S.a8[i].Val.Serial=sk s.S.a8 x:=λx hx=>by
  obtain⟨i,hi,_,_,hf,h4,_⟩:=a5L hR ((b2k hR).1 (hl x hx));refine⟨i,hi,?_,h4.symm⟩;rw[a99 s (by have:=b4E hf.2.1;omega),a8N hf]
 unfold a4p;rw[M3 (by omega) (by omega),d6y]
 simp only[jn];let K:List Int→Nat→Int:=λo a=>sk s.S.a8 (o.getD a 0)
 have hplain:=a2Y (sO s) (by rw[C0];have:=a16 hR;omega)
 have inner:∀(n:Nat) (o:List Int),n<l.length→o.Perm l→(∀a b,a<b→b≤n→b≠n→K o a≤K o b) →
   ∃o',lp (S:=Int × (List Int)) (E:=(List Int)) (λ((s58,s59):Int × (List Int))=>
      if (decide (s58 > 0)) then
       (K0 (sO s)).bind λv62=>
       (ix s59 (u5 (s58-1))).bind λv63=>
       (N4 v62 v63).bind λv64=>
       (ix s59 s58).bind λv65=>
       (N4 v62 v65).bind λv66=>
       (u4 (((decide (v64.1<0))||(decide (v66.1<0)))==false) (⟨0,0,⟨0,0,0,0,false,[]⟩⟩:p9) (ix (sO s).a8 v64.1)).bind λv67=>
       (u4 (((decide (v64.1<0))||(decide (v66.1<0)))==false) (⟨0,0,⟨0,0,0,0,false,[]⟩⟩:p9) (ix (sO s).a8 v66.1)).bind λv68=>
       if (((decide (v64.1<0))||(decide (v66.1<0)))||(decide (v67.Val.Serial≤v68.Val.Serial))) then
        some (.inr s59)
       else
       (ix (s59.set (s58).toNat v63) (u5 (s58-1))).bind λv69=>
       some (.inl (u5 (s58-1),((s59.set (s58).toNat v63).set (u5 (s58-1)).toNat v65)))
      else
      some (.inr s59)) ((n:Int),o)=some o'∧o'.Perm l∧∀a b,a<b→b≤n→K o' a≤K o' b:=by
  intro n o hn' hp hk;have hbn:(n:Int).toNat<4611686018427387904:=by rw[Int.toNat_natCast];omega
  refine b0f (s0:=((n:Int),o)) (λq=>∃k:Nat,q.1=(k:Int)∧k≤n∧q.2.Perm l∧∀a b,a<b→b≤n→b≠k→K q.2 a≤K q.2 b) (λo'=>o'.Perm l∧∀a b,a<b→b≤n→K o' a≤K o' b) (λq=>q.1.toNat) ⟨n,rfl,Nat.le_refl _,hp,hk⟩ hbn ?_;rintro⟨_,o⟩ ⟨k,rfl,hkn,hp,hk⟩;simp only at hp hk ⊢;have hol:o.length=l.length:=hp.length_eq;rcases Nat.eq_zero_or_pos k with rfl | hpos
  ·right;refine⟨o,by rw[if_neg (by simp)],hp,λa b h1 h2=>hk a b h1 h2 (by omega)⟩
  ·obtain⟨j,rfl⟩:∃j,k=j+1:=⟨k-1,by omega⟩
   have hj1:j+1<o.length:=by omega
   have hj:j<o.length:=by omega
   have ew:u5 (((j+1:Nat):Int)-1)=(j:Int):=by rw[C6 (by omega) (by omega)];omega
   obtain⟨ia,hia,fa,ka⟩:=hfind o[j] (hp.mem_iff.1 (List.getElem_mem hj));obtain⟨ib,hib,fb,kb⟩:=hfind o[j+1] (hp.mem_iff.1 (List.getElem_mem hj1));have ea:ix (sO s).a8 (ia:Int)=some (cO s.S.a8[ia]):=by rw[c3A,o9 hia];rfl
   have eb:ix (sO s).a8 (ib:Int)=some (cO s.S.a8[ib]):=by rw[c3A,o9 hib];rfl
   have hneg:((decide ((ia:Int)<0))||(decide ((ib:Int)<0)))=false:=by simp
   have hpos':decide (((j+1:Nat):Int) > 0)=true:=by simp
   simp only[hpos',if_true,hplain,ew,o9 hj,o9 hj1,d6y,fa,fb,hneg,beq_self_eq_true,U7,ea,eb,Bool.false_or,cO,oo,ka,kb,Int.toNat_natCast];have Kj:K o j=sk s.S.a8 o[j]:=by simp[K,List.getD,List.getElem?_eq_getElem hj]
   have Kj1:K o (j+1)=sk s.S.a8 o[j+1]:=by simp[K,List.getD,List.getElem?_eq_getElem hj1]
   by_cases hle:sk s.S.a8 o[j]≤sk s.S.a8 o[j+1]
   ·right;refine⟨o,by rw[if_pos (by simpa using hle)],hp,λa b h1 h2=>?_⟩
    by_cases e:b=j+1
    ·subst e;rcases Nat.lt_or_ge a j with q | q
     ·have:=hk a j q (by omega) (by omega)
      omega
     ·have:a=j:=by omega
      subst this;omega
    ·exact hk a b h1 h2 e
   ·left;refine⟨_,by rw[if_neg (by simpa using hle),o9 (by simpa using hj)];rfl,⟨j,rfl,by omega,?_,λa b h1 h2 h3=>?_⟩,by show (j:Int).toNat<((j+1:Nat):Int).toNat;omega⟩
    ·exact (List.set_set_perm hj1 hj).trans hp
    ·have hK:∀c,K ((o.set (j+1) o[j]).set j o[j+1]) c=if c=j then K o (j+1) else if c=j+1 then K o j else K o c:=λc=>by
      simp only[K,List.getD,List.getElem?_set,List.length_set];by_cases c1:c=j
      ·subst c1;simp[hj,List.getElem?_eq_getElem hj1]
      ·by_cases c2:c=j+1
       ·subst c2;simp[hj1,List.getElem?_eq_getElem hj]
       ·rw[if_neg (by omega),if_neg (by omega),if_neg c1,if_neg c2]
     show K ((o.set (j+1) o[j]).set ((j:Nat):Int).toNat o[j+1]) a≤K ((o.set (j+1) o[j]).set ((j:Nat):Int).toNat o[j+1]) b;rw[Int.toNat_natCast,hK,hK];by_cases a1:a=j
     ·subst a1;rw[if_pos rfl];by_cases b2:b=a+1
      ·subst b2;rw[if_neg (by omega),if_pos rfl]
       omega
      ·rw[if_neg (by omega),if_neg b2]
       exact hk (a+1) b (by omega) h2 b2
     ·rw[if_neg a1];by_cases a2:a=j+1
      ·subst a2;rw[if_pos rfl,if_neg (by omega),if_neg (by omega)]
       exact hk j b (by omega) h2 (by omega)
      ·rw[if_neg a2,if_neg h3];by_cases b2:b=j+1
       ·subst b2;rw[if_pos rfl];exact hk a j (by omega) (by omega) (by omega)
       ·rw[if_neg b2];exact hk a b h1 h2 b2
 have outer:∃m,(lp (S:=Int × (List Int)) (E:=(List Int)) (λ((s38,s39):Int × (List Int))=>
   if (decide (s38<(s39.length:Int))) then
     (lp (S:=Int × (List Int)) (E:=(List Int)) (λ((s58,s59):Int × (List Int))=>
      if (decide (s58 > 0)) then
       (K0 (sO s)).bind λv62=>
       (ix s59 (u5 (s58-1))).bind λv63=>
       (N4 v62 v63).bind λv64=>
       (ix s59 s58).bind λv65=>
       (N4 v62 v65).bind λv66=>
       (u4 (((decide (v64.1<0))||(decide (v66.1<0)))==false) (⟨0,0,⟨0,0,0,0,false,[]⟩⟩:p9) (ix (sO s).a8 v64.1)).bind λv67=>
       (u4 (((decide (v64.1<0))||(decide (v66.1<0)))==false) (⟨0,0,⟨0,0,0,0,false,[]⟩⟩:p9) (ix (sO s).a8 v66.1)).bind λv68=>
       if (((decide (v64.1<0))||(decide (v66.1<0)))||(decide (v67.Val.Serial≤v68.Val.Serial))) then
        some (.inr s59)
       else
       (ix (s59.set (s58).toNat v63) (u5 (s58-1))).bind λv69=>
       some (.inl (u5 (s58-1),((s59.set (s58).toNat v63).set (u5 (s58-1)).toNat v65)))
      else
      some (.inr s59)) (s38,s39)).bind λe57=>
     some (.inl (u5 (s38+1),e57))
   else
   some (.inr s39)) (1,l))=some m∧m.Perm l∧m.Pairwise (λa b=>sk s.S.a8 a≤sk s.S.a8 b):=by
  have hb1:l.length+1-(1:Int).toNat<4611686018427387904:=by omega
  refine b0f (s0:=((1:Int),l)) (λq=>∃k:Nat,q.1=(k:Int)∧(k≤l.length∨k=1)∧1≤k∧q.2.Perm l∧∀a b,a<b→b<k→K q.2 a≤K q.2 b) (λ(o':List Int)=>o'.Perm l∧o'.Pairwise (λa b=>sk s.S.a8 a≤sk s.S.a8 b)) (λq=>l.length+1-q.1.toNat) ⟨1,rfl,.inr rfl,by omega,List.Perm.refl _,λa b h1 h2=>by omega⟩ hb1 ?_
  rintro⟨_,o⟩ ⟨k,rfl,hkl,hk1,hp,hk⟩;simp only at hp hk ⊢;have hol:o.length=l.length:=hp.length_eq;rcases Nat.lt_or_ge k l.length with h1 | h1
  ·left;obtain⟨o',e1,e2,e3⟩:=inner k o h1 hp λa b x1 x2 x3=>hk a b x1 (by omega)
   refine⟨(((k+1:Nat):Int),o'),?_,⟨k+1,rfl,by omega,by omega,e2,λa b x1 x2=>e3 a b x1 (by omega)⟩,by show l.length+1-((k+1:Nat):Int).toNat<l.length+1-(k:Int).toNat;omega⟩
   rw[if_pos (by simp;omega),e1,d6y,l5 (by omega)]
  ·right;refine⟨o,by rw[if_neg (by simp;omega)],hp,?_⟩
   rw[List.pairwise_iff_getElem];intro i j hi hj hij;have:=hk i j hij (by omega)
   simpa[K,List.getD,List.getElem?_eq_getElem hi,List.getElem?_eq_getElem hj] using this
 obtain⟨m,e1,e2,e3⟩:=outer;exact⟨m,by rw[show lp _ _=_ from e1];rfl,e2,e3⟩
theorem a5r{s:a7}(hR:RtR (sO s)):Q6 (sO s)=some (lv s):=by
 have hlen:=a16 hR;unfold Q6;simp only[jn];have hloop:lp (S:=Int × (List Int)) (E:=(List Int)) (λ((s18,s19):Int × (List Int))=>
   if (decide (s18<((sO s).a8.length:Int))) then
     (ix (sO s).a8 s18).bind λv27=>
     if (v27.State==1) then
      (a3g s18 v27.Gen).bind λv28=>
      (app 8 s19 [v28]).bind λv29=>
      some (.inl (u5 (s18+1),v29))
     else
     some (.inl (u5 (s18+1),s19))
   else
   some (.inr s19)) (0,[])=some (W1 0 s.S.a8):=by
  refine a3R (a2w (T:=List Int) s.S.a8.length (λk l=>l=W1 0 (s.S.a8.take k)) (λe=>e=W1 0 s.S.a8) (by omega) (by simp[W1]) (λk l hk hP=>?_) (λl hP=>?_))
  ·subst hP;left;have hc:=(b8x hR).gen k hk;have hl:=a5M 0 (s.S.a8.take k);have et:s.S.a8.take (k+1)=s.S.a8.take k ++ [s.S.a8[k]]:=by rw[List.take_add_one,List.getElem?_eq_getElem hk];rfl
   have el:(s.S.a8.take k).length=k:=by simp;omega
   refine⟨_,?_,rfl⟩;simp only[C0,Int.ofNat_lt,hk,decide_true,if_true,c3A,o9 hk,Option.map_some,d6y,cO];rw[et,a8R,el,Nat.zero_add];by_cases q:s.S.a8[k].State=1
   ·rw[if_pos (by simpa using q),if_pos q,a49,d6y,if_pos (by omega),A2 (by omega) (by simp;omega),d6y,l5]
   ·rw[if_neg (by simpa using q),if_neg q,l5,List.append_nil]
  ·subst hP;refine⟨_,by simp only[C0,Int.lt_irrefl,decide_false,Bool.false_eq_true,if_false];rfl,by simp⟩
 rw[show lp _ _=_ from hloop,d6y];obtain⟨m,h1,h2,h3⟩:=c7v hR (l:=W1 0 s.S.a8) (λx hx=>(b2k hR).2 hx) (by have:=a5M 0 s.S.a8;omega)
 rw[h1,d6y];congr 1;obtain⟨_,l2,l3⟩:=a3I hR;exact a69 (key:=sk s.S.a8) (h2.trans l2.symm) h3 (l3.imp λh=>by omega) λa ha b hb e=>b8E hR (h2.mem_iff.1 ha) (h2.mem_iff.1 hb) e
end Go.Sh
namespace Go.Sh
theorem b9O(v:List Int)(h:v.length≤1000000):a34 v=some (nz v):=by
 unfold a34 a9n;simp only[jn,d6y];rw[F9 v (λb x=>if x != 0 then b ++ [x] else b) id (λk b=>b.length≤k) (by omega) (by simp) (λk hk b hb=>?_) (λb _=>?_)]
 ·simp only[d6y,id];rw[foldl_filter];rfl
 ·simp only[Int.ofNat_lt,hk,decide_true,if_true,o9 hk,d6y];by_cases q:(v[k] != 0)=true
  ·rw[if_pos (by simpa using q),if_pos q,A2 (by omega) (by simp;omega),d6y,l5]
   exact⟨rfl,by simp;omega⟩
  ·rw[if_neg (by simpa using q),if_neg q,l5]
   exact⟨rfl,by omega⟩
 ·simp only[Int.lt_irrefl,decide_false,Bool.false_eq_true,if_false];rfl
theorem b4P(v:List Int)(h:v.length≤1000000):a2A v=some (nz v):=by
 unfold a2A;simp only[jn];rw[F9 v (λb x=>if x != 0 then b ++ [x] else b) id (λk b=>b.length≤k) (by omega) (by simp) (λk hk b hb=>?_) (λb _=>?_)]
 ·simp only[d6y,id];rw[foldl_filter];rfl
 ·simp only[Int.ofNat_lt,hk,decide_true,if_true,o9 hk,d6y];by_cases q:(v[k] != 0)=true
  ·rw[if_pos q,if_pos q,A2 (by omega) (by simp;omega),d6y,l5]
   exact⟨rfl,by simp;omega⟩
  ·rw[if_neg q,if_neg q,l5];exact⟨rfl,by omega⟩
 ·simp only[Int.lt_irrefl,decide_false,Bool.false_eq_true,if_false];rfl
theorem a7c(l:List Int)(h:Int)(hl:l.length≤1000000):a1t l h=some (W5 l h:Int):=by
 unfold a1t;simp only[jn];rw[b2i l (λ(b:Int) x=>if (x==h&&h != 0) then b+1 else b) id (λk b=>0≤b∧b≤k) (by omega) (by simp) (λk hk b hb=>?_) (λb _=>?_)]
 ·simp only[d6y,id];rw[b2Y];simp
 ·simp only[Int.ofNat_lt,hk,decide_true,if_true,o9 hk,d6y];by_cases q:(l[k]==h&&h != 0)=true
  ·rw[if_pos q,if_pos q,l5,C6 (n:=b+1) (by omega) (by omega)]
   exact⟨rfl,by omega⟩
  ·rw[if_neg q,if_neg q,l5];exact⟨rfl,by omega⟩
 ·simp only[Int.lt_irrefl,decide_false,Bool.false_eq_true,if_false];rfl
noncomputable def inn(s:a7)(h:Int):Nat:=((lv s).map λx=>W5 (outs s x) h).sum
theorem c2Z{s:a7}(hR:RtR (sO s)){k:Nat}(hk:k<(lv s).length):(lv s)[k]≤9223372036854775807:=by
 have:=a5s hR (List.getElem_mem hk);omega
section
variable{s:a7}(hR:RtR (sO s))
include hR
theorem c6T{h:Int}(hh:h≤9223372036854775807):a52 s h=some (outs s h):=by
 obtain⟨e,h1,_⟩:=Q1 hR hh;unfold a52;rw[h1,d6y,b9O _ (by have:=b7P hR h hh;simp only;omega)]
 rfl
theorem b9S{h:Int}(hh:h≤9223372036854775807):b1p (sO s) h=some (outs s h):=by
 unfold b1p;rw[a4h s (by have:=a16 hR;omega) hh]
 obtain⟨e,h1,h2⟩:=Q1 hR hh;rw[h1];simp only[Option.map_some,d6y];by_cases q:e=0
 ·subst q;rw[if_neg (by simp),b4P _ (by have:=b7P hR h hh;simp only[oo];omega)]
  rfl
 ·rw[if_pos (by simpa using q),c3c hR hh (λq'=>q (h2.2 q'))]
theorem c1i(h:Int):inn s h≤96:=by
 have:=b8J (λx=>W5 (outs s x) h) 4 (lv s) λx hx=>Nat.le_trans (c1Z _ _) (a5R hR x (by have:=a5s hR hx;omega))
 have:=F3 hR;unfold inn;omega
theorem d4j(h:Int):b3U s h=some (inn s h:Int):=by
 unfold b3U a60;simp only[jn,d6y];rw[show E2 s=_ from a1W hR,d6y];have hl:=F3 hR;rw[F9 (lv s) (λ(b:Int) x=>b+(W5 (outs s x) h:Int)) id (λk b=>0≤b∧b≤4*k) (by omega) (by simp) (λk hk b hb=>?_) (λb _=>?_)]
 ·simp only[d6y,id];have:=b0c (λx=>W5 (outs s x) h) (lv s) 0;rw[show ((0:Nat):Int)=0 from rfl] at this;rw[this,Nat.zero_add];rfl
 ·have ho:=c6T hR (c2Z hR hk);have hol:=a5R hR _ (c2Z hR hk);have ht:=c1Z (outs s (lv s)[k]) h;simp only[Int.ofNat_lt,hk,decide_true,if_true,o9 hk,d6y,ho];rw[F9 (outs s (lv s)[k]) (λ(b:Int) x=>if (x==h&&h != 0) then b+1 else b) id (λj c=>b≤c∧c≤b+j) (by omega) (by simp) (λj hj c hc=>?_) (λc _=>?_)]
  ·simp only[d6y,id];rw[b2Y,l5];exact⟨rfl,by omega⟩
  ·simp only[Int.ofNat_lt,hj,decide_true,if_true,o9 hj,d6y];have hne:=c9H (List.getElem_mem hj);by_cases q:(outs s (lv s)[k])[j]=h
   ·have e2:((outs s (lv s)[k])[j]==h&&h != 0)=true:=by simp only[Bool.and_eq_true,beq_iff_eq,bne_iff_ne];omega
    rw[e2,if_pos (by simpa using q),if_pos rfl,l5,C6 (n:=c+1) (by omega) (by omega)]
    exact⟨rfl,by omega⟩
   ·have e2:((outs s (lv s)[k])[j]==h&&h != 0)=false:=by rw[Bool.eq_false_iff];simp only[ne_eq,Bool.and_eq_true,beq_iff_eq,bne_iff_ne];omega
    rw[e2,if_neg (by simpa using q),l5]
    exact⟨rfl,by simp;omega⟩
  ·simp only[Int.lt_irrefl,decide_false,Bool.false_eq_true,if_false];rfl
 ·simp only[Int.lt_irrefl,decide_false,Bool.false_eq_true,if_false];rfl
theorem c89(h:Int):b78 (sO s) h=some (inn s h:Int):=by
 unfold b78;simp only[jn,a5r hR,d6y];have hl:=F3 hR;rw[b2i (lv s) (λ(b:Int) x=>b+(W5 (outs s x) h:Int)) id (λk b=>0≤b∧b≤4*k) (by omega) (by simp) (λk hk b hb=>?_) (λb _=>?_)]
 ·simp only[d6y,id];have:=b0c (λx=>W5 (outs s x) h) (lv s) 0;rw[show ((0:Nat):Int)=0 from rfl] at this;rw[this,Nat.zero_add];rfl
 ·have hol:=a5R hR _ (c2Z hR hk);have ht:=c1Z (outs s (lv s)[k]) h;simp only[Int.ofNat_lt,hk,decide_true,if_true,o9 hk,d6y,b9S hR (c2Z hR hk)];rw[a7c _ _ (by omega),d6y,l5,C6 (by omega) (by omega)]
  exact⟨rfl,by omega⟩
 ·simp only[Int.lt_irrefl,decide_false,Bool.false_eq_true,if_false];rfl
end
end Go.Sh
namespace Go.Sh
section
variable{s:a7}(hR:RtR (sO s))(hF:FB s)
include hR hF
end
theorem b0P{α:Type}(p:α→Bool):∀l:List α,l.length=(l.filter p).length+(l.filter λx => !p x).length
 | []=>rfl
 | x::l=>by
  have:=b0P p l;by_cases h:p x
  ·simp[h];omega
  ·simp[h];omega
theorem d4l{s:a7}(hR:RtR (sO s)){l:List Int}(hp:l.Perm (W1 0 s.S.a8))(hs:l.Pairwise (λa b=>sk s.S.a8 a<sk s.S.a8 b)):lv s=l:=by
 obtain⟨_,l2,l3⟩:=a3I hR;exact a69 (key:=sk s.S.a8) (l2.trans hp.symm) (l3.imp λh=>by omega) (hs.imp λh=>by omega) λa ha b hb e=>b8E hR (l2.mem_iff.1 ha) (l2.mem_iff.1 hb) e
end Go.Sh
namespace Go.Sh
inductive Rch (s:a7) (l:List Int):Int→Prop
 | base {h:Int}:h∈l→h∈lv s→Rch s l h
 | step {a b:Int}:Rch s l a→b∈outs s a→b∈lv s→Rch s l b
open Classical in
noncomputable def rcd (s:a7) (l:List Int):List Int:=(lv s).filter λh=>decide (Rch s l h)
open Classical in
noncomputable def lst (s:a7) (l:List Int):List Int:=(lv s).filter λh=>decide (¬Rch s l h)
def Cl(s:a7)(l:List Int):Prop:=∀a∈l,∀b∈outs s a,b∈lv s→b∈l
def LB(l:List Int):Prop:=∀x∈l,x≤9223372036854775807
theorem Rch.live{s:a7}{l:List Int}{h:Int}(q:Rch s l h):h∈lv s:=by cases q <;> assumption
open Classical in
theorem a0a {s:a7} {l:List Int} {h:Int}:h∈rcd s l↔Rch s l h:=by
 unfold rcd;rw[List.mem_filter];exact⟨λq=>of_decide_eq_true q.2,λq=>⟨q.live,decide_eq_true q⟩⟩
theorem c3l{s:a7}(hR:RtR (sO s))(l:List Int):(rcd s l).length≤24:=Nat.le_trans (List.length_filter_le ..) (F3 hR)
theorem d2R(s:a7)(l:List Int):Cl s (rcd s l):=λa ha b hb hl=>a0a.2 (.step (a0a.1 ha) hb hl)
theorem Rch.least{s:a7}{l m:List Int}(hc:Cl s m)(hl:∀x∈l,x∈lv s→x∈m){h:Int}(q:Rch s l h):h∈m:=by
 induction q with
 | base h1 h2=>exact hl _ h1 h2
 | step _ h1 h2 ih=>exact hc _ ih _ h1 h2
theorem Rch.mono{s:a7}{l m:List Int}(hl:∀x∈l,x∈lv s→Rch s m x){h:Int}(q:Rch s l h):Rch s m h:=by
 induction q with
 | base h1 h2=>exact hl _ h1 h2
 | step _ h1 h2 ih=>exact .step ih h1 h2
theorem b6T{s:a7}{l m:List Int}(h:∀x,Rch s l x↔Rch s m x):rcd s l=rcd s m:=by
 unfold rcd;exact List.filter_congr λx _=>decide_eq_decide.2 (h x)
theorem filter_lt{α:Type}{p q:α→Bool}:∀ {l:List α},(∀x∈l,p x=true→q x=true)→∀x∈l,q x=true→p x=false→(l.filter p).length<(l.filter q).length
 | [],_,x,hx,_,_=>by cases hx
 | y::l,h,x,hx,h1,h2=>by
  have hle:(l.filter p).length≤(l.filter q).length:=by
   have h':∀x∈l,p x=true→q x=true:=λx hx=>h x (List.mem_cons_of_mem _ hx);clear h hx;induction l with
   | nil=>simp
   | cons z l ih=>
    have:=ih λx hx=>h' x (List.mem_cons_of_mem _ hx);have hz:=h' z (List.mem_cons_self ..);simp only[List.filter_cons];by_cases a:p z=true
    ·rw[if_pos a,if_pos (hz a)];simp only[List.length_cons];omega
    ·rw[if_neg a];split <;> (try simp only[List.length_cons]) <;> omega
  rcases List.mem_cons.1 hx with rfl | hx'
  ·simp only[List.filter_cons,h1,h2,if_true,Bool.false_eq_true,if_false,List.length_cons];omega
  ·have:=filter_lt (λx hx=>h x (List.mem_cons_of_mem _ hx)) x hx' h1 h2;have hy:=h y (List.mem_cons_self ..);simp only[List.filter_cons];by_cases a:p y=true
   ·rw[if_pos a,if_pos (hy a)];simp only[List.length_cons];omega
   ·rw[if_neg a];split <;> (try simp only[List.length_cons]) <;> omega
theorem a4n{l m:List Int}(hn:l.Nodup)(h:∀x∈l,x∈m):l.length≤m.length:=by
 induction l generalizing m with
 | nil=>simp
 | cons x l ih=>
  rw[List.nodup_cons] at hn;have hx:=h x (List.mem_cons_self ..);have:=ih (m:=m.erase x) hn.2 λy hy=>(List.mem_erase_of_ne (λe=>hn.1 (by subst e;exact hy))).2 (h y (List.mem_cons_of_mem _ hy))
  rw[List.length_erase_of_mem hx] at this;have:0<m.length:=List.length_pos_of_mem hx;simp only[List.length_cons];omega
section
variable{s:a7}(hR:RtR (sO s))
include hR
theorem c4k{h:Int}(hh:h≤9223372036854775807):a0D s h=some (decide (h∈lv s)):=by
 obtain⟨e,h1,h2⟩:=Q1 hR hh;unfold a0D;rw[h1,d6y];congr 1;rw[Bool.eq_iff_iff,beq_iff_eq,decide_eq_true_iff];exact h2
abbrev Mk(m:List (Int × Bool))(x:Int):Prop:=(B5 m x).getD false=true
noncomputable def unm(s:a7)(m:List (Int × Bool)):Nat:=((lv s).filter λx => !(B5 m x).getD false).length
omit hR in
theorem b2o (m:List (Int × Bool)) (x y:Int):Mk (r8 m x true) y↔y=x∨Mk m y:=by
 unfold Mk;rw[a8S];by_cases q:y=x
 ·simp[q]
 ·simp[q]
omit hR in
theorem d0g {m:List (Int × Bool)} {x:Int} (hx:x∈lv s) (hm:¬Mk m x):unm s (r8 m x true)<unm s m:=by
 unfold unm;refine filter_lt (λy _ h=>?_) x hx (by simpa[Mk] using hm) ?_
 ·by_cases q:Mk m y
  ·have:=(b2o m x y).2 (.inr q);unfold Mk at this;rw[this] at h;cases h
  ·simpa[Mk] using q
 ·have:=(b2o m x x).2 (.inl rfl);unfold Mk at this;rw[this];rfl
structure c0M (s:a7) (l:List Int) (q:l6) (m:List (Int × Bool)):Prop where
 nd:q.L.Nodup
 cap:q.Cap=((lv s).length:Int)
 mkd:∀x∈q.L,Mk m x
 rc:∀x,Mk m x→Rch s l x
omit hR in
theorem c0M.room {l:List Int} {q:l6} {m:List (Int × Bool)} (h:c0M s l q m) {x:Int} (hx:x∈lv s) (hm:¬Mk m x):q.L.length<(lv s).length:=by
 have:(x::q.L).length≤(lv s).length:=a4n (List.nodup_cons.2 ⟨λk=>hm (h.mkd x k),h.nd⟩) λy hy=>by
  rcases List.mem_cons.1 hy with rfl | k
  ·exact hx
  ·exact (h.rc y (h.mkd y k)).live
 simp only[List.length_cons] at this;omega
omit hR in
theorem c9L {q:l6} {x:Int} (h:(q.L.length:Int)<q.Cap) (h2:q.L.length≤1000):P2 q x=some (⟨q.L ++ [x],q.Cap⟩,0):=by
 unfold P2 L2 P3;rw[d6y,if_neg (by simp;omega)]
 have:=a98 (xs:=q.L) (i:=0) (j:=q.L.length) (by omega) (Nat.le_refl _)
 rw[show ((0:Nat):Int)=0 from rfl] at this;rw[this];simp only[List.take_length,List.drop_zero,d6y];rw[A2 (by omega) (by simp;omega)]
 rfl
omit hR in
theorem d2F {x:Int} {r:List Int} {c:Int} (h2:r.length≤1000):a0X ⟨x::r,c⟩=some (⟨r,c⟩,x,0):=by
 unfold a0X a3v L2 P3;simp only[d6y,List.length_cons];have e:(if (if (((r.length+1:Nat):Int))<1 then (((r.length+1:Nat):Int)) else 1) > 0 then (if (((r.length+1:Nat):Int))<1 then (((r.length+1:Nat):Int)) else 1) else 0:Int)=((1:Nat):Int):=by
  rw[if_neg (show ¬(((r.length+1:Nat):Int)<1) by omega)]
  rfl
 rw[e];have h1:=a98 (xs:=x::r) (i:=0) (j:=1) (by omega) (by simp)
 have h3:=a98 (xs:=x::r) (i:=1) (j:=r.length+1) (by omega) (by simp)
 rw[show ((0:Nat):Int)=0 from rfl] at h1;rw[h1,h3];simp only[d6y];have e1:List.drop 0 (List.take 1 (x::r)) = [x]:=by simp
 have e2:List.drop 1 (List.take (r.length+1) (x::r))=r:=by simp
 rw[e1,e2];rfl
abbrev b9X(s:a7)(xs:List Int):Int × l6 × (List (Int × Bool))→Option ((Int × l6 × (List (Int × Bool))) ⊕ (l6 × (List (Int × Bool)))):=
 λ(s114,s115,s116)=>
   if (decide (s114<(xs.length:Int))) then
     (ix xs s114).bind λv126=>
     (a0D s v126).bind λv127=>
     if (v127==true) then
      if (!((B5 s116 v126).getD (false:Bool))) then
       (P2 s115 v126).bind λv128=>
       some (.inl (u5 (s114+1),v128.1,(r8 s116 v126 true)))
      else
      some (.inl (u5 (s114+1),s115,s116))
     else
     some (.inl (u5 (s114+1),s115,s116))
   else
   some (.inr (s115,s116))
theorem b6P{l xs:List Int}{q:l6}{m:List (Int × Bool)}(hxs:LB xs)(hlen:xs.length≤1000000)(h0:c0M s l q m)(hr:∀x∈xs,x∈lv s→Rch s l x) :
  ∃q' m',lp (b9X s xs) (0,q,m)=some (q',m')∧c0M s l q' m'∧(∀x,Mk m' x↔Mk m x∨x∈xs∧x∈lv s)∧(∀x,Mk m' x→Mk m x∨x∈q'.L)∧(∀x∈q.L,x∈q'.L)∧2*unm s m'+q'.L.length≤2*unm s m+q.L.length:=by
 have:=a2w (f:=b9X s xs) (t0:=(q,m)) xs.length (λk t=>c0M s l t.1 t.2∧(∀x,Mk t.2 x↔Mk m x∨x∈xs.take k∧x∈lv s)∧(∀x,Mk t.2 x→Mk m x∨x∈t.1.L)∧(∀x∈q.L,x∈t.1.L)∧2*unm s t.2+t.1.L.length≤2*unm s m+q.L.length)
  (λt=>c0M s l t.1 t.2∧(∀x,Mk t.2 x↔Mk m x∨x∈xs∧x∈lv s)∧(∀x,Mk t.2 x→Mk m x∨x∈t.1.L)∧(∀x∈q.L,x∈t.1.L)∧2*unm s t.2+t.1.L.length≤2*unm s m+q.L.length) (by omega)
  ⟨h0,λx=>by simp,λx h=>.inl h,λx h=>h,Nat.le_refl _⟩ (λk t hk hP=>?_) (λt hP=>?_)
 ·obtain⟨⟨q',m'⟩,h1,h2⟩:=this;exact⟨q',m',h1,h2⟩
 ·obtain⟨q1,m1⟩:=t;obtain⟨p1,p2,p3,p4,p5⟩:=hP;simp only at p1 p2 p3 p4 p5;left;have hle:=hxs _ (List.getElem_mem hk);have ht:∀x,x∈xs.take (k+1)↔x∈xs.take k∨x=xs[k]:=λx=>by rw[List.take_succ_eq_append_getElem hk,List.mem_append,List.mem_singleton]
  simp only[b9X,Int.ofNat_lt,hk,decide_true,if_true,o9 hk,d6y,c4k hR hle];by_cases hv:xs[k]∈lv s
  ·rw[if_pos (by simpa using hv)]
   by_cases hm:Mk m1 xs[k]
   ·rw[if_neg (by rw[show (B5 m1 xs[k]).getD false=true from hm];decide),l5]
    refine⟨(q1,m1),rfl,p1,λx=>?_,p3,p4,p5⟩;rw[p2,ht];constructor
    ·rintro (a | ⟨a,b⟩);·exact .inl a
     ·exact .inr ⟨.inl a,b⟩
    ·rintro (a | ⟨a | rfl,b⟩);·exact .inl a
     ·exact .inr ⟨a,b⟩
     ·exact (p2 _).1 hm
   ·have hm':(B5 m1 xs[k]).getD false=false:=by simpa[Mk] using hm
    have hroom:=p1.room hv hm;have hl24:=F3 hR;rw[if_pos (by rw[hm'];decide),c9L (by rw[p1.cap];omega) (by omega),d6y,l5]
    refine⟨(⟨q1.L ++ [xs[k]],q1.Cap⟩,r8 m1 xs[k] true),rfl,⟨?_,p1.cap,λx hx=>?_,λx hx=>?_⟩,λx=>?_,λx hx=>?_,λx hx=>?_,?_⟩
    ·simp only;rw[List.nodup_append];refine⟨p1.nd,by simp,λa ha b hb e=>?_⟩
     rw[List.mem_singleton] at hb;subst hb;subst e;exact hm (p1.mkd _ ha)
    ·simp only[List.mem_append,List.mem_singleton] at hx;rw[b2o];rcases hx with a | a
     ·exact .inr (p1.mkd x a)
     ·exact .inl a
    ·rcases (b2o m1 xs[k] x).1 hx with rfl | a
     ·exact hr _ (List.getElem_mem hk) hv
     ·exact p1.rc x a
    ·simp only;rw[b2o,p2,ht];constructor
     ·rintro (rfl | a | ⟨a,b⟩);·exact .inr ⟨.inr rfl,hv⟩
      ·exact .inl a
      ·exact .inr ⟨.inl a,b⟩
     ·rintro (a | ⟨a | a,b⟩);·exact .inr (.inl a)
      ·exact .inr (.inr ⟨a,b⟩)
      ·exact .inl a
    ·simp only[List.mem_append,List.mem_singleton];rcases (b2o m1 xs[k] x).1 hx with a | a
     ·exact .inr (.inr a)
     ·rcases p3 x a with b | b
      ·exact .inl b
      ·exact .inr (.inl b)
    ·simp only[List.mem_append];exact .inl (p4 x hx)
    ·have:=d0g hv hm;simp only[List.length_append,List.length_singleton];omega
  ·rw[if_neg (by simpa using hv),l5]
   refine⟨(q1,m1),rfl,p1,λx=>?_,p3,p4,p5⟩;rw[p2,ht];constructor
   ·rintro (a | ⟨a,b⟩);·exact .inl a
    ·exact .inr ⟨.inl a,b⟩
   ·rintro (a | ⟨a | rfl,b⟩);·exact .inl a
    ·exact .inr ⟨a,b⟩
    ·exact absurd b hv
 ·obtain⟨q1,m1⟩:=t;refine⟨(q1,m1),?_,?_⟩;·simp only[b9X,Int.lt_irrefl,decide_false,Bool.false_eq_true,if_false]
  ·simpa using hP
theorem b60(hF:FB s){l:List Int}(hl:LB l)(hlen:l.length≤1000000):∃m,a14 s l=some m∧∀x,Mk m x↔Rch s l x:=by
 unfold a14 a2Z;simp only[jn,a1W hR,d6y];have h24:=F3 hR;obtain⟨q0,m0,e0,i0,i1,i2,i3,i4⟩:=b6P hR (l:=l) (xs:=l) (q:=⟨[],((lv s).length:Int)⟩) (m:=[]) hl hlen ⟨List.nodup_nil,rfl,(λx hx=>by cases hx),(λx hx=>by simp[Mk,B5] at hx)⟩ (λx h1 h2=>.base h1 h2)
 rw[show lp _ _=_ from e0,d6y];simp only;have hu:unm s []≤24:=Nat.le_trans (List.length_filter_le ..) h24;obtain⟨m,h1,h2⟩:=b0f (s0:=(q0,m0)) (f:=λ((s70,s71):l6 × (List (Int × Bool)))=>
    (L2 s70).bind λv74=>
    if (decide (v74 > 0)) then
     (a0X s70).bind λv75=>
     (a52 s v75.2.1).bind λv76=>
      (lp (b9X s v76) (0,v75.1,s71)).bind λe97=>
      (some (.inl (e97.1,e97.2)):Option ((l6 × List (Int × Bool)) ⊕ List (Int × Bool)))
    else
    some (.inr s71)) (λt=>c0M s l t.1 t.2∧(∀x∈l,x∈lv s→Mk t.2 x)∧∀a,Mk t.2 a→a∈t.1.L∨∀b∈outs s a,b∈lv s→Mk t.2 b) (λm=>∀x,Mk m x↔Rch s l x) (λt=>2*unm s t.2+t.1.L.length)
   ⟨i0,λx h1 h2=>(i1 x).2 (.inr ⟨h1,h2⟩),λa ha=>.inl ((i2 a ha).resolve_left (by simp[Mk,B5]))⟩ (by show 2*unm s m0+q0.L.length<_;simp only[List.length_nil] at i4;omega) (by
   rintro⟨q,m⟩ ⟨p1,p2,p3⟩;simp only at p1 p2 p3 ⊢;have hq:=a4n p1.nd λx hx=>(p1.rc x (p1.mkd x hx)).live;unfold L2;rw[d6y];cases hqL:q.L with
   | nil=>
    right;refine⟨m,by rw[if_neg (by simp)],λx=>⟨p1.rc x,λh=>?_⟩⟩
    induction h with
    | base a b=>exact p2 _ a b
    | step _ a b ih=>
     rcases p3 _ ih with c | c
     ·rw[hqL] at c;cases c
     ·exact c _ a b
   | cons a r=>
    left;have hqe:q=⟨a::r,q.Cap⟩:=by rw[←hqL]
    have hal:a∈lv s:=(p1.rc a (p1.mkd a (by rw[hqL];exact List.mem_cons_self ..))).live
    have ha:a≤9223372036854775807:=by have:=a5s hR hal;omega
    have hnd:=p1.nd;rw[hqL] at hnd hq;simp only[List.length_cons] at hq;obtain⟨q',m',e1,j0,j1,j2,j3,j4⟩:=b6P hR (l:=l) (xs:=outs s a) (q:=⟨r,q.Cap⟩) (m:=m) (λx hx=>c9G hR hF ha hx) (by have:=a5R hR a ha;omega) ⟨(List.nodup_cons.1 hnd).2,p1.cap,λx hx=>p1.mkd x (by rw[hqL];exact List.mem_cons_of_mem _ hx),p1.rc⟩ (λx h1 h2=>.step (p1.rc a (p1.mkd a (by rw[hqL];exact List.mem_cons_self ..))) h1 h2)
    refine⟨(q',m'),?_,⟨j0,λx h1 h2=>(j1 x).2 (.inl (p2 x h1 h2)),λb hb=>?_⟩,?_⟩
    ·rw[if_pos (by simp),hqe,d2F (by omega),d6y]
     simp only;rw[c6T hR ha,d6y,e1,d6y]
    ·simp only at hb ⊢;rcases j2 b hb with c | c
     ·rcases p3 b c with d | d
      ·rw[hqL] at d;rcases List.mem_cons.1 d with rfl | d
       ·exact .inr λy h1 h2=>(j1 y).2 (.inr ⟨h1,h2⟩)
       ·exact .inl (j3 b d)
      ·exact .inr λy h1 h2=>(j1 y).2 (.inl (d y h1 h2))
     ·exact .inl c
    ·show 2*unm s m'+q'.L.length<2*unm s m+(a::r).length;simp only[List.length_cons] at j4 ⊢;omega)
 refine⟨m,?_,h2⟩;rw[show lp _ _=_ from h1];rfl
end
end Go.Sh
namespace Go.Sh
theorem c6d(l:List Int)(x:Int)(hl:l.length≤1000000):∃r:Int,Q8 l x=some r∧(0≤r↔x∈l):=by
 unfold Q8;simp only[jn];by_cases h:x∈l
 ·obtain⟨i,hi,e⟩:=List.mem_iff_getElem.1 h;obtain⟨j,⟨hj,ej⟩,hmin⟩:=W0 (p:=λi=>∃hi:i<l.length,l[i]=x) ⟨i,hi,e⟩;refine⟨(j:Int),?_,by simp[h]⟩
  refine R6 l.length (λk=>k≤j) (by omega) (Nat.zero_le _) (λk hk hP=>?_) (λhP=>by omega)
  simp only[Int.ofNat_lt,hk,decide_true,if_true,o9 hk,d6y];rcases Nat.lt_or_ge k j with q | q
  ·refine .inl ⟨?_,q⟩;rw[if_neg (by
    rw[beq_iff_eq];intro e;have:=hmin k ⟨hk,e.symm⟩;omega),l5]
  ·have:k=j:=by omega
   subst this;exact .inr ⟨_,by rw[if_pos (by simpa using ej.symm)],rfl⟩
 ·refine⟨-1,?_,by simp[h]⟩
  refine R6 l.length (λk=>True) (by omega) trivial (λk hk hP=>.inl ⟨?_,trivial⟩) (λhP=>⟨.inr (),by simp,rfl⟩)
  simp only[Int.ofNat_lt,hk,decide_true,if_true,o9 hk,d6y];rw[if_neg (by
   rw[beq_iff_eq];intro e;exact h (e▸List.getElem_mem hk)),l5]
theorem contains_eq(l:List Int)(x:Int)(hl:l.length≤1000000):E9 l x=some (decide (x∈l)):=by
 obtain⟨r,h1,h2⟩:=c6d l x hl;unfold E9;rw[h1,d6y];congr 1;exact decide_eq_decide.2 h2
theorem b0Z(l:List Int)(x:Int)(hl:l.length≤1000000):a8X l x=some (decide (x≠0∧x∈l)):=by
 unfold a8X;rw[a7c l x hl,d6y];congr 1;rw[decide_eq_decide,←a2a];omega
open Classical in
theorem c0t (all l:List Int) (b:Bool) (ha:all.length≤1000000) (hl:l.length≤1000000) (h0:∀x∈all,x≠0):a8Y all l b=some (all.filter λx=>decide (x∈l)==b):=by
 unfold a8Y;simp only[jn];rw[F9 all (λacc x=>if decide (x∈l)==b then acc ++ [x] else acc) id (λk acc=>acc.length≤k) (by omega) (by simp) (λk hk acc hb=>?_) (λb _=>?_)]
 ·simp only[d6y,id];rw[foldl_filter];rfl
 ·simp only[Int.ofNat_lt,hk,decide_true,if_true,o9 hk,d6y,b0Z _ _ hl];have e:decide (all[k]≠0∧all[k]∈l)=decide (all[k]∈l):=decide_eq_decide.2 ⟨λq=>q.2,λq=>⟨h0 _ (List.getElem_mem hk),q⟩⟩;rw[e];by_cases q:(decide (all[k]∈l)==b)=true
  ·rw[if_pos q,if_pos q,A2 (by omega) (by simp;omega),d6y,l5]
   exact⟨rfl,by simp;omega⟩
  ·rw[if_neg q,if_neg q,l5];exact⟨rfl,by omega⟩
 ·simp only[Int.lt_irrefl,decide_false,Bool.false_eq_true,if_false];rfl
section
variable{s:a7}(hR:RtR (sO s))
include hR
theorem c21:∀x∈lv s,x≠0:=λx hx=>by have:=a5s hR hx;omega
open Classical in
theorem c2N (hF:FB s) {l:List Int} (hl:LB l) (hlen:l.length≤1000000):a4s s l=some (rcd s l):=by
 obtain⟨m,h1,h2⟩:=b60 hR hF hl hlen;unfold a4s R8 a3N;rw[h1,d6y];simp only[jn,a1W hR,d6y];have h24:=F3 hR;rw[F9 (lv s) (λacc x=>if decide (Rch s l x) then acc ++ [x] else acc) id (λk acc=>acc.length≤k) (by omega) (by simp) (λk hk acc hb=>?_) (λb _=>?_)]
 ·simp only[d6y,id];rw[foldl_filter];rfl
 ·simp only[Int.ofNat_lt,hk,decide_true,if_true,o9 hk,d6y];by_cases q:Rch s l (lv s)[k]
  ·rw[if_pos ((h2 _).2 q),if_pos (by simpa using q),A2 (by omega) (by simp;omega),d6y,l5]
   exact⟨rfl,by simp;omega⟩
  ·rw[if_neg (λk=>q ((h2 _).1 k)),if_neg (by simpa using q),l5]
   exact⟨rfl,by omega⟩
 ·simp only[Int.lt_irrefl,decide_false,Bool.false_eq_true,if_false];rfl
open Classical in
theorem c9h (hF:FB s) {l:List Int} (hl:LB l) (hlen:l.length≤1000000):a6Z s l=some (lst s l):=by
 obtain⟨m,h1,h2⟩:=b60 hR hF hl hlen;unfold a6Z R9 a3O;rw[h1,d6y];simp only[jn,a1W hR,d6y];have h24:=F3 hR;rw[F9 (lv s) (λacc x=>if decide (¬Rch s l x) then acc ++ [x] else acc) id (λk acc=>acc.length≤k) (by omega) (by simp) (λk hk acc hb=>?_) (λb _=>?_)]
 ·simp only[d6y,id];rw[foldl_filter];rfl
 ·simp only[Int.ofNat_lt,hk,decide_true,if_true,o9 hk,d6y];by_cases q:Rch s l (lv s)[k]
  ·have e:(B5 m (lv s)[k]).getD false=true:=(h2 _).2 q;rw[if_neg (by rw[e];decide),if_neg (by simpa using q),l5]
   exact⟨rfl,by omega⟩
  ·have e:(B5 m (lv s)[k]).getD false=false:=by
    have:¬Mk m (lv s)[k]:=λk=>q ((h2 _).1 k);simpa[Mk] using this
   rw[if_pos (by rw[e];decide),if_pos (by simpa using q),A2 (by omega) (by simp;omega),d6y,l5]
   exact⟨rfl,by simp;omega⟩
 ·simp only[Int.lt_irrefl,decide_false,Bool.false_eq_true,if_false];rfl
def grow(s:a7)(all seen:List Int):List Int:=all.filter λx=>decide (x∈seen++seen.flatMap (outs s))
def a0f(s:a7)(all seen:List Int):Nat→List Int
 | 0=>seen
 | k+1=>grow s all (a0f s all seen k)
omit hR in
theorem b0d (all seen:List Int) (k:Nat):a0f s all seen (k+1)=grow s all (a0f s all seen k):=rfl
omit hR in
theorem b0Y {all seen:List Int} {x:Int}:x∈grow s all seen↔x∈all∧(x∈seen∨∃a∈seen,x∈outs s a):=by
 unfold grow;rw[List.mem_filter,decide_eq_true_iff,List.mem_append,List.mem_flatMap]
open Classical in
omit hR in
theorem c57 (l:List Int):a0f s (lv s) ((lv s).filter λx=>decide (x∈l)==true) (lv s).length=rcd s l:=by
 have hsub:∀k x,x∈a0f s (lv s) ((lv s).filter λx=>decide (x∈l)==true) k→Rch s l x:=by
  intro k;induction k with
  | zero=>
   intro x hx;have:=List.mem_filter.1 (show x∈(lv s).filter λx=>decide (x∈l)==true from hx);exact .base (by simpa using this.2) this.1
  | succ k ih=>
   intro x hx;rw[b0d,b0Y] at hx;rcases hx.2 with q | ⟨a,q1,q2⟩
   ·exact ih x q
   ·exact .step (ih a q1) q2 hx.1
 have hall:∀k x,x∈a0f s (lv s) ((lv s).filter λx=>decide (x∈l)==true) k→x∈lv s:=λk x hx=>(hsub k x hx).live;have hfil:∀k,∃p:Int→Bool,a0f s (lv s) ((lv s).filter λx=>decide (x∈l)==true) k=(lv s).filter p:=by
  intro k;cases k with
  | zero=>exact⟨_,rfl⟩
  | succ k=>exact⟨_,rfl⟩
 have hinc:∀k x,x∈a0f s (lv s) ((lv s).filter λx=>decide (x∈l)==true) k→x∈a0f s (lv s) ((lv s).filter λx=>decide (x∈l)==true) (k+1):=λk x hx=>b0Y.2 ⟨hall k x hx,.inl hx⟩;have key:∀k,Cl s (a0f s (lv s) ((lv s).filter λx=>decide (x∈l)==true) k)∨k≤(a0f s (lv s) ((lv s).filter λx=>decide (x∈l)==true) k).length:=by
  intro k;induction k with
  | zero=>exact .inr (Nat.zero_le _)
  | succ k ih=>
   by_cases hc:Cl s (a0f s (lv s) ((lv s).filter λx=>decide (x∈l)==true) k)
   ·left;have:∀x,x∈a0f s (lv s) ((lv s).filter λx=>decide (x∈l)==true) (k+1)↔x∈a0f s (lv s) ((lv s).filter λx=>decide (x∈l)==true) k:=λx=>⟨λhx=>by
     rw[b0d,b0Y] at hx;rcases hx.2 with q | ⟨a,q1,q2⟩
     ·exact q
     ·exact hc a q1 x q2 hx.1,hinc k x⟩
    intro a ha b hb hbl;exact (this b).2 (hc a ((this a).1 ha) b hb hbl)
   ·right;have hk:=ih.resolve_left hc;obtain⟨b,hb1,hb2,hb3⟩:∃b,b∈lv s∧b∈a0f s (lv s) ((lv s).filter λx=>decide (x∈l)==true) (k+1)∧b∉a0f s (lv s) ((lv s).filter λx=>decide (x∈l)==true) k:=by
     refine Classical.byContradiction λq=>hc λa ha b hb hbl=>Classical.byContradiction λq2=>q ⟨b,hbl,b0Y.2 ⟨hbl,.inr ⟨a,ha,hb⟩⟩,q2⟩
    obtain⟨p,hp⟩:=hfil k;obtain⟨p',hp'⟩:=hfil (k+1);have hi:=hinc k;rw[hp] at hi hb3 hk;rw[hp'] at hi hb2 ⊢;have:=filter_lt (p:=p) (q:=p') (l:=lv s) (λx hx h=>(List.mem_filter.1 (hi x (List.mem_filter.2 ⟨hx,h⟩))).2) b hb1 (List.mem_filter.1 hb2).2 (by
     cases h:p b;·rfl
     ·exact absurd (List.mem_filter.2 ⟨hb1,h⟩) hb3)
    omega
 have hcl:Cl s (a0f s (lv s) ((lv s).filter λx=>decide (x∈l)==true) (lv s).length):=by
  rcases key (lv s).length with q | q
  ·exact q
  ·obtain⟨p,hp⟩:=hfil (lv s).length;rw[hp] at q ⊢;have:(lv s).filter p=lv s:=List.filter_eq_self.2 λx hx=>by
    cases h:p x
    ·have:=filter_lt (p:=p) (q:=λ_=>true) (l:=lv s) (λ_ _ _=>rfl) x hx rfl h;rw[List.filter_eq_self.2 (λ_ _=>rfl)] at this;omega
    ·rfl
   rw[this];exact λ_ _ _ _ h=>h
 have hbase:∀k x,x∈l→x∈lv s→x∈a0f s (lv s) ((lv s).filter λx=>decide (x∈l)==true) k:=by
  intro k;induction k with
  | zero=>intro x h1 h2;exact List.mem_filter.2 ⟨h2,by simpa using h1⟩
  | succ k ih=>intro x h1 h2;exact hinc k x (ih x h1 h2)
 have hiff:∀x,x∈a0f s (lv s) ((lv s).filter λx=>decide (x∈l)==true) (lv s).length↔Rch s l x:=λx=>⟨hsub _ x,λq=>Rch.least hcl (hbase _) q⟩;obtain⟨p,hp⟩:=hfil (lv s).length;rw[hp];unfold rcd;refine List.filter_congr λx hx=>?_;have:=hiff x;rw[hp,List.mem_filter] at this;rw[Bool.eq_iff_iff,decide_eq_true_iff,←this];exact⟨λh=>⟨hx,h⟩,λh=>h.2⟩
open Classical in
theorem b6v {l:List Int} (hlen:l.length≤1000000):a8d (sO s) l=some (rcd s l):=by
 unfold a8d;have h24:=F3 hR;rw[a5r hR,d6y,c0t _ _ _ (by omega) hlen (c21 hR),d6y]
 simp only[jn];have hg:∀k,(a0f s (lv s) ((lv s).filter λx=>decide (x∈l)==true) k).length≤24∧∀x∈a0f s (lv s) ((lv s).filter λx=>decide (x∈l)==true) k,x∈lv s:=by
  intro k;cases k with
  | zero=>exact⟨Nat.le_trans (List.length_filter_le ..) h24,λx hx=>(List.mem_filter.1 (show x∈(lv s).filter λx=>decide (x∈l)==true from hx)).1⟩
  | succ k=>exact⟨Nat.le_trans (List.length_filter_le ..) h24,λx hx=>(List.mem_filter.1 (show x∈(lv s).filter _ from hx)).1⟩
 refine a1V (p:=λk=>(a0f s (lv s) ((lv s).filter λx=>decide (x∈l)==true) k,(k:Int))) rfl (lv s).length (λ_=>True) (by omega) trivial (λk hk _=>.inl ⟨?_,trivial⟩) (λ_=>⟨_,by simp only[Int.lt_irrefl,decide_false,Bool.false_eq_true,if_false];rfl,by rw[c57 l]⟩)
 obtain⟨g1,g2⟩:=hg k;simp only[Int.ofNat_lt,hk,decide_true,if_true];rw[M3 (by omega) (by omega),d6y]
 generalize hS:a0f s (lv s) ((lv s).filter λx=>decide (x∈l)==true) k=S at g1 g2;have hSle:∀x∈S,x≤9223372036854775807:=λx hx=>by have:=a5s hR (g2 x hx);omega
 have hflat:∀T:List Int,T.length≤24→(∀x∈T,x≤9223372036854775807)→(T.flatMap (outs s)).length≤96:=λT h1 h2=>by
  rw[List.length_flatMap];have:=b8J (λx=>(outs s x).length) 4 T λx hx=>a5R hR x (h2 x hx);omega
 rw[F9 S (λacc x=>acc++outs s x) id (λj acc=>acc.length≤S.length+4*j) (by omega) (by simp) (λj hj acc hb=>?_) (λb _=>?_)]
 ·simp only[d6y,id];rw[a2s,c0t _ _ _ (by omega) (by
   have:=hflat S g1 hSle;simp only[List.length_append];omega) (c21 hR),d6y,l5,b0d,hS]
  unfold grow;congr 3;refine List.filter_congr λx _=>?_;rw[Bool.eq_iff_iff];simp
 ·have ho:=a5R hR _ (hSle _ (List.getElem_mem hj));simp only[Int.ofNat_lt,hj,decide_true,if_true,o9 hj,d6y,b9S hR (hSle _ (List.getElem_mem hj))];rw[A2 (by omega) (by omega),d6y,l5]
  exact⟨rfl,by simp;omega⟩
 ·simp only[Int.lt_irrefl,decide_false,Bool.false_eq_true,if_false];rfl
end
end Go.Sh
namespace Go.Sh
abbrev Tb:=List c4
abbrev J3(p:c4):m7:=⟨p.State,p.Key,p.Val⟩
def pt(t:Tb)(j:Nat):c4:=t.getD j ⟨0,0,0⟩
theorem b20{t:Tb}{j:Nat}(h:j<t.length):pt t j=t[j]:=by unfold pt;rw[List.getD_eq_getElem?_getD,List.getElem?_eq_getElem h];rfl
theorem b6B{t:Tb}{j:Nat}(h:j<t.length):ix t (j:Int)=some (pt t j):=by rw[o9 h,b20 h]
theorem b4W{t:Tb}{i:Nat}(h:i<t.length)(p:c4)(j:Nat):pt (t.set i p) j=if j=i then p else pt t j:=by
 unfold pt;rw[List.getD_eq_getElem?_getD,List.getD_eq_getElem?_getD,List.getElem?_set];by_cases e:i=j
 ·subst e;simp[h]
 ·rw[if_neg e,if_neg (Ne.symm e)]
def hm(n:Nat)(k:Int):Nat:=(u5 ((u5 (5*k))+1) % (n:Int)).toNat
theorem c6b{n:Nat}(h:1≤n)(k:Int):hm n k<n:=by
 unfold hm;have h1:=Int.emod_nonneg (u5 ((u5 (5*k))+1)) (show (n:Int)≠0 by omega)
 have h2:=Int.emod_lt_of_pos (u5 ((u5 (5*k))+1)) (show (0:Int)<n by omega)
 omega
theorem b08{n:Nat}(h:1≤n)(h2:n≤1000)(k:Int):a0v n k=some (hm n k:Int):=by
 unfold a0v hm;rw[if_neg (by simp;omega)]
 generalize u5 ((u5 (5*k))+1)=a;have hp:=Int.emod_nonneg a (show (n:Int)≠0 by omega)
 have hl:=Int.emod_lt_of_pos a (show (0:Int)<n by omega)
 unfold rem;rw[if_neg (by omega),d6y,Int.toNat_of_nonneg hp]
 rw[Int.tmod_eq_emod];split;·rw[show a % (n:Int)-((0:Nat):Int)=a % n by simp,if_neg (by simp;omega)]
 ·have:((n:Int).natAbs:Int)=n:=by simp
  rw[this];rw[if_pos (by simp;omega),C6 (by omega) (by omega)]
  congr 1;omega
def pos(n:Nat)(k:Int)(d:Nat):Nat:=(hm n k+d) % n
theorem a2z{n:Nat}(h:1≤n)(k:Int)(d:Nat):pos n k d<n:=Nat.mod_lt _ h
theorem d0Y{n:Nat}(h:1≤n)(h8:n≤8):n=1∨n=2∨n=3∨n=4∨n=5∨n=6∨n=7∨n=8:=by omega
theorem c6y{n m i:Nat}(h:1≤n)(h8:n≤8)(hm:m<n)(hi:i<n):∃d,d<n∧(m+d) % n=i:=by
 refine⟨(i+n-m) % n,Nat.mod_lt _ h,?_⟩;rcases d0Y h h8 with rfl | rfl | rfl | rfl | rfl | rfl | rfl | rfl <;> omega
theorem c9n{n m d d':Nat}(h:1≤n)(h8:n≤8)(hd:d<n)(hd':d'<n)(e:(m+d) % n=(m+d') % n):d=d':=by
 rcases d0Y h h8 with rfl | rfl | rfl | rfl | rfl | rfl | rfl | rfl <;> omega
theorem b4U{n:Nat}(h:1≤n)(h8:n≤8)(k:Int){i:Nat}(hi:i<n):∃d,d<n∧pos n k d=i:=c6y h h8 (c6b h k) hi
theorem b7V{n:Nat}(h:1≤n)(h8:n≤8){k:Int}{d d':Nat}(hd:d<n)(hd':d'<n)(e:pos n k d=pos n k d'):d=d':=c9n h h8 hd hd' e
structure HR (t:Tb):Prop where
 l1:1≤t.length
 l8:t.length≤8
 st:∀i,i<t.length→((pt t i).State=0∨(pt t i).State=1∨(pt t i).State=2)∧((pt t i).State≠1→(pt t i).Key=0∧(pt t i).Val=0)
 uq:∀i j,i<t.length→j<t.length→(pt t i).State=1→(pt t j).State=1→(pt t i).Key=(pt t j).Key→i=j
 rd:∀i,i<t.length→(pt t i).State=1→∀d,d<t.length→(∀d',d'≤d→pos t.length (pt t i).Key d'≠i)→(pt t (pos t.length (pt t i).Key d)).State≠0
def Fk(t:Tb)(k:Int)(i:Nat):Prop:=i<t.length∧(pt t i).State=1∧(pt t i).Key=k
instance(t:Tb)(k:Int)(i:Nat):Decidable (Fk t k i):=by unfold Fk;infer_instance
theorem step_eq{n:Nat}(h:1≤n)(h2:n≤1000)(k:Int){d:Nat}(hd:d<n):rem (u5 ((hm n k:Int)+d)) n=some ((pos n k d:Nat):Int):=by
 have:=c6b h k;rw[C6 (by omega) (by omega),a9d (by omega) (by omega)]
 unfold pos;simp[Int.natCast_emod]
theorem b6s{t:Tb}(h1:1≤t.length)(h8:t.length≤8)(k:Int) :
  (∃d,d<t.length∧(∀j,j<d→(pt t (pos t.length k j)).State≠0∧¬Fk t k (pos t.length k j))∧Fk t k (pos t.length k d)∧X8 t k=some ((pos t.length k d:Nat):Int)) ∨
  (∃d,d≤t.length∧(∀j,j<d→(pt t (pos t.length k j)).State≠0∧¬Fk t k (pos t.length k j))∧(d=t.length∨(pt t (pos t.length k d)).State=0)∧X8 t k=some (-1)):=by
 unfold X8;simp only[jn,a3W,d6y];generalize hq:(lp (S:=Int) (E:=Int ⊕ Unit) _ 0)=q;have body:∀d:Nat,d<t.length→(if (decide ((d:Int)<(t.length:Int))) then
    (a0v (t.length:Int) k).bind λv14=>
    (rem (u5 (v14+d)) (t.length:Int)).bind λv15=>
    (ix t v15).bind λv16=>
    if (v16.State==0) then
     some (.inr (.inr ()))
    else
    if ((v16.State==1)&&(v16.Key==k)) then
     some (.inr (.inl v15))
    else
    some (.inl (u5 ((d:Int)+1)))
   else
   some (.inr (.inr ())):Option (Int ⊕ (Int ⊕ Unit)))=if (pt t (pos t.length k d)).State=0 then some (.inr (.inr ())) else if Fk t k (pos t.length k d) then some (.inr (.inl ((pos t.length k d:Nat):Int))) else some (.inl ((d+1:Nat):Int)):=λd hd=>by
  have hp:=a2z h1 k d;rw[if_pos (by simpa using hd),b08 h1 (by omega),d6y,step_eq h1 (by omega) k hd,d6y,b6B hp,d6y,l5 (by omega)]
  by_cases a:(pt t (pos t.length k d)).State=0
  ·rw[if_pos (by simpa using a),if_pos a]
  ·rw[if_neg (by simpa using a),if_neg a]
   by_cases b:Fk t k (pos t.length k d)
   ·rw[if_pos (by simp[b.2.1,b.2.2]),if_pos b]
   ·rw[if_neg (by simp;exact λh1 h2=>b ⟨hp,h1,h2⟩),if_neg b]
 have key:=b6G (f:=λ(s12:Int)=>if (decide (s12<(t.length:Int))) then
    (a0v (t.length:Int) k).bind λv14=>
    (rem (u5 (v14+s12)) (t.length:Int)).bind λv15=>
    (ix t v15).bind λv16=>
    if (v16.State==0) then
     some (.inr (.inr ()))
    else
    if ((v16.State==1)&&(v16.Key==k)) then
     some (.inr (.inl v15))
    else
    some (.inl (u5 (s12+1)))
   else
   some (.inr (.inr ()))) t.length (λd=>∀j,j<d→(pt t (pos t.length k j)).State≠0∧¬Fk t k (pos t.length k j))
   (λ(e:Int ⊕ Unit)=>(∃d,d<t.length∧(∀j,j<d→(pt t (pos t.length k j)).State≠0∧¬Fk t k (pos t.length k j))∧Fk t k (pos t.length k d)∧e = .inl ((pos t.length k d:Nat):Int)) ∨
    (∃d,d≤t.length∧(∀j,j<d→(pt t (pos t.length k j)).State≠0∧¬Fk t k (pos t.length k j))∧(d=t.length∨(pt t (pos t.length k d)).State=0)∧e = .inr ())) (by omega) (λj hj=>by omega)
   (λd hd hP=>by
    rw[body d hd];by_cases a:(pt t (pos t.length k d)).State=0
    ·rw[if_pos a];exact .inr ⟨_,rfl,.inr ⟨d,by omega,hP,.inr a,rfl⟩⟩
    ·rw[if_neg a];by_cases b:Fk t k (pos t.length k d)
     ·rw[if_pos b];exact .inr ⟨_,rfl,.inl ⟨d,hd,hP,b,rfl⟩⟩
     ·rw[if_neg b];refine .inl ⟨rfl,λj hj=>?_⟩;rcases Nat.lt_or_ge j d with q | q
      ·exact hP j q
      ·have:j=d:=by omega
       subst this;exact⟨a,b⟩)
   (λhP=>⟨.inr (),by simp,.inr ⟨t.length,Nat.le_refl _,hP,.inl rfl,rfl⟩⟩)
 obtain⟨e,he,hQ⟩:=key;rw[he] at hq;subst hq;rcases hQ with ⟨d,a1,a2,a3,rfl⟩ | ⟨d,a1,a2,a3,rfl⟩;·exact .inl ⟨d,a1,a2,a3,rfl⟩
 ·exact .inr ⟨d,a1,a2,a3,rfl⟩
theorem a6y{t:Tb}(hR:HR t){k:Int}{i:Nat}(hi:Fk t k i):X8 t k=some (i:Int):=by
 obtain⟨di,hdi,hpi⟩:=b4U hR.l1 hR.l8 k hi.1;have road:∀d,d<di→(pt t (pos t.length k d)).State≠0:=λd hd=>by
  have:=hR.rd i hi.1 hi.2.1 d (by omega) (λd' hd' e=>by
   rw[hi.2.2] at e;have:=b7V hR.l1 hR.l8 (by omega) hdi (e.trans hpi.symm)
   omega)
  rwa [hi.2.2] at this
 rcases b6s hR.l1 hR.l8 k with ⟨d,a1,a2,a3,a4⟩ | ⟨d,a1,a2,a3,a4⟩;·rw[a4,hR.uq _ i (a2z hR.l1 k d) hi.1 a3.2.1 hi.2.1 (by rw[a3.2.2,hi.2.2])]
 ·exfalso;rcases Nat.lt_or_ge di d with q | q
  ·exact (a2 di q).2 (by rw[hpi];exact hi)
  ·rcases a3 with rfl | a3
   ·omega
   ·rcases Nat.lt_or_ge d di with q' | q'
    ·exact road d q' a3
    ·have:d=di:=by omega
     subst this;rw[hpi,hi.2.1] at a3;cases a3
theorem a4X{t:Tb}(h1:1≤t.length)(h8:t.length≤8){k:Int}(hi:∀i,¬Fk t k i):X8 t k=some (-1):=by
 rcases b6s h1 h8 k with ⟨d,a1,a2,a3,a4⟩ | ⟨d,a1,a2,a3,a4⟩;·exact absurd a3 (hi _)
 ·exact a4
theorem b2W(t:Tb)(k:Int):(∃i,Fk t k i)∨∀i,¬Fk t k i:=by
 by_cases h:∃i,Fk t k i
 ·exact .inl h
 ·exact .inr λi hi=>h ⟨i,hi⟩
theorem b5z{t:Tb}{i:Nat}(h8:t.length≤1000)(hi:i<t.length)(p:c4):a1q t (i:Int) p=some (t.set i p):=by
 unfold a1q E1;rw[M3 (by omega) (by omega),d6y,o9 hi,d6y,Int.toNat_natCast]
inductive b3d (t:Tb) (k v:Int):Tb × Int→Prop
 | old (i:Nat) (hi:Fk t k i):b3d t k v (t.set i ⟨1,k,v⟩,0)
 | new (d:Nat) (hn:∀i,¬Fk t k i) (hd:d<t.length) (hb:∀j,j<d→(pt t (pos t.length k j)).State=1) (hf:(pt t (pos t.length k d)).State≠1):b3d t k v (t.set (pos t.length k d) ⟨1,k,v⟩,0)
 | full (hn:∀i,¬Fk t k i) (ha:∀i,i<t.length→(pt t i).State=1):b3d t k v (t,8)
theorem c1C{t:Tb}(hR:HR t)(k v:Int):∃r,a71 t k v=some r∧b3d t k v r:=by
 have h1:=hR.l1;have h8:=hR.l8;unfold a71;rcases b2W t k with ⟨i,hi⟩ | hn
 ·rw[a6y hR hi,d6y,if_pos (by simp),b5z (by omega) hi.1]
  exact⟨_,rfl,.old i hi⟩
 ·rw[a4X h1 h8 hn,d6y,if_neg (by decide)]
  simp only[jn,a3W,d6y];have key:=b6G (f:=λ(s15:Int)=>
   if (decide (s15<(t.length:Int))) then
    (a0v (t.length:Int) k).bind λv17=>
    (rem (u5 (v17+s15)) (t.length:Int)).bind λv18=>
    (ix t v18).bind λv19=>
    if (v19.State != 1) then
     (a1q t v18 (⟨1,k,v⟩:c4)).bind λv20=>
     some (Sum.inr (.inl (v20,(0:Int))))
    else
    some (.inl (u5 (s15+1)))
   else
   some (.inr (.inr ()))) t.length (λd=>∀j,j<d→(pt t (pos t.length k j)).State=1)
   (λ(e:(Tb × Int) ⊕ Unit)=>(∃r,e = .inl r∧b3d t k v r)∨(e = .inr ()∧b3d t k v (t,8))) (by omega) (λj hj=>by omega)
   (λd hd hP=>by
    have hp:=a2z h1 k d;rw[if_pos (by simpa using hd),b08 h1 (by omega),d6y,step_eq h1 (by omega) k hd,d6y,b6B hp,d6y]
    by_cases a:(pt t (pos t.length k d)).State=1
    ·rw[if_neg (by simpa using a),l5 (by omega)]
     refine .inl ⟨rfl,λj hj=>?_⟩;rcases Nat.lt_or_ge j d with q | q
     ·exact hP j q
     ·have:j=d:=by omega
      subst this;exact a
    ·rw[if_pos (by simpa using a),b5z (by omega) hp,d6y]
     exact .inr ⟨_,rfl,.inl ⟨_,rfl,.new d hn hd hP a⟩⟩)
   (λhP=>⟨.inr (),by simp,.inr ⟨rfl,.full hn λi hi=>by
    obtain⟨d,hd,rfl⟩:=b4U h1 h8 k hi;exact hP d hd⟩⟩)
  obtain⟨e,he,hQ⟩:=key;rw[he,d6y];rcases hQ with ⟨r,rfl,hr⟩ | ⟨rfl,hr⟩;·exact⟨r,rfl,hr⟩
  ·exact⟨_,rfl,hr⟩
theorem c1g{t:Tb}(hR:HR t){k:Int}{i:Nat}(hi:Fk t k i):L6 t k=some ((pt t i).Val,0):=by
 unfold L6;rw[a6y hR hi,d6y,if_neg (by simp),b6B hi.1,d6y]
theorem c1f{t:Tb}(hR:HR t){k:Int}(hi:∀i,¬Fk t k i):L6 t k=some (0,9):=by
 unfold L6;rw[a4X hR.l1 hR.l8 hi,d6y,if_pos (by decide)]
theorem a8M{t:Tb}(hR:HR t){k:Int}{i:Nat}(hi:Fk t k i):X7 t k=some (t.set i ⟨2,0,0⟩,(pt t i).Val,0):=by
 have:=hR.l8;unfold X7;rw[a6y hR hi,d6y,if_neg (by simp),b5z (by omega) hi.1,d6y,b6B hi.1,d6y]
theorem a8L{t:Tb}(hR:HR t){k:Int}(hi:∀i,¬Fk t k i):X7 t k=some (t,0,9):=by
 unfold X7;rw[a4X hR.l1 hR.l8 hi,d6y,if_pos (by decide)]
theorem HR.set{t:Tb}(hR:HR t){i:Nat}(hi:i<t.length){p:c4}(h0:p.State=1∨p=⟨2,0,0⟩)
  (hu:p.State=1→∀j,j≠i→¬Fk t p.Key j)(hr:p.State=1→∀d,d<t.length→(∀d',d'≤d→pos t.length p.Key d'≠i)→(pt t (pos t.length p.Key d)).State≠0):HR (t.set i p):=by
 have hnz:p.State≠0:=by
  rcases h0 with h | rfl
  ·omega
  ·simp
 refine⟨by simpa using hR.l1,by simpa using hR.l8,λj hj=>?_,λj j' hj hj' s1 s2 hk=>?_,λj hj s1 d hd hne=>?_⟩ <;> simp only[List.length_set] at *
 ·rw[b4W hi];split
  ·rcases h0 with h | rfl
   ·exact⟨.inr (.inl h),λq=>absurd h q⟩
   ·exact⟨.inr (.inr rfl),λ_=>⟨rfl,rfl⟩⟩
  ·exact hR.st j hj
 ·rw[b4W hi] at s1 s2 hk;rw[b4W hi] at hk;by_cases e1:j=i <;> by_cases e2:j'=i
  ·rw[e1,e2]
  ·rw[if_pos e1] at s1 hk;rw[if_neg e2] at s2 hk;exact absurd ⟨hj',s2,hk.symm⟩ (hu s1 j' e2)
  ·rw[if_neg e1] at s1 hk;rw[if_pos e2] at s2 hk;exact absurd ⟨hj,s1,hk⟩ (hu s2 j e1)
  ·rw[if_neg e1] at s1 hk;rw[if_neg e2] at s2 hk;exact hR.uq j j' hj hj' s1 s2 hk
 ·simp only[b4W hi] at s1 hne ⊢;by_cases e1:j=i
  ·simp only[if_pos e1] at s1 hne ⊢;split;·exact hnz
   ·exact hr s1 d hd (by rw[←e1];exact hne)
  ·simp only[if_neg e1] at s1 hne ⊢;split;·exact hnz
   ·exact hR.rd j hj s1 d hd hne
theorem b0j{t:Tb}(hR:HR t){k v:Int}{r:Tb × Int}(h:b3d t k v r):HR r.1:=by
 cases h with
 | old i hi=>
  refine hR.set hi.1 (.inl rfl) (λ_ j hj q=>hj (hR.uq j i q.1 hi.1 q.2.1 hi.2.1 (q.2.2.trans hi.2.2.symm))) λ_ d hd hne=>?_;have:=hR.rd i hi.1 hi.2.1 d hd (by rw[hi.2.2];exact hne)
  rwa [hi.2.2] at this
 | new d hn hd hb hf=>
  refine hR.set (a2z hR.l1 k d) (.inl rfl) (λ_ j _=>hn j) λ_ d' hd' hne=>?_;rcases Nat.lt_or_ge d' d with q | q
  ·have:=hb d' q;simp only;omega
  ·exact absurd rfl (hne d q)
 | full hn ha=>exact hR
theorem a4U{t:Tb}(hR:HR t){i:Nat}(hi:i<t.length):HR (t.set i ⟨2,0,0⟩):=hR.set hi (.inr rfl) (λq=>by cases q) λq=>by cases q
end Go.Sh
namespace Go.Sh
theorem ixm{t:Tb}{j:Nat}(h:j<t.length):ix (t.map J3) (j:Int)=some (J3 (pt t j)):=by rw[a0y,b6B h];rfl
theorem c0d{t:Tb}(h8:t.length≤1000){k:Int}{i:Nat}(hi:Fk t k i)(hf:∀j,j<i→¬Fk t k j):a0Z (t.map J3) k=some (i:Int):=by
 unfold a0Z;simp only[jn];refine R6 t.length (λj=>j≤i) (by omega) (Nat.zero_le _) (λj hj hP=>?_) (λhP=>by have:=hi.1;omega)
 rw[if_pos (by simpa using hj),ixm hj,d6y]
 by_cases e:j=i
 ·subst e;exact .inr ⟨.inl (j:Int),by rw[if_pos (by simp[J3,hi.2.1,hi.2.2])],rfl⟩
 ·have:=hf j (by omega)
  refine .inl ⟨by rw[if_neg (by simp[J3];exact λh1 h2=>this ⟨hj,h1,h2⟩),l5 (by omega)],by omega⟩
theorem c7a{t:Tb}(h8:t.length≤1000){k:Int}(hf:∀j,¬Fk t k j):a0Z (t.map J3) k=some (-1):=by
 unfold a0Z;simp only[jn];refine R6 t.length (λj=>True) (by omega) trivial (λj hj hP=>?_) (λhP=>⟨.inr (),by simp,rfl⟩)
 rw[if_pos (by simpa using hj),ixm hj,d6y]
 refine .inl ⟨by rw[if_neg (by simp[J3];exact λh1 h2=>hf j ⟨hj,h1,h2⟩),l5 (by omega)],trivial⟩
theorem b9p{t:Tb}{k:Int}(h:∃i,Fk t k i):∃i,Fk t k i∧∀j,j<i→¬Fk t k j:=by
 obtain⟨i,h1,h2⟩:=W0 h;exact⟨i,h1,λj hj q=>by have:=h2 j q;omega⟩
theorem b6Y{t:Tb}{i:Nat}(h8:t.length≤1000)(hi:i<t.length)(p:c4):a3j (t.map J3) (i:Int) (J3 p)=some ((t.set i p).map J3):=by
 unfold a3j;rw[M3 (by omega) (by simp;omega),d6y,ixm hi,d6y,Int.toNat_natCast,List.map_set]
theorem b5c:b1s=a0v:=rfl
theorem c7g{n:Nat}(h1:1≤n)(h8:n≤8)(k:Int)(d:Nat):rem (u5 (((pos n k d:Nat):Int)+1)) n=some ((pos n k (d+1):Nat):Int):=by
 have:=a2z h1 k d;rw[C6 (by omega) (by omega),a9d (by omega) (by omega)]
 unfold pos;congr 1;have:((hm n k+d) % n+1) % n=(hm n k+(d+1)) % n:=by rw[Nat.mod_add_mod];rfl
 rw[←this];simp[Int.natCast_emod]
theorem b4V{n:Nat}(h1:1≤n)(k:Int):pos n k 0=hm n k:=by
 unfold pos;rw[Nat.add_zero,Nat.mod_eq_of_lt (c6b h1 k)]
theorem d4R{t:Tb}(h1:1≤t.length)(h8:t.length≤8)(k:Int){i di:Nat}(hi:i<t.length)(hdi:di<t.length)(hp:pos t.length k di=i) :
  ∃e,lp (S:=Int) (E:=Bool ⊕ Unit) (λ(s41:Int)=>
      if (s41 != (i:Int)) then
       (ix (t.map J3) s41).bind λv43=>
       if (v43.State==0) then
        some (.inr (.inl false))
       else
       (rem (u5 (s41+1)) (t.length:Int)).bind λv44=>
       some (.inl v44)
      else
      some (.inr (.inr ()))) (hm t.length k:Int)=some e∧((e = .inr ()∧∀d,d<di→(pt t (pos t.length k d)).State≠0)∨(e = .inl false∧∃d,d<di∧(pt t (pos t.length k d)).State=0)):=by
 rw[←b4V h1 k];refine b3H (λd=>((pos t.length k d:Nat):Int)) di (λd=>∀d',d'<d→(pt t (pos t.length k d')).State≠0) _ (by omega) (λd' hd'=>by omega) (λd hd hP=>?_) (λhP=>?_)
 ·have hne:pos t.length k d≠i:=λe=>by
   have:=b7V h1 h8 (by omega) hdi (e.trans hp.symm)
   omega
  have hlt:=a2z h1 k d;rw[if_pos (by simp;omega),ixm hlt,d6y]
  by_cases a:(pt t (pos t.length k d)).State=0
  ·rw[if_pos (by simpa[J3] using a)]
   exact .inr ⟨_,rfl,.inr ⟨rfl,d,hd,a⟩⟩
  ·rw[if_neg (by simpa[J3] using a),c7g h1 h8,d6y]
   refine .inl ⟨rfl,λd' hd'=>?_⟩;rcases Nat.lt_or_ge d' d with q | q
   ·exact hP d' q
   ·have:d'=d:=by omega
    subst this;exact a
 ·rw[if_neg (by simp;omega)]
  exact⟨_,rfl,.inl ⟨rfl,hP⟩⟩
def Ok(t:Tb)(i:Nat):Prop:=((pt t i).State=0∨(pt t i).State=1∨(pt t i).State=2)∧((pt t i).State≠1→(pt t i).Key=0∧(pt t i).Val=0)∧((pt t i).State=1→(∀j,j<i→¬Fk t (pt t i).Key j)∧∀d,d<t.length→(∀d',d'≤d→pos t.length (pt t i).Key d'≠i)→(pt t (pos t.length (pt t i).Key d)).State≠0)
theorem d0F{t:Tb}(h1:1≤t.length)(h8:t.length≤8):HR t↔∀i,i<t.length→Ok t i:=by
 constructor
 ·intro hR i hi;exact⟨(hR.st i hi).1,(hR.st i hi).2,λs=>⟨λj hj q=>by have:=hR.uq j i q.1 hi q.2.1 s q.2.2;omega,hR.rd i hi s⟩⟩
 ·intro hO;refine⟨h1,h8,λi hi=>⟨(hO i hi).1,(hO i hi).2.1⟩,λi j hi hj s1 s2 hk=>?_,λi hi s=>((hO i hi).2.2 s).2⟩;rcases Nat.lt_trichotomy i j with q | q | q
  ·exact absurd ⟨hi,s1,hk⟩ (((hO j hj).2.2 s2).1 i q)
  ·exact q
  ·exact absurd ⟨hj,s2,hk.symm⟩ (((hO i hi).2.2 s1).1 j q)
theorem c4G(t:Tb)(h:t.length≤1000):∃b,a80 (t.map J3)=some b∧(b=true↔HR t):=by
 unfold a80;rw[List.length_map];by_cases hl:1≤t.length∧t.length≤8
 ·obtain⟨h1,h8⟩:=hl;rw[if_neg (by simp;omega)]
  simp only[jn];suffices hs:∀(b:Bool),(b=true↔HR t)→_=some b by
   by_cases q:HR t
   ·exact⟨true,hs true (by simp[q]),by simp[q]⟩
   ·exact⟨false,hs false (by simp[q]),by simp[q]⟩
  intro b hb;refine R6 t.length (λi=>∀j,j<i→Ok t j) (by omega) (λj hj=>by omega) (λi hi hP=>?_) (λhP=>⟨.inr (),by simp,by
   simp only;rw[hb.2 ((d0F h1 h8).2 hP)]⟩)
  have good:Ok t i→∀j,j<i+1→Ok t j:=λo j hj=>by
   rcases Nat.lt_or_ge j i with q | q
   ·exact hP j q
   ·have:j=i:=by omega
    subst this;exact o
  have bad:¬Ok t i→some false=some b:=λo=>by
   have:b=false:=by
    cases hbb:b with
    | false=>rfl
    | true=>exact absurd ((d0F h1 h8).1 (hb.1 hbb) i hi) o
   rw[this]
  rw[if_pos (by simpa using hi)]
  rw[ixm hi,d6y,l5 (by omega)]
  dsimp only[J3];by_cases a:((pt t i).State=0∨(pt t i).State=1∨(pt t i).State=2)∧((pt t i).State≠1→(pt t i).Key=0∧(pt t i).Val=0)
  ·rw[if_neg (by
    have a1:=a.1;have a2:=a.2;simp only[Bool.or_eq_true,Bool.and_eq_true,decide_eq_true_eq,bne_iff_ne,ne_eq,not_or,not_and];refine⟨⟨by omega,by omega⟩,λq=>?_⟩
    have:=a2 q;omega)]
   by_cases s:(pt t i).State=1
   ·rw[if_neg (by simpa using s)]
    obtain⟨f,hf1,hf2⟩:=b9p (t:=t) (k:=(pt t i).Key) ⟨i,hi,s,rfl⟩;rw[c0d h hf1 hf2,d6y];by_cases e:f=i
    ·rw[e] at hf2;rw[if_neg (by simp[e]),b5c,b08 h1 (by omega),d6y]
     obtain⟨di,hdi,hpi⟩:=b4U h1 h8 (pt t i).Key hi;obtain⟨e,he,hQ⟩:=d4R h1 h8 (pt t i).Key hi hdi hpi;rw[he,d6y];rcases hQ with ⟨rfl,q⟩ | ⟨rfl,d,hd,q⟩
     ·refine .inl ⟨rfl,good ⟨a.1,a.2,λ_=>⟨hf2,λd hd hne=>?_⟩⟩⟩;rcases Nat.lt_or_ge d di with q' | q'
      ·exact q d q'
      ·exact absurd hpi (hne di q')
     ·refine .inr ⟨_,rfl,bad λo=>(o.2.2 s).2 d (by omega) (λd' hd' e=>?_) q⟩
      have:=b7V h1 h8 (by omega) hdi (e.trans hpi.symm)
      omega
    ·rw[if_pos (by simp;omega)]
     refine .inr ⟨_,rfl,bad λo=>?_⟩;rcases Nat.lt_or_ge f i with q | q
     ·exact (o.2.2 s).1 f q hf1
     ·exact hf2 i (by omega) ⟨hi,s,rfl⟩
   ·rw[if_pos (by simpa using s)]
    exact .inl ⟨rfl,good ⟨a.1,a.2,λq=>absurd q s⟩⟩
  ·rw[if_pos (by
    simp only[Bool.or_eq_true,Bool.and_eq_true,decide_eq_true_eq,bne_iff_ne,ne_eq];omega)]
   exact .inr ⟨_,rfl,bad λo=>a ⟨o.1,o.2.1⟩⟩
 ·rw[if_pos (by simp;omega)]
  exact⟨false,rfl,⟨λq=>(by cases q),λhR=>absurd ⟨hR.l1,hR.l8⟩ hl⟩⟩
end Go.Sh
namespace Go.Sh
def Has(t:Tb)(k v:Int):Prop:=∃i,Fk t k i∧(pt t i).Val=v
theorem d1S{t:Tb}{k:Int}:(∀v,¬Has t k v)↔∀i,¬Fk t k i:=by
 constructor;·intro h i hi;exact h _ ⟨i,hi,rfl⟩
 ·rintro h v ⟨i,hi,_⟩;exact h i hi
theorem d1T(t:Tb)(k:Int):(∃v,Has t k v)∨∀v,¬Has t k v:=by
 by_cases h:∃v,Has t k v
 ·exact .inl h
 ·exact .inr λv hv=>h ⟨v,hv⟩
theorem Has.fn{t:Tb}(hR:HR t){k v v':Int}(h:Has t k v)(h':Has t k v'):v=v':=by
 obtain⟨i,a,rfl⟩:=h;obtain⟨j,b,rfl⟩:=h';rw[hR.uq i j a.1 b.1 a.2.1 b.2.1 (a.2.2.trans b.2.2.symm)]
theorem c2O{t:Tb}(hR:HR t){k v:Int}(h:Has t k v):L6 t k=some (v,0):=by
 obtain⟨i,a,rfl⟩:=h;exact c1g hR a
theorem c4g{t:Tb}(hR:HR t){k:Int}(h:∀v,¬Has t k v):L6 t k=some (0,9):=c1f hR (d1S.1 h)
theorem b7F{t:Tb}{i:Nat}(hi:i<t.length){k v:Int}(p:c4)(h:∀j,j≠i→Fk t p.Key j→p.State≠1)(k' v':Int) :
  Has (t.set i p) k' v'↔(p.State=1∧p.Key=k'∧p.Val=v')∨∃j,j≠i∧Fk t k' j∧(pt t j).Val=v':=by
 unfold Has Fk;simp only[List.length_set,b4W hi];constructor
 ·rintro⟨j,⟨h1,h2,h3⟩,h4⟩;by_cases e:j=i
  ·rw[if_pos e] at h2 h3 h4;exact .inl ⟨h2,h3,h4⟩
  ·rw[if_neg e] at h2 h3 h4;exact .inr ⟨j,e,⟨h1,h2,h3⟩,h4⟩
 ·rintro (⟨h1,h2,h3⟩ | ⟨j,e,⟨h1,h2,h3⟩,h4⟩);·exact⟨i,by simp[hi,h1,h2,h3]⟩
  ·exact⟨j,by simp[e,h1,h2,h3,h4]⟩
theorem b7Z{t:Tb}(hR:HR t){k v:Int}{r:Tb × Int}(h:b3d t k v r)(h0:r.2=0)(k' v':Int):Has r.1 k' v'↔(k'=k∧v'=v)∨(k'≠k∧Has t k' v'):=by
 cases h with
 | old i hi=>
  rw[b7F (k:=k) (v:=v) hi.1 _ (λj hj q=>absurd (hR.uq j i q.1 hi.1 q.2.1 hi.2.1 (q.2.2.trans hi.2.2.symm)) hj)];constructor
  ·rintro (⟨_,rfl,rfl⟩ | ⟨j,e,h1,h2⟩);·exact .inl ⟨rfl,rfl⟩
   ·refine .inr ⟨λq=>?_,j,h1,h2⟩;subst q;exact e (hR.uq j i h1.1 hi.1 h1.2.1 hi.2.1 (h1.2.2.trans hi.2.2.symm))
  ·rintro (⟨rfl,rfl⟩ | ⟨e,j,h1,h2⟩);·exact .inl ⟨rfl,rfl,rfl⟩
   ·refine .inr ⟨j,λq=>?_,h1,h2⟩;subst q;exact e (h1.2.2.symm.trans hi.2.2)
 | new d hn hd hb hf=>
  rw[b7F (k:=k) (v:=v) (a2z hR.l1 k d) _ (λj hj q=>absurd q (hn j))];constructor
  ·rintro (⟨_,rfl,rfl⟩ | ⟨j,e,h1,h2⟩);·exact .inl ⟨rfl,rfl⟩
   ·refine .inr ⟨λq=>?_,j,h1,h2⟩;subst q;exact hn j h1
  ·rintro (⟨rfl,rfl⟩ | ⟨e,j,h1,h2⟩);·exact .inl ⟨rfl,rfl,rfl⟩
   ·refine .inr ⟨j,λq=>?_,h1,h2⟩;subst q;exact hf h1.2.1
 | full hn ha=>cases h0
theorem b4p{t:Tb}(hR:HR t){k:Int}{i:Nat}(hi:Fk t k i)(k' v':Int):Has (t.set i ⟨2,0,0⟩) k' v'↔k'≠k∧Has t k' v':=by
 rw[b7F (k:=k) (v:=0) hi.1 _ (λj hj q=>by simp)]
 constructor
 ·rintro (⟨h,_⟩ | ⟨j,e,h1,h2⟩);·cases h
  ·refine⟨λq=>?_,j,h1,h2⟩;subst q;exact e (hR.uq j i h1.1 hi.1 h1.2.1 hi.2.1 (h1.2.2.trans hi.2.2.symm))
 ·rintro⟨e,j,h1,h2⟩;refine .inr ⟨j,λq=>?_,h1,h2⟩;subst q;exact e (h1.2.2.symm.trans hi.2.2)
def keys(t:Tb):List Int:=(t.filter (·.State==1)).map (·.Key)
theorem b4u{α β:Type}(p:α→Bool)(f:α→β)(l:List α)(k:Nat)(h:k<l.length):((l.take (k+1)).filter p).map f=((l.take k).filter p).map f++(if p l[k] then [f l[k]] else []):=by
 rw[List.take_succ_eq_append_getElem h,List.filter_append,List.map_append];congr 1;simp only[List.filter_cons,List.filter_nil];split <;> rfl
theorem keys_eq{t:Tb}(h:t.length≤1000):a5K t=some (keys t):=by
 unfold a5K keys;simp only[jn];refine M4 t.length (λk l=>l=((t.take k).filter (·.State==1)).map (·.Key)) (by omega) (by simp) ?_ (λl hl=>⟨_,by simp;rfl,by rw[hl,List.take_length]⟩)
 rintro k l hk rfl;left;rw[b4u _ _ _ _ hk];rw[if_pos (by simpa using hk),o9 hk,d6y,l5 (by omega)]
 have hle:(List.map (·.Key) (List.filter (·.State==1) (List.take k t))).length≤1000:=by
  rw[List.length_map];exact Nat.le_trans (List.length_filter_le ..) (by simp;omega)
 by_cases c:(t[k].State==1)=true
 ·rw[if_pos c,if_pos c,A2 (by omega) (by simp only[List.length_cons,List.length_nil];omega),d6y]
  exact⟨_,rfl,rfl⟩
 ·rw[if_neg c,if_neg c];exact⟨_,rfl,by simp⟩
theorem c7c{t:Tb}(h:t.length≤1000):b1t (t.map J3)=some (keys t):=by
 unfold b1t keys;simp only[jn];refine M4 t.length (λk l=>l=((t.take k).filter (·.State==1)).map (·.Key)) (by omega) (by simp) ?_ (λl hl=>⟨_,by simp;rfl,by rw[hl,List.take_length]⟩)
 rintro k l hk rfl;left;rw[b4u _ _ _ _ hk];rw[if_pos (by simpa using hk),a0y,o9 hk,Option.map_some,d6y,l5 (by omega)]
 have hle:(List.map (·.Key) (List.filter (·.State==1) (List.take k t))).length≤1000:=by
  rw[List.length_map];exact Nat.le_trans (List.length_filter_le ..) (by simp;omega)
 by_cases c:(t[k].State==1)=true
 ·rw[if_pos (by simpa[J3] using c),if_pos c,A2 (by omega) (by simp only[List.length_cons,List.length_nil];omega),d6y]
  exact⟨_,rfl,rfl⟩
 ·rw[if_neg (by simpa[J3] using c),if_neg c]
  exact⟨_,rfl,by simp⟩
theorem b8s{t:Tb}(hR:HR t)(k:Int):a0Z (t.map J3) k=X8 t k:=by
 have h8:=hR.l8;rcases b2W t k with ⟨i,hi⟩ | hn
 ·rw[a6y hR hi];obtain⟨f,hf1,hf2⟩:=b9p ⟨i,hi⟩;rw[c0d (by omega) hf1 hf2,hR.uq f i hf1.1 hi.1 hf1.2.1 hi.2.1 (hf1.2.2.trans hi.2.2.symm)]
 ·rw[a4X hR.l1 hR.l8 hn,c7a (by omega) hn]
theorem c7b{t:Tb}(hR:HR t)(k:Int):a8Z (t.map J3) k=L6 t k:=by
 unfold a8Z L6;rw[b8s hR];rcases b2W t k with ⟨i,hi⟩ | hn;·rw[a6y hR hi,d6y,d6y,if_neg (by simp),if_neg (by simp),ixm hi.1,b6B hi.1];rfl
 ·rw[a4X hR.l1 hR.l8 hn];rfl
theorem c69{t:Tb}(hR:HR t)(k:Int):a8e (t.map J3) k=(X7 t k).map λr=>(r.1.map J3,r.2):=by
 have h8:=hR.l8;rcases b2W t k with ⟨i,hi⟩ | hn
 ·rw[a8M hR hi];unfold a8e;rw[b8s hR,a6y hR hi,d6y,if_neg (by simp)]
  have:=b6Y (t:=t) (by omega) hi.1 ⟨2,0,0⟩
  dsimp only[J3] at this;rw[this,d6y,ixm hi.1];rfl
 ·rw[a8L hR hn];unfold a8e;rw[b8s hR,a4X hR.l1 hR.l8 hn];rfl
theorem d4Q{t:Tb}(hR:HR t)(k v:Int){r:Tb × Int}(h:b3d t k v r):b8a (t.map J3) k v=some (r.1.map J3,r.2):=by
 have h1:=hR.l1;have h8:=hR.l8;unfold b8a;rw[b8s hR];have hw:∀i,i<t.length→a3j (t.map J3) (i:Int) ⟨1,k,v⟩=some ((t.set i ⟨1,k,v⟩).map J3):=λi hi=>b6Y (t:=t) (by omega) hi ⟨1,k,v⟩
 cases h with
 | old i hi=>
  rw[a6y hR hi,d6y,if_pos (by simp),hw i hi.1]
  rfl
 | new d hn hd hb hf=>
  rw[a4X h1 h8 hn,d6y,if_neg (by decide),List.length_map,b5c,b08 h1 (by omega),d6y]
  simp only[jn];rw[←b4V h1 k];obtain⟨e,he,hQ⟩:=b3H (f:=λ((s15,s16):Int × Int)=>
   if (decide (s16<(t.length:Int))) then
    (ix (t.map J3) s15).bind λv19=>
    if (v19.State != 1) then
     (a3j (t.map J3) s15 (⟨1,k,v⟩:m7)).bind λv20=>
     some (Sum.inr (Sum.inl (β:=Unit) (v20,(0:Int))))
    else
    (rem (u5 (s15+1)) (t.length:Int)).bind λv21=>
    some (Sum.inl (v21,u5 (s16+1)))
   else
   some (Sum.inr (Sum.inr ()))) (λd=>(((pos t.length k d:Nat):Int),(d:Int))) d (λ_=>True) (λe=>e = .inl ((t.set (pos t.length k d) ⟨1,k,v⟩).map J3,0)) (by omega) trivial (λj hj _=>by
    have hp:=a2z h1 k j;dsimp only;rw[if_pos (by simp;omega),ixm hp,d6y,if_neg (by simpa[J3] using hb j hj),c7g h1 h8,d6y,l5 (by omega)]
    exact .inl ⟨rfl,trivial⟩) (λ_=>by
    have hp:=a2z h1 k d;dsimp only;rw[if_pos (by simpa using hd),ixm hp,d6y,if_pos (by simpa[J3] using hf),hw _ hp]
    exact⟨_,rfl,rfl⟩)
  have he':lp _ (((pos t.length k 0:Nat):Int),(0:Int))=some e:=he;rw[he',hQ];rfl
 | full hn ha=>
  rw[a4X h1 h8 hn,d6y,if_neg (by decide),List.length_map,b5c,b08 h1 (by omega),d6y]
  simp only[jn];rw[←b4V h1 k];obtain⟨e,he,hQ⟩:=b3H (f:=λ((s15,s16):Int × Int)=>
   if (decide (s16<(t.length:Int))) then
    (ix (t.map J3) s15).bind λv19=>
    if (v19.State != 1) then
     (a3j (t.map J3) s15 (⟨1,k,v⟩:m7)).bind λv20=>
     some (Sum.inr (Sum.inl (β:=Unit) (v20,(0:Int))))
    else
    (rem (u5 (s15+1)) (t.length:Int)).bind λv21=>
    some (Sum.inl (v21,u5 (s16+1)))
   else
   some (Sum.inr (Sum.inr ()))) (λd=>(((pos t.length k d:Nat):Int),(d:Int))) t.length (λ_=>True) (λe=>e = .inr ()) (by omega) trivial (λj hj _=>by
    have hp:=a2z h1 k j;dsimp only;rw[if_pos (by simp;omega),ixm hp,d6y,if_neg (by simpa[J3] using ha _ hp),c7g h1 h8,d6y,l5 (by omega)]
    exact .inl ⟨rfl,trivial⟩) (λ_=>⟨.inr (),by simp,rfl⟩)
  have he':lp _ (((pos t.length k 0:Nat):Int),(0:Int))=some e:=he;rw[he',hQ];rfl
theorem b4X{t:Tb}{k v:Int}{r:Tb × Int}(h:b3d t k v r):r.1.length=t.length:=by cases h <;> simp
end Go.Sh
namespace Go.Sh
theorem a4l(t:Tb):(keys t).length=t.countP (·.State==1):=by
 unfold keys;rw[List.length_map,List.countP_eq_length_filter]
theorem b1a{t:Tb}{i:Nat}(h:i<t.length)(p:c4):(keys (t.set i p)).length+(if (pt t i).State=1 then 1 else 0)=(keys t).length+if p.State=1 then 1 else 0:=by
 rw[a4l,a4l,List.countP_set h,b20 h];simp only[beq_iff_eq];have:(if t[i].State=1 then 1 else 0)≤t.countP λc=>c.State==1:=by
  split
  ·rename_i e;exact List.countP_pos_iff.2 ⟨t[i],List.getElem_mem h,by simpa using e⟩
  ·exact Nat.zero_le _
 omega
theorem c4l{t:Tb}(h:∀i,i<t.length→(pt t i).State=1):(keys t).length=t.length:=by
 rw[a4l,List.countP_eq_length];intro a ha;obtain⟨i,hi,rfl⟩:=List.getElem_of_mem ha;have:=h i hi;rw[b20 hi] at this;simpa using this
theorem c9d{t:Tb}{i:Nat}(hi:i<t.length)(h:(pt t i).State≠1):(keys t).length<t.length:=by
 have h1:(keys t).length≤t.length:=by rw[a4l];exact List.countP_le_length
 rcases Nat.lt_or_ge (keys t).length t.length with q | q
 ·exact q
 ·exfalso;have e:(keys t).length=t.length:=by omega
  rw[a4l,List.countP_eq_length] at e;have:=e t[i] (List.getElem_mem hi);rw[b20 hi] at h;exact h (by simpa using this)
structure TM {V:Type} (φ:V→Int→Prop) (t:Tb) (m:List (Int × V)):Prop where
 R:HR t
 nd:(m.map (·.1)).Nodup
 len:(keys t).length=m.length
 has:∀k,(∀v,Has t k v→∃u,B5 m k=some u∧φ u v)∧((B5 m k).isSome=true→∃v,Has t k v)
theorem TM.some{V:Type}{φ:V→Int→Prop}{t:Tb}{m:List (Int × V)}(h:TM φ t m)(k:Int):(∃v u,Has t k v∧B5 m k=some u∧φ u v)∨(B5 m k=none∧∀v,¬Has t k v):=by
 rcases d1T t k with ⟨v,hv⟩ | hn
 ·obtain⟨u,h1,h2⟩:=(h.has k).1 v hv;exact .inl ⟨v,u,hv,h1,h2⟩
 ·refine .inr ⟨?_,hn⟩;cases hq:B5 m k with
  | none=>rfl
  | some u=>
   obtain⟨v,hv⟩:=(h.has k).2 (by rw[hq];rfl)
   exact absurd hv (hn v)
theorem TM.put{V:Type}{φ:V→Int→Prop}{t:Tb}{m:List (Int × V)}(h:TM φ t m)(k v:Int)(u:V)(hφ:φ u v):∃r,a71 t k v = .some r∧r.1.length=t.length∧((r.2=0∧TM φ r.1 (r8 m k u)∧((B5 m k).isSome=true∨m.length<t.length))∨(r=(t,8)∧(B5 m k)=none∧m.length=t.length)):=by
 obtain⟨r,hr,hp⟩:=c1C h.R k v;refine⟨r,hr,b4X hp,?_⟩;have hRr:=b0j h.R hp;by_cases h0:r.2=0
 ·left;have hh:=b7Z h.R hp h0;have hmem:∀k',(∀w,Has r.1 k' w→∃x,B5 (r8 m k u) k' = .some x∧φ x w)∧((B5 (r8 m k u) k').isSome=true→∃w,Has r.1 k' w):=λk'=>by
   rw[a8S];by_cases e:k'=k
   ·subst e;rw[if_pos rfl];refine⟨λw hw=>?_,λ_=>⟨v,(hh _ _).2 (.inl ⟨rfl,rfl⟩)⟩⟩;rcases (hh _ _).1 hw with ⟨_,rfl⟩ | ⟨q,_⟩;·exact⟨u,rfl,hφ⟩
    ·exact absurd rfl q
   ·rw[if_neg e];refine⟨λw hw=>?_,λq=>?_⟩
    ·rcases (hh _ _).1 hw with ⟨q,_⟩ | ⟨_,q⟩;·exact absurd q e
     ·exact (h.has k').1 w q
    ·obtain⟨w,hw⟩:=(h.has k').2 q;exact⟨w,(hh _ _).2 (.inr ⟨e,hw⟩)⟩
  have hlen:(keys r.1).length=(r8 m k u).length∧((B5 m k).isSome=true∨m.length<t.length):=by
   rw[c6z];cases hp with
   | old i hi=>
    have h1:(B5 m k).isSome=true:=by
     obtain⟨x,h1,_⟩:=(h.has k).1 _ ⟨i,hi,rfl⟩;rw[h1];rfl
    have:=b1a hi.1 ⟨1,k,v⟩;rw[if_pos hi.2.1,if_pos rfl,h.len] at this;rw[if_pos h1];exact⟨by simp only;omega,.inl h1⟩
   | new d hn hd hb hf=>
    have h1:(B5 m k)=none:=by
     rcases h.some k with ⟨w,x,hw,_⟩ | ⟨q,_⟩
     ·obtain⟨i,hi,_⟩:=hw;exact absurd hi (hn i)
     ·exact q
    have hlt:=a2z h.R.l1 k d;have:=b1a hlt ⟨1,k,v⟩;rw[if_neg hf,if_pos rfl,h.len] at this;rw[h1];have h2:=c9d hlt hf;rw[h.len] at h2;exact⟨by simpa using this,.inr h2⟩
   | full hn ha=>cases h0
  exact⟨h0,⟨hRr,c1o h.nd k u,hlen.1,hmem⟩,hlen.2⟩
 ·right;cases hp with
  | old i hi=>exact absurd rfl h0
  | new d hn hd hb hf=>exact absurd rfl h0
  | full hn ha=>
   refine⟨rfl,?_,?_⟩
   ·rcases h.some k with ⟨w,x,hw,_⟩ | ⟨q,_⟩
    ·obtain⟨i,hi,_⟩:=hw;exact absurd hi (hn i)
    ·exact q
   ·rw[←h.len,c4l ha]
theorem TM.drop{V:Type}{φ:V→Int→Prop}{t:Tb}{m:List (Int × V)}(h:TM φ t m)(k:Int):(∃r v u,X7 t k = .some (r,v,0)∧r.length=t.length∧B5 m k = .some u∧φ u v∧TM φ r (b2m m k))∨(X7 t k = .some (t,0,9)∧B5 m k=none∧b2m m k=m):=by
 rcases b2W t k with ⟨i,hi⟩ | hn
 ·left;obtain⟨u,h1,h2⟩:=(h.has k).1 _ ⟨i,hi,rfl⟩;refine⟨_,_,u,a8M h.R hi,by simp,h1,h2,a4U h.R hi.1,(c6t m k).nodup h.nd,?_,λk'=>?_⟩
  ·have:=b1a hi.1 ⟨2,0,0⟩;rw[if_pos hi.2.1,if_neg (by decide),h.len] at this
   rw[c6s,h1];simp only[Option.isSome_some,if_true];omega
  ·have hh:=b4p h.R hi;rw[c4p h.nd];by_cases e:k'=k
   ·subst e;rw[if_pos rfl];exact⟨λw hw=>absurd rfl ((hh _ _).1 hw).1,λq=>by cases q⟩
   ·rw[if_neg e];refine⟨λw hw=>(h.has k').1 w ((hh _ _).1 hw).2,λq=>?_⟩;obtain⟨w,hw⟩:=(h.has k').2 q;exact⟨w,(hh _ _).2 ⟨e,hw⟩⟩
 ·right;have h1:B5 m k=none:=by
   rcases h.some k with ⟨w,x,hw,_⟩ | ⟨q,_⟩
   ·obtain⟨i,hi,_⟩:=hw;exact absurd hi (hn i)
   ·exact q
  refine⟨a8L h.R hn,h1,?_⟩;have:∀(l:List (Int × V)),B5 l k=none→b2m l k=l:=by
   intro l;induction l with
   | nil=>intro _;rfl
   | cons p l ih=>
    intro q;unfold B5 at q;unfold b2m;by_cases e:k=p.1
    ·rw[if_pos (by simpa using e)] at q;cases q
    ·rw[if_neg (by simpa using e)] at q
     rw[if_neg (by simpa using e),ih q]
  exact this m h1
theorem c6C{n:Nat}(h1:1≤n)(h8:n≤8):b03 (n:Int)=some (List.replicate n ⟨0,0,0⟩):=by
 unfold b03;rw[if_neg (by simp;omega),a7u (by omega) (by omega)]
 rfl
theorem b2t{n j:Nat}:pt (List.replicate n ⟨0,0,0⟩) j=⟨0,0,0⟩:=by
 unfold pt;rw[List.getD_eq_getElem?_getD,List.getElem?_replicate];split <;> rfl
theorem c7D{V:Type}(φ:V→Int→Prop){n:Nat}(h1:1≤n)(h8:n≤8):TM φ (List.replicate n ⟨0,0,0⟩) []:=by
 refine⟨⟨by simpa using h1,by simpa using h8,λi hi=>?_,λi j hi hj s=>?_,λi hi s=>?_⟩,by simp,?_,λk=>⟨λv hv=>?_,λq=>by cases q⟩⟩
 ·rw[b2t];exact⟨.inl rfl,λ_=>⟨rfl,rfl⟩⟩
 ·rw[b2t] at s;cases s
 ·rw[b2t] at s;cases s
 ·rw[a4l,List.countP_replicate];rfl
 ·obtain⟨i,hi,_⟩:=hv;have:=hi.2.1;rw[b2t] at this;cases this
end Go.Sh
namespace Go.Sh
abbrev pp(p:n8):D3:=⟨p.Key,p.Val⟩
def prs(t:Tb):List n8:=(t.filter (·.State==1)).map λp=>⟨p.Key,p.Val⟩
theorem b09(t:Tb):keys t=(prs t).map (·.Key):=by
 unfold keys prs;rw[List.map_map];rfl
theorem a0A(t:Tb):(prs t).length=(keys t).length:=by rw[b09,List.length_map]
theorem a4o{t:Tb}(h:t.length≤8):(prs t).length≤8:=by
 rw[a0A,a4l];exact Nat.le_trans List.countP_le_length h
theorem a05{t:Tb}{p:n8}:p∈prs t↔Has t p.Key p.Val:=by
 unfold prs Has;rw[List.mem_map];constructor
 ·rintro⟨q,hq,rfl⟩;obtain⟨h1,h2⟩:=List.mem_filter.1 hq;obtain⟨i,hi,rfl⟩:=List.getElem_of_mem h1;refine⟨i,⟨hi,?_,?_⟩,?_⟩ <;> rw[b20 hi]
  simpa using h2
 ·rintro⟨i,⟨hi,h1,h2⟩,h3⟩;rw[b20 hi] at h1 h2 h3;refine⟨t[i],List.mem_filter.2 ⟨List.getElem_mem hi,by simpa using h1⟩,?_⟩
  cases p;simp at h2 h3 ⊢;exact⟨h2,h3⟩
theorem b7Y{t:Tb}(hR:HR t){j:Nat}(h:j<(prs t).length):L6 t (prs t)[j].Key=some ((prs t)[j].Val,0):=c2O hR (a05.1 (List.getElem_mem h))
theorem d0v{E R:Type}{x:Option E}{r:E}{κ:E→Option R}{y:Option R}(h:x=some r)(hy:κ r=y):((x.bind λe=>some e).bind κ)=y:=by rw[h];exact hy
theorem c6Y{t:Tb}(hR:HR t):a4W t=some (prs t):=by
 have h8:=hR.l8;have hp:=a4o h8;unfold a4W B0 a1n a2U;simp only[jn,d6y];rw[keys_eq (by omega),d6y]
 refine d0v (a3R (a2w (prs t).length (λk l=>l=(prs t).take k) (λe=>e=prs t) (by omega) (by simp) ?_ ?_)) rfl
 ·rintro k l hk rfl;refine .inl ⟨_,?_,rfl⟩;dsimp only;rw[if_pos (by rw[←a0A];simpa using hk),o9 (by rw[←a0A];exact hk),d6y]
  have e:(keys t)[k]'(by rw[←a0A];exact hk)=(prs t)[k].Key:=by simp[b09]
  rw[e,b7Y hR hk,d6y,if_pos (by trivial),A2 (by omega) (by simp;omega),d6y,l5 (by omega),List.take_succ_eq_append_getElem hk]
 ·rintro l rfl;exact⟨_,by rw[←a0A];simp;rfl,by simp⟩
theorem b2E{t:Tb}(hR:HR t):a31 (t.map J3)=some ((prs t).map pp):=by
 have h8:=hR.l8;have hp:=a4o h8;unfold a31;simp only[jn];rw[c7c (by omega),d6y]
 refine M4 (prs t).length (λk l=>l=((prs t).take k).map pp) (by omega) (by simp) ?_ (λl hl=>⟨_,by rw[←a0A];simp;rfl,by rw[hl,List.take_length]⟩)
 rintro k l hk rfl;refine .inl ⟨_,?_,rfl⟩;rw[if_pos (by rw[←a0A];simpa using hk),o9 (by rw[←a0A];exact hk),d6y]
 have e:(keys t)[k]'(by rw[←a0A];exact hk)=(prs t)[k].Key:=by simp[b09]
 rw[e,c7b hR,b7Y hR hk,d6y,A2 (by omega) (by simp;omega),d6y,l5 (by omega),List.take_succ_eq_append_getElem hk,List.map_append]
 rfl
def own(t:Tb)(h:Int):Nat:=(prs t).countP λp=>(h != 0)&&(p.Val==h)
theorem c6U{t:Tb}(hR:HR t)(h:Int):a4V t h=some (own t h:Int):=by
 have h8:=hR.l8;have hp:=a4o h8;unfold a4V A9 a1n a2T;simp only[jn,d6y];rw[keys_eq (by omega),d6y]
 refine d0v (r:=(prs t).filter λp=>(h != 0)&&(p.Val==h)) (a3R (a2w (prs t).length (λk l=>l=((prs t).take k).filter λp=>(h != 0)&&(p.Val==h)) (λe=>e=(prs t).filter λp=>(h != 0)&&(p.Val==h)) (by omega) (by simp) ?_ ?_)) (by unfold own;rw[List.countP_eq_length_filter])
 ·rintro k l hk rfl;refine .inl ⟨((prs t).take (k+1)).filter λp=>(h != 0)&&(p.Val==h),?_,rfl⟩;dsimp only;rw[if_pos (by rw[←a0A];simpa using hk),o9 (by rw[←a0A];exact hk),d6y]
  have e:(keys t)[k]'(by rw[←a0A];exact hk)=(prs t)[k].Key:=by simp[b09]
  have hle:(((prs t).take k).filter λp=>(h != 0)&&(p.Val==h)).length≤8:=Nat.le_trans (List.length_filter_le ..) (by simp;omega)
  rw[e,b7Y hR hk,d6y,l5 (by omega),List.take_succ_eq_append_getElem hk,List.filter_append,List.filter_cons,List.filter_nil]
  by_cases c:((h != 0)&&((prs t)[k].Val==h))=true
  ·rw[if_pos c,if_pos c,A2 (by omega) (by simp only[List.length_cons,List.length_nil];omega),d6y]
  ·rw[if_neg c,if_neg c,List.append_nil]
 ·rintro l rfl;exact⟨_,by rw[←a0A];simp;rfl,by simp⟩
theorem c4F{t:Tb}(hR:HR t)(h:Int):a81 (t.map J3) h=some (own t h:Int):=by
 have h8:=hR.l8;have hp:=a4o h8;unfold a81;simp only[jn];rw[b2E hR,d6y,List.length_map];refine c9j (λs=>∃k:Nat,k≤(prs t).length∧s.2=(k:Int)∧s.1=((((prs t).take k).countP λp=>(h != 0)&&(p.Val==h):Nat):Int)) (λs=>(prs t).length+1-s.2.toNat) ⟨0,by omega,rfl,by simp⟩ (by simp;omega) ?_
 rintro⟨_,_⟩ ⟨k,hk,rfl,rfl⟩;dsimp only;by_cases hlt:k<(prs t).length
 ·left;rw[if_pos (by simpa using hlt),a0y,o9 hlt,Option.map_some,d6y,l5 (n:=k) (by omega)]
  have hle:(((prs t).take k).countP λp=>(h != 0)&&(p.Val==h))≤8:=Nat.le_trans List.countP_le_length (by simp;omega)
  have hstep:(((prs t).take (k+1)).countP λp=>(h != 0)&&(p.Val==h))=(((prs t).take k).countP λp=>(h != 0)&&(p.Val==h))+if ((h != 0)&&((prs t)[k].Val==h))=true then 1 else 0:=by
   rw[List.take_succ_eq_append_getElem hlt,List.countP_append,List.countP_cons,List.countP_nil,Nat.zero_add]
  by_cases c:((h != 0)&&((prs t)[k].Val==h))=true
  ·rw[if_pos (by simp only[Bool.and_eq_true] at c ⊢;exact⟨c.2,c.1⟩),l5 (by omega)]
   rw[if_pos c] at hstep;exact⟨_,rfl,⟨k+1,by omega,rfl,by rw[hstep]⟩,by simp;omega⟩
  ·rw[if_neg (by simp only[Bool.and_eq_true] at c ⊢;exact λq=>c ⟨q.2,q.1⟩)]
   rw[if_neg c] at hstep;exact⟨_,rfl,⟨k+1,by omega,rfl,by rw[hstep];rfl⟩,by simp;omega⟩
 ·right;have:k=(prs t).length:=by omega
  subst this;exact⟨_,by rw[if_neg (by simp)],by rw[List.take_length];rfl⟩
theorem c1W{t:Tb}(hR:HR t)(k v:Int):∃r,T9 t k v=some r∧HR r.1∧r.1.length=t.length ∧
  ((k=0∧r=(t,0,2))∨(k≠0∧v=0∧((∃i,Fk t k i∧r=(t.set i ⟨2,0,0⟩,(pt t i).Val,0))∨((∀i,¬Fk t k i)∧r=(t,0,0)))) ∨
   (k≠0∧v≠0∧((∃i,Fk t k i∧r=(t.set i ⟨1,k,v⟩,(pt t i).Val,0))∨(∃d,(∀i,¬Fk t k i)∧d<t.length∧(pt t d).State≠1∧b3d t k v (t.set d ⟨1,k,v⟩,0)∧r=(t.set d ⟨1,k,v⟩,0,0))∨((∀i,¬Fk t k i)∧(∀i,i<t.length→(pt t i).State=1)∧r=(t,0,8))))):=by
 unfold T9;by_cases hk:k=0
 ·rw[if_pos (by simpa using hk)]
  exact⟨_,rfl,hR,rfl,.inl ⟨hk,rfl⟩⟩
 ·rw[if_neg (by simpa using hk)]
  obtain⟨g,hg,hgv⟩:∃g,L6 t k=some g∧((∃i,Fk t k i∧g=((pt t i).Val,0))∨((∀i,¬Fk t k i)∧g=(0,9))):=by
   rcases b2W t k with ⟨i,hi⟩ | hn;·exact⟨_,c1g hR hi,.inl ⟨i,hi,rfl⟩⟩
   ·exact⟨_,c1f hR hn,.inr ⟨hn,rfl⟩⟩
  rw[hg,d6y];by_cases hv:v=0
  ·rw[if_pos (by simpa using hv)]
   rcases hgv with ⟨i,hi,rfl⟩ | ⟨hn,rfl⟩
   ·rw[a8M hR hi,d6y];exact⟨_,rfl,a4U hR hi.1,by simp,.inr (.inl ⟨hk,hv,.inl ⟨i,hi,rfl⟩⟩)⟩
   ·rw[a8L hR hn,d6y];exact⟨_,rfl,hR,rfl,.inr (.inl ⟨hk,hv,.inr ⟨hn,rfl⟩⟩)⟩
  ·rw[if_neg (by simpa using hv)]
   obtain⟨r,hr,hp⟩:=c1C hR k v;rw[hr,d6y];have hRr:=b0j hR hp;have hl:=b4X hp;have hp':=hp;cases hp with
   | old i hi=>
    rcases hgv with ⟨j,hj,rfl⟩ | ⟨hn,rfl⟩
    ·rw[hR.uq j i hj.1 hi.1 hj.2.1 hi.2.1 (hj.2.2.trans hi.2.2.symm)];exact⟨_,rfl,hRr,hl,.inr (.inr ⟨hk,hv,.inl ⟨i,hi,rfl⟩⟩)⟩
    ·exact absurd hi (hn i)
   | new d hn hd hb hf=>
    rcases hgv with ⟨j,hj,rfl⟩ | ⟨_,rfl⟩;·exact absurd hj (hn j)
    ·exact⟨_,rfl,hRr,hl,.inr (.inr ⟨hk,hv,.inr (.inl ⟨_,hn,a2z hR.l1 k d,hf,hp',rfl⟩)⟩)⟩
   | full hn ha=>exact⟨_,rfl,hR,rfl,.inr (.inr ⟨hk,hv,.inr (.inr ⟨hn,ha,rfl⟩)⟩)⟩
theorem c4I{t:Tb}(hR:HR t)(k v:Int):∃r,T9 t k v=some r∧HR r.1∧r.1.length=t.length∧b8d (t.map J3) k v=some (r.1.map J3,r.2) ∧
  ((k=0∧r=(t,0,2))∨(k≠0∧v=0∧((∃i,Fk t k i∧r=(t.set i ⟨2,0,0⟩,(pt t i).Val,0))∨((∀i,¬Fk t k i)∧r=(t,0,0)))) ∨
   (k≠0∧v≠0∧((∃i,Fk t k i∧r=(t.set i ⟨1,k,v⟩,(pt t i).Val,0))∨(∃d,(∀i,¬Fk t k i)∧d<t.length∧(pt t d).State≠1∧b3d t k v (t.set d ⟨1,k,v⟩,0)∧r=(t.set d ⟨1,k,v⟩,0,0))∨((∀i,¬Fk t k i)∧(∀i,i<t.length→(pt t i).State=1)∧r=(t,0,8))))):=by
 unfold T9 b8d;by_cases hk:k=0
 ·rw[if_pos (by simpa using hk),if_pos (by simpa using hk)]
  exact⟨_,rfl,hR,rfl,rfl,.inl ⟨hk,rfl⟩⟩
 ·rw[if_neg (by simpa using hk),if_neg (by simpa using hk),c7b hR]
  obtain⟨g,hg,hgv⟩:∃g,L6 t k=some g∧((∃i,Fk t k i∧g=((pt t i).Val,0))∨((∀i,¬Fk t k i)∧g=(0,9))):=by
   rcases b2W t k with ⟨i,hi⟩ | hn;·exact⟨_,c1g hR hi,.inl ⟨i,hi,rfl⟩⟩
   ·exact⟨_,c1f hR hn,.inr ⟨hn,rfl⟩⟩
  rw[hg,d6y,d6y];by_cases hv:v=0
  ·rw[if_pos (by simpa using hv),if_pos (by simpa using hv),c69 hR]
   rcases hgv with ⟨i,hi,rfl⟩ | ⟨hn,rfl⟩
   ·rw[a8M hR hi,d6y];exact⟨_,rfl,a4U hR hi.1,by simp,rfl,.inr (.inl ⟨hk,hv,.inl ⟨i,hi,rfl⟩⟩)⟩
   ·rw[a8L hR hn,d6y];exact⟨_,rfl,hR,rfl,rfl,.inr (.inl ⟨hk,hv,.inr ⟨hn,rfl⟩⟩)⟩
  ·rw[if_neg (by simpa using hv),if_neg (by simpa using hv)]
   obtain⟨r,hr,hp⟩:=c1C hR k v;rw[hr,d6y,d4Q hR k v hp,d6y];have hRr:=b0j hR hp;have hl:=b4X hp;have hp':=hp;cases hp with
   | old i hi=>
    rcases hgv with ⟨j,hj,rfl⟩ | ⟨hn,rfl⟩
    ·rw[hR.uq j i hj.1 hi.1 hj.2.1 hi.2.1 (hj.2.2.trans hi.2.2.symm)];exact⟨_,rfl,hRr,hl,rfl,.inr (.inr ⟨hk,hv,.inl ⟨i,hi,rfl⟩⟩)⟩
    ·exact absurd hi (hn i)
   | new d hn hd hb hf=>
    rcases hgv with ⟨j,hj,rfl⟩ | ⟨_,rfl⟩;·exact absurd hj (hn j)
    ·exact⟨_,rfl,hRr,hl,rfl,.inr (.inr ⟨hk,hv,.inr (.inl ⟨_,hn,a2z hR.l1 k d,hf,hp',rfl⟩)⟩)⟩
   | full hn ha=>exact⟨_,rfl,hR,rfl,rfl,.inr (.inr ⟨hk,hv,.inr (.inr ⟨hn,ha,rfl⟩)⟩)⟩
theorem b6O(t:Tb)(h:Int):own t h=t.countP λp=>(p.State==1)&&((h != 0)&&(p.Val==h)):=by
 unfold own prs;rw[List.countP_map,List.countP_filter];congr 1;funext p
 simp[Bool.and_comm]
theorem c3g{t:Tb}{i:Nat}(hi:i<t.length)(p:c4)(h:Int):own (t.set i p) h+(if (((pt t i).State==1)&&((h != 0)&&((pt t i).Val==h)))=true then 1 else 0)=own t h+if ((p.State==1)&&((h != 0)&&(p.Val==h)))=true then 1 else 0:=by
 rw[b6O,b6O,List.countP_set hi,b20 hi];have:(if ((t[i].State==1)&&((h != 0)&&(t[i].Val==h)))=true then 1 else 0)≤t.countP λp=>(p.State==1)&&((h != 0)&&(p.Val==h)):=by
  split
  ·rename_i e;exact List.countP_pos_iff.2 ⟨t[i],List.getElem_mem hi,e⟩
  ·exact Nat.zero_le _
 omega
theorem c1w{t:Tb}(h8:t.length≤8)(h:Int):own t h≤8:=Nat.le_trans List.countP_le_length (a4o h8)
end Go.Sh
namespace Go.Sh
end Go.Sh
namespace Go.Sh
theorem c0G{t:Tb}(hR:HR t)(ks:List Int)(hks:ks.length≤1000):∃a had,X5 t ks=some (a,had)∧HR a∧a.length=t.length∧had.length≤ks.length∧a5c (t.map J3) ks=some (a.map J3,had) ∧
  (∀k v,Has a k v↔k∉ks∧Has t k v)∧(keys a).length+had.length=(keys t).length∧(∀k v,k∈ks→Has t k v→v∈had)∧∀y,own a y+W5 had y=own t y:=by
 have key:∀n,n≤ks.length→∃a had,HR a∧a.length=t.length∧had.length≤n∧(∀k v,Has a k v↔k∉ks.take n∧Has t k v)∧(keys a).length+had.length=(keys t).length∧(∀k v,k∈ks.take n→Has t k v→v∈had)∧(∀y,own a y+W5 had y=own t y) ∧
   ∃f:Nat→Tb × List Int,f 0=(t,[])∧f n=(a,had)∧∀j,(hj:j<n)→HR (f j).1∧(f j).2.length≤j∧((∃i,∃hjk:j<ks.length,Fk (f j).1 ks[j] i∧f (j+1)=((f j).1.set i ⟨2,0,0⟩,(f j).2 ++ [(pt (f j).1 i).Val]))∨((∀i,∀hjk:j<ks.length,¬Fk (f j).1 ks[j] i)∧f (j+1)=f j)):=by
  intro n;induction n with
  | zero=>exact λ_=>⟨t,[],hR,rfl,by simp,by simp,by simp,by simp,λy=>by unfold W5;split <;> simp,λ_=>(t,[]),rfl,rfl,λj hj=>by omega⟩
  | succ n ih=>
   intro hn;obtain⟨a,had,h1,h2,h3,h4,h5,h6,h7,f,f0,fn,fs⟩:=ih (by omega)
   have hlt:n<ks.length:=by omega
   have htk:∀k,k∈ks.take (n+1)↔k∈ks.take n∨k=ks[n]:=λk=>by
    rw[List.take_succ_eq_append_getElem hlt,List.mem_append,List.mem_singleton]
   rcases b2W a ks[n] with ⟨i,hi⟩ | hno
   ·have hd:=b4p h1 hi;refine⟨a.set i ⟨2,0,0⟩,had ++ [(pt a i).Val],a4U h1 hi.1,by simpa using h2,by simp;omega,λk v=>?_,?_,λk v hk hv=>?_,λy=>?_,λj=>if j=n+1 then (a.set i ⟨2,0,0⟩,had ++ [(pt a i).Val]) else f j,by simp[f0],by simp,λj hj=>?_⟩
    ·rw[hd,h4,htk];constructor;·rintro⟨q1,q2,q3⟩;exact⟨λq=>q.elim q2 q1,q3⟩
     ·rintro⟨q1,q2⟩;exact⟨λq=>q1 (.inr q),λq=>q1 (.inl q),q2⟩
    ·have:=b1a hi.1 ⟨2,0,0⟩;rw[if_pos hi.2.1,if_neg (by decide)] at this
     simp only[List.length_append,List.length_cons,List.length_nil];omega
    ·rw[List.mem_append];rcases (htk k).1 hk with q | q
     ·exact .inl (h6 k v q hv)
     ·subst q;by_cases q':ks[n]∈ks.take n
      ·exact .inl (h6 _ v q' hv)
      ·have:=(h4 _ _).2 ⟨q',hv⟩;rw[this.fn h1 ⟨i,hi,rfl⟩];exact .inr (by simp)
    ·have:=c3g hi.1 ⟨2,0,0⟩ y;have h7':=h7 y;rw[K3];have e:W5 [(pt a i).Val] y=if (((pt a i).State==1)&&((y != 0)&&((pt a i).Val==y)))=true then 1 else 0:=by
      rw[hi.2.1];unfold W5;by_cases y0:y=0
      ·simp[y0]
      ·by_cases e:(pt a i).Val=y
       ·simp[y0,e]
       ·simp[y0,e]
     rw[e];rw[if_neg (show ¬((((2:Int)==1)&&((y != 0)&&((0:Int)==y)))=true) by simp)] at this
     omega
    ·rcases Nat.lt_or_ge j n with q | q
     ·have:=fs j q;dsimp only;rw[if_neg (by omega),if_neg (by omega)]
      exact this
     ·have:j=n:=by omega
      subst this;dsimp only;rw[if_neg (by omega),if_pos rfl,fn]
      exact⟨h1,h3,.inl ⟨i,hlt,hi,rfl⟩⟩
   ·refine⟨a,had,h1,h2,by omega,λk v=>?_,h5,λk v hk hv=>?_,h7,λj=>if j=n+1 then (a,had) else f j,by simp[f0],by simp,λj hj=>?_⟩
    ·rw[h4,htk];constructor
     ·rintro⟨q1,q2⟩;refine⟨λq=>q.elim q1 λq=>?_,q2⟩;subst q;obtain⟨i,hi,_⟩:=(h4 _ _).2 ⟨q1,q2⟩;exact hno i hi
     ·rintro⟨q1,q2⟩;exact⟨λq=>q1 (.inl q),q2⟩
    ·rcases (htk k).1 hk with q | q
     ·exact h6 k v q hv
     ·subst q;by_cases q':ks[n]∈ks.take n
      ·exact h6 _ v q' hv
      ·obtain⟨i,hi,_⟩:=(h4 _ _).2 ⟨q',hv⟩;exact absurd hi (hno i)
    ·rcases Nat.lt_or_ge j n with q | q
     ·have:=fs j q;dsimp only;rw[if_neg (by omega),if_neg (by omega)]
      exact this
     ·have:j=n:=by omega
      subst this;dsimp only;rw[if_neg (by omega),if_pos rfl,fn]
      exact⟨h1,h3,.inr ⟨λi _=>hno i,rfl⟩⟩
 obtain⟨a,had,h1,h2,h3,h4,h5,h6,h7,f,f0,fn,fs⟩:=key ks.length (Nat.le_refl _);rw[List.take_length] at h4 h6;refine⟨a,had,?_,h1,h2,h3,?_,h4,h5,h6,h7⟩
 ·unfold X5;simp only[jn];refine a1V (λj=>((f j).1,(j:Int),(f j).2)) (by rw[f0];rfl) ks.length (λ_=>True) (by omega) trivial (λj hj _=>?_) (λ_=>⟨(a,had),by dsimp only;rw[if_neg (by simp),fn],rfl⟩)
  obtain⟨g1,g2,g3⟩:=fs j hj;left;refine⟨?_,trivial⟩;dsimp only;rw[if_pos (by simpa using hj),o9 hj,d6y,l5 (by omega)]
  rcases g3 with ⟨i,_,hi,e⟩ | ⟨hno,e⟩
  ·rw[a8M g1 hi,d6y,e];dsimp only;rw[if_pos (by decide),A2 (by omega) (by simp;omega),d6y]
  ·rw[a8L g1 (λi=>hno i hj),d6y,e];dsimp only;rw[if_neg (by decide)]
 ·unfold a5c;simp only[jn];refine a1V (λj=>((f j).1.map J3,(j:Int),(f j).2)) (by rw[f0];rfl) ks.length (λ_=>True) (by omega) trivial (λj hj _=>?_) (λ_=>⟨(a.map J3,had),by dsimp only;rw[if_neg (by simp),fn],rfl⟩)
  obtain⟨g1,g2,g3⟩:=fs j hj;left;refine⟨?_,trivial⟩;dsimp only;rw[if_pos (by simpa using hj),o9 hj,d6y,l5 (by omega),c69 g1]
  rcases g3 with ⟨i,_,hi,e⟩ | ⟨hno,e⟩
  ·rw[a8M g1 hi,Option.map_some,d6y,e];dsimp only;rw[if_pos (by decide),A2 (by omega) (by simp;omega),d6y]
  ·rw[a8L g1 (λi=>hno i hj),Option.map_some,d6y,e];dsimp only;rw[if_neg (by decide)]
end Go.Sh
namespace Go.Sh
end Go.Sh
namespace Go.Sh
inductive a0S (s:a7) (t:Tb) (l:List Int):Int→Prop
 | base {h:Int}:h∈l→h∈lv s→a0S s t l h
 | step {a b:Int}:a0S s t l a→b∈outs s a→b∈lv s→a0S s t l b
 | pair {k v:Int}:Has t k v→a0S s t l k→v∈lv s→a0S s t l v
open Classical in
noncomputable def frc (s:a7) (t:Tb) (l:List Int):List Int:=(lv s).filter λh=>decide (a0S s t l h)
open Classical in
noncomputable def fls (s:a7) (t:Tb) (l:List Int):List Int:=(lv s).filter λh=>decide (¬a0S s t l h)
noncomputable def owd(s:a7)(t:Tb)(l:List Int):List Int:=((prs t).filter λp=>decide (p.Key∈l∧p.Key∈lv s∧p.Val∈lv s)).map (·.Val)
def TB(t:Tb):Prop:=∀p∈t,p.Key≤9223372036854775807∧p.Val≤9223372036854775807
def PCl(s:a7)(t:Tb)(l:List Int):Prop:=∀k v,Has t k v→k∈l→k∈lv s→v∈lv s→v∈l
theorem TB.has{t:Tb}(h:TB t){k v:Int}(q:Has t k v):k≤9223372036854775807∧v≤9223372036854775807:=by
 obtain⟨i,⟨h1,_,h2⟩,h3⟩:=q;rw[b20 h1] at h2 h3;have:=h _ (List.getElem_mem h1);rw[h2,h3] at this;exact this
theorem a0S.live{s:a7}{t:Tb}{l:List Int}{h:Int}(q:a0S s t l h):h∈lv s:=by cases q <;> assumption
open Classical in
theorem a6z {s:a7} {t:Tb} {l:List Int} {h:Int}:h∈frc s t l↔a0S s t l h:=by
 unfold frc;rw[List.mem_filter];exact⟨λq=>of_decide_eq_true q.2,λq=>⟨q.live,decide_eq_true q⟩⟩
theorem b7y{s:a7}(hR:RtR (sO s))(t:Tb)(l:List Int):(frc s t l).length≤24:=Nat.le_trans (List.length_filter_le ..) (F3 hR)
theorem d1G{s:a7}(hR:RtR (sO s))(t:Tb)(l:List Int):LB (frc s t l):=λx hx=>by have:=a5s hR (a6z.1 hx).live;omega
theorem d2S{s:a7}(hR:RtR (sO s))(l:List Int):LB (rcd s l):=λx hx=>by have:=a5s hR (a0a.1 hx).live;omega
theorem d1F(s:a7)(t:Tb)(l:List Int):Cl s (frc s t l):=λa ha b hb hl=>a6z.2 (.step (a6z.1 ha) hb hl)
theorem a0S.least{s:a7}{t:Tb}{l m:List Int}(hc:Cl s m)(hp:PCl s t m)(hl:∀x∈l,x∈lv s→x∈m){h:Int}(q:a0S s t l h):h∈m:=by
 induction q with
 | base h1 h2=>exact hl _ h1 h2
 | step _ h1 h2 ih=>exact hc _ ih _ h1 h2
 | pair h1 h2 h3 ih=>exact hp _ _ h1 ih h2.live h3
theorem a0S.mono{s:a7}{t u:Tb}{l m:List Int}(ht:∀k v,Has t k v→Has u k v)(hl:∀x∈l,x∈lv s→a0S s u m x){h:Int}(q:a0S s t l h):a0S s u m h:=by
 induction q with
 | base h1 h2=>exact hl _ h1 h2
 | step _ h1 h2 ih=>exact .step ih h1 h2
 | pair h1 _ h3 ih=>exact .pair (ht _ _ h1) ih h3
theorem Rch.d5Q{s:a7}(t:Tb){l:List Int}{h:Int}(q:Rch s l h):a0S s t l h:=by
 induction q with
 | base h1 h2=>exact .base h1 h2
 | step _ h1 h2 ih=>exact .step ih h1 h2
theorem b1j{s:a7}{t:Tb}{l:List Int}{v:Int}:v∈owd s t l↔∃k,Has t k v∧k∈l∧k∈lv s∧v∈lv s:=by
 unfold owd;rw[List.mem_map];constructor
 ·rintro⟨p,hp,rfl⟩;obtain⟨h1,h2⟩:=List.mem_filter.1 hp;exact⟨p.Key,a05.1 h1,of_decide_eq_true h2⟩
 ·rintro⟨k,h1,h2⟩;exact⟨⟨k,v⟩,List.mem_filter.2 ⟨a05.2 h1,decide_eq_true h2⟩,rfl⟩
theorem b7S{s:a7}{t:Tb}{l:List Int}:(∀v∈owd s t l,v∈l)↔PCl s t l:=by
 constructor;·exact λh k v h1 h2 h3 h4=>h v (b1j.2 ⟨k,h1,h2,h3,h4⟩)
 ·intro h v hv;obtain⟨k,h1,h2,h3,h4⟩:=b1j.1 hv;exact h k v h1 h2 h3 h4
theorem b7T{s:a7}{t:Tb}(hT:HR t)(l:List Int):(owd s t l).length≤8:=by
 unfold owd;rw[List.length_map];exact Nat.le_trans (List.length_filter_le ..) (a4o hT.l8)
theorem d2B{s:a7}(hR:RtR (sO s))(t:Tb)(l:List Int):LB (owd s t l):=λx hx=>by
 obtain⟨_,_,_,_,h⟩:=b1j.1 hx;have:=a5s hR h;omega
noncomputable def H5(s:a7)(t:Tb)(l:List Int):Nat→List Int
 | 0=>rcd s l
 | k+1=>rcd s (H5 s t l k++owd s t (H5 s t l k))
section
variable{s:a7}{t:Tb}{l:List Int}
theorem b2D(k:Nat):H5 s t l (k+1)=rcd s (H5 s t l k++owd s t (H5 s t l k)):=rfl
theorem a56(k:Nat):∃m,H5 s t l k=rcd s m:=by
 cases k with
 | zero=>exact⟨_,rfl⟩
 | succ k=>exact⟨_,rfl⟩
theorem c9U(k:Nat):Cl s (H5 s t l k):=by
 obtain⟨m,e⟩:=a56 (s:=s) (t:=t) (l:=l) k;rw[e];exact d2R s m
theorem c4C(k:Nat){x:Int}(h:x∈H5 s t l k):x∈lv s:=by
 obtain⟨m,e⟩:=a56 (s:=s) (t:=t) (l:=l) k;rw[e] at h;exact (a0a.1 h).live
theorem c0f(k:Nat){x:Int}(h:x∈H5 s t l k):x∈H5 s t l (k+1):=a0a.2 (.base (List.mem_append.2 (.inl h)) (c4C k h))
theorem c4B(k:Nat):∀x∈l,x∈lv s→x∈H5 s t l k:=by
 induction k with
 | zero=>exact λx h1 h2=>a0a.2 (.base h1 h2)
 | succ k ih=>exact λx h1 h2=>c0f k (ih x h1 h2)
theorem c7f(k:Nat):∀x∈H5 s t l k,a0S s t l x:=by
 induction k with
 | zero=>exact λx h=>(a0a.1 h).d5Q t
 | succ k ih=>
  intro x h;have:=a0a.1 h;induction this with
  | base h1 h2=>
   rcases List.mem_append.1 h1 with q | q
   ·exact ih _ q
   ·obtain⟨k',q1,q2,q3,q4⟩:=b1j.1 q;exact .pair q1 (ih _ q2) q4
  | step h0 h1 h2 ih2=>exact .step (ih2 (a0a.2 h0)) h1 h2
theorem b6V{k:Nat}(h:PCl s t (H5 s t l k)):H5 s t l k=frc s t l:=by
 obtain⟨m,e⟩:=a56 (s:=s) (t:=t) (l:=l) k;have hm:∀x,Rch s m x↔a0S s t l x:=λx=>by
  rw[←a0a,←e];exact⟨c7f k x,λq=>q.least (c9U k) h (c4B k)⟩
 rw[e];unfold rcd frc;exact List.filter_congr λx _=>decide_eq_decide.2 (hm x)
theorem c1O{k:Nat}(h:PCl s t (H5 s t l k)):H5 s t l (k+1)=H5 s t l k:=by
 obtain⟨m,e⟩:=a56 (s:=s) (t:=t) (l:=l) k;rw[b2D];have h':=b7S.2 h;rw[e] at h' ⊢;refine b6T λx=>⟨λq=>?_,λq=>.base (List.mem_append.2 (.inl (a0a.2 q))) q.live⟩;refine q.mono λy hy _=>?_;rcases List.mem_append.1 hy with c | c
 ·exact a0a.1 c
 ·exact a0a.1 (h' y c)
theorem b2C{k:Nat}(h:¬PCl s t (H5 s t l k)):((prs t).filter λp=>decide (p.Val∈H5 s t l k)).length<((prs t).filter λp=>decide (p.Val∈H5 s t l (k+1))).length:=by
 obtain⟨v,hv,hn⟩:∃v,v∈owd s t (H5 s t l k)∧v∉H5 s t l k:=Classical.byContradiction λq=>h (b7S.1 λv hv=>Classical.byContradiction λq2=>q ⟨v,hv,q2⟩);obtain⟨k',h1,h2,h3,h4⟩:=b1j.1 hv;refine filter_lt (λp _ hp=>?_) ⟨k',v⟩ (a05.2 h1) ?_ ?_
 ·rw[decide_eq_true_iff] at hp ⊢;exact c0f k hp
 ·rw[decide_eq_true_iff];exact a0a.2 (.base (List.mem_append.2 (.inr hv)) h4)
 ·exact decide_eq_false hn
theorem b1E(s:a7)(t:Tb)(l:List Int):∃n,n≤(prs t).length∧PCl s t (H5 s t l n)∧∀j,j<n→¬PCl s t (H5 s t l j):=by
 have key:∀k,(∃j,j≤k∧PCl s t (H5 s t l j))∨k<((prs t).filter λp=>decide (p.Val∈H5 s t l (k+1))).length:=by
  intro k;induction k with
  | zero=>
   by_cases h:PCl s t (H5 s t l 0)
   ·exact .inl ⟨0,Nat.le_refl _,h⟩
   ·have:=b2C h;exact .inr (by omega)
  | succ k ih=>
   rcases ih with ⟨j,h1,h2⟩ | ih;·exact .inl ⟨j,by omega,h2⟩
   ·by_cases h:PCl s t (H5 s t l (k+1))
    ·exact .inl ⟨k+1,Nat.le_refl _,h⟩
    ·have:=b2C h;exact .inr (by omega)
 obtain⟨j,h1,h2⟩:∃j,j≤(prs t).length∧PCl s t (H5 s t l j):=by
  rcases key (prs t).length with q | q
  ·exact q
  ·have:=List.length_filter_le (λp:n8=>decide (p.Val∈H5 s t l ((prs t).length+1))) (prs t);omega
 obtain⟨n,hn,hmin⟩:=W0 (p:=λj=>PCl s t (H5 s t l j)) ⟨j,h2⟩;exact⟨n,Nat.le_trans (hmin j h2) h1,hn,λi hi q=>by have:=hmin i q;omega⟩
end
noncomputable def rnd(s:a7)(t:Tb)(l:List Int):Nat:=Classical.choose (b1E s t l)
theorem c7e(s:a7)(t:Tb)(l:List Int):rnd s t l≤(prs t).length:=(Classical.choose_spec (b1E s t l)).1
theorem c0e(s:a7)(t:Tb)(l:List Int):PCl s t (H5 s t l (rnd s t l)):=(Classical.choose_spec (b1E s t l)).2.1
theorem c3v(s:a7)(t:Tb)(l:List Int){j:Nat}(h:j<rnd s t l):¬PCl s t (H5 s t l j):=(Classical.choose_spec (b1E s t l)).2.2 j h
section
variable{s:a7}(hR:RtR (sO s)){t:Tb}(hT:HR t)(hTB:TB t)
include hR hT hTB
omit hT hTB in
theorem b6F {h:Int} (hh:h≤9223372036854775807):a4f h s=some (decide (h∈lv s)):=by
 obtain⟨e,h1,h2⟩:=Q1 hR hh;unfold a4f;rw[h1,d6y];congr 1;rw[Bool.eq_iff_iff,beq_iff_eq,decide_eq_true_iff];exact h2
omit hT hTB in
theorem b4K {h:Int} (hh:h≤9223372036854775807):a82 (sO s) h=some (decide (h∈lv s)):=by
 obtain⟨e,h1,h2⟩:=Q1 hR hh;unfold a82;rw[a4h s (by have:=a16 hR;omega) hh,h1]
 simp only[Option.map_some,d6y];congr 1;rw[Bool.eq_iff_iff,beq_iff_eq,decide_eq_true_iff];exact h2
theorem c3e{l:List Int}(hl:l.length≤1000000):b0R s t l=some (owd s t l):=by
 unfold b0R;simp only[jn,c6Y hT,d6y];have h8:=a4o hT.l8;rw[F9 ((prs t)) (λb p=>b++(if decide (p.Key∈l∧p.Key∈lv s∧p.Val∈lv s) then [p.Val] else [])) id (λk b=>b.length≤k) (by omega) (by simp) (λk hk b hb=>?_) (λb _=>?_)]
 ·simp only[d6y,id];rw[a2s];congr 1;unfold owd;rw[List.nil_append];generalize prs t=P;induction P with
  | nil=>rfl
  | cons p P ih=>
   rw[List.flatMap_cons,List.filter_cons,ih];by_cases q:p.Key∈l∧p.Key∈lv s∧p.Val∈lv s
   ·simp[q]
   ·simp[q]
 ·have hb':=hTB.has (a05.1 (List.getElem_mem hk));simp only[Int.ofNat_lt,hk,decide_true,if_true,o9 hk,d6y,contains_eq _ _ hl];rw[b6F hR hb'.1,b6F hR hb'.2];by_cases q1:(prs t)[k].Key∈l
  ·rw[decide_eq_true q1];simp only[beq_self_eq_true,U7,d6y,Bool.true_and];by_cases q2:(prs t)[k].Key∈lv s
   ·rw[decide_eq_true q2];simp only[beq_self_eq_true,U7,d6y,Bool.true_and];by_cases q3:(prs t)[k].Val∈lv s
    ·rw[if_pos (by simpa using q3),A2 (by omega) (by simp;omega),d6y,l5,if_pos (by simp[q1,q2,q3])]
     exact⟨rfl,by simp;omega⟩
    ·rw[if_neg (by simpa using q3),l5,if_neg (by simp[q3]),List.append_nil]
     exact⟨rfl,by omega⟩
   ·rw[decide_eq_false q2];simp only[show ((false==true):Bool)=false from rfl,a79,d6y,Bool.false_and,Bool.false_eq_true,if_false];rw[l5,if_neg (by simp[q2]),List.append_nil]
    exact⟨rfl,by omega⟩
  ·rw[decide_eq_false q1];simp only[show ((false==true):Bool)=false from rfl,a79,d6y,Bool.false_and,Bool.false_eq_true,if_false];rw[l5,if_neg (by simp[q1]),List.append_nil]
   exact⟨rfl,by omega⟩
 ·simp only[Int.lt_irrefl,decide_false,Bool.false_eq_true,if_false];rfl
theorem c4h{l:List Int}(hl:l.length≤1000000):b1v (sO s) (t.map J3) l=some (owd s t l):=by
 unfold b1v;simp only[jn,b2E hT,d6y];have h8:=a4o hT.l8;rw[F9 ((prs t)) (λb p=>b++(if decide (p.Key∈l∧p.Key∈lv s∧p.Val∈lv s) then [p.Val] else [])) id (λk b=>b.length≤k) (by omega) (by simp) (λk hk b hb=>?_) (λb _=>?_)]
 ·simp only[d6y,id];rw[a2s];congr 1;unfold owd;rw[List.nil_append];generalize prs t=P;induction P with
  | nil=>rfl
  | cons p P ih=>
   rw[List.flatMap_cons,List.filter_cons,ih];by_cases q:p.Key∈l∧p.Key∈lv s∧p.Val∈lv s
   ·simp[q]
   ·simp[q]
 ·have hb':=hTB.has (a05.1 (List.getElem_mem hk));have hk':k<((prs t).map pp).length:=by simpa using hk
  have eix:ix ((prs t).map pp) (k:Int)=some (pp (prs t)[k]):=by rw[a0y,o9 hk];rfl
  simp only[List.length_map,Int.ofNat_lt,hk,decide_true,if_true,eix,d6y,b0Z _ _ hl,pp];rw[b4K hR hb'.1,b4K hR hb'.2];simp only[d6y];by_cases q1:(prs t)[k].Key∈lv s
  ·rw[decide_eq_true q1];simp only[beq_self_eq_true,U7,d6y,Bool.true_and];have h0:=c21 hR _ q1;by_cases q2:(prs t)[k].Key∈l
   ·rw[decide_eq_true (show (prs t)[k].Key≠0∧(prs t)[k].Key∈l from ⟨h0,q2⟩)];simp only[beq_self_eq_true,U7,d6y,Bool.true_and];by_cases q3:(prs t)[k].Val∈lv s
    ·rw[if_pos (by simpa using q3),A2 (by omega) (by simp;omega),d6y,l5,if_pos (by simp[q1,q2,q3])]
     exact⟨rfl,by simp;omega⟩
    ·rw[if_neg (by simpa using q3),l5,if_neg (by simp[q3]),List.append_nil]
     exact⟨rfl,by omega⟩
   ·rw[decide_eq_false (show ¬((prs t)[k].Key≠0∧(prs t)[k].Key∈l) from λq=>q2 q.2)];simp only[show ((false==true):Bool)=false from rfl,a79,d6y,Bool.false_and,Bool.false_eq_true,if_false];rw[l5,if_neg (by simp[q2]),List.append_nil]
    exact⟨rfl,by omega⟩
  ·rw[decide_eq_false q1];simp only[show ((false==true):Bool)=false from rfl,a79,d6y,Bool.false_and,Bool.false_eq_true,if_false];rw[l5,if_neg (by simp[q1]),List.append_nil]
   exact⟨rfl,by omega⟩
 ·simp only[List.length_map,Int.lt_irrefl,decide_false,Bool.false_eq_true,if_false];rfl
theorem c56(hF:FB s){l:List Int}(hl:LB l)(hlen:l.length≤1000000):a8O s t l=some (frc s t l,(rnd s t l:Int)):=by
 unfold a8O;rw[c2N hR hF hl hlen,d6y];simp only[jn];have hn:=c7e s t l;have h8:=a4o hT.l8;have hstep:∀k,∃m,H5 s t l k=rcd s m:=a56;refine a1V (p:=λk=>(H5 s t l k,(k:Int))) rfl (rnd s t l) (λ_=>True) (by omega) trivial (λk hk _=>.inl ⟨?_,trivial⟩) (λ_=>?_)
 ·obtain⟨m,hm⟩:=hstep k;have hlk:(H5 s t l k).length≤24:=by rw[hm];exact c3l hR m
  have hlb:LB (H5 s t l k):=by rw[hm];exact d2S hR m
  have hno:=c3v s t l hk;simp only;rw[c3e hR hT hTB (by omega),d6y]
  have ho:=b7T (s:=s) hT (H5 s t l k);obtain⟨j,⟨hj,hjn⟩,hmin⟩:=W0 (p:=λj=>∃hj:j<(owd s t (H5 s t l k)).length,(owd s t (H5 s t l k))[j]∉H5 s t l k) (by
   refine Classical.byContradiction λq=>hno (b7S.1 λv hv=>Classical.byContradiction λq2=>?_);obtain⟨j,hj,e⟩:=List.mem_iff_getElem.1 hv;exact q ⟨j,hj,by rw[e];exact q2⟩)
  refine R6 (owd s t (H5 s t l k)).length (λi=>i≤j) (by omega) (Nat.zero_le _) (λi hi hP=>?_) (λhP=>by omega)
  simp only[Int.ofNat_lt,hi,decide_true,if_true,o9 hi,d6y];rw[contains_eq _ _ (by omega),d6y]
  rcases Nat.lt_or_ge i j with q | q
  ·refine .inl ⟨?_,q⟩;have:(owd s t (H5 s t l k))[i]∈H5 s t l k:=Classical.byContradiction λq2=>by have:=hmin i ⟨hi,q2⟩;omega
   rw[if_neg (by simp[this]),l5]
  ·have:i=j:=by omega
   subst this;refine .inr ⟨.inl (H5 s t l (k+1),((k+1:Nat):Int)),?_,rfl⟩;rw[if_pos (by simp[hjn]),A2 (by omega) (by omega),d6y,c2N hR hF (λx hx=>by
    rcases List.mem_append.1 hx with q | q
    ·exact d2B hR t _ x q
    ·exact hlb x q) (by simp;omega),d6y,l5,b2D]
   rw[b6T (l:=owd s t (H5 s t l k)++H5 s t l k) (m:=H5 s t l k++owd s t (H5 s t l k)) λx=>⟨λq=>q.mono λy hy hyl=>.base (List.mem_append.2 (List.mem_append.1 hy).symm) hyl,λq=>q.mono λy hy hyl=>.base (List.mem_append.2 (List.mem_append.1 hy).symm) hyl⟩]
 ·have hst:=c0e s t l;have hfr:=b6V hst;refine⟨(frc s t l,(rnd s t l:Int)),?_,rfl⟩;simp only;rw[hfr] at hst ⊢;have hfl:=b7y hR t l;rw[c3e hR hT hTB (by omega),d6y]
  have ho:=b7T (s:=s) hT (frc s t l);refine R6 (owd s t (frc s t l)).length (λ_=>True) (by omega) trivial (λi hi _=>.inl ⟨?_,trivial⟩) (λ_=>⟨.inr (),by simp,rfl⟩)
  have:=b7S.2 hst _ (List.getElem_mem hi);simp only[Int.ofNat_lt,hi,decide_true,if_true,o9 hi,d6y];rw[contains_eq _ _ (by omega),d6y,if_neg (by simp[this]),l5]
theorem c0h{l:List Int}(hlen:l.length≤1000000):b0n (sO s) (t.map J3) l=some (frc s t l,(rnd s t l:Int)):=by
 unfold b0n;rw[b6v hR hlen,d6y];simp only[jn];have hn:=c7e s t l;have h8:=a4o hT.l8;have hone:∀k,a8d (sO s) (H5 s t l k++owd s t (H5 s t l k))=some (H5 s t l (k+1))∧(H5 s t l k).length≤24∧(owd s t (H5 s t l k)).length≤8∧b1v (sO s) (t.map J3) (H5 s t l k)=some (owd s t (H5 s t l k)):=λk=>by
  obtain⟨m,hm⟩:=a56 (s:=s) (t:=t) (l:=l) k;have hlk:(H5 s t l k).length≤24:=by rw[hm];exact c3l hR m
  have ho:=b7T (s:=s) hT (H5 s t l k);exact⟨by rw[b6v hR (by simp;omega),b2D],hlk,ho,c4h hR hT hTB (by omega)⟩
 refine a1V (p:=λk=>(H5 s t l k,(k:Int))) rfl (rnd s t l) (λ_=>True) (by omega) trivial (λk hk _=>.inl ⟨?_,trivial⟩) (λ_=>?_)
 ·obtain⟨h1,h2,h3,h4⟩:=hone k;obtain⟨_,h2',_,_⟩:=hone (k+1);have hne:H5 s t l (k+1)≠H5 s t l k:=λe=>by
   have:=b2C (c3v s t l hk);rw[e] at this;omega
  simp only;rw[if_pos (by simp;omega),M3 (by omega) (by omega),d6y,h4,d6y,A2 (by omega) (by omega),d6y,h1,d6y,c2b _ _ (by omega),d6y,if_neg (by simpa using hne),l5]
 ·obtain⟨h1,h2,h3,h4⟩:=hone (rnd s t l);obtain⟨_,h2',_,_⟩:=hone (rnd s t l+1);have hst:=c0e s t l;refine⟨.inl (frc s t l,(rnd s t l:Int)),?_,rfl⟩;simp only;rw[if_pos (by simp;omega),M3 (by omega) (by omega),d6y,h4,d6y,A2 (by omega) (by omega),d6y,h1,d6y,c2b _ _ (by omega),d6y,if_pos (by simpa using c1O hst),b6V hst]
theorem c5W(hF:FB s){l:List Int}(hl:LB l)(hlen:l.length≤1000000):b0Q s t l=some (frc s t l):=by
 unfold b0Q;rw[c56 hR hT hTB hF hl hlen];rfl
theorem c07{l:List Int}(hlen:l.length≤1000000):b43 (sO s) (t.map J3) l=some (frc s t l):=by
 unfold b43;rw[c0h hR hT hTB hlen];rfl
omit hT hTB hR in
theorem c9S {l:List Int} {x:Int}:Rch s (frc s t l) x↔a0S s t l x:=by
 constructor
 ·intro q;exact a6z.1 (Rch.least (d1F s t l) (λx h _=>h) q)
 ·exact λq=>.base (a6z.2 q) q.live
theorem c5Z(hF:FB s){l:List Int}(hl:LB l)(hlen:l.length≤1000000):a7V s t l=some (fls s t l):=by
 unfold a7V;rw[c5W hR hT hTB hF hl hlen,d6y,c9h hR hF (d1G hR t l) (by have:=b7y hR t l;omega),d6y]
 congr 1;unfold lst fls;exact List.filter_congr λx _=>decide_eq_decide.2 (not_congr c9S)
open Classical in
theorem c1a {l:List Int} (hlen:l.length≤1000000):b44 (sO s) (t.map J3) l=some (fls s t l):=by
 unfold b44;have h24:=F3 hR;have hfl:=b7y hR t l;rw[c07 hR hT hTB hlen,d6y,a5r hR,d6y];simp only[jn];rw[F9 (lv s) (λacc x=>if decide (¬a0S s t l x) then acc ++ [x] else acc) id (λk acc=>acc.length≤k) (by omega) (by simp) (λk hk acc hb=>?_) (λb _=>?_)]
 ·simp only[d6y,id];rw[foldl_filter];rfl
 ·simp only[Int.ofNat_lt,hk,decide_true,if_true,o9 hk,d6y];rw[b0Z _ _ (by omega),d6y]
  have h0:=c21 hR _ (List.getElem_mem hk);by_cases q:a0S s t l (lv s)[k]
  ·have e:(lv s)[k]∈frc s t l:=a6z.2 q;rw[if_neg (by simp[e,h0]),if_neg (by simpa using q),l5]
   exact⟨rfl,by omega⟩
  ·have e:(lv s)[k]∉frc s t l:=λh=>q (a6z.1 h);rw[if_pos (by simp[e]),if_pos (by simpa using q),A2 (by omega) (by simp;omega),d6y,l5]
   exact⟨rfl,by simp;omega⟩
 ·simp only[Int.lt_irrefl,decide_false,Bool.false_eq_true,if_false];rfl
end
end Go.Sh
namespace Go.Sh
end Go.Sh
namespace Go.Sh
end Go.Sh
namespace Go.Sh
section
variable(s:a7)(hF:FB s)(t:Tb)(hTB:TB t)
include hF hTB
end
end Go.Sh
namespace Go.Sh
def ce(s:a7)(i:Nat):b8:=s.S.a8.getD i ⟨0,0,z0⟩
theorem E5{s:a7}{i:Nat}(h:i<s.S.a8.length):ce s i=s.S.a8[i]:=by
 unfold ce;rw[List.getD_eq_getElem?_getD,List.getElem?_eq_getElem h];rfl
theorem b9E{s:a7}{i:Nat}(h:i<s.S.a8.length):ix s.S.a8 (i:Int)=some (ce s i):=by rw[o9 h,E5 h]
def Th(c:b8):Prop:=c.State=1∨c.State=2
instance(c:b8):Decidable (Th c):=by unfold Th;infer_instance
structure OkO (s:a7) (o:m8):Prop where
 s1:1≤o.Serial
 s2:o.Serial≤s.Serial
 st:0≤o.Strong
 wk:0≤o.Weak
 p1 : -1≤o.Prog
 p2:o.Prog≤5
 fl:o.Fields.length≤4
structure SR (s:a7):Prop where
 len:s.S.a8.length≤24
 l0:0≤s.S.Last
 l9:s.S.Last≤9
 ser:0≤s.Serial
 cell:∀i,i<s.S.a8.length→0≤(ce s i).State∧(ce s i).State≤3∧0≤(ce s i).Gen∧(ce s i).Gen≤s.S.Last
 no:∀i,i<s.S.a8.length→¬Th (ce s i)→b5J (oo (ce s i).Val)
 ok:∀i,i<s.S.a8.length→Th (ce s i)→OkO s (ce s i).Val
 dif:∀i j,i<s.S.a8.length→j<s.S.a8.length→Th (ce s i)→Th (ce s j)→(ce s i).Val.Serial=(ce s j).Val.Serial→i=j
theorem s7{s:a7}:RtR (sO s)↔SR s:=by
 constructor
 ·intro h;refine⟨a16 h,h.l0,h.l9,h.ser,λi hi=>?_,λi hi hn=>?_,λi hi ht=>?_,λi j hi hj a b e=>?_⟩;·rw[E5 hi];exact b8w h i hi
  ·rw[E5 hi] at hn ⊢;have:=h.no i (by rw[C0];exact hi)
   simp only[sO,List.getElem_map] at this;exact this hn
  ·rw[E5 hi] at ht ⊢;obtain⟨a,b,c,d,e,f,g⟩:=c7l h i hi ht;exact⟨a,b,c,d,e,f,g⟩
  ·rw[E5 hi] at a e;rw[E5 hj] at b e;exact c7k h hi hj a b e
 ·intro h;refine⟨by rw[C0];exact h.len,h.l0,h.l9,h.ser,λi hi=>?_,λi hi hn=>?_,λi hi ht=>?_,λi hi k hk a b=>?_⟩
  ·rw[C0] at hi;have:=h.cell i hi;rw[E5 hi] at this;simpa[sO,cO] using this
  ·rw[C0] at hi;have:=h.no i hi;rw[E5 hi] at this;simp only[sO,List.getElem_map] at hn ⊢;exact this hn
  ·rw[C0] at hi;have:=h.ok i hi;rw[E5 hi] at this;simp only[sO,List.getElem_map] at ht ⊢;obtain⟨a,b,c,d,e,f,g⟩:=this ht;exact⟨a,b,c,d,e,f,g⟩
  ·rw[C0] at hi;have hk':k<s.S.a8.length:=by omega
   have:=h.dif i k hi hk';rw[E5 hi,E5 hk'] at this;simp only[sO,List.getElem_map,cO,oo] at a b ⊢;intro e;have:=this a b e.symm;omega
def At(s:a7)(h:Int)(i:Nat):Prop:=i<s.S.a8.length∧(ce s i).State=1∧h=1+(i:Int)+32*(ce s i).Gen
def V4(s:a7)(h:Int)(i:Nat):Prop:=i<s.S.a8.length∧Th (ce s i)∧h=1+(i:Int)+32*(ce s i).Gen
theorem At.d{s:a7}{h:Int}{i:Nat}(q:At s h i):V4 s h i:=⟨q.1,.inl q.2.1,q.2.2⟩
theorem V4.one{s:a7}(hR:SR s){h:Int}{i j:Nat}(q:V4 s h i)(q':V4 s h j):i=j:=by
 obtain⟨a1,_,a2⟩:=q;obtain⟨b1,_,b2⟩:=q';have:=hR.len;omega
theorem V4.rng{s:a7}(hR:SR s){h:Int}{i:Nat}(q:V4 s h i):1≤h∧h≤320:=by
 obtain⟨a1,_,a2⟩:=q;have:=hR.len;have:=hR.cell i a1;have:=hR.l9;omega
theorem b9L{s:a7}{h:Int}:h∈W1 0 s.S.a8↔∃i,At s h i:=by
 rw[a72];constructor
 ·rintro⟨i,hi,h1,h2⟩;refine⟨i,hi,by rw[E5 hi];exact h1,?_⟩
  rw[E5 hi,h2,Nat.zero_add]
 ·rintro⟨i,hi,h1,h2⟩;rw[E5 hi] at h1 h2;exact⟨i,hi,h1,by rw[h2,Nat.zero_add]⟩
theorem a28{s:a7}(hR:SR s){h:Int}:h∈lv s↔∃i,At s h i:=by rw[b2k (s7.2 hR),b9L]
theorem b0b{s:a7}(hR:SR s){h:Int}{i:Nat}:b10 s.S h i↔V4 s h i:=by
 constructor
 ·rintro⟨hi,h1,h2,h3,h4⟩;unfold Hnd at h1;refine⟨hi,by rw[E5 hi];exact h4,?_⟩
  rw[E5 hi];omega
 ·rintro⟨hi,h1,h2⟩;have l:=hR.len;have l9:=hR.l9;have c:=hR.cell i hi;rw[E5 hi] at h1 h2 c;exact⟨hi,by unfold Hnd;omega,by omega,by omega,h1⟩
theorem O3{s:a7}(hR:SR s){h:Int}{i:Nat}(q:At s h i):ob s h=(ce s i).Val:=by
 obtain⟨j,hj,h1,h2,_,e⟩:=b7L (s7.2 hR) ((a28 hR).2 ⟨i,q⟩);have:j=i:=V4.one hR ⟨hj,by rw[E5 hj];exact .inl h1,by rw[E5 hj];exact h2⟩ q.d
 subst this;rw[e,E5 hj]
theorem d1q{s:a7}(hR:SR s){h:Int}{i:Nat}(q:At s h i):y4 s h=some ((ce s i).Val,0):=by
 rw[b2j (s7.2 hR) ((a28 hR).2 ⟨i,q⟩),O3 hR q]
theorem c5m{s:a7}(hR:SR s){h:Int}{i:Nat}(q:At s h i):sk s.S.a8 h=(ce s i).Val.Serial:=by
 have:=hR.len;have hi:=q.1;rw[q.2.2,c0o hi (by omega),E5 hi]
theorem a4R{s:a7}(hR:SR s){h:Int}{i:Nat}(q:V4 s h i):w8 s.S h=some ((i:Int),0):=a8N ((b0b hR).2 q)
theorem a6r{s:a7}(hR:SR s){h:Int}(hh:h≤9223372036854775807)(q:∀i,¬V4 s h i):w8 s.S h=some (-1,if h=0 then 2 else 3):=b2f hh λi hi=>q i ((b0b hR).1 hi)
theorem c6p{s s':a7}(hR:SR s)(hR':SR s')(P:Int→Bool)(hm:∀h,(∃i,At s' h i)↔(∃i,At s h i)∧P h=true)(hk:∀h i j,At s' h i→At s h j→(ce s' i).Val.Serial=(ce s j).Val.Serial):lv s'=(lv s).filter P:=by
 have hk':∀h∈lv s,P h=true→sk s'.S.a8 h=sk s.S.a8 h:=λh hh hp=>by
  obtain⟨j,hj⟩:=(a28 hR).1 hh;obtain⟨i,hi⟩:=(hm h).2 ⟨⟨j,hj⟩,hp⟩;rw[c5m hR' hi,c5m hR hj,hk h i j hi hj]
 refine d4l (s7.2 hR') ?_ ?_
 ·rw[List.perm_ext_iff_of_nodup ((b1e (s7.2 hR)).filter _) (a6D 0 _ (by have:=hR'.len;omega))]
  intro h;rw[List.mem_filter,a28 hR,b9L,hm h]
 ·refine ((a3I (s7.2 hR)).2.2.filter P).imp_of_mem λ{a b} ha hb hab=>?_;rw[List.mem_filter] at ha hb;rw[hk' a ha.1 ha.2,hk' b hb.1 hb.2];exact hab
theorem c9k{s s':a7}(hR:SR s)(hR':SR s')(hl:s'.S.a8.length=s.S.a8.length)(h1:∀i,i<s.S.a8.length→((ce s' i).State=1↔(ce s i).State=1)∧(ce s' i).Gen=(ce s i).Gen∧(ce s' i).Val.Serial=(ce s i).Val.Serial):lv s'=lv s:=by
 have ha:∀h i,At s' h i↔At s h i:=λh i=>by
  unfold At;rw[hl];constructor
  ·rintro⟨a,b,c⟩;obtain⟨x,y,z⟩:=h1 i a;exact⟨a,x.1 b,by rw[←y];exact c⟩
  ·rintro⟨a,b,c⟩;obtain⟨x,y,z⟩:=h1 i a;exact⟨a,x.2 b,by rw[y];exact c⟩
 rw[c6p hR hR' (λ_=>true) (λh=>by simp only[and_true];exact⟨λ⟨i,q⟩=>⟨i,(ha h i).1 q⟩,λ⟨i,q⟩=>⟨i,(ha h i).2 q⟩⟩) (λh i j q q'=>by
  have:=V4.one hR ((ha h i).1 q).d q'.d;subst this;exact (h1 i q'.1).2.2)]
 simp
def a10(s:a7)(i:Nat)(o:m8):a7:=⟨⟨s.S.a8.set i ⟨(ce s i).State,(ce s i).Gen,o⟩,s.S.Last⟩,s.Serial⟩
theorem M5(s:a7)(i:Nat)(o:m8):(a10 s i o).S.a8.length=s.S.a8.length:=by simp[a10]
theorem a5J{α:Type}{l:List α}{i:Nat}(hi:i<l.length)(c d:α)(j:Nat):(l.set i c).getD j d=if j=i then c else l.getD j d:=by
 rw[List.getD_eq_getElem?_getD,List.getD_eq_getElem?_getD,List.getElem?_set];by_cases h:j=i
 ·subst h;rw[if_pos rfl,if_pos hi,if_pos rfl];rfl
 ·rw[if_neg (Ne.symm h),if_neg h]
theorem a6s{s:a7}{i:Nat}(hi:i<s.S.a8.length)(o:m8)(j:Nat):ce (a10 s i o) j=if j=i then ⟨(ce s i).State,(ce s i).Gen,o⟩ else ce s j:=a5J hi _ _ j
theorem b5s{s:a7}{i:Nat}(hi:i<s.S.a8.length)(o:m8)(j:Nat):(ce (a10 s i o) j).State=(ce s j).State∧(ce (a10 s i o) j).Gen=(ce s j).Gen:=by
 rw[a6s hi];split;·rename_i q;subst q;exact⟨rfl,rfl⟩
 ·exact⟨rfl,rfl⟩
theorem b3B{s:a7}{i:Nat}(hi:i<s.S.a8.length)(o:m8){h:Int}{j:Nat}:V4 (a10 s i o) h j↔V4 s h j:=by
 unfold V4 Th;rw[M5,(b5s hi o j).1,(b5s hi o j).2]
theorem b4h{s:a7}{i:Nat}(hi:i<s.S.a8.length)(o:m8){h:Int}{j:Nat}:At (a10 s i o) h j↔At s h j:=by
 unfold At;rw[M5,(b5s hi o j).1,(b5s hi o j).2]
theorem b8C{s:a7}(hR:SR s){h:Int}{i:Nat}(q:V4 s h i)(o:m8):K2 s h o=some (a10 s i o,0):=by
 obtain⟨hi,e⟩:=c0m (v:=o) hR.len ((b0b hR).2 q);unfold K2;rw[e];simp[a10,E5 hi]
theorem SR.put{s:a7}(hR:SR s){i:Nat}(hi:i<s.S.a8.length)(ht:Th (ce s i)){o:m8}(hs:o.Serial=(ce s i).Val.Serial)(ho:OkO s o):SR (a10 s i o):=by
 have hst:=b5s hi o;have hse:∀j,(ce (a10 s i o) j).Val.Serial=(ce s j).Val.Serial:=λj=>by
  rw[a6s hi];split;·rename_i q;subst q;exact hs
  ·rfl
 refine⟨by rw[M5];exact hR.len,hR.l0,hR.l9,hR.ser,λj hj=>?_,λj hj hn=>?_,λj hj hn=>?_,λj k hj hk a b e=>?_⟩
 ·rw[M5] at hj;rw[(hst j).1,(hst j).2];exact hR.cell j hj
 ·rw[M5] at hj;unfold Th at hn;rw[(hst j).1] at hn;rw[a6s hi];split;·rename_i q;subst q;exact absurd ht hn
  ·exact hR.no j hj hn
 ·rw[M5] at hj;unfold Th at hn;rw[(hst j).1] at hn;rw[a6s hi];split;·exact⟨ho.s1,ho.s2,ho.st,ho.wk,ho.p1,ho.p2,ho.fl⟩
  ·have:=hR.ok j hj hn;exact⟨this.s1,this.s2,this.st,this.wk,this.p1,this.p2,this.fl⟩
 ·rw[M5] at hj hk;unfold Th at a b;rw[(hst j).1] at a;rw[(hst k).1] at b;rw[hse,hse] at e;exact hR.dif j k hj hk a b e
theorem c6n{s:a7}(hR:SR s){i:Nat}(hi:i<s.S.a8.length){o:m8}(hs:o.Serial=(ce s i).Val.Serial)(hR':SR (a10 s i o)):lv (a10 s i o)=lv s:=by
 refine c9k hR hR' (M5 ..) λj hj=>?_;rw[a6s hi];split;·rename_i q;subst q;exact⟨Iff.rfl,rfl,hs⟩
 ·exact⟨Iff.rfl,rfl,rfl⟩
theorem d2v{s:a7}(hR:SR s){h:Int}{i:Nat}(q:At s h i){o:m8}(hR':SR (a10 s i o)){k:Int}(hk:k≤9223372036854775807):ob (a10 s i o) k=if k=h then o else ob s k:=by
 by_cases e:k=h
 ·subst e;rw[if_pos rfl,O3 hR' ((b4h q.1 o).2 q),a6s q.1,if_pos rfl]
 ·rw[if_neg e];by_cases hl:∃j,At s k j
  ·obtain⟨j,hj⟩:=hl;rw[O3 hR' ((b4h q.1 o).2 hj),O3 hR hj,a6s q.1,if_neg];intro e2;subst e2;exact e (hj.2.2.trans q.2.2.symm)
  ·rw[a9Q (s7.2 hR) hk (λq2=>hl ((a28 hR).1 q2)),a9Q (s7.2 hR') hk λq2=>hl (by
    obtain⟨j,hj⟩:=(a28 hR').1 q2;exact⟨j,(b4h q.1 o).1 hj⟩)]
def D5(h:Int):Nat:=((h-1) % 32).toNat
theorem V4.D5{s:a7}(hR:SR s){h:Int}{i:Nat}(q:V4 s h i):D5 h=i:=by
 obtain⟨a,_,c⟩:=q;have:=hR.len;unfold Sh.D5;omega
def seO(s:a7)(h:Int)(o:m8):a7:=a10 s (D5 h) o
theorem A1{s:a7}(hR:SR s){h:Int}(hh:h∈lv s):At s h (D5 h):=by
 obtain⟨i,hi⟩:=(a28 hR).1 hh;rw[hi.d.D5 hR];exact hi
theorem J4{s:a7}(hR:SR s){h:Int}(hh:h∈lv s):OkO s (ob s h):=by
 have q:=A1 hR hh;rw[O3 hR q];exact hR.ok _ q.1 (.inl q.2.1)
theorem H4{s:a7}(hR:SR s){h:Int}(hh:h∈lv s):1≤h∧h≤320:=(A1 hR hh).d.rng hR
theorem a9w{s:a7}(hR:SR s):(0:Int)∉lv s:=λh=>by have:=H4 hR h;omega
section
variable{s:a7}(hR:SR s){h:Int}(hh:h∈lv s){o:m8}(hs:o.Serial=(ob s h).Serial)(ho:OkO s o)
include hR hh hs ho
theorem a0Q:SR (seO s h o):=by
 have q:=A1 hR hh;exact hR.put q.1 (.inl q.2.1) (by rw[hs,O3 hR q]) ho
theorem a3x:lv (seO s h o)=lv s:=by
 have q:=A1 hR hh;exact c6n hR q.1 (by rw[hs,O3 hR q]) (a0Q hR hh hs ho)
theorem a2H{k:Int}(hk:k≤9223372036854775807):ob (seO s h o) k=if k=h then o else ob s k:=d2v hR (A1 hR hh) (a0Q hR hh hs ho) hk
theorem b1H:K2 s h o=some (seO s h o,0):=b8C hR (A1 hR hh).d o
theorem c1V{k:Int}{i:Nat}:V4 (seO s h o) k i↔V4 s k i:=b3B (A1 hR hh).1 o
theorem b8B(i:Nat):ce (seO s h o) i=if i=D5 h then ⟨(ce s i).State,(ce s i).Gen,o⟩ else ce s i:=by
 unfold seO;rw[a6s (A1 hR hh).1];split;·rename_i q;rw[q]
 ·rfl
end
abbrev stg(o:m8)(n:Int):m8:=⟨o.Serial,n,o.Weak,o.Prog,o.Started,o.Fields⟩
structure Kin (s s':a7):Prop where
 sr:SR s'
 len:s'.S.a8.length=s.S.a8.length
 last:s'.S.Last=s.S.Last
 ser:s'.Serial=s.Serial
 lv:lv s'=lv s
 ad:∀k i,V4 s' k i↔V4 s k i
 ob:∀k,k≤9223372036854775807→∃n,ob s' k=(stg (ob s k) (n))
 ce:∀i,i<s.S.a8.length→(ce s' i).State=(ce s i).State∧(ce s' i).Gen=(ce s i).Gen∧(ce s' i).Val.Weak=(ce s i).Val.Weak∧(ce s' i).Val.Fields=(ce s i).Val.Fields∧((ce s i).State≠1→ce s' i=ce s i)
theorem Kin.refl{s:a7}(hR:SR s):Kin s s:=⟨hR,rfl,rfl,rfl,rfl,λ_ _=>Iff.rfl,λk _=>⟨_,rfl⟩,λi _=>⟨rfl,rfl,rfl,rfl,λ_=>rfl⟩⟩
theorem Kin.trans{a b c:a7}(h:Kin a b)(q:Kin b c):Kin a c:=by
 refine⟨q.sr,q.len.trans h.len,q.last.trans h.last,q.ser.trans h.ser,q.lv.trans h.lv,λk i=>(q.ad k i).trans (h.ad k i),λk hk=>?_,λi hi=>?_⟩
 ·obtain⟨n,e⟩:=h.ob k hk;obtain⟨m,f⟩:=q.ob k hk;exact⟨m,by rw[f,e]⟩
 ·obtain⟨a1,a2,a3,a4,a5⟩:=h.ce i hi;obtain⟨b1,b2,b3,b4,b5⟩:=q.ce i (by rw[h.len];exact hi)
  refine⟨b1.trans a1,b2.trans a2,b3.trans a3,b4.trans a4,λhn=>?_⟩;rw[b5 (by rw[a1];exact hn),a5 hn]
theorem Kin.outs{s s':a7}(k:Kin s s'){h:Int}(hh:h≤9223372036854775807):outs s' h=outs s h:=by
 obtain⟨n,e⟩:=k.ob h hh;unfold Sh.outs;rw[e]
theorem Kin.inn{s s':a7}(hR:SR s)(k:Kin s s')(h:Int):inn s' h=inn s h:=by
 unfold Sh.inn;rw[k.lv];congr 1;refine List.map_congr_left λx hx=>?_;rw[k.outs (by have:=H4 hR hx;omega)]
theorem c9f{s:a7}(hR:SR s){h:Int}(hh:h∈lv s){n:Int}(hn:0≤n):Kin s (seO s h (stg (ob s h) (n))):=by
 have ho:OkO s (stg (ob s h) (n)):=by
  have:=J4 hR hh;exact⟨this.s1,this.s2,hn,this.wk,this.p1,this.p2,this.fl⟩
 have q:=A1 hR hh;refine⟨a0Q hR hh rfl ho,M5 ..,rfl,rfl,a3x hR hh rfl ho,λk i=>c1V (o:=(stg (ob s h) (n))) hR hh rfl ho,λk hk=>?_,λi hi=>?_⟩
 ·rw[a2H (o:=(stg (ob s h) (n))) hR hh rfl ho hk];split;·rename_i e;subst e;exact⟨n,rfl⟩
  ·exact⟨_,rfl⟩
 ·rw[b8B (o:=(stg (ob s h) (n))) hR hh rfl ho];split
  ·rename_i e;subst e;rw[O3 hR q];exact⟨rfl,rfl,rfl,rfl,λhn=>absurd q.2.1 hn⟩
  ·exact⟨rfl,rfl,rfl,rfl,λ_=>rfl⟩
def SB(s:a7):Prop:=∀c∈s.S.a8,c.Val.Strong≤9223372036854775807
theorem d0B{s:a7}:FB s↔∀i,i<s.S.a8.length→∀x∈(ce s i).Val.Fields,x≤9223372036854775807:=by
 constructor
 ·intro h i hi x hx;rw[E5 hi] at hx;exact h _ (List.getElem_mem hi) x hx
 ·intro h c hc x hx;obtain⟨i,hi,rfl⟩:=List.getElem_of_mem hc;exact h i hi x (by rw[E5 hi];exact hx)
theorem d4S{s:a7}:SB s↔∀i,i<s.S.a8.length→(ce s i).Val.Strong≤9223372036854775807:=by
 constructor
 ·intro h i hi;rw[E5 hi];exact h _ (List.getElem_mem hi)
 ·intro h c hc;obtain⟨i,hi,rfl⟩:=List.getElem_of_mem hc;have:=h i hi;rwa [E5 hi] at this
end Go.Sh
namespace Go.Sh
noncomputable def inr(s:a7)(t:Tb)(h:Int):Nat:=inn s h+own t h
noncomputable def rst(s:a7)(t:Tb)(h:Int):Int:=if h∈lv s then (ob s h).Strong-(inr s t h:Int) else 0
noncomputable def hld(s:a7)(t:Tb):List Int:=(lv s).filter λh=>decide (0<rst s t h∨12≤(ob s h).Strong)
def b84(s:a7)(t:Tb)(l:List Int):Prop:=∀h∈lv s,(ob s h).Strong<12→rst s t h=(W5 l h:Int)
noncomputable instance(s:a7)(t:Tb)(l:List Int):Decidable (b84 s t l):=Classical.propDecidable _
section
variable{s:a7}(hR:RtR (sO s)){t:Tb}(hT:HR t)
include hR hT
theorem c6e(h:Int):a5g s t h=some (inr s t h:Int):=by
 unfold a5g;have h1:=c1i hR h;have h2:=c1w hT.l8 h;rw[d4j hR,d6y,c6U hT,d6y,C6 (by omega) (by omega)]
 unfold inr;simp
theorem c1j(h:Int):a83 (sO s) (t.map J3) h=some (inr s t h:Int):=by
 unfold a83;have h1:=c1i hR h;have h2:=c1w hT.l8 h;rw[c89 hR,d6y,c4F hT,d6y,C6 (by omega) (by omega)]
 unfold inr;simp
theorem c6f(h:Int):inr s t h≤104:=by
 have h1:=c1i hR h;have h2:=c1w hT.l8 h;unfold inr;omega
omit hT in
theorem b2N (hB:SB s) {h:Int} (hh:h∈lv s):0≤(ob s h).Strong∧(ob s h).Strong≤9223372036854775807:=by
 obtain⟨i,hi⟩:=(a28 (s7.1 hR)).1 hh;rw[O3 (s7.1 hR) hi];refine⟨((s7.1 hR).ok i hi.1 (.inl hi.2.1)).st,?_⟩;rw[E5 hi.1];exact hB _ (List.getElem_mem _)
theorem c9T(hB:SB s){h:Int}(hh:h≤9223372036854775807):a7f s t h=some (rst s t h):=by
 unfold a7f;obtain⟨e,h1,h2⟩:=Q1 hR hh;rw[h1,d6y];by_cases q:h∈lv s
 ·have:=h2.2 q;subst this;have h3:=c6f hR hT h;have h4:=b2N hR hB q;rw[if_neg (by simp),c6e hR hT,d6y,C6 (by dsimp only;omega) (by dsimp only;omega)]
  unfold rst;rw[if_pos q]
 ·rw[if_pos (by simpa using λq2=>q (h2.1 q2))]
  unfold rst;rw[if_neg q]
theorem b6U(hB:SB s){h:Int}(hh:h≤9223372036854775807):a8g (sO s) (t.map J3) h=some (rst s t h):=by
 unfold a8g;obtain⟨e,h1,h2⟩:=Q1 hR hh;rw[a4h s (by have:=a16 hR;omega) hh,h1,Option.map_some,d6y]
 by_cases q:h∈lv s
 ·have:=h2.2 q;subst this;have h3:=c6f hR hT h;have h4:=b2N hR hB q;rw[if_neg (by simp),c1j hR hT,d6y]
  simp only[oo];rw[C6 (by omega) (by omega)]
  unfold rst;rw[if_pos q]
 ·rw[if_pos (by simpa using λq2=>q (h2.1 q2))]
  unfold rst;rw[if_neg q]
omit hT in
theorem b5q {h:Int} (hh:h≤9223372036854775807):a5W (sO s) h=some (decide (12≤(ob s h).Strong)):=by
 unfold a5W a0B;obtain⟨e,h1,h2⟩:=Q1 hR hh;rw[a4h s (by have:=a16 hR;omega) hh,h1,Option.map_some,d6y,d6y]
 rfl
omit hT in
theorem c20 {k:Nat} (hk:k<(lv s).length):(lv s)[k]≤9223372036854775807:=by
 have:=a5s hR (List.getElem_mem hk);omega
theorem c87(hB:SB s):a7d s t=some (hld s t):=by
 unfold a7d;simp only[jn];have h24:=F3 hR;rw[a1W hR,d6y,F9 (lv s) (λb x=>if decide (0<rst s t x∨12≤(ob s x).Strong) then b ++ [x] else b) id (λk b=>b.length≤k) (by omega) (by simp) (λk hk b hI=>?_) (λb _=>by simp),d6y]
 ·rw[foldl_filter];rfl
 ·have hm:=List.getElem_mem hk;have hle:=c20 hR hk;simp only[Int.ofNat_lt,hk,decide_true,if_true,o9 hk,d6y];rw[b2j hR hm,d6y];unfold a7e a7R G0;rw[c9T hR hT hB hle,d6y,d6y];by_cases q:0<rst s t (lv s)[k]
  ·rw[decide_eq_true (show rst s t (lv s)[k] > 0 from q)];simp only[show ((true==false):Bool)=false from rfl,a79,d6y,Bool.true_or,if_true];rw[A2 (by omega) (by simp;omega),d6y,l5,if_pos (decide_eq_true (.inl q))]
   exact⟨rfl,by simp;omega⟩
  ·rw[decide_eq_false (show ¬rst s t (lv s)[k] > 0 from q)];simp only[beq_self_eq_true,U7,d6y,Bool.false_or];by_cases q2:12≤(ob s (lv s)[k]).Strong
   ·rw[if_pos (decide_eq_true q2),A2 (by omega) (by simp;omega),d6y,l5,if_pos (decide_eq_true (.inr q2))]
    exact⟨rfl,by simp;omega⟩
   ·rw[if_neg (by simpa using q2),l5,if_neg (by simp only[decide_eq_true_eq];exact λc=>c.elim q q2)]
    exact⟨rfl,by omega⟩
theorem c4i(hB:SB s):b45 (sO s) (t.map J3)=some (hld s t):=by
 unfold b45;simp only[jn];have h24:=F3 hR;rw[a5r hR,d6y,F9 (lv s) (λb x=>if decide (0<rst s t x∨12≤(ob s x).Strong) then b ++ [x] else b) id (λk b=>b.length≤k) (by omega) (by simp) (λk hk b hI=>?_) (λb _=>by simp),d6y]
 ·rw[foldl_filter];rfl
 ·have hle:=c20 hR hk;simp only[Int.ofNat_lt,hk,decide_true,if_true,o9 hk,d6y];rw[b6U hR hT hB hle,d6y];by_cases q:0<rst s t (lv s)[k]
  ·rw[decide_eq_true (show rst s t (lv s)[k] > 0 from q)];simp only[show ((true==false):Bool)=false from rfl,a79,d6y,Bool.true_or,if_true];rw[A2 (by omega) (by simp;omega),d6y,l5,if_pos (decide_eq_true (.inl q))]
   exact⟨rfl,by simp;omega⟩
  ·rw[decide_eq_false (show ¬rst s t (lv s)[k] > 0 from q)];simp only[beq_self_eq_true,U7,d6y,Bool.false_or];rw[b5q hR hle,d6y];by_cases q2:12≤(ob s (lv s)[k]).Strong
   ·rw[if_pos (decide_eq_true q2),A2 (by omega) (by simp;omega),d6y,l5,if_pos (decide_eq_true (.inr q2))]
    exact⟨rfl,by simp;omega⟩
   ·rw[if_neg (by simpa using q2),l5,if_neg (by simp only[decide_eq_true_eq];exact λc=>c.elim q q2)]
    exact⟨rfl,by omega⟩
omit hT in
theorem c2R:(hld s t).length≤24:=Nat.le_trans (List.length_filter_le ..) (F3 hR)
omit hR hT in
theorem b3G {h:Int}:h∈hld s t↔h∈lv s∧(0<rst s t h∨12≤(ob s h).Strong):=by
 unfold hld;rw[List.mem_filter,decide_eq_true_eq]
omit hT in
theorem d1V:LB (hld s t):=λx hx=>by have:=a5s hR (b3G.1 hx).1;omega
theorem c1e(hTB:TB t)(hF:FB s)(hB:SB s):a02 s t=some (fls s t (hld s t)):=by
 unfold a02;have:=c2R hR (t:=t);rw[c87 hR hT hB,d6y,c5Z hR hT hTB hF (d1V hR) (by omega)]
 rfl
theorem b7z(hTB:TB t)(hB:SB s):a8f (sO s) (t.map J3)=some (fls s t (hld s t)):=by
 unfold a8f;have:=c2R hR (t:=t);rw[c4i hR hT hB,d6y,c1a hR hT hTB (by omega)]
 rfl
theorem c39(hB:SB s){l:List Int}(hl:l.length≤1000000):b1w (sO s) (t.map J3) l=some (decide (b84 s t l)):=by
 unfold b1w;simp only[jn];have h24:=F3 hR;rw[a5r hR,d6y,b4L (lv s) (λx => !decide ((ob s x).Strong<12∧rst s t x≠(W5 l x:Int))) (.inr ()) (.inl false) (by omega) (λk hk=>?_) (by simp),d6y]
 ·have:(lv s).all (λx => !decide ((ob s x).Strong<12∧rst s t x≠(W5 l x:Int)))=decide (b84 s t l):=by
   rw[Bool.eq_iff_iff,decide_eq_true_iff,List.all_eq_true];constructor
   ·intro e h hh hs;have:=e h hh;simp only[Bool.not_eq_true',decide_eq_false_iff_not,not_and,Decidable.not_not] at this;exact this hs
   ·intro q h hh;simp only[Bool.not_eq_true',decide_eq_false_iff_not,not_and,Decidable.not_not];exact q h hh
  rw[this];by_cases q:b84 s t l
  ·rw[decide_eq_true q];rfl
  ·rw[decide_eq_false q];rfl
 ·have hle:=c20 hR hk;simp only[Int.ofNat_lt,hk,decide_true,if_true,o9 hk,d6y];rw[b5q hR hle,d6y];by_cases q2:12≤(ob s (lv s)[k]).Strong
  ·rw[decide_eq_true q2];simp only[Bool.not_true,show ((false==true):Bool)=false from rfl,a79,d6y,Bool.false_and,Bool.false_eq_true,if_false];rw[l5,if_pos (by simp;omega)]
  ·rw[decide_eq_false q2];simp only[Bool.not_false,beq_self_eq_true,U7,Bool.true_and];rw[b6U hR hT hB hle,d6y,a7c _ _ hl,d6y];by_cases q3:rst s t (lv s)[k]=(W5 l (lv s)[k]:Int)
   ·rw[if_neg (by simpa using q3),l5,if_pos (by simp[q3])]
   ·rw[if_pos (by simpa using q3),if_neg (by simp;exact⟨by omega,q3⟩)]
end
end Go.Sh
namespace Go.Sh
abbrev TQ:=c9
def tad(q:TQ)(t:k8):TQ × Int:=if q.Cap≤q.L.length then (q,4) else (⟨q.L ++ [t],q.Cap⟩,0)
def tnx(q:TQ):TQ × k8 × Int:=match q.L with
 | []=>(q,⟨0,0,0⟩,10)
 | t::l=>(⟨l,q.Cap⟩,t,0)
theorem d0W{q:TQ}(t:k8)(h:q.L.length≤1000):a8B q t=some (tad q t):=by
 unfold tad;unfold a8B Q5 I8 F4;simp only[d6y];by_cases c:q.Cap≤q.L.length
 ·rw[if_pos (by simpa using c),if_pos c,d6y]
 ·rw[if_neg (by simpa using c),if_neg c]
  have e:cut q.L 0 (q.L.length:Int)=some q.L:=by
   have:=a98 (xs:=q.L) (i:=0) (j:=q.L.length) (Nat.zero_le _) (Nat.le_refl _);simpa using this
  rw[e,d6y,d6y,A2 (by omega) (by simp;omega),d6y,d6y]
theorem b8K{q:TQ}:a1A q=some (tnx q):=by
 unfold tnx;unfold a1A a0P Z2 I8 F4;simp only[d6y];cases hl:q.L with
 | nil=>
  have e:cut ([]:List k8) 0 0=some []:=rfl;simp[e]
 | cons t l=>
  have hm:(if (if (((t::l).length:Nat):Int)<1 then (((t::l).length:Nat):Int) else 1) > 0 then (if (((t::l).length:Nat):Int)<1 then (((t::l).length:Nat):Int) else 1) else 0)=1:=by
   rw[if_neg (show ¬(((t::l).length:Nat):Int)<1 by simp;omega)]
   simp
  rw[hm];have e1:cut (t::l) 0 1=some [t]:=by
   have:=a98 (xs:=t::l) (i:=0) (j:=1) (Nat.zero_le _) (by simp)
   simpa using this
  have e2:cut (t::l) 1 (((t::l).length:Nat):Int)=some l:=by
   have:=a98 (xs:=t::l) (i:=1) (j:=(t::l).length) (by simp) (Nat.le_refl _)
   simpa using this
  rw[e1,e2];simp[ix]
theorem c4c{α β:Type}(p:α→Bool)(f:α→β)(l:List α)(k:Nat)(h:k<l.length):((l.take (k+1)).filter p).map f=((l.take k).filter p).map f++(if p l[k] then [f l[k]] else []):=by
 rw[List.take_succ_eq_append_getElem h,List.filter_append,List.map_append];congr 1;simp only[List.filter_cons,List.filter_nil];split <;> rfl
theorem d0a{q:TQ}{w:Int}(h:q.L.length≤1000):a4B q w=some (q.L.any λt=>t.Kind==2&&t.At==w):=by
 unfold a4B b3W;simp only[jn,d6y];refine R6 q.L.length (λk=>(q.L.take k).any (λt=>t.Kind==2&&t.At==w)=false) (by omega) (by simp) ?_ (λhl=>⟨.inr (),by simp,by rw[List.take_length] at hl;rw[hl]⟩)
 intro k hk hP;simp only[Int.ofNat_lt,hk,decide_true,if_true,o9 hk,d6y];rw[List.take_succ_eq_append_getElem hk,List.any_append,hP,Bool.false_or];by_cases c:(q.L[k].Kind==2)=true
 ·rw[c,if_pos (by decide)]
  by_cases d:(q.L[k].At==w)=true
  ·right;rw[d,if_pos rfl];refine⟨.inl true,rfl,?_⟩;simp only[Option.some.injEq];symm
   rw[List.any_eq_true];exact⟨_,List.getElem_mem hk,by rw[c,d];rfl⟩
  ·have d:(q.L[k].At==w)=false:=by simpa using d
   left;rw[d,if_neg (by decide),l5]
   exact⟨rfl,by simp[d]⟩
 ·have c:(q.L[k].Kind==2)=false:=by simpa using c
  left;rw[c,if_neg (by decide),l5]
  exact⟨rfl,by simp[c]⟩
end Go.Sh
namespace Go.Sh
def tkR(t:k8):w7:=⟨t.Kind,t.At,t.Prog⟩
def tqR(q:TQ):y7:=⟨q.L.map tkR,q.Cap⟩
theorem d0T{q:TQ}(t:k8)(h:q.L.length≤1000):a6X (tqR q) (tkR t)=some (tqR (tad q t).1,(tad q t).2):=by
 unfold a6X tad;have hl:(tqR q).L.length=q.L.length:=by simp[tqR]
 by_cases c:q.Cap≤q.L.length
 ·rw[if_pos (by simp[hl];exact c),if_pos c]
 ·rw[if_neg (by simp[hl];exact Int.not_le.1 c),if_neg c,M3 (by omega) (by rw[hl];omega),d6y,A2 (by omega) (by simp[hl];omega),d6y]
  simp[tqR]
theorem d2P{q:TQ}:b46 (tqR q)=some (tqR (tnx q).1,tkR (tnx q).2.1,(tnx q).2.2):=by
 unfold b46 tnx;obtain⟨L,C⟩:=q;cases L with
 | nil=>simp[tqR,tkR]
 | cons t l=>
  rw[if_neg (by simp[tqR];omega)]
  have e:cut (tqR ⟨t::l,C⟩).L 1 (((tqR ⟨t::l,C⟩).L.length:Nat):Int)=some (l.map tkR):=by
   have:=a98 (xs:=(tqR ⟨t::l,C⟩).L) (i:=1) (j:=(tqR ⟨t::l,C⟩).L.length) (by simp[tqR]) (Nat.le_refl _)
   rw[show (1:Int)=((1:Nat):Int) from rfl,this,List.take_length];simp[tqR]
  rw[e];simp[ix,tqR]
theorem d2O{q:TQ}(h:q.L.length≤1000):a8h (tqR q)=some ((q.L.filter (·.Kind==1)).map (·.At)):=by
 unfold a8h;have hl:(tqR q).L.length=q.L.length:=by simp[tqR]
 simp only[jn,hl];refine M4 q.L.length (λk l=>l=((q.L.take k).filter (·.Kind==1)).map (·.At)) (by omega) (by simp) ?_ (λl hl=>⟨_,by simp;rfl,by rw[hl,List.take_length]⟩)
 rintro k l hk rfl;left;rw[c4c _ _ _ _ hk];have e:ix (tqR q).L (k:Int)=some (tkR q.L[k]):=by rw[show (tqR q).L=q.L.map tkR from rfl,a0y,o9 hk];rfl
 simp only[Int.ofNat_lt,hk,decide_true,if_true,e,d6y];have hle:(List.map (·.At) (List.filter (·.Kind==1) (List.take k q.L))).length≤1000:=by
  rw[List.length_map];exact Nat.le_trans (List.length_filter_le ..) (by simp;omega)
 by_cases c:(q.L[k].Kind==1)=true
 ·rw[show ((tkR q.L[k]).Kind==1)=true from c,if_pos rfl,A2 (by omega) (by simp only[List.length_cons,List.length_nil];omega),d6y,l5,if_pos c]
  exact⟨_,rfl,rfl⟩
 ·have c:(q.L[k].Kind==1)=false:=by simpa using c
  rw[show ((tkR q.L[k]).Kind==1)=false from c,if_neg (by decide),l5,if_neg (by simp[c])]
  exact⟨_,rfl,by simp⟩
theorem c3k{q:TQ}{w:Int}(h:q.L.length≤1000):a2B (tqR q) w=some (q.L.any λt=>t.Kind==2&&t.At==w):=by
 unfold a2B;have hl:(tqR q).L.length=q.L.length:=by simp[tqR]
 simp only[jn,hl];refine R6 q.L.length (λk=>(q.L.take k).any (λt=>t.Kind==2&&t.At==w)=false) (by omega) (by simp) ?_ (λhl=>⟨.inr (),by simp,by rw[List.take_length] at hl;rw[hl]⟩)
 intro k hk hP;have e:ix (tqR q).L (k:Int)=some (tkR q.L[k]):=by rw[show (tqR q).L=q.L.map tkR from rfl,a0y,o9 hk];rfl
 simp only[Int.ofNat_lt,hk,decide_true,if_true,e,d6y];rw[List.take_succ_eq_append_getElem hk,List.any_append,hP,Bool.false_or];by_cases c:(q.L[k].Kind==2&&q.L[k].At==w)=true
 ·right;rw[show ((tkR q.L[k]).Kind==2&&(tkR q.L[k]).At==w)=true from c,if_pos rfl];refine⟨.inl true,rfl,?_⟩;simp only[Option.some.injEq];symm
  rw[List.any_eq_true];exact⟨_,List.getElem_mem hk,c⟩
 ·have c:(q.L[k].Kind==2&&q.L[k].At==w)=false:=by simpa using c
  left;rw[show ((tkR q.L[k]).Kind==2&&(tkR q.L[k]).At==w)=false from c,if_neg (by decide),l5]
  exact⟨rfl,by simp[c]⟩
end Go.Sh
namespace Go.Sh
abbrev Hp:=b7
abbrev wS(x:Hp)(s:a7):Hp:=⟨s,x.Roots,x.a8,x.T,x.Q⟩
abbrev wR(x:Hp)(l:List Int):Hp:=⟨x.S,l,x.a8,x.T,x.Q⟩
abbrev wC(x:Hp)(l:List g5):Hp:=⟨x.S,x.Roots,l,x.T,x.Q⟩
abbrev wT(x:Hp)(t:Tb):Hp:=⟨x.S,x.Roots,x.a8,t,x.Q⟩
abbrev wQ(x:Hp)(q:TQ):Hp:=⟨x.S,x.Roots,x.a8,x.T,q⟩
def nmg(l:List g5)(h:Int):Nat:=l.countP λc=>(h != 0)&&(c.Target==h)
def b3j(q:TQ):List Int:=(q.L.filter (·.Kind==1)).map (·.At)
def wts(q:TQ)(w:Int):Bool:=q.L.any λt=>t.Kind==2&&t.At==w
def otr(x:Hp):List Int:=nz x.Roots++b3j x.Q
noncomputable def nms(x:Hp)(h:Int):Nat:=inn x.S h+own x.T h+W5 (otr x) h
def G9(s:a7)(i:Nat)(c:b8):a7:=⟨⟨s.S.a8.set i c,s.S.Last⟩,s.Serial⟩
theorem X4(s:a7)(i:Nat)(c:b8):(G9 s i c).S.a8.length=s.S.a8.length:=by simp[G9]
theorem K6{s:a7}{i:Nat}(hi:i<s.S.a8.length)(c:b8)(j:Nat):ce (G9 s i c) j=if j=i then c else ce s j:=a5J hi _ _ j
theorem SR.G9{s:a7}(hR:SR s){i:Nat}(hi:i<s.S.a8.length){c:b8}(h1:0≤c.State∧c.State≤3∧0≤c.Gen∧c.Gen≤s.S.Last)(h2:¬Th c→b5J (oo c.Val))(h3:Th c→OkO s c.Val∧Th (ce s i)∧c.Val.Serial=(ce s i).Val.Serial):SR (G9 s i c):=by
 have key:∀j,Th (ce (Sh.G9 s i c) j)→Th (ce s j)∧(ce (Sh.G9 s i c) j).Val.Serial=(ce s j).Val.Serial:=λj hj=>by
  rw[K6 hi] at hj ⊢;split at hj
  ·rename_i e;subst e;rw[if_pos rfl];exact (h3 hj).2
  ·rename_i e;rw[if_neg e];exact⟨hj,rfl⟩
 refine⟨by rw[X4];exact hR.len,hR.l0,hR.l9,hR.ser,λj hj=>?_,λj hj hn=>?_,λj hj hn=>?_,λj k hj hk a b e=>?_⟩
 ·rw[X4] at hj;rw[K6 hi];split;·exact h1
  ·exact hR.cell j hj
 ·rw[X4] at hj;rw[K6 hi] at hn ⊢;split at hn
  ·rename_i e;rw[if_pos e];exact h2 hn
  ·rename_i e;rw[if_neg e];exact hR.no j hj hn
 ·rw[X4] at hj;rw[K6 hi] at hn ⊢;split at hn
  ·rename_i e;rw[if_pos e];have:=(h3 hn).1;exact⟨this.s1,this.s2,this.st,this.wk,this.p1,this.p2,this.fl⟩
  ·rename_i e;rw[if_neg e];have:=hR.ok j hj hn;exact⟨this.s1,this.s2,this.st,this.wk,this.p1,this.p2,this.fl⟩
 ·rw[X4] at hj hk;obtain⟨a1,a2⟩:=key j a;obtain⟨b1,b2⟩:=key k b;rw[a2,b2] at e;exact hR.dif j k hj hk a1 b1 e
theorem c5l{s:a7}{i:Nat}(hi:i<s.S.a8.length)(c:b8){h:Int}{j:Nat}(hj:j≠i):V4 (G9 s i c) h j↔V4 s h j:=by
 unfold V4;rw[X4,K6 hi,if_neg hj]
theorem b3C{s:a7}{i:Nat}(hi:i<s.S.a8.length)(c:b8){h:Int}{j:Nat}(hj:j≠i):At (G9 s i c) h j↔At s h j:=by
 unfold At;rw[X4,K6 hi,if_neg hj]
theorem c22{s:a7}(hR:SR s){i:Nat}(hi:i<s.S.a8.length){c:b8}(hc:c.State≠1)(hR':SR (G9 s i c)):lv (G9 s i c)=(lv s).filter λh=>decide (D5 h≠i):=by
 have hno:∀h,¬At (G9 s i c) h i:=λh q=>by
  have:=q.2.1;rw[K6 hi,if_pos rfl] at this;exact hc this
 refine c6p hR hR' _ (λh=>?_) (λh j k q q'=>?_)
 ·rw[decide_eq_true_iff];constructor
  ·rintro⟨j,hj⟩;have hne:j≠i:=λe=>hno h (e▸hj);have:=(b3C hi c hne).1 hj;exact⟨⟨j,this⟩,by rw[this.d.D5 hR];exact hne⟩
  ·rintro⟨⟨j,hj⟩,hp⟩;rw[hj.d.D5 hR] at hp;exact⟨j,(b3C hi c hp).2 hj⟩
 ·have hne:j≠i:=λe=>hno h (e▸q);have q2:=(b3C hi c hne).1 q;have:=V4.one hR q2.d q'.d;subst this;rw[K6 hi,if_neg hne]
theorem c29{s:a7}(hR:SR s){i:Nat}(hi:i<s.S.a8.length){c:b8}(hR':SR (G9 s i c)){k:Int}(hk:k∈lv s)(hp:D5 k≠i):ob (G9 s i c) k=ob s k:=by
 have q:=A1 hR hk;rw[O3 hR' ((b3C hi c hp).2 q),O3 hR q,K6 hi,if_neg hp]
structure Kn (s s':a7):Prop where
 sr:SR s'
 len:s'.S.a8.length=s.S.a8.length
 lv:lv s'=lv s
 ad:∀k i,V4 s' k i↔V4 s k i
 ob:∀k,k∈Sh.lv s→∃n m,ob s' k=⟨(ob s k).Serial,n,m,(ob s k).Prog,(ob s k).Started,(ob s k).Fields⟩
theorem Kin.kn{s s':a7}(hR:SR s)(k:Kin s s'):Kn s s':=⟨k.sr,k.len,k.lv,k.ad,λh hh=>by
 obtain⟨n,e⟩:=k.ob h (by have:=H4 hR hh;omega)
 exact⟨n,_,e⟩⟩
theorem Kn.inn{s s':a7}(k:Kn s s')(h:Int):inn s' h=inn s h:=by
 unfold Sh.inn;rw[k.lv];congr 1;refine List.map_congr_left λx hx=>?_;obtain⟨n,m,e⟩:=k.ob x hx;unfold Sh.outs;rw[e]
structure HpS (x:Hp):Prop where
 sr:SR x.S
 hr:HR x.T
 r6:x.Roots.length=6
 c6:x.a8.length=6
 cap:x.Q.Cap=30
 q30:x.Q.L.length≤30
 tk:∀t∈x.Q.L,0≤t.Prog∧t.Prog≤5∧((t.Kind=1∧t.At∈lv x.S∧(ob x.S t.At).Started=true)∨(t.Kind=2∧0≤t.At∧t.At≤5))
 td:x.Q.L.Pairwise λa b=>¬(a.Kind=b.Kind∧a.At=b.At)
 rt:∀h∈x.Roots,h=0∨h∈lv x.S
 fl:∀h∈lv x.S,∀v∈(ob x.S h).Fields,v=0∨v∈lv x.S
 pr:∀k v,Has x.T k v→k∈lv x.S∧v∈lv x.S
 cl:∀i (hi:i<x.a8.length),-1≤x.a8[i].Call∧x.a8[i].Call≤5∧(x.a8[i].Target=0→x.a8[i].Intact=false)∧(x.a8[i].Target≠0→∃p,V4 x.S x.a8[i].Target p)∧(x.a8[i].Intact=true→x.a8[i].Target∈lv x.S∧wts x.Q i=false)
def Wk(x:Hp):Prop:=∀i,i<x.S.S.a8.length→Th (ce x.S i)→(ce x.S i).Val.Weak=(nmg x.a8 (1+(i:Int)+32*(ce x.S i).Gen):Int)∧((ce x.S i).State=2→1≤(ce x.S i).Val.Weak∧(ce x.S i).Val.Fields = []∧(ce x.S i).Val.Strong=0)
def a1l(x:Hp)(L:List Int):Prop:=∀h∈lv x.S,(ob x.S h).Strong<12→(ob x.S h).Strong=((nms x h+W5 L h:Nat):Int)
structure M2 (x:Hp):Prop where
 sh:HpS x
 wk:Wk x
 fair:a1l x []
theorem HpS.of{x:Hp}(h:HpS x){s':a7}(hS:SR s')(hl:lv s'=lv x.S)(hd:∀k i,V4 x.S k i→V4 s' k i)(hst:∀k∈lv x.S,(ob x.S k).Started=true→(ob s' k).Started=true)(hfl:∀k∈lv x.S,∀v∈(ob s' k).Fields,v=0∨v∈lv x.S):HpS (wS x s'):=by
 refine⟨hS,h.hr,h.r6,h.c6,h.cap,h.q30,λt ht=>?_,h.td,λk hk=>?_,λk hk=>?_,λk v hkv=>?_,λi hi=>?_⟩
 ·obtain⟨a,b,c⟩:=h.tk t ht;refine⟨a,b,?_⟩;rcases c with ⟨c1,c2,c3⟩ | c;·exact .inl ⟨c1,by rw[hl];exact c2,hst _ c2 c3⟩
  ·exact .inr c
 ·dsimp only;rw[hl];exact h.rt k hk
 ·dsimp only at hk ⊢;rw[hl] at hk ⊢;exact hfl k hk
 ·dsimp only;rw[hl];exact h.pr k v hkv
 ·obtain⟨a,b,c,d,e⟩:=h.cl i hi;refine⟨a,b,c,λq=>?_,λq=>?_⟩
  ·obtain⟨p,hp⟩:=d q;exact⟨p,hd _ _ hp⟩
  ·dsimp only;rw[hl];exact e q
theorem HpS.kn{x:Hp}(h:HpS x){s':a7}(k:Kn x.S s'):HpS (wS x s'):=by
 refine h.of k.sr k.lv (λj i q=>(k.ad j i).2 q) (λj hj q=>?_) (λj hj=>?_)
 ·obtain⟨n,m,e⟩:=k.ob j hj;rw[e];exact q
 ·obtain⟨n,m,e⟩:=k.ob j hj;rw[e];exact h.fl j hj
theorem HpS.kin{x:Hp}(h:HpS x){s':a7}(k:Kin x.S s'):HpS (wS x s'):=h.kn (k.kn h.sr)
theorem Wk.kin{x:Hp}(h:Wk x){s':a7}(k:Kin x.S s'):Wk (wS x s'):=by
 intro i hi ht;dsimp only at hi ht ⊢;rw[k.len] at hi;obtain⟨a,b,c,d,e⟩:=k.ce i hi;unfold Th at ht;rw[a] at ht;obtain⟨f,g⟩:=h i hi ht;rw[a,b,c];refine⟨f,λq=>?_⟩;have e':=e (by omega)
 rw[←c,e'];exact g q
theorem HpS.roots{x:Hp}(h:HpS x){l:List Int}(hl:l.length=6)(hr:∀v∈l,v=0∨v∈lv x.S):HpS (wR x l):=⟨h.sr,h.hr,hl,h.c6,h.cap,h.q30,h.tk,h.td,hr,h.fl,h.pr,h.cl⟩
theorem HpS.table{x:Hp}(h:HpS x){t:Tb}(hr:HR t)(hp:∀k v,Has t k v→k∈lv x.S∧v∈lv x.S):HpS (wT x t):=⟨h.sr,hr,h.r6,h.c6,h.cap,h.q30,h.tk,h.td,h.rt,h.fl,hp,h.cl⟩
def U4(c:Int):Int:=if 12≤c then 12 else if c<0 then 1 else c+1
def a5G(c:Int):Int:=if 12≤c then 12 else if c<1 then c else c-1
theorem D8{c:Int}(h:0≤c):0≤U4 c:=by unfold U4;split <;> (try split) <;> omega
theorem N9{c:Int}(h:0≤c):0≤a5G c:=by unfold a5G;split <;> (try split) <;> omega
noncomputable def stO(x:Hp)(h:Int)(f:Int→Int):Hp:=if h∈lv x.S then wS x (seO x.S h (stg (ob x.S h) (f (ob x.S h).Strong))) else x
noncomputable def C5(x:Hp)(h:Int):Hp:=stO x h U4
noncomputable def Q3(x:Hp)(h:Int):Hp:=stO x h a5G
theorem b5o(x:Hp)(h:Int)(f:Int→Int):stO x h f=wS x (stO x h f).S:=by
 unfold stO;split <;> rfl
theorem b2F(x:Hp)(h:Int):C5 x h=wS x (C5 x h).S:=b5o x h U4
theorem d2Z(x:Hp)(h:Int):Q3 x h=wS x (Q3 x h).S:=b5o x h a5G
section
variable{x:Hp}(hR:SR x.S)(h:Int){f:Int→Int}(hf:∀c,0≤c→0≤f c)
include hR hf
theorem G2:Kin x.S (stO x h f).S:=by
 unfold stO;split
 ·rename_i q;exact c9f hR q (hf _ (J4 hR q).st)
 ·exact Kin.refl hR
theorem b2L{k:Int}(hk:k∈lv x.S):(ob (stO x h f).S k).Strong=if k=h then f (ob x.S k).Strong else (ob x.S k).Strong:=by
 unfold stO;split
 ·rename_i q;dsimp only;have ho:OkO x.S (stg (ob x.S h) (f (ob x.S h).Strong)):=by
   have:=J4 hR q;exact⟨this.s1,this.s2,hf _ this.st,this.wk,this.p1,this.p2,this.fl⟩
  rw[a2H (o:=stg (ob x.S h) (f (ob x.S h).Strong)) hR q rfl ho (by have:=H4 hR hk;omega)]
  split;·rename_i e;subst e;rfl
  ·rfl
 ·rename_i q;rw[if_neg];intro e;subst e;exact q hk
theorem b3V(k:Int):nms (stO x h f) k=nms x k:=by
 rw[b5o];unfold nms otr;dsimp only;rw[(G2 hR h hf).inn hR]
end
theorem HpS.st{x:Hp}(h:HpS x)(k:Int){f:Int→Int}(hf:∀c,0≤c→0≤f c):HpS (stO x k f):=by
 rw[b5o];exact h.kin (G2 h.sr k hf)
theorem Wk.st{x:Hp}(h:Wk x)(hR:SR x.S)(k:Int){f:Int→Int}(hf:∀c,0≤c→0≤f c):Wk (stO x k f):=by
 rw[b5o];exact h.kin (G2 hR k hf)
theorem P9(h:Int):W5 [] h=0:=by unfold W5;split <;> rfl
theorem G4(v:Int)(L:List Int)(h:Int):W5 (v::L) h=W5 L h+if v=h∧h≠0 then 1 else 0:=by
 unfold W5;by_cases h0:h=0
 ·simp[h0]
 ·rw[if_neg h0,if_neg h0,List.count_cons];by_cases e:v=h
  ·simp[e,h0]
  ·simp[e]
theorem c0i{x:Hp}(hR:SR x.S){L:List Int}(hf:a1l x L)(v:Int):a1l (C5 x v) (v::L):=by
 intro h hh hlt;unfold C5 at hh hlt ⊢;rw[(G2 hR v λc=>D8).lv] at hh;rw[b2L hR v (λc=>D8) hh] at hlt ⊢;rw[b3V hR v λc=>D8,G4];have h0:h≠0:=λe=>a9w hR (e▸hh);have hp:=(J4 hR hh).st;by_cases e:h=v
 ·subst e;rw[if_pos rfl] at hlt ⊢;have:=hf h hh (by unfold U4 at hlt;split at hlt <;> omega)
  rw[if_pos ⟨rfl,h0⟩];unfold U4 at hlt ⊢;split at hlt;·omega
  ·rename_i q;rw[if_neg q,if_neg (by omega)]
   omega
 ·rw[if_neg e] at hlt ⊢;rw[if_neg (λq=>e q.1.symm)];exact hf h hh hlt
theorem b1D{x:Hp}(hR:SR x.S){L:List Int}{v:Int}(hf:a1l x (v::L)):a1l (Q3 x v) L:=by
 intro h hh hlt;unfold Q3 at hh hlt ⊢;rw[(G2 hR v λc=>N9).lv] at hh;rw[b2L hR v (λc=>N9) hh] at hlt ⊢;rw[b3V hR v λc=>N9];have h0:h≠0:=λe=>a9w hR (e▸hh);have hp:=(J4 hR hh).st;by_cases e:h=v
 ·subst e;rw[if_pos rfl] at hlt ⊢;have:=hf h hh (by unfold a5G at hlt;split at hlt <;> omega)
  rw[G4,if_pos ⟨rfl,h0⟩] at this;unfold a5G at hlt ⊢;split at hlt;·omega
  ·rename_i q;rw[if_neg q,if_neg (by omega)]
   omega
 ·rw[if_neg e] at hlt ⊢;have:=hf h hh hlt;rw[G4,if_neg (λq=>e q.1.symm)] at this;exact this
theorem a1l.mv{x x':Hp}{L L':List Int}(hf:a1l x L)(hl:lv x'.S=lv x.S)(hs:∀h∈lv x.S,(ob x'.S h).Strong=(ob x.S h).Strong)(hn:∀h∈lv x.S,nms x' h+W5 L' h=nms x h+W5 L h):a1l x' L':=by
 intro h hh hlt;rw[hl] at hh;rw[hs h hh] at hlt ⊢;rw[hf h hh hlt,hn h hh]
end Go.Sh
namespace Go.Sh
theorem b3X:∀ {l:List Int} {r:Nat} (hr:r<l.length) (h k:Int),W5 (l.set r h) k+W5 [l.getD r 0] k=W5 l k+W5 [h] k
 | [],_,hr,_,_=>by simp at hr
 | a::l,0,_,h,k=>by
  rw[List.set_cons_zero,List.getD_cons_zero,G4 h l,G4 a l,G4 a [],G4 h [],P9];omega
 | a::l,r+1,hr,h,k=>by
  rw[List.set_cons_succ,List.getD_cons_succ,G4 a,G4 a l];have:=b3X (l:=l) (r:=r) (by simpa using hr) h k
  omega
theorem b0r{x x1:Hp}(hx:M2 x){old new:Int}(h1:HpS (C5 x new)→Wk (C5 x new)→HpS x1∧Wk x1)
  (hl:lv x1.S=lv (C5 x new).S)(hs:∀h∈lv x.S,(ob x1.S h).Strong=(ob (C5 x new).S h).Strong)(hn:∀h∈lv x.S,nms x1 h+W5 [old] h=nms x h+W5 [new] h):M2 (Q3 x1 old):=by
 have l1:lv (C5 x new).S=lv x.S:=(G2 hx.sh.sr new λc=>D8).lv;have f1:a1l (C5 x new) [new]:=c0i hx.sh.sr hx.fair new;obtain⟨h2,w2⟩:=h1 (hx.sh.st new λc=>D8) (hx.wk.st hx.sh.sr new λc=>D8);have f2:a1l x1 [old]:=f1.mv hl (λh hh=>hs h (l1▸hh)) λh hh=>by
  rw[hn h (l1▸hh)];unfold C5;rw[b3V hx.sh.sr new λc=>D8]
 exact⟨h2.st _ λc=>N9,w2.st h2.sr _ λc=>N9,b1D h2.sr f2⟩
noncomputable def G1(x:Hp)(r:Nat)(h:Int):Hp:=Q3 (wR (C5 x h) (x.Roots.set r h)) (x.Roots.getD r 0)
theorem a0k{x:Hp}(hx:M2 x){r:Nat}(hr:r<6){h:Int}(hh:h=0∨h∈lv x.S):M2 (G1 x r h):=by
 have l1:lv (C5 x h).S=lv x.S:=(G2 hx.sh.sr h λc=>D8).lv;refine b0r hx (λa b=>⟨a.roots (by rw[List.length_set];exact hx.sh.r6) (λv hv=>?_),b⟩) rfl (λ_ _=>rfl) (λk hk=>?_)
 ·rw[l1];rcases List.mem_or_eq_of_mem_set hv with q | q
  ·exact hx.sh.rt v q
  ·exact q▸hh
 ·have hi:=(G2 hx.sh.sr h λc=>D8).inn hx.sh.sr k;rw[b2F];unfold nms otr;dsimp only;rw[show inn (C5 x h).S k=inn x.S k from hi,K3,K3,b2O,b2O];have:=b3X (l:=x.Roots) (r:=r) (by rw[hx.sh.r6];exact hr) h k
  omega
theorem c3H{α:Type}:∀ {l:List α} (hn:l.Nodup) {a:α} (ha:a∈l) (f g:α→Nat) (h:∀x∈l,x≠a→f x=g x),(l.map g).sum+f a=(l.map f).sum+g a
 | [],_,_,ha,_,_,_=>by cases ha
 | b::l,hn,a,ha,f,g,h=>by
  rw[List.nodup_cons] at hn;rw[List.map_cons,List.map_cons,List.sum_cons,List.sum_cons];rcases List.mem_cons.1 ha with e | e
  ·subst e;have:l.map g=l.map f:=List.map_congr_left λx hx=>(h x (List.mem_cons_of_mem _ hx) λe=>hn.1 (e▸hx)).symm;rw[this];omega
  ·have:=c3H hn.2 e f g λx hx=>h x (List.mem_cons_of_mem _ hx);have:=h b (List.mem_cons_self ..) λq=>hn.1 (q▸e);omega
abbrev flg(o:m8)(l:List Int):m8:=⟨o.Serial,o.Strong,o.Weak,o.Prog,o.Started,l⟩
theorem c2T{s:a7}(hR:SR s){h:Int}(hh:h∈lv s){o:m8}(hs:o.Serial=(ob s h).Serial)(ho:OkO s o)(y:Int):inn (seO s h o) y+W5 (ob s h).Fields y=inn s y+W5 o.Fields y:=by
 have hle:=H4 hR hh;have:=c3H (b1e (s7.2 hR)) hh (λx=>W5 (outs s x) y) (λx=>W5 (outs (seO s h o) x) y) λx hx hne=>by
  have:=H4 hR hx;unfold outs;rw[a2H hR hh hs ho (by omega),if_neg hne]
 have e:W5 (outs (seO s h o) h) y=W5 o.Fields y:=by
  unfold outs;rw[a2H hR hh hs ho (by omega),if_pos rfl,b2O]
 have e2:W5 (outs s h) y=W5 (ob s h).Fields y:=b2O _ _;rw[e,e2] at this;unfold inn;rw[a3x hR hh hs ho];exact this
noncomputable def a09(x:Hp)(h:Int)(k:Nat)(v:Int):Hp:=Q3 (wS (C5 x v) (seO (C5 x v).S h (flg (ob (C5 x v).S h) ((ob x.S h).Fields.set k v)))) ((ob x.S h).Fields.getD k 0)
theorem b7u{x:Hp}(hx:M2 x){h:Int}(hh:h∈lv x.S){k:Nat}(hk:k<(ob x.S h).Fields.length){v:Int}(hv:v=0∨v∈lv x.S):M2 (a09 x h k v):=by
 have kin:=G2 hx.sh.sr v (f:=U4) λc=>D8;have l1:lv (C5 x v).S=lv x.S:=kin.lv;have hR1:SR (C5 x v).S:=kin.sr;have hh1:h∈lv (C5 x v).S:=by rw[l1];exact hh
 have hle:=H4 hx.sh.sr hh;have hof:(ob (C5 x v).S h).Fields=(ob x.S h).Fields:=by
  obtain⟨n,e⟩:=kin.ob h (by omega)
  show (ob (stO x v U4).S h).Fields=_;rw[e]
 have ho:OkO (C5 x v).S (flg (ob (C5 x v).S h) ((ob x.S h).Fields.set k v)):=by
  have:=J4 hR1 hh1;refine⟨this.s1,this.s2,this.st,this.wk,this.p1,this.p2,?_⟩;have h4:=this.fl;rw[hof] at h4;simpa using h4
 have hob:∀j,j∈lv x.S→ob (seO (C5 x v).S h (flg (ob (C5 x v).S h) ((ob x.S h).Fields.set k v))) j=if j=h then flg (ob (C5 x v).S h) ((ob x.S h).Fields.set k v) else ob (C5 x v).S j:=λj hj=>by
  have:=H4 hx.sh.sr hj;exact a2H (o:=flg (ob (C5 x v).S h) ((ob x.S h).Fields.set k v)) hR1 hh1 rfl ho (by omega)
 refine b0r hx (λa b=>⟨?_,?_⟩) (a3x (o:=flg (ob (C5 x v).S h) ((ob x.S h).Fields.set k v)) hR1 hh1 rfl ho) (λj hj=>?_) (λj hj=>?_)
 ·refine a.of (a0Q (o:=flg (ob (C5 x v).S h) ((ob x.S h).Fields.set k v)) hR1 hh1 rfl ho) (a3x (o:=flg (ob (C5 x v).S h) ((ob x.S h).Fields.set k v)) hR1 hh1 rfl ho) (λj i q=>(c1V (o:=flg (ob (C5 x v).S h) ((ob x.S h).Fields.set k v)) hR1 hh1 rfl ho).2 q) (λj hj q=>?_) (λj hj u hu=>?_)
  ·rw[hob j (l1▸hj)];split;·rename_i e;subst e;exact q
   ·exact q
  ·rw[hob j (l1▸hj)] at hu;split at hu
   ·rename_i e;subst e;rcases List.mem_or_eq_of_mem_set hu with q | q
    ·exact a.fl j hj u (by rw[hof];exact q)
    ·rw[l1,q];exact hv
   ·exact a.fl j hj u hu
 ·intro i hi ht;dsimp only at hi ht ⊢;have hp:=A1 hR1 hh1;unfold seO at hi;rw[M5] at hi;have hce:=b8B (o:=flg (ob (C5 x v).S h) ((ob x.S h).Fields.set k v)) hR1 hh1 rfl ho i;rw[hce] at ht ⊢;split at ht
  ·rename_i e;subst e;rw[if_pos rfl];have:=b _ hp.1 (.inl hp.2.1);dsimp only;refine⟨?_,λq=>absurd q (by rw[hp.2.1];decide)⟩
   rw[←this.1,O3 hR1 hp]
  ·rename_i e;rw[if_neg e];exact b i hi ht
 ·rw[hob j hj];split;·rename_i e;subst e;rfl
  ·rfl
 ·have hi:=c2T (o:=flg (ob (C5 x v).S h) ((ob x.S h).Fields.set k v)) hR1 hh1 rfl ho j;have hi2:=kin.inn hx.sh.sr j;have hi2:inn (C5 x v).S j=inn x.S j:=hi2;rw[hi2,hof] at hi;dsimp only at hi;have:=b3X hk v j;have hrest:C5 x v=wS x (C5 x v).S:=b2F x v;unfold nms otr;dsimp only;rw[show (C5 x v).T=x.T by rw[hrest],show (C5 x v).Roots=x.Roots by rw[hrest],show (C5 x v).Q=x.Q by rw[hrest]]
  omega
theorem c6X{t:Tb}(hT:HR t){k v:Int}{r:Tb × Int × Int}(h:T9 t k v=some r)(h0:r.2.2=0):HR r.1∧(∀y,own r.1 y+W5 [r.2.1] y=own t y+W5 [v] y)∧∀k' v',Has r.1 k' v'→Has t k' v'∨(k'=k∧v'=v∧v≠0):=by
 obtain⟨r',e1,e2,_,e3⟩:=c1W hT k v;rw[h] at e1;cases e1;refine⟨e2,?_⟩;have hos:∀(i:Nat) (p:c4) (y:Int),i<t.length→own (t.set i p) y+(if (pt t i).State=1∧(pt t i).Val=y∧y≠0 then 1 else 0)=own t y+if p.State=1∧p.Val=y∧y≠0 then 1 else 0:=λi p y hi=>by
  have key:∀q:c4,(if ((q.State==1)&&((y != 0)&&(q.Val==y)))=true then 1 else 0:Nat)=if q.State=1∧q.Val=y∧y≠0 then 1 else 0:=λq=>by
   by_cases c:q.State=1∧q.Val=y∧y≠0
   ·rw[if_pos c,if_pos (by simp[c.1,c.2.1,c.2.2])]
   ·rw[if_neg c,if_neg (by simp only[Bool.and_eq_true,beq_iff_eq,bne_iff_ne,ne_eq];exact λq=>c ⟨q.1,q.2.2,q.2.1⟩)]
  have:=c3g hi p y;rw[key,key] at this;exact this
 rcases e3 with ⟨_,rfl⟩ | ⟨hk,hv,⟨i,hi,rfl⟩ | ⟨hn,rfl⟩⟩ | ⟨hk,hv,⟨i,hi,rfl⟩ | ⟨d,hn,hd,hf,hp,rfl⟩ | ⟨hn,ha,rfl⟩⟩;·simp at h0
 ·refine⟨λy=>?_,λk' v' q=>.inl ((b4p hT hi k' v').1 q).2⟩;have:=hos i ⟨2,0,0⟩ y hi.1;rw[G4,G4,P9];subst hv;dsimp only at this ⊢;rw[if_neg (show ¬((2:Int)=1∧(0:Int)=y∧y≠0) by omega)] at this
  rw[if_neg (show ¬((0:Int)=y∧y≠0) by omega)]
  simp only[hi.2.1,true_and] at this;omega
 ·refine⟨λy=>?_,λk' v' q=>.inl q⟩;rw[hv]
 ·refine⟨λy=>?_,λk' v' q=>?_⟩
  ·have:=hos i ⟨1,k,v⟩ y hi.1;rw[G4,G4,P9];simp only[hi.2.1,true_and] at this;dsimp only;omega
  ·rcases (b7Z hT (.old i hi) rfl k' v').1 q with ⟨a,b⟩ | ⟨_,b⟩;·exact .inr ⟨a,b,hv⟩
   ·exact .inl b
 ·refine⟨λy=>?_,λk' v' q=>?_⟩
  ·have:=hos d ⟨1,k,v⟩ y hd;rw[G4,G4,P9];dsimp only;rw[if_neg (show ¬((0:Int)=y∧y≠0) by omega)]
   simp only[hf,false_and,true_and,if_false] at this;omega
  ·rcases (b7Z hT hp rfl k' v').1 q with ⟨a,b⟩ | ⟨_,b⟩;·exact .inr ⟨a,b,hv⟩
   ·exact .inl b
 ·simp at h0
noncomputable def a5S(x:Hp)(v:Int)(t:Tb)(old:Int):Hp:=Q3 (wT (C5 x v) t) old
theorem b9V{x:Hp}(hx:M2 x){k v:Int}(hk:k∈lv x.S)(hv:v=0∨v∈lv x.S){r:Tb × Int × Int}(h:T9 x.T k v=some r)(h0:r.2.2=0):M2 (a5S x v r.1 r.2.1):=by
 have kin:=G2 hx.sh.sr v (f:=U4) λc=>D8;have l1:lv (C5 x v).S=lv x.S:=kin.lv;obtain⟨p1,p2,p3⟩:=c6X hx.sh.hr h h0;refine b0r hx (λa b=>⟨a.table p1 λk' v' q=>?_,b⟩) rfl (λ_ _=>rfl) (λj hj=>?_)
 ·rw[l1];rcases p3 k' v' q with q | ⟨rfl,rfl,hne⟩
  ·exact hx.sh.pr k' v' q
  ·exact⟨hk,hv.resolve_left hne⟩
 ·have hi2:inn (C5 x v).S j=inn x.S j:=kin.inn hx.sh.sr j;have hrest:C5 x v=wS x (C5 x v).S:=b2F x v;unfold nms otr;dsimp only;rw[show (C5 x v).Roots=x.Roots by rw[hrest],show (C5 x v).Q=x.Q by rw[hrest],hi2]
  have:=p2 j;omega
end Go.Sh
