/-
 Several texts of one kind, one behind the other.
-/
import Derived.Test.YtjlokngooekbcaaGreatP21dSh
import Derived.Test.YtjlokngooekbcaaGreatP21dSh1
import Derived.Test.YtjlokngooekbcaaGreatP21dSh
import Derived.Test.YtjlokngooekbcaaGreatP21dSh
import Derived.Test.YtjlokngooekbcaaGreatP21dSh
set_option linter.unusedVariables false
set_option linter.unusedSimpArgs false
set_option linter.unusedSectionVars false
namespace Go.Sh
def Hnd(h:Int):Prop:=1≤h∧(h-1) % 32<24∧(h-1) / 32≤9
instance(h:Int):Decidable (Hnd h):=by unfold Hnd;infer_instance
theorem b5k{h:Int}(q:Hnd h):1≤h∧h≤320:=by unfold Hnd at q;omega
theorem a8B{i g:Int}(h1:0≤i)(h2:i<24)(h3:0≤g)(h4:g≤9):a1J i g=some (1+i+32*g):=by
 unfold a1J;rw[if_neg (by simp;omega)]
 rw[show x8 (i*1)=i by rw[a4h];omega,show x8 (1+i)=1+i by rw[a4h];omega,show x8 (g*32)=32*g by rw[a4h];omega,show x8 (1+i+32*g)=1+i+32*g by rw[a4h];omega]
theorem a8M{i g:Int}:a3w i g=some (if 0≤i∧i<24∧0≤g∧g≤9 then 1+i+32*g else 0):=by
 unfold a3w;split;·rename_i h;rw[if_neg (by simp at h;omega)]
 ·rename_i h;have h:0≤i∧i<24∧0≤g∧g≤9:=by simp at h;omega
  rw[if_pos h];rw[show x8 (1+i)=1+i by rw[a4h];omega,show x8 (32*g)=32*g by rw[a4h];omega,show x8 (1+i+32*g)=1+i+32*g by rw[a4h];omega]
theorem a7X{h:Int}(hh:h≤9223372036854775807):a16 h=some (if Hnd h then ((h-1) % 32,(h-1) / 32,true) else (-1,-1,false)):=by
 unfold a16;split
 ·rename_i q;rw[if_neg (by unfold Hnd;simp at q;omega)]
 ·rename_i q;have q:1≤h:=by simpa using q
  rw[F2 (n:=h-1),b2i (by omega) (by omega),d7R,b4u (by omega) (by omega) (by omega),d7R,b4u (by omega) (by omega) (by omega),d7R,Int.ediv_one]
  split
  ·rename_i q2;rw[if_neg (by unfold Hnd;simp at q2;omega)]
  ·rename_i q2;rw[if_pos (by unfold Hnd;simp at q2;omega)]
theorem a4F{h:Int}(hh:h≤9223372036854775807):a3o h=some (if Hnd h then (h-1) % 32 else -1):=by
 unfold a3o;rw[a7X hh,d7R];split <;> rfl
theorem a5U{h:Int}(hh:h≤9223372036854775807):a4E h=some (if Hnd h then (h-1) / 32 else -1):=by
 unfold a4E;rw[a7X hh,d7R];split <;> rfl
theorem b1Q{h:Int}:a6p h=some (decide (Hnd h)):=by
 unfold a6p;split
 ·rename_i q;rw[decide_eq_false (by unfold Hnd;simp at q;omega)]
 ·rename_i q;have q:1≤h∧h≤400:=by simp at q;omega
  rw[F2 (n:=h-1),b2i (by omega) (by omega),d7R,b4u (by omega) (by omega) (by omega),d7R,a8M,d7R]
  congr 1;by_cases k:Hnd h
  ·rw[decide_eq_true k,if_pos (by unfold Hnd at k;omega)]
   simp;omega
  ·rw[decide_eq_false k,if_neg (by unfold Hnd at k;omega)]
   simp;omega
theorem a8O{h:Int}:a6o h=some (if Hnd h then (h-1) % 32 else -1):=by
 unfold a6o;rw[b1Q,d7R];by_cases k:Hnd h
 ·have:=b5k k;rw[decide_eq_true k,if_neg (by simp),if_pos k,F2 (n:=h-1),b2i (by omega) (by omega),d7R]
 ·rw[decide_eq_false k,if_pos (by simp),if_neg k]
theorem c2N{h:Int}:b4v h=some (if Hnd h then (h-1) / 32 else -1):=by
 unfold b4v;rw[b1Q,d7R];by_cases k:Hnd h
 ·have:=b5k k;rw[decide_eq_true k,if_neg (by simp),if_pos k,F2 (n:=h-1),b4u (by omega) (by omega) (by omega),d7R]
 ·rw[decide_eq_false k,if_pos (by simp),if_neg k]
end Go.Sh
namespace Go.Sh
theorem b7E(a b:List Int)(ha:a.length<4611686018427387904):a3x a b=some (decide (a=b)):=by
 unfold a3x;by_cases hl:a.length=b.length
 ·rw[if_neg (by simp[hl])]
  simp only[jn];refine V2 a.length (λk=>∀j (h1:j<a.length) (h2:j<b.length),j<k→a[j]=b[j]) ha (λ_ _ _ h=>by omega) (λk hk hP=>?_) (λhP=>?_)
  ·have hk2:k<b.length:=by omega
   simp only[Int.ofNat_lt,hk,decide_true,if_true,p8 hk,p8 hk2,d7R];by_cases e:a[k]=b[k]
   ·refine .inl ⟨?_,λj h1 h2 hj=>?_⟩;·rw[if_neg (by simpa using e),l7]
    ·rcases Nat.lt_or_ge j k with q | q
     ·exact hP j h1 h2 q
     ·have:j=k:=by omega
      subst this;exact e
   ·refine .inr ⟨.inl false,by rw[if_pos (by simpa using e)],?_⟩
    simp only;rw[decide_eq_false (λq=>e (by subst q;rfl))]
  ·refine⟨.inr (),by simp,?_⟩
   simp only;rw[decide_eq_true (List.ext_getElem hl λi h1 h2=>hP i h1 h2 h1)]
 ·rw[if_pos (by rw[bne_iff_ne];omega)]
  rw[decide_eq_false (λq=>hl (by rw[q]))]
end Go.Sh
namespace Go.Sh
abbrev z0:m9:=⟨0,0,0,0,false,[]⟩
structure SlO (s:e6):Prop where
 len:s.a8.length≤24
 l0:0≤s.Last
 l9:s.Last≤9
 cell:∀i (h:i<s.a8.length),0≤s.a8[i].State∧s.a8[i].State≤3∧0≤s.a8[i].Gen∧s.a8[i].Gen≤s.Last
theorem a6T{s:e6}{i:Int}{k:Nat}{c:b9}(hi:i=k)(hk:k<s.a8.length)(hl:s.a8.length≤24):D5 s i c=some ⟨s.a8.set k c,s.Last⟩:=by
 subst hi;unfold D5 z6;rw[M6 (by omega) (by omega),d7R,p8 hk,d7R,Int.toNat_natCast]
theorem b9v{s:e6}(hR:SlO s)(v:m9) :
  (∃i,∃h:i<s.a8.length,s.a8[i].State=0∧(∀j (hj:j<i),s.a8[j].State≠0)∧J5 s v=some (⟨s.a8.set i ⟨1,s.a8[i].Gen,v⟩,s.Last⟩,1+i+32*s.a8[i].Gen,0)) ∨
  ((∀i (h:i<s.a8.length),s.a8[i].State≠0)∧J5 s v=some (s,0,4)):=by
 have hlen:=hR.len;by_cases q:∃i,∃h:i<s.a8.length,s.a8[i].State=0
 ·obtain⟨i,⟨hi,h0⟩,hmin⟩:=a1t (p:=λi=>∃h:i<s.a8.length,s.a8[i].State=0) q;left;refine⟨i,hi,h0,λj hj=>λe=>by have:=hmin j ⟨by omega,e⟩;omega,?_⟩
  unfold J5;simp only[jn,O2,d7R];have hc:=hR.cell i hi;refine V2 s.a8.length (λk=>k≤i) (by omega) (by omega) (λk hk hP=>?_) (λhP=>by omega)
  rcases Nat.lt_or_ge k i with g | g
  ·refine .inl ⟨?_,g⟩;have:s.a8[k].State≠0:=λe=>by have:=hmin k ⟨hk,e⟩;omega
   simp only[Int.ofNat_lt,hk,decide_true,if_true,p8 hk,d7R];rw[if_neg (by simpa using this),l7]
  ·have:k=i:=by omega
   subst this;refine .inr ⟨.inl _,?_,rfl⟩;simp only[Int.ofNat_lt,hk,decide_true,if_true,p8 hk,d7R,h0,a6T rfl hk hlen];rw[a8B (by omega) (by omega) hc.2.2.1 (by have:=hR.l9;omega)]
   simp
 ·right;refine⟨λi h e=>q ⟨i,h,e⟩,?_⟩;unfold J5;simp only[jn,O2,d7R];refine V2 s.a8.length (λk=>True) (by omega) trivial (λk hk _=>?_) (λhP=>⟨.inr (),by simp,rfl⟩)
  refine .inl ⟨?_,trivial⟩;have:s.a8[k].State≠0:=λe=>q ⟨k,hk,e⟩;simp only[Int.ofNat_lt,hk,decide_true,if_true,p8 hk,d7R];rw[if_neg (by simpa using this),l7]
def b2H(s:e6)(h:Int)(i:Nat):Prop:=∃hi:i<s.a8.length,Hnd h∧(h-1) % 32=i∧s.a8[i].Gen=(h-1) / 32∧(s.a8[i].State=1∨s.a8[i].State=2)
theorem a14(s:e6){h:Int}(hh:h≤9223372036854775807) :
  (∃i,b2H s h i∧y4 s h=some ((i:Int),0))∨((∀i,¬b2H s h i)∧y4 s h=some (-1,if h=0 then 2 else 3)):=by
 unfold y4;by_cases h0:h=0
 ·right;subst h0;exact⟨λi ⟨_,h1,_⟩=>by unfold Hnd at h1;omega,by simp⟩
 ·rw[if_neg (by simpa using h0),a4F hh,d7R,if_neg h0]
  by_cases hd:Hnd h
  ·rw[if_pos hd];have hd':=hd;unfold Hnd at hd';obtain⟨k,hk⟩:∃k:Nat,(h-1) % 32=k:=⟨((h-1) % 32).toNat,by omega⟩
   rw[hk];by_cases hl:k<s.a8.length
   ·rw[if_neg (by simp;omega),p8 hl,d7R,a5U hh,d7R,if_pos hd]
    by_cases g:s.a8[k].Gen=(h-1) / 32∧(s.a8[k].State=1∨s.a8[k].State=2)
    ·left;refine⟨k,⟨hl,hd,hk,g⟩,?_⟩;rw[if_neg];simp;omega
    ·right;refine⟨λi ⟨hi,_,h2,h3⟩=>?_,?_⟩
     ·have:i=k:=by omega
      subst this;exact g h3
     ·rw[if_pos];simp;omega
   ·right;refine⟨λi ⟨hi,_,h2,h3⟩=>by omega,?_⟩
    rw[if_pos (by simp;omega)]
  ·right;refine⟨λi ⟨hi,h1,_⟩=>hd h1,?_⟩;rw[if_neg hd,if_pos (by simp)]
theorem a9w{s:e6}{h:Int}{i:Nat}(hf:b2H s h i):y4 s h=some ((i:Int),0):=by
 have hh:=b5k hf.2.1;rcases a14 s (h:=h) (by omega) with ⟨j,h1,h2⟩ | ⟨h1,_⟩
 ·obtain⟨_,_,e1,_⟩:=hf;obtain⟨_,_,e2,_⟩:=h1;have:i=j:=by omega
  subst this;exact h2
 ·exact absurd hf (h1 i)
theorem b2T{s:e6}{h:Int}(hh:h≤9223372036854775807)(hf:∀i,¬b2H s h i):y4 s h=some (-1,if h=0 then 2 else 3):=by
 rcases a14 s hh with ⟨j,h1,_⟩ | ⟨_,h2⟩;·exact absurd h1 (hf j)
 ·exact h2
theorem a3n(h:Int):(if h=0 then 2 else 3:Int)≠0:=by split <;> omega
theorem c0l{s:e6}{h:Int}{i:Nat}(hf:b2H s h i):∃hi:i<s.a8.length,E1 s h=some (if s.a8[i].State=2 then (z0,3) else (s.a8[i].Val,0)):=by
 refine⟨hf.1,?_⟩;unfold E1;rw[a9w hf,d7R,if_neg (by simp),p8 hf.1,d7R]
 split <;> rename_i q
 ·rw[if_pos (by simpa using q)]
 ·rw[if_neg (by simpa using q)]
theorem c7p{s:e6}{h:Int}(hh:h≤9223372036854775807)(hf:∀i,¬b2H s h i):E1 s h=some (z0,if h=0 then 2 else 3):=by
 unfold E1;rw[b2T hh hf,d7R,if_pos (by simpa using a3n h)]
theorem c1t{s:e6}{h:Int}{v:m9}{i:Nat}(hl:s.a8.length≤24)(hf:b2H s h i):∃hi:i<s.a8.length,K5 s h v=some (⟨s.a8.set i ⟨s.a8[i].State,s.a8[i].Gen,v⟩,s.Last⟩,0):=by
 refine⟨hf.1,?_⟩;unfold K5;rw[a9w hf,d7R,if_neg (by simp),p8 hf.1,d7R,a6T rfl hf.1 hl,d7R]
theorem c8O{s:e6}{h:Int}{v:m9}(hh:h≤9223372036854775807)(hf:∀i,¬b2H s h i):K5 s h v=some (s,if h=0 then 2 else 3):=by
 unfold K5;rw[b2T hh hf,d7R,if_pos (by simpa using a3n h)]
end Go.Sh
namespace Go.Sh
def oo(o:m9):C6:=⟨o.Serial,o.Strong,o.Weak,o.Prog,o.Started,o.Fields⟩
def cO(c:b9):n8:=⟨c.State,c.Gen,oo c.Val⟩
def sO(s:a7):k8:=⟨s.S.a8.map cO,s.S.Last,s.Serial⟩
def Sm(s:a7):Prop:=s.S.a8.length≤30∧∀i (h:i<s.S.a8.length),s.S.a8[i].Val.Fields.length≤10
instance(s:a7):Decidable (Sm s):=by unfold Sm;infer_instance
def plc(i:Nat)(c:n8):x4:=⟨c.State,c.Gen,(i:Int)⟩
def pl(t:k8):y7:=⟨t.a8.mapIdx plc,t.Last⟩
theorem a5y(t:k8)(h:t.a8.length≤1000):K4 t=some (pl t):=by
 unfold K4;simp only[jn];refine M7 t.a8.length (λk acc=>acc=(t.a8.mapIdx plc).take k) (by omega) (by simp) (λk acc hk hP=>?_) (λacc hP=>?_)
 ·subst hP;refine .inl ⟨_,?_,rfl⟩;simp only[Int.ofNat_lt,hk,decide_true,if_true,p8 hk,d7R];rw[A7 (by omega) (by simp;omega),d7R,l7]
  have e:(t.a8.mapIdx plc).take (k+1)=(t.a8.mapIdx plc).take k ++ [plc k t.a8[k]]:=by
   rw[List.take_add_one,List.getElem?_eq_getElem (by simpa using hk)]
   simp
  rw[e];rfl
 ·subst hP;rw[List.take_of_length_le (by simp)]
  exact⟨t.a8.mapIdx plc,by simp only[Int.lt_irrefl,decide_false,Bool.false_eq_true,if_false],rfl⟩
def Thr(c:n8):Prop:=c.State=1∨c.State=2
instance(c:n8):Decidable (Thr c):=by unfold Thr;infer_instance
def d5i(t:k8)(o:C6):Prop:=1≤o.Serial∧o.Serial≤t.Serial∧0≤o.Strong∧0≤o.Weak ∧ -1≤o.Prog∧o.Prog≤5∧o.Fields.length≤4
def c1W(o:C6):Prop:=o.Serial=0∧o.Strong=0∧o.Weak=0∧o.Prog=0∧o.Started=false∧o.Fields.length=0
structure RtR (t:k8):Prop where
 len:t.a8.length≤24
 l0:0≤t.Last
 l9:t.Last≤9
 ser:0≤t.Serial
 cell:∀i (h:i<t.a8.length),0≤t.a8[i].State∧t.a8[i].State≤3∧0≤t.a8[i].Gen∧t.a8[i].Gen≤t.Last
 no:∀i (h:i<t.a8.length),¬Thr t.a8[i]→c1W t.a8[i].Val
 ok:∀i (h:i<t.a8.length),Thr t.a8[i]→d5i t t.a8[i].Val
 dif:∀i (h:i<t.a8.length) k (hk:k<i),Thr t.a8[i]→Thr t.a8[k]→t.a8[k].Val.Serial≠t.a8[i].Val.Serial
end Go.Sh
namespace Go.Sh
theorem c1w{c:Int→Int→Option Int}{xs:List Int}(key:Int→Int)(hc:∀x y,∃r,c x y=some r∧(r<0↔key x<key y))(hl:xs.length<4611686018427387904) :
  ∃ys,b3j c xs=some ys∧ys.Perm xs∧ys.Pairwise (λa b=>key a≤key b):=by
 have hlt:∀x y,Go.Proofs.ltOf (λx y=>(c x y).getD 0) x y=decide (key x<key y):=λx y=>by
  obtain⟨r,h1,h2⟩:=hc x y;show decide ((c x y).getD 0<0)=_;rw[h1,Option.getD_some];exact decide_eq_decide.2 h2
 have hO:Go.Sort.SWO (Go.Proofs.ltOf λx y=>(c x y).getD 0):=by
  refine⟨λx=>?_,λx y z=>?_,λx y z=>?_⟩;·rw[hlt];simp
  ·rw[hlt,hlt,hlt];simp;omega
  ·rw[hlt,hlt,hlt];simp;omega
 have hcond:(∀x y,(c x y).isSome=true)∧Go.Sort.SWO (Go.Proofs.ltOf λx y=>(c x y).getD 0)∧xs.length<4611686018427387904:=⟨λx y=>by
  obtain⟨r,h1,_⟩:=hc x y;rw[h1];rfl,hO,hl⟩
 unfold b3j;rw[if_pos hcond];refine⟨_,rfl,?_⟩;obtain⟨⟨p1,p2,p3⟩,p4⟩:=Go.Sort.pdq_sorts (Go.Proofs.ltOf λx y=>(c x y).getD 0) hO xs.toArray 0 xs.length (Go.Lib.bitLen xs.length) true true (Nat.zero_le _) (by simp) (Or.inl rfl)
 generalize Go.Sort.pdq (Go.Proofs.ltOf λx y=>(c x y).getD 0) xs.toArray 0 xs.length (Go.Lib.bitLen xs.length) true true=d at p1 p2 p3 p4 ⊢;have hs:d.size=xs.length:=by simpa using p1
 refine⟨?_,?_⟩
 ·have e1:d.extract 0 xs.length=d:=by rw[←hs];exact Array.extract_size
  have e2:xs.toArray.extract 0 xs.length=xs.toArray:=by
   simp
  rw[e1,e2] at p3;simpa using p3
 ·rw[List.pairwise_iff_getElem];intro i j hi hj hij;have hi':i<d.size:=by simpa using hi
  have hj':j<d.size:=by simpa using hj
  have:=p4 i j (Nat.zero_le _) hij (by omega)
  rw[hlt,getElem!_pos d j hj',getElem!_pos d i hi'] at this;have:=of_decide_eq_false this;simp only[Array.getElem_toList];omega
def a0a:Nat→List b9→List Int
 | _,[]=>[]
 | k,c::r=>(if c.State=1 then [1+(k:Int)+32*c.Gen] else [])++a0a (k+1) r
theorem a9A(c:b9):∀(k:Nat) (xs:List b9),a0a k (xs ++ [c])=a0a k xs++(if c.State=1 then [1+((k+xs.length:Nat):Int)+32*c.Gen] else [])
 | k,[]=>by simp[a0a]
 | k,x::r=>by
  simp only[List.cons_append,a0a,a9A c (k+1) r,List.append_assoc,List.length_cons];rw[show k+1+r.length=k+(r.length+1) by omega]
theorem a6h:∀(k:Nat) (xs:List b9),(a0a k xs).length≤xs.length
 | _,[]=>by simp[a0a]
 | k,c::r=>by
  have:=a6h (k+1) r;simp only[a0a,List.length_append,List.length_cons];split <;> simp <;> omega
theorem a8F{h:Int}:∀ {k:Nat} {xs:List b9},h∈a0a k xs↔∃i,∃hi:i<xs.length,xs[i].State=1∧h=1+((k+i:Nat):Int)+32*xs[i].Gen
 | k,[]=>by simp[a0a]
 | k,c::r=>by
  simp only[a0a,List.mem_append,a8F (k:=k+1) (xs:=r)];constructor
  ·rintro (q | ⟨i,hi,q1,q2⟩)
   ·by_cases hc:c.State=1
    ·rw[if_pos hc] at q;exact⟨0,by simp,by simpa using hc,by simpa using q⟩
    ·rw[if_neg hc] at q;cases q
   ·exact⟨i+1,by simpa using hi,by simpa using q1,by simp only[List.getElem_cons_succ];rw[q2,show k+1+i=k+(i+1) by omega]⟩
  ·rintro⟨i,hi,q1,q2⟩;cases i with
   | zero=>
    left;simp only[List.getElem_cons_zero] at q1 q2;rw[if_pos q1];simp[q2]
   | succ i=>
    right;simp only[List.getElem_cons_succ] at q1 q2;exact⟨i,by simpa using hi,q1,by rw[q2,show k+1+i=k+(i+1) by omega]⟩
def sk(cs:List b9)(h:Int):Int:=match cs[((h-1) % 32).toNat]? with
 | some c=>c.Val.Serial
 | none=>0
theorem c1v{cs:List b9}{i:Nat}{g:Int}(h:i<cs.length)(h32:cs.length≤32):sk cs (1+(i:Int)+32*g)=cs[i].Val.Serial:=by
 unfold sk;have:((1+(i:Int)+32*g-1) % 32).toNat=i:=by omega
 rw[this,List.getElem?_eq_getElem h]
structure Slb (cs:List b9):Prop where
 len:cs.length≤24
 gen:∀i (h:i<cs.length),0≤cs[i].Gen∧cs[i].Gen≤9
theorem b66{s:a7}(hR:Slb s.S.a8):∃l,E3 s=some l∧l.Perm (a0a 0 s.S.a8)∧l.Pairwise (λa b=>sk s.S.a8 a≤sk s.S.a8 b):=by
 have hlen:=hR.len;unfold E3;simp only[jn];have hh:=a6h 0 s.S.a8;have hloop:∃e:List (Int × Int) × List Int,lp (S:=Int × (List (Int × Int)) × (List Int)) (E:=((List (Int × Int)) × (List Int))) (λ((s23,s24,s25):Int × (List (Int × Int)) × (List Int))=>
   if (decide (s23<(s.S.a8.length:Int))) then
    ((ix s.S.a8 s23).bind λv35=>
     if (v35.State==1) then
      (a1J s23 v35.Gen).bind λv36=>
      (app 8 s25 [v36]).bind λv37=>
      some (.inl (x8 (s23+1),(s6 s24 v36 v35.Val.Serial),v37))
     else
     some (.inl (x8 (s23+1),s24,s25)))
   else
   some (.inr (s24,s25))) (0,[],[])=some e∧e.2=a0a 0 s.S.a8∧∀h∈e.2,C0 e.1 h=some (sk s.S.a8 h):=by
  refine a2N (T:=List (Int × Int) × List Int) s.S.a8.length (λk e=>e.2=a0a 0 (s.S.a8.take k)∧∀h∈e.2,C0 e.1 h=some (sk s.S.a8 h)) (λe:List (Int × Int) × List Int=>e.2=a0a 0 s.S.a8∧∀h∈e.2,C0 e.1 h=some (sk s.S.a8 h)) (by omega) ⟨by simp[a0a],by simp⟩ (λk e hk hP=>?_) (λe hP=>?_)
  ·obtain⟨h1,h2⟩:=hP;obtain⟨m,l⟩:=e;simp only at h1 h2;left;have hc:=hR.gen k hk;have hl:l.length≤24:=by rw[h1];have:=a6h 0 (s.S.a8.take k);simp at this;omega
   have et:s.S.a8.take (k+1)=s.S.a8.take k ++ [s.S.a8[k]]:=by rw[List.take_add_one,List.getElem?_eq_getElem hk];rfl
   have el:(s.S.a8.take k).length=k:=by simp;omega
   by_cases q:s.S.a8[k].State=1
   ·refine⟨(s6 m (1+(k:Int)+32*s.S.a8[k].Gen) s.S.a8[k].Val.Serial,l ++ [1+(k:Int)+32*s.S.a8[k].Gen]),?_,?_,?_⟩
    ·simp only[Int.ofNat_lt,hk,decide_true,if_true,p8 hk,d7R,q,beq_self_eq_true];rw[a8B (by omega) (by omega) hc.1 hc.2,d7R,A7 (by omega) (by simp;omega),d7R,l7]
    ·simp only;rw[et,a9A,if_pos q,el,h1,Nat.zero_add]
    ·intro h hh;simp only[List.mem_append,List.mem_singleton] at hh ⊢;rw[a9B];rcases hh with hh | rfl
     ·split;·rename_i e;rw[e,c1v hk (by omega)]
      ·exact h2 h hh
     ·rw[if_pos rfl,c1v hk (by omega)]
   ·refine⟨(m,l),?_,?_,h2⟩
    ·simp only[Int.ofNat_lt,hk,decide_true,if_true,p8 hk,d7R];rw[if_neg (by simpa using q),l7]
    ·simp only;rw[et,a9A,if_neg q,h1,List.append_nil]
  ·obtain⟨h1,h2⟩:=hP;obtain⟨m,l⟩:=e;refine⟨(m,l),by simp only[Int.lt_irrefl,decide_false,Bool.false_eq_true,if_false],?_,h2⟩
   simpa using h1
 obtain⟨⟨m,l⟩,e1,e2,e3⟩:=hloop;rw[show lp _ _=_ from e1,d7R];simp only at e2 e3 ⊢;subst e2;obtain⟨ys,q1,q2,q3⟩:=c1w (c:=λp q=>a4g p q m) (xs:=a0a 0 s.S.a8) (λh=>(C0 m h).getD 0) (λx y=>by
  unfold a4g a3F a1c;simp only[d7R,bne_self_eq_false,Bool.false_eq_true,if_false];generalize (C0 m x).getD 0=a;generalize (C0 m y).getD 0=b;by_cases h1:a<b
  ·rw[decide_eq_true h1];exact⟨-1,rfl,by simp[h1]⟩
  ·rw[decide_eq_false h1];by_cases h2:a > b
   ·rw[decide_eq_true h2];exact⟨1,rfl,by simp[h1]⟩
   ·rw[decide_eq_false h2];exact⟨0,rfl,by simp[h1]⟩) (by omega)
 refine⟨ys,by rw[q1];rfl,q2,q3.imp_of_mem λ{a b} ha hb hab=>?_⟩
 rw[e3 a (q2.mem_iff.1 ha),e3 b (q2.mem_iff.1 hb)] at hab;simpa using hab
theorem a7L{key:Int→Int}:∀ {l m:List Int},l.Perm m→l.Pairwise (λa b=>key a≤key b)→m.Pairwise (λa b=>key a≤key b)→(∀a∈l,∀b∈l,key a=key b→a=b)→l=m
 | [],m,hp,_,_,_=>(List.nil_perm.1 hp).symm
 | a::l,[],hp,_,_,_=>by simp at hp
 | a::l,b::m,hp,h1,h2,hk=>by
  have ha:=List.pairwise_cons.1 h1;have hb:=List.pairwise_cons.1 h2;have e:a=b:=by
   have m1:b∈a::l:=hp.mem_iff.2 (List.mem_cons_self ..);have m2:a∈b::m:=hp.mem_iff.1 (List.mem_cons_self ..);rcases List.mem_cons.1 m1 with q | q
   ·exact q.symm
   ·rcases List.mem_cons.1 m2 with q' | q'
    ·exact q'
    ·exact hk a (List.mem_cons_self ..) b m1 (Int.le_antisymm (ha.1 b q) (hb.1 a q'))
  subst e;rw[a7L (List.perm_cons a |>.1 hp) ha.2 hb.2 λx hx y hy=>hk x (List.mem_cons_of_mem _ hx) y (List.mem_cons_of_mem _ hy)]
end Go.Sh
namespace Go.Sh
theorem c1T(o:C6)(h:o.Fields.length<4611686018427387904):a6r o o=some true:=by
 unfold a6r;simp only[beq_self_eq_true,Bool.and_self,Bool.true_and,a0s];rw[b7E _ _ h,d7R,decide_eq_true rfl]
theorem c40(t:k8)(h:t.a8.length<4611686018427387904)(hf:∀i (h:i<t.a8.length),t.a8[i].Val.Fields.length<4611686018427387904):b1Y t t=some true:=by
 unfold b1Y;rw[if_neg (by simp)]
 simp only[jn];refine V2 t.a8.length (λ_=>True) h trivial (λk hk _=>.inl ⟨?_,trivial⟩) (λ_=>⟨.inr (),by simp,rfl⟩)
 simp only[Int.ofNat_lt,hk,decide_true,if_true,p8 hk,d7R,bne_self_eq_false,Bool.or_self,beq_self_eq_true,a0s];rw[c1T _ (hf k hk),d7R,if_neg (by simp),l7]
theorem C2(s:a7):(sO s).a8.length=s.S.a8.length:=by simp[sO]
theorem c4M(s:a7)(i:Int):ix (sO s).a8 i=(ix s.S.a8 i).map cO:=a1p cO s.S.a8 i
theorem a1z(t:k8):(pl t).a8.length=t.a8.length:=by simp[pl]
theorem c0L{t:k8}{k:Nat}(h:k<t.a8.length):ix (pl t).a8 k=some (plc k t.a8[k]):=by
 rw[p8 (by simpa[pl] using h)]
 simp[pl]
theorem b2S(s:a7){h:Int}(hh:h≤9223372036854775807):O0 (pl (sO s)) h=y4 s.S h:=by
 unfold O0 y4;rw[a8O,a4F hh,c2N,a5U hh];simp only[d7R,a1z,C2];generalize (if Hnd h then (h-1) % 32 else -1:Int)=v
 generalize (if Hnd h then (h-1) / 32 else -1:Int)=g
 split;·rfl
 ·split;·rfl
  ·rename_i q;have q:0≤v∧v<s.S.a8.length:=by simp at q;omega
   obtain⟨k,rfl⟩:∃k:Nat,v=k:=⟨v.toNat,by omega⟩
   have hk:k<s.S.a8.length:=by omega
   rw[c0L (by rw[C2];exact hk),p8 hk]
   simp only[d7R,plc,sO,List.getElem_map,cO]
theorem c8N(s:a7)(hl:s.S.a8.length≤24){h:Int}(hh:h≤9223372036854775807)(o:m9):M9 (sO s) h (oo o)=(K6 s h o).map λp=>(sO p.1,p.2):=by
 unfold M9 K6;rw[a5y _ (by rw[C2];omega),d7R,b2S s hh]
 rcases a14 s.S hh with ⟨i,hf,e⟩ | ⟨hf,e⟩
 ·obtain⟨hi,e2⟩:=c1t (v:=o) hl hf;rw[e,e2];simp only[d7R,bne_self_eq_false,Bool.false_eq_true,if_false,Option.map_some];unfold a1h;rw[M6 (by omega) (by rw[C2];omega),d7R,p8 (by rw[C2];exact hi),d7R]
  simp[sO,cO,oo,List.map_set]
 ·rw[e,c8O hh hf];simp only[d7R];rw[if_pos (by simpa using a3n h)]
  rfl
end Go.Sh
namespace Go.Sh
theorem a2n{s:a7}(h:RtR (sO s)):s.S.a8.length≤24:=by have:=h.len;rwa [C2] at this
theorem b9g{s:a7}(h:RtR (sO s))(i:Nat)(hi:i<s.S.a8.length):0≤s.S.a8[i].State∧s.S.a8[i].State≤3∧0≤s.S.a8[i].Gen∧s.S.a8[i].Gen≤s.S.Last:=by
 have:=h.cell i (by rw[C2];exact hi)
 simpa[sO,cO] using this
theorem b9h{s:a7}(h:RtR (sO s)):Slb s.S.a8:=⟨a2n h,λi hi=>by have:=b9g h i hi;have h9:s.S.Last≤9:=h.l9;omega⟩
theorem c8F{s:a7}(h:RtR (sO s))(i:Nat)(hi:i<s.S.a8.length)(ht:s.S.a8[i].State=1∨s.S.a8[i].State=2):d5i (sO s) (oo s.S.a8[i].Val):=by
 have:=h.ok i (by rw[C2];exact hi)
 simp only[sO,List.getElem_map,cO,Thr] at this;exact this ht
theorem c8E{s:a7}(h:RtR (sO s)){i j:Nat}(hi:i<s.S.a8.length)(hj:j<s.S.a8.length)(a:s.S.a8[i].State=1∨s.S.a8[i].State=2)(b:s.S.a8[j].State=1∨s.S.a8[j].State=2)(e:s.S.a8[i].Val.Serial=s.S.a8[j].Val.Serial):i=j:=by
 have key:∀i (hi:i<s.S.a8.length) j (hj:j<i),(s.S.a8[i].State=1∨s.S.a8[i].State=2)→(s.S.a8[j].State=1∨s.S.a8[j].State=2)→s.S.a8[j].Val.Serial≠s.S.a8[i].Val.Serial:=λi hi j hj a b=>by
  have:=h.dif i (by rw[C2];exact hi) j hj
  simp only[sO,List.getElem_map,cO,Thr,oo] at this;exact this a b
 rcases Nat.lt_trichotomy i j with q | q | q
 ·exact absurd e (key j hj i q b a)
 ·exact q
 ·exact absurd e.symm (key i hi j q a b)
theorem a6g{s:a7}(hR:RtR (sO s)){x:Int}(hx:x∈a0a 0 s.S.a8):∃i,∃hi:i<s.S.a8.length,s.S.a8[i].State=1∧x=1+(i:Int)+32*s.S.a8[i].Gen∧b2H s.S x i∧sk s.S.a8 x=s.S.a8[i].Val.Serial∧y9 s x=some (s.S.a8[i].Val,0):=by
 obtain⟨i,hi,h1,h2⟩:=a8F.1 hx;rw[Nat.zero_add] at h2;have hl:=(a2n hR);have hc:=(b9h hR).gen i hi;have hf:b2H s.S x i:=⟨hi,by unfold Hnd;omega,by omega,by omega,.inl h1⟩
 refine⟨i,hi,h1,h2,hf,by rw[h2];exact c1v hi (by omega),?_⟩
 obtain⟨_,e⟩:=c0l hf;unfold y9;rw[e,if_neg (by omega)]
 rfl
theorem c7m{s:a7}{x:Int}{i:Nat}(hf:b2H s.S x i)(h1:∀hi:i<s.S.a8.length,s.S.a8[i].State=1):x∈a0a 0 s.S.a8:=by
 obtain⟨hi,q1,q2,q3,_⟩:=hf;refine a8F.2 ⟨i,hi,h1 hi,?_⟩;unfold Hnd at q1;rw[Nat.zero_add];omega
theorem b9o{s:a7}(hR:RtR (sO s)){x y:Int}(hx:x∈a0a 0 s.S.a8)(hy:y∈a0a 0 s.S.a8)(e:sk s.S.a8 x=sk s.S.a8 y):x=y:=by
 obtain⟨i,hi,a1,a2,_,a4,_⟩:=a6g hR hx;obtain⟨j,hj,b1,b2,_,b4,_⟩:=a6g hR hy;have:=(c8E hR) hi hj (.inl a1) (.inl b1) (by rw[←a4,←b4];exact e)
 subst this;rw[a2,b2]
theorem a7g:∀(k:Nat) (cs:List b9),k+cs.length≤32→(a0a k cs).Nodup
 | _,[],_=>List.nodup_nil
 | k,c::r,h=>by
  simp only[List.length_cons] at h;unfold a0a;rw[List.nodup_append];refine⟨by split <;> simp,a7g (k+1) r (by omega),λa ha b hb e=>?_⟩
  split at ha
  ·simp only[List.mem_singleton] at ha;subst ha;subst e;obtain⟨i,hi,h1,h2⟩:=a8F.1 hb;have:((1+(k:Int)+32*c.Gen)-1) % 32=((1+((k+1+i:Nat):Int)+32*r[i].Gen)-1) % 32:=by rw[h2]
   omega
  ·cases ha
theorem c4c{s:a7}(hR:RtR (sO s)):∃l,E3 s=some l∧l.Perm (a0a 0 s.S.a8)∧l.Pairwise (λa b=>sk s.S.a8 a<sk s.S.a8 b):=by
 obtain⟨l,h1,h2,h3⟩:=b66 (b9h hR);refine⟨l,h1,h2,?_⟩;have hn:l.Nodup:=h2.nodup_iff.2 (a7g 0 _ (by have:=(a2n hR);omega))
 have:=List.Pairwise.and h3 hn;refine this.imp_of_mem λ{a b} ha hb ⟨q1,q2⟩=>?_;rcases Int.lt_or_eq_of_le q1 with q | q
 ·exact q
 ·exact absurd (b9o hR (h2.mem_iff.1 ha) (h2.mem_iff.1 hb) q) q2
end Go.Sh
namespace Go.Sh
theorem b1z:∀(k:Nat) (cs:List b9) (i:Nat) (c:b9) (hi:i<cs.length),cs[i].State≠1→c.State=1→(a0a k (cs.set i c)).Perm ((1+((k+i:Nat):Int)+32*c.Gen)::a0a k cs)
 | _,[],i,_,hi,_,_=>by simp at hi
 | k,d::r,0,c,hi,h1,h2=>by
  simp only[List.getElem_cons_zero] at h1;simp only[List.set_cons_zero,a0a,if_pos h2,if_neg h1,List.nil_append,Nat.add_zero];exact List.Perm.refl _
 | k,d::r,i+1,c,hi,h1,h2=>by
  simp only[List.getElem_cons_succ] at h1;simp only[List.set_cons_succ,a0a];have:=b1z (k+1) r i c (by simpa using hi) h1 h2
  rw[show k+1+i=k+(i+1) by omega] at this
  exact (List.Perm.append_left _ this).trans List.perm_middle
theorem d4E{cs:List b9}{i:Nat}{c:b9}{x:Int}(h:((x-1) % 32).toNat≠i):sk (cs.set i c) x=sk cs x:=by
 unfold sk;rw[List.getElem?_set_ne (by omega)]
theorem c2w{s:a7}(hR:RtR (sO s)){i:Nat}(hi:i<s.S.a8.length)(h0:s.S.a8[i].State=0)(o:m9)(ho:o.Serial=s.Serial+1){l:List Int}(hl:E3 s=some l) :
  E3 ⟨⟨s.S.a8.set i ⟨1,s.S.a8[i].Gen,o⟩,s.S.Last⟩,s.Serial+1⟩=some (l ++ [1+(i:Int)+32*s.S.a8[i].Gen]):=by
 obtain⟨l',e,l1,l2⟩:=c4c hR;rw[hl] at e;cases e;have hlen:=a2n hR;have hsl:Slb (s.S.a8.set i ⟨1,s.S.a8[i].Gen,o⟩):=⟨by simpa using hlen,λj hj=>by
  rw[List.getElem_set];have:=(b9h hR).gen;split;·exact this i hi
  ·exact this j (by simpa using hj)⟩
 obtain⟨m,m1,m2,m3⟩:=b66 (s:=⟨⟨s.S.a8.set i ⟨1,s.S.a8[i].Gen,o⟩,s.S.Last⟩,s.Serial+1⟩) hsl;have hp:=b1z 0 s.S.a8 i ⟨1,s.S.a8[i].Gen,o⟩ hi (by omega) rfl
 rw[Nat.zero_add] at hp;have hold:∀x∈l,sk (s.S.a8.set i ⟨1,s.S.a8[i].Gen,o⟩) x=sk s.S.a8 x∧sk s.S.a8 x≤s.Serial:=λx hx=>by
  obtain⟨j,hj,a1,a2,a3,a4,_⟩:=a6g hR (l1.mem_iff.1 hx);refine⟨d4E ?_,?_⟩
  ·obtain⟨_,_,q,_⟩:=a3;intro e;have:j=i:=by omega
   subst this;omega
  ·rw[a4];exact (c8F hR j hj (.inl a1)).2.1
 have hnew:sk (s.S.a8.set i ⟨1,s.S.a8[i].Gen,o⟩) (1+(i:Int)+32*s.S.a8[i].Gen)=s.Serial+1:=by
  rw[c1v (by simpa using hi) (by simp;omega)]
  simp[ho]
 rw[m1];congr 1;refine a7L (key:=sk (s.S.a8.set i ⟨1,s.S.a8[i].Gen,o⟩)) ?_ m3 ?_ ?_
 ·refine m2.trans (hp.trans ?_);refine List.Perm.trans (List.Perm.cons _ l1.symm) ?_;exact (List.perm_append_singleton _ _).symm
 ·rw[List.pairwise_append];refine⟨l2.imp_of_mem λ{a b} ha hb hab=>?_,by simp,λa ha b hb=>?_⟩
  ·rw[(hold a ha).1,(hold b hb).1];omega
  ·rw[List.mem_singleton] at hb;subst hb;rw[hnew,(hold a ha).1];have:=(hold a ha).2;omega
 ·have hm:∀a∈m,a∈l∨a=1+(i:Int)+32*s.S.a8[i].Gen:=λa ha=>by
   have:=hp.mem_iff.1 (m2.mem_iff.1 ha);rcases List.mem_cons.1 this with q | q
   ·exact .inr q
   ·exact .inl (l1.mem_iff.2 q)
  intro a ha b hb hab;rcases hm a ha with qa | rfl <;> rcases hm b hb with qb | rfl
  ·rw[(hold a qa).1,(hold b qb).1] at hab;exact b9o hR (l1.mem_iff.1 qa) (l1.mem_iff.1 qb) hab
  ·rw[(hold a qa).1,hnew] at hab;have:=(hold a qa).2;omega
  ·rw[(hold b qb).1,hnew] at hab;have:=(hold b qb).2;omega
  ·rfl
end Go.Sh
namespace Go.Sh
theorem d5Y(n last:Int):∃a,a1R n last=some a∧b8S n last=some (sO a)∧RtR (sO a)∧a.S.a8.length≤24∧∀i (h:i<a.S.a8.length),a.S.a8[i].Val.Fields.length≤4:=by
 unfold a1R b8S P7 c4v;by_cases h:0≤n∧n≤24∧0≤last∧last≤9
 ·obtain⟨h1,h2,h3,h4⟩:=h;obtain⟨k,rfl⟩:∃k:Nat,n=k:=⟨n.toNat,by omega⟩
  rw[if_neg (by simp;omega),if_neg (by simp;omega),a73 (by omega) (by omega),a73 (by omega) (by omega)]
  simp only[d7R,List.length_replicate];rw[a73 (by omega) (by omega)]
  refine⟨_,rfl,?_,?_,by simp;omega,λi h=>by simp⟩
  ·simp[sO,cO,oo]
  ·refine⟨by simp[sO];omega,h3,h4,by simp[sO],λi h=>?_,λi h=>?_,λi h q=>?_,λi h k hk q=>?_⟩
   ·simp[sO,cO];omega
   ·simp[sO,cO,oo,c1W]
   ·exfalso;simp[sO,cO,oo,Thr] at q
   ·exfalso;simp[sO,cO,oo,Thr] at q
 ·rw[if_pos (by simp;omega),if_pos (by simp;omega)]
  simp only[d7R,List.length_nil];rw[show mk 80 ((0:Nat):Int) (⟨0,0,⟨0,0,0,0,false,[]⟩⟩:n8)=some [] from rfl];refine⟨_,rfl,rfl,⟨by simp[sO],by simp[sO],by simp[sO],by simp[sO],?_,?_,?_,?_⟩,by simp,λi h=>by simp at h⟩ <;> (intro i h;simp[sO] at h)
end Go.Sh
namespace Go.Sh
noncomputable def lv(s:a7):List Int:=(E3 s).getD []
def ob(s:a7)(h:Int):m9:=((y9 s h).getD (z0,0)).1
def outs(s:a7)(h:Int):List Int:=nz (ob s h).Fields
def FB(s:a7):Prop:=∀c∈s.S.a8,∀x∈c.Val.Fields,x≤9223372036854775807
section
variable{s:a7}(hR:RtR (sO s))
include hR
theorem a5u:E3 s=some (lv s)∧(lv s).Perm (a0a 0 s.S.a8)∧(lv s).Pairwise (λa b=>sk s.S.a8 a<sk s.S.a8 b):=by
 obtain⟨l,h1,h2,h3⟩:=c4c hR;have:lv s=l:=by unfold lv;rw[h1];rfl
 rw[this];exact⟨h1,h2,h3⟩
theorem a2b:E3 s=some (lv s):=(a5u hR).1
theorem b2W{h:Int}:h∈lv s↔h∈a0a 0 s.S.a8:=(a5u hR).2.1.mem_iff
theorem G2:(lv s).length≤24:=by
 rw[(a5u hR).2.1.length_eq];exact Nat.le_trans (a6h 0 s.S.a8) (a2n hR)
theorem b1H:(lv s).Nodup:=(a5u hR).2.1.nodup_iff.2 (a7g 0 _ (by have:=(a2n hR);omega))
theorem b5r{h:Int}(hh:h∈lv s):y9 s h=some (ob s h,0):=by
 obtain⟨i,hi,_,_,_,_,e⟩:=a6g hR ((b2W hR).1 hh);unfold ob;rw[e];rfl
theorem b8D{h:Int}(hh:h∈lv s):∃i,∃hi:i<s.S.a8.length,s.S.a8[i].State=1∧h=1+(i:Int)+32*s.S.a8[i].Gen∧b2H s.S h i∧ob s h=s.S.a8[i].Val:=by
 obtain⟨i,hi,h1,h2,h3,_,e⟩:=a6g hR ((b2W hR).1 hh);refine⟨i,hi,h1,h2,h3,?_⟩;unfold ob;rw[e];rfl
theorem a5V{h:Int}(hh:h∈lv s):1≤h∧h≤320:=by
 obtain⟨i,hi,_,_,hf,_⟩:=b8D hR hh;exact b5k hf.2.1
theorem d1U{h:Int}(hh:h≤9223372036854775807)(hn:h∉lv s):∃e,e≠0∧y9 s h=some (z0,e):=by
 rcases a14 s.S hh with ⟨i,hf,_⟩ | ⟨hf,_⟩
 ·obtain⟨hi,e⟩:=c0l hf;unfold y9;rw[e];by_cases h2:s.S.a8[i].State=2
  ·rw[if_pos h2];exact⟨3,by decide,rfl⟩
  ·exact absurd ((b2W hR).2 (c7m hf λ_=>hf.2.2.2.2.resolve_right h2)) hn
 ·unfold y9;rw[c7p hh hf];exact⟨_,a3n h,rfl⟩
theorem b0o{h:Int}(hh:h≤9223372036854775807)(hn:h∉lv s):ob s h=z0:=by
 obtain⟨e,_,h1⟩:=d1U hR hh hn;unfold ob;rw[h1];rfl
theorem T0{h:Int}(hh:h≤9223372036854775807):∃e,y9 s h=some (ob s h,e)∧(e=0↔h∈lv s):=by
 by_cases q:h∈lv s
 ·exact⟨0,b5r hR q,by simp[q]⟩
 ·obtain⟨e,h0,h1⟩:=d1U hR hh q;refine⟨e,?_,by simp[h0,q]⟩
  rw[h1,b0o hR hh q]
theorem c4p{h:Int}(hh:h≤9223372036854775807)(hn:h∉lv s):outs s h = []:=by
 unfold outs;rw[b0o hR hh hn];rfl
theorem b8H(h:Int)(hh:h≤9223372036854775807):(ob s h).Fields.length≤4:=by
 by_cases q:h∈lv s
 ·obtain⟨i,hi,h1,_,_,e⟩:=b8D hR q;rw[e];exact (c8F hR i hi (.inl h1)).2.2.2.2.2.2
 ·rw[b0o hR hh q];exact Nat.zero_le _
theorem a6l(h:Int)(hh:h≤9223372036854775807):(outs s h).length≤4:=Nat.le_trans (c7X _) (b8H hR h hh)
theorem d0M(hF:FB s){h x:Int}(hh:h≤9223372036854775807)(hx:x∈outs s h):x≤9223372036854775807:=by
 by_cases q:h∈lv s
 ·obtain⟨i,hi,h1,_,_,e⟩:=b8D hR q;unfold outs at hx;rw[e] at hx;exact hF _ (List.getElem_mem hi) x (a7n.1 hx).1
 ·rw[c4p hR hh q] at hx;cases hx
end
theorem d0N{s:a7}{h x:Int}(hx:x∈outs s h):x≠0:=(a7n.1 hx).2
theorem a6d(s:a7)(hl:s.S.a8.length≤1000){h:Int}(hh:h≤9223372036854775807):F5 (sO s) h=(y9 s h).map λp=>(oo p.1,p.2):=by
 unfold F5 y9 E1 b1S;rw[a5y _ (by rw[C2];exact hl),d7R,b2S s hh]
 rcases a14 s.S hh with ⟨i,hf,e⟩ | ⟨hf,e⟩
 ·rw[e];have hi:=hf.1;simp only[d7R,bne_self_eq_false,Bool.false_eq_true,if_false];rw[c0L (by rw[C2];exact hi),p8 hi]
  simp only[d7R,plc,sO,List.getElem_map,cO];split;·rfl
  ·simp only[d7R,bne_self_eq_false,Bool.false_eq_true,if_false];rw[p8 (by simpa using hi)]
   simp[cO,oo]
 ·rw[e];simp only[d7R];have hne:((if h=0 then 2 else 3:Int) != 0)=true:=by simpa using a3n h
  simp only[hne,if_true,d7R];rfl
end Go.Sh
namespace Go.Sh
theorem c8P{s:a7}(hR:RtR (sO s)){l:List Int}(hl:∀x∈l,x∈lv s)(hn:l.length≤100) :
  ∃m,a4M (sO s) l=some m∧m.Perm l∧m.Pairwise (λa b=>sk s.S.a8 a≤sk s.S.a8 b):=by
 have hfind:∀x∈l,∃i:Nat,∃hi:i<s.S.a8.length,O0 (pl (sO s)) x=some ((i:Int),0)∧s.S.a8[i].Val.Serial=sk s.S.a8 x:=λx hx=>by
  obtain⟨i,hi,_,_,hf,h4,_⟩:=a6g hR ((b2W hR).1 (hl x hx));refine⟨i,hi,?_,h4.symm⟩;rw[b2S s (by have:=b5k hf.2.1;omega),a9w hf]
 unfold a4M;rw[M6 (by omega) (by omega),d7R]
 simp only[jn];let K:List Int→Nat→Int:=λo a=>sk s.S.a8 (o.getD a 0)
 have hplain:=a5y (sO s) (by rw[C2];have:=a2n hR;omega)
 have inner:∀(n:Nat) (o:List Int),n<l.length→o.Perm l→(∀a b,a<b→b≤n→b≠n→K o a≤K o b) →
   ∃o',lp (S:=Int × (List Int)) (E:=(List Int)) (λ((s58,s59):Int × (List Int))=>
      if (decide (s58 > 0)) then
       (K4 (sO s)).bind λv62=>
       (ix s59 (x8 (s58-1))).bind λv63=>
       (O0 v62 v63).bind λv64=>
       (ix s59 s58).bind λv65=>
       (O0 v62 v65).bind λv66=>
       (u4 (((decide (v64.1<0))||(decide (v66.1<0)))==false) (⟨0,0,⟨0,0,0,0,false,[]⟩⟩:n8) (ix (sO s).a8 v64.1)).bind λv67=>
       (u4 (((decide (v64.1<0))||(decide (v66.1<0)))==false) (⟨0,0,⟨0,0,0,0,false,[]⟩⟩:n8) (ix (sO s).a8 v66.1)).bind λv68=>
       if (((decide (v64.1<0))||(decide (v66.1<0)))||(decide (v67.Val.Serial≤v68.Val.Serial))) then
        some (.inr s59)
       else
       (ix (s59.set (s58).toNat v63) (x8 (s58-1))).bind λv69=>
       some (.inl (x8 (s58-1),((s59.set (s58).toNat v63).set (x8 (s58-1)).toNat v65)))
      else
      some (.inr s59)) ((n:Int),o)=some o'∧o'.Perm l∧∀a b,a<b→b≤n→K o' a≤K o' b:=by
  intro n o hn' hp hk;have hbn:(n:Int).toNat<4611686018427387904:=by rw[Int.toNat_natCast];omega
  refine b0N (s0:=((n:Int),o)) (λq=>∃k:Nat,q.1=(k:Int)∧k≤n∧q.2.Perm l∧∀a b,a<b→b≤n→b≠k→K q.2 a≤K q.2 b) (λo'=>o'.Perm l∧∀a b,a<b→b≤n→K o' a≤K o' b) (λq=>q.1.toNat) ⟨n,rfl,Nat.le_refl _,hp,hk⟩ hbn ?_;rintro⟨_,o⟩ ⟨k,rfl,hkn,hp,hk⟩;simp only at hp hk ⊢;have hol:o.length=l.length:=hp.length_eq;rcases Nat.eq_zero_or_pos k with rfl | hpos
  ·right;refine⟨o,by rw[if_neg (by simp)],hp,λa b h1 h2=>hk a b h1 h2 (by omega)⟩
  ·obtain⟨j,rfl⟩:∃j,k=j+1:=⟨k-1,by omega⟩
   have hj1:j+1<o.length:=by omega
   have hj:j<o.length:=by omega
   have ew:x8 (((j+1:Nat):Int)-1)=(j:Int):=by rw[F2 (by omega) (by omega)];omega
   obtain⟨ia,hia,fa,ka⟩:=hfind o[j] (hp.mem_iff.1 (List.getElem_mem hj));obtain⟨ib,hib,fb,kb⟩:=hfind o[j+1] (hp.mem_iff.1 (List.getElem_mem hj1));have ea:ix (sO s).a8 (ia:Int)=some (cO s.S.a8[ia]):=by rw[c4M,p8 hia];rfl
   have eb:ix (sO s).a8 (ib:Int)=some (cO s.S.a8[ib]):=by rw[c4M,p8 hib];rfl
   have hneg:((decide ((ia:Int)<0))||(decide ((ib:Int)<0)))=false:=by simp
   have hpos':decide (((j+1:Nat):Int) > 0)=true:=by simp
   simp only[hpos',if_true,hplain,ew,p8 hj,p8 hj1,d7R,fa,fb,hneg,beq_self_eq_true,a0s,ea,eb,Bool.false_or,cO,oo,ka,kb,Int.toNat_natCast];have Kj:K o j=sk s.S.a8 o[j]:=by simp[K,List.getD,List.getElem?_eq_getElem hj]
   have Kj1:K o (j+1)=sk s.S.a8 o[j+1]:=by simp[K,List.getD,List.getElem?_eq_getElem hj1]
   by_cases hle:sk s.S.a8 o[j]≤sk s.S.a8 o[j+1]
   ·right;refine⟨o,by rw[if_pos (by simpa using hle)],hp,λa b h1 h2=>?_⟩
    by_cases e:b=j+1
    ·subst e;rcases Nat.lt_or_ge a j with q | q
     ·have:=hk a j q (by omega) (by omega)
      omega
     ·have:a=j:=by omega
      subst this;omega
    ·exact hk a b h1 h2 e
   ·left;refine⟨_,by rw[if_neg (by simpa using hle),p8 (by simpa using hj)];rfl,⟨j,rfl,by omega,?_,λa b h1 h2 h3=>?_⟩,by show (j:Int).toNat<((j+1:Nat):Int).toNat;omega⟩
    ·exact (List.set_set_perm hj1 hj).trans hp
    ·have hK:∀c,K ((o.set (j+1) o[j]).set j o[j+1]) c=if c=j then K o (j+1) else if c=j+1 then K o j else K o c:=λc=>by
      simp only[K,List.getD,List.getElem?_set,List.length_set];by_cases c1:c=j
      ·subst c1;simp[hj,List.getElem?_eq_getElem hj1]
      ·by_cases c2:c=j+1
       ·subst c2;simp[hj1,List.getElem?_eq_getElem hj]
       ·rw[if_neg (by omega),if_neg (by omega),if_neg c1,if_neg c2]
     show K ((o.set (j+1) o[j]).set ((j:Nat):Int).toNat o[j+1]) a≤K ((o.set (j+1) o[j]).set ((j:Nat):Int).toNat o[j+1]) b;rw[Int.toNat_natCast,hK,hK];by_cases a1:a=j
     ·subst a1;rw[if_pos rfl];by_cases b2:b=a+1
      ·subst b2;rw[if_neg (by omega),if_pos rfl]
       omega
      ·rw[if_neg (by omega),if_neg b2]
       exact hk (a+1) b (by omega) h2 b2
     ·rw[if_neg a1];by_cases a2:a=j+1
      ·subst a2;rw[if_pos rfl,if_neg (by omega),if_neg (by omega)]
       exact hk j b (by omega) h2 (by omega)
      ·rw[if_neg a2,if_neg h3];by_cases b2:b=j+1
       ·subst b2;rw[if_pos rfl];exact hk a j (by omega) (by omega) (by omega)
       ·rw[if_neg b2];exact hk a b h1 h2 b2
 have outer:∃m,(lp (S:=Int × (List Int)) (E:=(List Int)) (λ((s38,s39):Int × (List Int))=>
   if (decide (s38<(s39.length:Int))) then
     (lp (S:=Int × (List Int)) (E:=(List Int)) (λ((s58,s59):Int × (List Int))=>
      if (decide (s58 > 0)) then
       (K4 (sO s)).bind λv62=>
       (ix s59 (x8 (s58-1))).bind λv63=>
       (O0 v62 v63).bind λv64=>
       (ix s59 s58).bind λv65=>
       (O0 v62 v65).bind λv66=>
       (u4 (((decide (v64.1<0))||(decide (v66.1<0)))==false) (⟨0,0,⟨0,0,0,0,false,[]⟩⟩:n8) (ix (sO s).a8 v64.1)).bind λv67=>
       (u4 (((decide (v64.1<0))||(decide (v66.1<0)))==false) (⟨0,0,⟨0,0,0,0,false,[]⟩⟩:n8) (ix (sO s).a8 v66.1)).bind λv68=>
       if (((decide (v64.1<0))||(decide (v66.1<0)))||(decide (v67.Val.Serial≤v68.Val.Serial))) then
        some (.inr s59)
       else
       (ix (s59.set (s58).toNat v63) (x8 (s58-1))).bind λv69=>
       some (.inl (x8 (s58-1),((s59.set (s58).toNat v63).set (x8 (s58-1)).toNat v65)))
      else
      some (.inr s59)) (s38,s39)).bind λe57=>
     some (.inl (x8 (s38+1),e57))
   else
   some (.inr s39)) (1,l))=some m∧m.Perm l∧m.Pairwise (λa b=>sk s.S.a8 a≤sk s.S.a8 b):=by
  have hb1:l.length+1-(1:Int).toNat<4611686018427387904:=by omega
  refine b0N (s0:=((1:Int),l)) (λq=>∃k:Nat,q.1=(k:Int)∧(k≤l.length∨k=1)∧1≤k∧q.2.Perm l∧∀a b,a<b→b<k→K q.2 a≤K q.2 b) (λ(o':List Int)=>o'.Perm l∧o'.Pairwise (λa b=>sk s.S.a8 a≤sk s.S.a8 b)) (λq=>l.length+1-q.1.toNat) ⟨1,rfl,.inr rfl,by omega,List.Perm.refl _,λa b h1 h2=>by omega⟩ hb1 ?_
  rintro⟨_,o⟩ ⟨k,rfl,hkl,hk1,hp,hk⟩;simp only at hp hk ⊢;have hol:o.length=l.length:=hp.length_eq;rcases Nat.lt_or_ge k l.length with h1 | h1
  ·left;obtain⟨o',e1,e2,e3⟩:=inner k o h1 hp λa b x1 x2 x3=>hk a b x1 (by omega)
   refine⟨(((k+1:Nat):Int),o'),?_,⟨k+1,rfl,by omega,by omega,e2,λa b x1 x2=>e3 a b x1 (by omega)⟩,by show l.length+1-((k+1:Nat):Int).toNat<l.length+1-(k:Int).toNat;omega⟩
   rw[if_pos (by simp;omega),e1,d7R,l7 (by omega)]
  ·right;refine⟨o,by rw[if_neg (by simp;omega)],hp,?_⟩
   rw[List.pairwise_iff_getElem];intro i j hi hj hij;have:=hk i j hij (by omega)
   simpa[K,List.getD,List.getElem?_eq_getElem hi,List.getElem?_eq_getElem hj] using this
 obtain⟨m,e1,e2,e3⟩:=outer;exact⟨m,by rw[show lp _ _=_ from e1];rfl,e2,e3⟩
theorem a8I{s:a7}(hR:RtR (sO s)):R1 (sO s)=some (lv s):=by
 have hlen:=a2n hR;unfold R1;simp only[jn];have hloop:lp (S:=Int × (List Int)) (E:=(List Int)) (λ((s18,s19):Int × (List Int))=>
   if (decide (s18<((sO s).a8.length:Int))) then
     (ix (sO s).a8 s18).bind λv27=>
     if (v27.State==1) then
      (a3w s18 v27.Gen).bind λv28=>
      (app 8 s19 [v28]).bind λv29=>
      some (.inl (x8 (s18+1),v29))
     else
     some (.inl (x8 (s18+1),s19))
   else
   some (.inr s19)) (0,[])=some (a0a 0 s.S.a8):=by
  refine a4f (a2N (T:=List Int) s.S.a8.length (λk l=>l=a0a 0 (s.S.a8.take k)) (λe=>e=a0a 0 s.S.a8) (by omega) (by simp[a0a]) (λk l hk hP=>?_) (λl hP=>?_))
  ·subst hP;left;have hc:=(b9h hR).gen k hk;have hl:=a6h 0 (s.S.a8.take k);have et:s.S.a8.take (k+1)=s.S.a8.take k ++ [s.S.a8[k]]:=by rw[List.take_add_one,List.getElem?_eq_getElem hk];rfl
   have el:(s.S.a8.take k).length=k:=by simp;omega
   refine⟨_,?_,rfl⟩;simp only[C2,Int.ofNat_lt,hk,decide_true,if_true,c4M,p8 hk,Option.map_some,d7R,cO];rw[et,a9A,el,Nat.zero_add];by_cases q:s.S.a8[k].State=1
   ·rw[if_pos (by simpa using q),if_pos q,a8M,d7R,if_pos (by omega),A7 (by omega) (by simp;omega),d7R,l7]
   ·rw[if_neg (by simpa using q),if_neg q,l7,List.append_nil]
  ·subst hP;refine⟨_,by simp only[C2,Int.lt_irrefl,decide_false,Bool.false_eq_true,if_false];rfl,by simp⟩
 rw[show lp _ _=_ from hloop,d7R];obtain⟨m,h1,h2,h3⟩:=c8P hR (l:=a0a 0 s.S.a8) (λx hx=>(b2W hR).2 hx) (by have:=a6h 0 s.S.a8;omega)
 rw[h1,d7R];congr 1;obtain⟨_,l2,l3⟩:=a5u hR;exact a7L (key:=sk s.S.a8) (h2.trans l2.symm) h3 (l3.imp λh=>by omega) λa ha b hb e=>b9o hR (h2.mem_iff.1 ha) (h2.mem_iff.1 hb) e
end Go.Sh
namespace Go.Sh
theorem c0C(v:List Int)(h:v.length≤1000000):a4t v=some (nz v):=by
 unfold a4t a9U;simp only[jn,d7R];rw[G7 v (λb x=>if x != 0 then b ++ [x] else b) id (λk b=>b.length≤k) (by omega) (by simp) (λk hk b hb=>?_) (λb _=>?_)]
 ·simp only[d7R,id];rw[foldl_filter];rfl
 ·simp only[Int.ofNat_lt,hk,decide_true,if_true,p8 hk,d7R];by_cases q:(v[k] != 0)=true
  ·rw[if_pos (by simpa using q),if_pos q,A7 (by omega) (by simp;omega),d7R,l7]
   exact⟨rfl,by simp;omega⟩
  ·rw[if_neg (by simpa using q),if_neg q,l7]
   exact⟨rfl,by omega⟩
 ·simp only[Int.lt_irrefl,decide_false,Bool.false_eq_true,if_false];rfl
theorem b5v(v:List Int)(h:v.length≤1000000):a2Q v=some (nz v):=by
 unfold a2Q;simp only[jn];rw[G7 v (λb x=>if x != 0 then b ++ [x] else b) id (λk b=>b.length≤k) (by omega) (by simp) (λk hk b hb=>?_) (λb _=>?_)]
 ·simp only[d7R,id];rw[foldl_filter];rfl
 ·simp only[Int.ofNat_lt,hk,decide_true,if_true,p8 hk,d7R];by_cases q:(v[k] != 0)=true
  ·rw[if_pos q,if_pos q,A7 (by omega) (by simp;omega),d7R,l7]
   exact⟨rfl,by simp;omega⟩
  ·rw[if_neg q,if_neg q,l7];exact⟨rfl,by omega⟩
 ·simp only[Int.lt_irrefl,decide_false,Bool.false_eq_true,if_false];rfl
theorem b0Y(l:List Int)(h:Int)(hl:l.length≤1000000):a1M l h=some (tms l h:Int):=by
 unfold a1M;simp only[jn];rw[b68 l (λ(b:Int) x=>if (x==h&&h != 0) then b+1 else b) id (λk b=>0≤b∧b≤k) (by omega) (by simp) (λk hk b hb=>?_) (λb _=>?_)]
 ·simp only[d7R,id];rw[b3x];simp
 ·simp only[Int.ofNat_lt,hk,decide_true,if_true,p8 hk,d7R];by_cases q:(l[k]==h&&h != 0)=true
  ·rw[if_pos q,if_pos q,l7,F2 (n:=b+1) (by omega) (by omega)]
   exact⟨rfl,by omega⟩
  ·rw[if_neg q,if_neg q,l7];exact⟨rfl,by omega⟩
 ·simp only[Int.lt_irrefl,decide_false,Bool.false_eq_true,if_false];rfl
noncomputable def inn(s:a7)(h:Int):Nat:=((lv s).map λx=>tms (outs s x) h).sum
theorem c4e{s:a7}(hR:RtR (sO s)){k:Nat}(hk:k<(lv s).length):(lv s)[k]≤9223372036854775807:=by
 have:=a5V hR (List.getElem_mem hk);omega
section
variable{s:a7}(hR:RtR (sO s))
include hR
theorem c8c{h:Int}(hh:h≤9223372036854775807):a6E s h=some (outs s h):=by
 obtain⟨e,h1,_⟩:=T0 hR hh;unfold a6E;rw[h1,d7R,c0C _ (by have:=b8H hR h hh;simp only;omega)]
 rfl
theorem c0H{h:Int}(hh:h≤9223372036854775807):b1Z (sO s) h=some (outs s h):=by
 unfold b1Z;rw[a6d s (by have:=a2n hR;omega) hh]
 obtain⟨e,h1,h2⟩:=T0 hR hh;rw[h1];simp only[Option.map_some,d7R];by_cases q:e=0
 ·subst q;rw[if_neg (by simp),b5v _ (by have:=b8H hR h hh;simp only[oo];omega)]
  rfl
 ·rw[if_pos (by simpa using q),c4p hR hh (λq'=>q (h2.2 q'))]
theorem c2r(h:Int):inn s h≤96:=by
 have:=b9t (λx=>tms (outs s x) h) 4 (lv s) λx hx=>Nat.le_trans (c3g _ _) (a6l hR x (by have:=a5V hR hx;omega))
 have:=G2 hR;unfold inn;omega
theorem d5K(h:Int):b4B s h=some (inn s h:Int):=by
 unfold b4B a7D;simp only[jn,d7R];rw[show E3 s=_ from a2b hR,d7R];have hl:=G2 hR;rw[G7 (lv s) (λ(b:Int) x=>b+(tms (outs s x) h:Int)) id (λk b=>0≤b∧b≤4*k) (by omega) (by simp) (λk hk b hb=>?_) (λb _=>?_)]
 ·simp only[d7R,id];have:=b0K (λx=>tms (outs s x) h) (lv s) 0;rw[show ((0:Nat):Int)=0 from rfl] at this;rw[this,Nat.zero_add];rfl
 ·have ho:=c8c hR (c4e hR hk);have hol:=a6l hR _ (c4e hR hk);have ht:=c3g (outs s (lv s)[k]) h;simp only[Int.ofNat_lt,hk,decide_true,if_true,p8 hk,d7R,ho];rw[G7 (outs s (lv s)[k]) (λ(b:Int) x=>if (x==h&&h != 0) then b+1 else b) id (λj c=>b≤c∧c≤b+j) (by omega) (by simp) (λj hj c hc=>?_) (λc _=>?_)]
  ·simp only[d7R,id];rw[b3x,l7];exact⟨rfl,by omega⟩
  ·simp only[Int.ofNat_lt,hj,decide_true,if_true,p8 hj,d7R];have hne:=d0N (List.getElem_mem hj);by_cases q:(outs s (lv s)[k])[j]=h
   ·have e2:((outs s (lv s)[k])[j]==h&&h != 0)=true:=by simp only[Bool.and_eq_true,beq_iff_eq,bne_iff_ne];omega
    rw[e2,if_pos (by simpa using q),if_pos rfl,l7,F2 (n:=c+1) (by omega) (by omega)]
    exact⟨rfl,by omega⟩
   ·have e2:((outs s (lv s)[k])[j]==h&&h != 0)=false:=by rw[Bool.eq_false_iff];simp only[ne_eq,Bool.and_eq_true,beq_iff_eq,bne_iff_ne];omega
    rw[e2,if_neg (by simpa using q),l7]
    exact⟨rfl,by simp;omega⟩
  ·simp only[Int.lt_irrefl,decide_false,Bool.false_eq_true,if_false];rfl
 ·simp only[Int.lt_irrefl,decide_false,Bool.false_eq_true,if_false];rfl
theorem d0h(h:Int):b8T (sO s) h=some (inn s h:Int):=by
 unfold b8T;simp only[jn,a8I hR,d7R];have hl:=G2 hR;rw[b68 (lv s) (λ(b:Int) x=>b+(tms (outs s x) h:Int)) id (λk b=>0≤b∧b≤4*k) (by omega) (by simp) (λk hk b hb=>?_) (λb _=>?_)]
 ·simp only[d7R,id];have:=b0K (λx=>tms (outs s x) h) (lv s) 0;rw[show ((0:Nat):Int)=0 from rfl] at this;rw[this,Nat.zero_add];rfl
 ·have hol:=a6l hR _ (c4e hR hk);have ht:=c3g (outs s (lv s)[k]) h;simp only[Int.ofNat_lt,hk,decide_true,if_true,p8 hk,d7R,c0H hR (c4e hR hk)];rw[b0Y _ _ (by omega),d7R,l7,F2 (by omega) (by omega)]
  exact⟨rfl,by omega⟩
 ·simp only[Int.lt_irrefl,decide_false,Bool.false_eq_true,if_false];rfl
end
end Go.Sh
namespace Go.Sh
section
variable{s:a7}(hR:RtR (sO s))(hF:FB s)
include hR hF
end
theorem b1j{α:Type}(p:α→Bool):∀l:List α,l.length=(l.filter p).length+(l.filter λx => !p x).length
 | []=>rfl
 | x::l=>by
  have:=b1j p l;by_cases h:p x
  ·simp[h];omega
  ·simp[h];omega
theorem d5M{s:a7}(hR:RtR (sO s)){l:List Int}(hp:l.Perm (a0a 0 s.S.a8))(hs:l.Pairwise (λa b=>sk s.S.a8 a<sk s.S.a8 b)):lv s=l:=by
 obtain⟨_,l2,l3⟩:=a5u hR;exact a7L (key:=sk s.S.a8) (l2.trans hp.symm) (l3.imp λh=>by omega) (hs.imp λh=>by omega) λa ha b hb e=>b9o hR (l2.mem_iff.1 ha) (l2.mem_iff.1 hb) e
end Go.Sh
namespace Go.Sh
inductive Rch (s:a7) (l:List Int):Int→Prop
 | base {h:Int}:h∈l→h∈lv s→Rch s l h
 | step {a b:Int}:Rch s l a→b∈outs s a→b∈lv s→Rch s l b
open Classical in
noncomputable def rcd (s:a7) (l:List Int):List Int:=(lv s).filter λh=>decide (Rch s l h)
open Classical in
noncomputable def lst (s:a7) (l:List Int):List Int:=(lv s).filter λh=>decide (¬Rch s l h)
def Cl(s:a7)(l:List Int):Prop:=∀a∈l,∀b∈outs s a,b∈lv s→b∈l
def LB(l:List Int):Prop:=∀x∈l,x≤9223372036854775807
theorem Rch.live{s:a7}{l:List Int}{h:Int}(q:Rch s l h):h∈lv s:=by cases q <;> assumption
open Classical in
theorem a0j {s:a7} {l:List Int} {h:Int}:h∈rcd s l↔Rch s l h:=by
 unfold rcd;rw[List.mem_filter];exact⟨λq=>of_decide_eq_true q.2,λq=>⟨q.live,decide_eq_true q⟩⟩
theorem c4x{s:a7}(hR:RtR (sO s))(l:List Int):(rcd s l).length≤24:=Nat.le_trans (List.length_filter_le ..) (G2 hR)
theorem d4m(s:a7)(l:List Int):Cl s (rcd s l):=λa ha b hb hl=>a0j.2 (.step (a0j.1 ha) hb hl)
theorem Rch.least{s:a7}{l m:List Int}(hc:Cl s m)(hl:∀x∈l,x∈lv s→x∈m){h:Int}(q:Rch s l h):h∈m:=by
 induction q with
 | base h1 h2=>exact hl _ h1 h2
 | step _ h1 h2 ih=>exact hc _ ih _ h1 h2
theorem Rch.mono{s:a7}{l m:List Int}(hl:∀x∈l,x∈lv s→Rch s m x){h:Int}(q:Rch s l h):Rch s m h:=by
 induction q with
 | base h1 h2=>exact hl _ h1 h2
 | step _ h1 h2 ih=>exact .step ih h1 h2
theorem b7p{s:a7}{l m:List Int}(h:∀x,Rch s l x↔Rch s m x):rcd s l=rcd s m:=by
 unfold rcd;exact List.filter_congr λx _=>decide_eq_decide.2 (h x)
theorem filter_lt{α:Type}{p q:α→Bool}:∀ {l:List α},(∀x∈l,p x=true→q x=true)→∀x∈l,q x=true→p x=false→(l.filter p).length<(l.filter q).length
 | [],_,x,hx,_,_=>by cases hx
 | y::l,h,x,hx,h1,h2=>by
  have hle:(l.filter p).length≤(l.filter q).length:=by
   have h':∀x∈l,p x=true→q x=true:=λx hx=>h x (List.mem_cons_of_mem _ hx);clear h hx;induction l with
   | nil=>simp
   | cons z l ih=>
    have:=ih λx hx=>h' x (List.mem_cons_of_mem _ hx);have hz:=h' z (List.mem_cons_self ..);simp only[List.filter_cons];by_cases a:p z=true
    ·rw[if_pos a,if_pos (hz a)];simp only[List.length_cons];omega
    ·rw[if_neg a];split <;> (try simp only[List.length_cons]) <;> omega
  rcases List.mem_cons.1 hx with rfl | hx'
  ·simp only[List.filter_cons,h1,h2,if_true,Bool.false_eq_true,if_false,List.length_cons];omega
  ·have:=filter_lt (λx hx=>h x (List.mem_cons_of_mem _ hx)) x hx' h1 h2;have hy:=h y (List.mem_cons_self ..);simp only[List.filter_cons];by_cases a:p y=true
   ·rw[if_pos a,if_pos (hy a)];simp only[List.length_cons];omega
   ·rw[if_neg a];split <;> (try simp only[List.length_cons]) <;> omega
theorem a4K{l m:List Int}(hn:l.Nodup)(h:∀x∈l,x∈m):l.length≤m.length:=by
 induction l generalizing m with
 | nil=>simp
 | cons x l ih=>
  rw[List.nodup_cons] at hn;have hx:=h x (List.mem_cons_self ..);have:=ih (m:=m.erase x) hn.2 λy hy=>(List.mem_erase_of_ne (λe=>hn.1 (by subst e;exact hy))).2 (h y (List.mem_cons_of_mem _ hy))
  rw[List.length_erase_of_mem hx] at this;have:0<m.length:=List.length_pos_of_mem hx;simp only[List.length_cons];omega
section
variable{s:a7}(hR:RtR (sO s))
include hR
theorem c5A{h:Int}(hh:h≤9223372036854775807):a0U s h=some (decide (h∈lv s)):=by
 obtain⟨e,h1,h2⟩:=T0 hR hh;unfold a0U;rw[h1,d7R];congr 1;rw[Bool.eq_iff_iff,beq_iff_eq,decide_eq_true_iff];exact h2
abbrev Mk(m:List (Int × Bool))(x:Int):Prop:=(C0 m x).getD false=true
noncomputable def unm(s:a7)(m:List (Int × Bool)):Nat:=((lv s).filter λx => !(C0 m x).getD false).length
omit hR in
theorem b20 (m:List (Int × Bool)) (x y:Int):Mk (s6 m x true) y↔y=x∨Mk m y:=by
 unfold Mk;rw[a9B];by_cases q:y=x
 ·simp[q]
 ·simp[q]
omit hR in
theorem d1o {m:List (Int × Bool)} {x:Int} (hx:x∈lv s) (hm:¬Mk m x):unm s (s6 m x true)<unm s m:=by
 unfold unm;refine filter_lt (λy _ h=>?_) x hx (by simpa[Mk] using hm) ?_
 ·by_cases q:Mk m y
  ·have:=(b20 m x y).2 (.inr q);unfold Mk at this;rw[this] at h;cases h
  ·simpa[Mk] using q
 ·have:=(b20 m x x).2 (.inl rfl);unfold Mk at this;rw[this];rfl
structure c1X (s:a7) (l:List Int) (q:l5) (m:List (Int × Bool)):Prop where
 nd:q.L.Nodup
 cap:q.Cap=((lv s).length:Int)
 mkd:∀x∈q.L,Mk m x
 rc:∀x,Mk m x→Rch s l x
omit hR in
theorem c1X.room {l:List Int} {q:l5} {m:List (Int × Bool)} (h:c1X s l q m) {x:Int} (hx:x∈lv s) (hm:¬Mk m x):q.L.length<(lv s).length:=by
 have:(x::q.L).length≤(lv s).length:=a4K (List.nodup_cons.2 ⟨λk=>hm (h.mkd x k),h.nd⟩) λy hy=>by
  rcases List.mem_cons.1 hy with rfl | k
  ·exact hx
  ·exact (h.rc y (h.mkd y k)).live
 simp only[List.length_cons] at this;omega
omit hR in
theorem d0S {q:l5} {x:Int} (h:(q.L.length:Int)<q.Cap) (h2:q.L.length≤1000):P5 q x=some (⟨q.L ++ [x],q.Cap⟩,0):=by
 unfold P5 L5 P6;rw[d7R,if_neg (by simp;omega)]
 have:=b0I (xs:=q.L) (i:=0) (j:=q.L.length) (by omega) (Nat.le_refl _)
 rw[show ((0:Nat):Int)=0 from rfl] at this;rw[this];simp only[List.take_length,List.drop_zero,d7R];rw[A7 (by omega) (by simp;omega)]
 rfl
omit hR in
theorem d3Y {x:Int} {r:List Int} {c:Int} (h2:r.length≤1000):a1g ⟨x::r,c⟩=some (⟨r,c⟩,x,0):=by
 unfold a1g a3O L5 P6;simp only[d7R,List.length_cons];have e:(if (if (((r.length+1:Nat):Int))<1 then (((r.length+1:Nat):Int)) else 1) > 0 then (if (((r.length+1:Nat):Int))<1 then (((r.length+1:Nat):Int)) else 1) else 0:Int)=((1:Nat):Int):=by
  rw[if_neg (show ¬(((r.length+1:Nat):Int)<1) by omega)]
  rfl
 rw[e];have h1:=b0I (xs:=x::r) (i:=0) (j:=1) (by omega) (by simp)
 have h3:=b0I (xs:=x::r) (i:=1) (j:=r.length+1) (by omega) (by simp)
 rw[show ((0:Nat):Int)=0 from rfl] at h1;rw[h1,h3];simp only[d7R];have e1:List.drop 0 (List.take 1 (x::r)) = [x]:=by simp
 have e2:List.drop 1 (List.take (r.length+1) (x::r))=r:=by simp
 rw[e1,e2];rfl
abbrev c0O(s:a7)(xs:List Int):Int × l5 × (List (Int × Bool))→Option ((Int × l5 × (List (Int × Bool))) ⊕ (l5 × (List (Int × Bool)))):=
 λ(s114,s115,s116)=>
   if (decide (s114<(xs.length:Int))) then
     (ix xs s114).bind λv126=>
     (a0U s v126).bind λv127=>
     if (v127==true) then
      if (!((C0 s116 v126).getD (false:Bool))) then
       (P5 s115 v126).bind λv128=>
       some (.inl (x8 (s114+1),v128.1,(s6 s116 v126 true)))
      else
      some (.inl (x8 (s114+1),s115,s116))
     else
     some (.inl (x8 (s114+1),s115,s116))
   else
   some (.inr (s115,s116))
theorem b7i{l xs:List Int}{q:l5}{m:List (Int × Bool)}(hxs:LB xs)(hlen:xs.length≤1000000)(h0:c1X s l q m)(hr:∀x∈xs,x∈lv s→Rch s l x) :
  ∃q' m',lp (c0O s xs) (0,q,m)=some (q',m')∧c1X s l q' m'∧(∀x,Mk m' x↔Mk m x∨x∈xs∧x∈lv s)∧(∀x,Mk m' x→Mk m x∨x∈q'.L)∧(∀x∈q.L,x∈q'.L)∧2*unm s m'+q'.L.length≤2*unm s m+q.L.length:=by
 have:=a2N (f:=c0O s xs) (t0:=(q,m)) xs.length (λk t=>c1X s l t.1 t.2∧(∀x,Mk t.2 x↔Mk m x∨x∈xs.take k∧x∈lv s)∧(∀x,Mk t.2 x→Mk m x∨x∈t.1.L)∧(∀x∈q.L,x∈t.1.L)∧2*unm s t.2+t.1.L.length≤2*unm s m+q.L.length)
  (λt=>c1X s l t.1 t.2∧(∀x,Mk t.2 x↔Mk m x∨x∈xs∧x∈lv s)∧(∀x,Mk t.2 x→Mk m x∨x∈t.1.L)∧(∀x∈q.L,x∈t.1.L)∧2*unm s t.2+t.1.L.length≤2*unm s m+q.L.length) (by omega)
  ⟨h0,λx=>by simp,λx h=>.inl h,λx h=>h,Nat.le_refl _⟩ (λk t hk hP=>?_) (λt hP=>?_)
 ·obtain⟨⟨q',m'⟩,h1,h2⟩:=this;exact⟨q',m',h1,h2⟩
 ·obtain⟨q1,m1⟩:=t;obtain⟨p1,p2,p3,p4,p5⟩:=hP;simp only at p1 p2 p3 p4 p5;left;have hle:=hxs _ (List.getElem_mem hk);have ht:∀x,x∈xs.take (k+1)↔x∈xs.take k∨x=xs[k]:=λx=>by rw[List.take_succ_eq_append_getElem hk,List.mem_append,List.mem_singleton]
  simp only[c0O,Int.ofNat_lt,hk,decide_true,if_true,p8 hk,d7R,c5A hR hle];by_cases hv:xs[k]∈lv s
  ·rw[if_pos (by simpa using hv)]
   by_cases hm:Mk m1 xs[k]
   ·rw[if_neg (by rw[show (C0 m1 xs[k]).getD false=true from hm];decide),l7]
    refine⟨(q1,m1),rfl,p1,λx=>?_,p3,p4,p5⟩;rw[p2,ht];constructor
    ·rintro (a | ⟨a,b⟩);·exact .inl a
     ·exact .inr ⟨.inl a,b⟩
    ·rintro (a | ⟨a | rfl,b⟩);·exact .inl a
     ·exact .inr ⟨a,b⟩
     ·exact (p2 _).1 hm
   ·have hm':(C0 m1 xs[k]).getD false=false:=by simpa[Mk] using hm
    have hroom:=p1.room hv hm;have hl24:=G2 hR;rw[if_pos (by rw[hm'];decide),d0S (by rw[p1.cap];omega) (by omega),d7R,l7]
    refine⟨(⟨q1.L ++ [xs[k]],q1.Cap⟩,s6 m1 xs[k] true),rfl,⟨?_,p1.cap,λx hx=>?_,λx hx=>?_⟩,λx=>?_,λx hx=>?_,λx hx=>?_,?_⟩
    ·simp only;rw[List.nodup_append];refine⟨p1.nd,by simp,λa ha b hb e=>?_⟩
     rw[List.mem_singleton] at hb;subst hb;subst e;exact hm (p1.mkd _ ha)
    ·simp only[List.mem_append,List.mem_singleton] at hx;rw[b20];rcases hx with a | a
     ·exact .inr (p1.mkd x a)
     ·exact .inl a
    ·rcases (b20 m1 xs[k] x).1 hx with rfl | a
     ·exact hr _ (List.getElem_mem hk) hv
     ·exact p1.rc x a
    ·simp only;rw[b20,p2,ht];constructor
     ·rintro (rfl | a | ⟨a,b⟩);·exact .inr ⟨.inr rfl,hv⟩
      ·exact .inl a
      ·exact .inr ⟨.inl a,b⟩
     ·rintro (a | ⟨a | a,b⟩);·exact .inr (.inl a)
      ·exact .inr (.inr ⟨a,b⟩)
      ·exact .inl a
    ·simp only[List.mem_append,List.mem_singleton];rcases (b20 m1 xs[k] x).1 hx with a | a
     ·exact .inr (.inr a)
     ·rcases p3 x a with b | b
      ·exact .inl b
      ·exact .inr (.inl b)
    ·simp only[List.mem_append];exact .inl (p4 x hx)
    ·have:=d1o hv hm;simp only[List.length_append,List.length_singleton];omega
  ·rw[if_neg (by simpa using hv),l7]
   refine⟨(q1,m1),rfl,p1,λx=>?_,p3,p4,p5⟩;rw[p2,ht];constructor
   ·rintro (a | ⟨a,b⟩);·exact .inl a
    ·exact .inr ⟨.inl a,b⟩
   ·rintro (a | ⟨a | rfl,b⟩);·exact .inl a
    ·exact .inr ⟨a,b⟩
    ·exact absurd b hv
 ·obtain⟨q1,m1⟩:=t;refine⟨(q1,m1),?_,?_⟩;·simp only[c0O,Int.lt_irrefl,decide_false,Bool.false_eq_true,if_false]
  ·simpa using hP
theorem b7y(hF:FB s){l:List Int}(hl:LB l)(hlen:l.length≤1000000):∃m,a2l s l=some m∧∀x,Mk m x↔Rch s l x:=by
 unfold a2l a3f;simp only[jn,a2b hR,d7R];have h24:=G2 hR;obtain⟨q0,m0,e0,i0,i1,i2,i3,i4⟩:=b7i hR (l:=l) (xs:=l) (q:=⟨[],((lv s).length:Int)⟩) (m:=[]) hl hlen ⟨List.nodup_nil,rfl,(λx hx=>by cases hx),(λx hx=>by simp[Mk,C0] at hx)⟩ (λx h1 h2=>.base h1 h2)
 rw[show lp _ _=_ from e0,d7R];simp only;have hu:unm s []≤24:=Nat.le_trans (List.length_filter_le ..) h24;obtain⟨m,h1,h2⟩:=b0N (s0:=(q0,m0)) (f:=λ((s70,s71):l5 × (List (Int × Bool)))=>
    (L5 s70).bind λv74=>
    if (decide (v74 > 0)) then
     (a1g s70).bind λv75=>
     (a6E s v75.2.1).bind λv76=>
      (lp (c0O s v76) (0,v75.1,s71)).bind λe97=>
      (some (.inl (e97.1,e97.2)):Option ((l5 × List (Int × Bool)) ⊕ List (Int × Bool)))
    else
    some (.inr s71)) (λt=>c1X s l t.1 t.2∧(∀x∈l,x∈lv s→Mk t.2 x)∧∀a,Mk t.2 a→a∈t.1.L∨∀b∈outs s a,b∈lv s→Mk t.2 b) (λm=>∀x,Mk m x↔Rch s l x) (λt=>2*unm s t.2+t.1.L.length)
   ⟨i0,λx h1 h2=>(i1 x).2 (.inr ⟨h1,h2⟩),λa ha=>.inl ((i2 a ha).resolve_left (by simp[Mk,C0]))⟩ (by show 2*unm s m0+q0.L.length<_;simp only[List.length_nil] at i4;omega) (by
   rintro⟨q,m⟩ ⟨p1,p2,p3⟩;simp only at p1 p2 p3 ⊢;have hq:=a4K p1.nd λx hx=>(p1.rc x (p1.mkd x hx)).live;unfold L5;rw[d7R];cases hqL:q.L with
   | nil=>
    right;refine⟨m,by rw[if_neg (by simp)],λx=>⟨p1.rc x,λh=>?_⟩⟩
    induction h with
    | base a b=>exact p2 _ a b
    | step _ a b ih=>
     rcases p3 _ ih with c | c
     ·rw[hqL] at c;cases c
     ·exact c _ a b
   | cons a r=>
    left;have hqe:q=⟨a::r,q.Cap⟩:=by rw[←hqL]
    have hal:a∈lv s:=(p1.rc a (p1.mkd a (by rw[hqL];exact List.mem_cons_self ..))).live
    have ha:a≤9223372036854775807:=by have:=a5V hR hal;omega
    have hnd:=p1.nd;rw[hqL] at hnd hq;simp only[List.length_cons] at hq;obtain⟨q',m',e1,j0,j1,j2,j3,j4⟩:=b7i hR (l:=l) (xs:=outs s a) (q:=⟨r,q.Cap⟩) (m:=m) (λx hx=>d0M hR hF ha hx) (by have:=a6l hR a ha;omega) ⟨(List.nodup_cons.1 hnd).2,p1.cap,λx hx=>p1.mkd x (by rw[hqL];exact List.mem_cons_of_mem _ hx),p1.rc⟩ (λx h1 h2=>.step (p1.rc a (p1.mkd a (by rw[hqL];exact List.mem_cons_self ..))) h1 h2)
    refine⟨(q',m'),?_,⟨j0,λx h1 h2=>(j1 x).2 (.inl (p2 x h1 h2)),λb hb=>?_⟩,?_⟩
    ·rw[if_pos (by simp),hqe,d3Y (by omega),d7R]
     simp only;rw[c8c hR ha,d7R,e1,d7R]
    ·simp only at hb ⊢;rcases j2 b hb with c | c
     ·rcases p3 b c with d | d
      ·rw[hqL] at d;rcases List.mem_cons.1 d with rfl | d
       ·exact .inr λy h1 h2=>(j1 y).2 (.inr ⟨h1,h2⟩)
       ·exact .inl (j3 b d)
      ·exact .inr λy h1 h2=>(j1 y).2 (.inl (d y h1 h2))
     ·exact .inl c
    ·show 2*unm s m'+q'.L.length<2*unm s m+(a::r).length;simp only[List.length_cons] at j4 ⊢;omega)
 refine⟨m,?_,h2⟩;rw[show lp _ _=_ from h1];rfl
end
end Go.Sh
namespace Go.Sh
theorem c7z(l:List Int)(x:Int)(hl:l.length≤1000000):∃r:Int,R4 l x=some r∧(0≤r↔x∈l):=by
 unfold R4;simp only[jn];by_cases h:x∈l
 ·obtain⟨i,hi,e⟩:=List.mem_iff_getElem.1 h;obtain⟨j,⟨hj,ej⟩,hmin⟩:=a1t (p:=λi=>∃hi:i<l.length,l[i]=x) ⟨i,hi,e⟩;refine⟨(j:Int),?_,by simp[h]⟩
  refine V2 l.length (λk=>k≤j) (by omega) (Nat.zero_le _) (λk hk hP=>?_) (λhP=>by omega)
  simp only[Int.ofNat_lt,hk,decide_true,if_true,p8 hk,d7R];rcases Nat.lt_or_ge k j with q | q
  ·refine .inl ⟨?_,q⟩;rw[if_neg (by
    rw[beq_iff_eq];intro e;have:=hmin k ⟨hk,e.symm⟩;omega),l7]
  ·have:k=j:=by omega
   subst this;exact .inr ⟨_,by rw[if_pos (by simpa using ej.symm)],rfl⟩
 ·refine⟨-1,?_,by simp[h]⟩
  refine V2 l.length (λk=>True) (by omega) trivial (λk hk hP=>.inl ⟨?_,trivial⟩) (λhP=>⟨.inr (),by simp,rfl⟩)
  simp only[Int.ofNat_lt,hk,decide_true,if_true,p8 hk,d7R];rw[if_neg (by
   rw[beq_iff_eq];intro e;exact h (e▸List.getElem_mem hk)),l7]
theorem contains_eq(l:List Int)(x:Int)(hl:l.length≤1000000):F3 l x=some (decide (x∈l)):=by
 obtain⟨r,h1,h2⟩:=c7z l x hl;unfold F3;rw[h1,d7R];congr 1;exact decide_eq_decide.2 h2
theorem b1t(l:List Int)(x:Int)(hl:l.length≤1000000):a7x l x=some (decide (x≠0∧x∈l)):=by
 unfold a7x;rw[b0Y l x hl,d7R];congr 1;rw[decide_eq_decide,←a2r];omega
open Classical in
theorem c1A (all l:List Int) (b:Bool) (ha:all.length≤1000000) (hl:l.length≤1000000) (h0:∀x∈all,x≠0):a6t all l b=some (all.filter λx=>decide (x∈l)==b):=by
 unfold a6t;simp only[jn];rw[G7 all (λacc x=>if decide (x∈l)==b then acc ++ [x] else acc) id (λk acc=>acc.length≤k) (by omega) (by simp) (λk hk acc hb=>?_) (λb _=>?_)]
 ·simp only[d7R,id];rw[foldl_filter];rfl
 ·simp only[Int.ofNat_lt,hk,decide_true,if_true,p8 hk,d7R,b1t _ _ hl];have e:decide (all[k]≠0∧all[k]∈l)=decide (all[k]∈l):=decide_eq_decide.2 ⟨λq=>q.2,λq=>⟨h0 _ (List.getElem_mem hk),q⟩⟩;rw[e];by_cases q:(decide (all[k]∈l)==b)=true
  ·rw[if_pos q,if_pos q,A7 (by omega) (by simp;omega),d7R,l7]
   exact⟨rfl,by simp;omega⟩
  ·rw[if_neg q,if_neg q,l7];exact⟨rfl,by omega⟩
 ·simp only[Int.lt_irrefl,decide_false,Bool.false_eq_true,if_false];rfl
section
variable{s:a7}(hR:RtR (sO s))
include hR
theorem c4f:∀x∈lv s,x≠0:=λx hx=>by have:=a5V hR hx;omega
open Classical in
theorem c31 (hF:FB s) {l:List Int} (hl:LB l) (hlen:l.length≤1000000):a4P s l=some (rcd s l):=by
 obtain⟨m,h1,h2⟩:=b7y hR hF hl hlen;unfold a4P T2 a4b;rw[h1,d7R];simp only[jn,a2b hR,d7R];have h24:=G2 hR;rw[G7 (lv s) (λacc x=>if decide (Rch s l x) then acc ++ [x] else acc) id (λk acc=>acc.length≤k) (by omega) (by simp) (λk hk acc hb=>?_) (λb _=>?_)]
 ·simp only[d7R,id];rw[foldl_filter];rfl
 ·simp only[Int.ofNat_lt,hk,decide_true,if_true,p8 hk,d7R];by_cases q:Rch s l (lv s)[k]
  ·rw[if_pos ((h2 _).2 q),if_pos (by simpa using q),A7 (by omega) (by simp;omega),d7R,l7]
   exact⟨rfl,by simp;omega⟩
  ·rw[if_neg (λk=>q ((h2 _).1 k)),if_neg (by simpa using q),l7]
   exact⟨rfl,by omega⟩
 ·simp only[Int.lt_irrefl,decide_false,Bool.false_eq_true,if_false];rfl
open Classical in
theorem d0p (hF:FB s) {l:List Int} (hl:LB l) (hlen:l.length≤1000000):a7C s l=some (lst s l):=by
 obtain⟨m,h1,h2⟩:=b7y hR hF hl hlen;unfold a7C T3 a4c;rw[h1,d7R];simp only[jn,a2b hR,d7R];have h24:=G2 hR;rw[G7 (lv s) (λacc x=>if decide (¬Rch s l x) then acc ++ [x] else acc) id (λk acc=>acc.length≤k) (by omega) (by simp) (λk hk acc hb=>?_) (λb _=>?_)]
 ·simp only[d7R,id];rw[foldl_filter];rfl
 ·simp only[Int.ofNat_lt,hk,decide_true,if_true,p8 hk,d7R];by_cases q:Rch s l (lv s)[k]
  ·have e:(C0 m (lv s)[k]).getD false=true:=(h2 _).2 q;rw[if_neg (by rw[e];decide),if_neg (by simpa using q),l7]
   exact⟨rfl,by omega⟩
  ·have e:(C0 m (lv s)[k]).getD false=false:=by
    have:¬Mk m (lv s)[k]:=λk=>q ((h2 _).1 k);simpa[Mk] using this
   rw[if_pos (by rw[e];decide),if_pos (by simpa using q),A7 (by omega) (by simp;omega),d7R,l7]
   exact⟨rfl,by simp;omega⟩
 ·simp only[Int.lt_irrefl,decide_false,Bool.false_eq_true,if_false];rfl
def grow(s:a7)(all seen:List Int):List Int:=all.filter λx=>decide (x∈seen++seen.flatMap (outs s))
def a0o(s:a7)(all seen:List Int):Nat→List Int
 | 0=>seen
 | k+1=>grow s all (a0o s all seen k)
omit hR in
theorem b0L (all seen:List Int) (k:Nat):a0o s all seen (k+1)=grow s all (a0o s all seen k):=rfl
omit hR in
theorem b1s {all seen:List Int} {x:Int}:x∈grow s all seen↔x∈all∧(x∈seen∨∃a∈seen,x∈outs s a):=by
 unfold grow;rw[List.mem_filter,decide_eq_true_iff,List.mem_append,List.mem_flatMap]
open Classical in
omit hR in
theorem c7t (l:List Int):a0o s (lv s) ((lv s).filter λx=>decide (x∈l)==true) (lv s).length=rcd s l:=by
 have hsub:∀k x,x∈a0o s (lv s) ((lv s).filter λx=>decide (x∈l)==true) k→Rch s l x:=by
  intro k;induction k with
  | zero=>
   intro x hx;have:=List.mem_filter.1 (show x∈(lv s).filter λx=>decide (x∈l)==true from hx);exact .base (by simpa using this.2) this.1
  | succ k ih=>
   intro x hx;rw[b0L,b1s] at hx;rcases hx.2 with q | ⟨a,q1,q2⟩
   ·exact ih x q
   ·exact .step (ih a q1) q2 hx.1
 have hall:∀k x,x∈a0o s (lv s) ((lv s).filter λx=>decide (x∈l)==true) k→x∈lv s:=λk x hx=>(hsub k x hx).live;have hfil:∀k,∃p:Int→Bool,a0o s (lv s) ((lv s).filter λx=>decide (x∈l)==true) k=(lv s).filter p:=by
  intro k;cases k with
  | zero=>exact⟨_,rfl⟩
  | succ k=>exact⟨_,rfl⟩
 have hinc:∀k x,x∈a0o s (lv s) ((lv s).filter λx=>decide (x∈l)==true) k→x∈a0o s (lv s) ((lv s).filter λx=>decide (x∈l)==true) (k+1):=λk x hx=>b1s.2 ⟨hall k x hx,.inl hx⟩;have key:∀k,Cl s (a0o s (lv s) ((lv s).filter λx=>decide (x∈l)==true) k)∨k≤(a0o s (lv s) ((lv s).filter λx=>decide (x∈l)==true) k).length:=by
  intro k;induction k with
  | zero=>exact .inr (Nat.zero_le _)
  | succ k ih=>
   by_cases hc:Cl s (a0o s (lv s) ((lv s).filter λx=>decide (x∈l)==true) k)
   ·left;have:∀x,x∈a0o s (lv s) ((lv s).filter λx=>decide (x∈l)==true) (k+1)↔x∈a0o s (lv s) ((lv s).filter λx=>decide (x∈l)==true) k:=λx=>⟨λhx=>by
     rw[b0L,b1s] at hx;rcases hx.2 with q | ⟨a,q1,q2⟩
     ·exact q
     ·exact hc a q1 x q2 hx.1,hinc k x⟩
    intro a ha b hb hbl;exact (this b).2 (hc a ((this a).1 ha) b hb hbl)
   ·right;have hk:=ih.resolve_left hc;obtain⟨b,hb1,hb2,hb3⟩:∃b,b∈lv s∧b∈a0o s (lv s) ((lv s).filter λx=>decide (x∈l)==true) (k+1)∧b∉a0o s (lv s) ((lv s).filter λx=>decide (x∈l)==true) k:=by
     refine Classical.byContradiction λq=>hc λa ha b hb hbl=>Classical.byContradiction λq2=>q ⟨b,hbl,b1s.2 ⟨hbl,.inr ⟨a,ha,hb⟩⟩,q2⟩
    obtain⟨p,hp⟩:=hfil k;obtain⟨p',hp'⟩:=hfil (k+1);have hi:=hinc k;rw[hp] at hi hb3 hk;rw[hp'] at hi hb2 ⊢;have:=filter_lt (p:=p) (q:=p') (l:=lv s) (λx hx h=>(List.mem_filter.1 (hi x (List.mem_filter.2 ⟨hx,h⟩))).2) b hb1 (List.mem_filter.1 hb2).2 (by
     cases h:p b;·rfl
     ·exact absurd (List.mem_filter.2 ⟨hb1,h⟩) hb3)
    omega
 have hcl:Cl s (a0o s (lv s) ((lv s).filter λx=>decide (x∈l)==true) (lv s).length):=by
  rcases key (lv s).length with q | q
  ·exact q
  ·obtain⟨p,hp⟩:=hfil (lv s).length;rw[hp] at q ⊢;have:(lv s).filter p=lv s:=List.filter_eq_self.2 λx hx=>by
    cases h:p x
    ·have:=filter_lt (p:=p) (q:=λ_=>true) (l:=lv s) (λ_ _ _=>rfl) x hx rfl h;rw[List.filter_eq_self.2 (λ_ _=>rfl)] at this;omega
    ·rfl
   rw[this];exact λ_ _ _ _ h=>h
 have hbase:∀k x,x∈l→x∈lv s→x∈a0o s (lv s) ((lv s).filter λx=>decide (x∈l)==true) k:=by
  intro k;induction k with
  | zero=>intro x h1 h2;exact List.mem_filter.2 ⟨h2,by simpa using h1⟩
  | succ k ih=>intro x h1 h2;exact hinc k x (ih x h1 h2)
 have hiff:∀x,x∈a0o s (lv s) ((lv s).filter λx=>decide (x∈l)==true) (lv s).length↔Rch s l x:=λx=>⟨hsub _ x,λq=>Rch.least hcl (hbase _) q⟩;obtain⟨p,hp⟩:=hfil (lv s).length;rw[hp];unfold rcd;refine List.filter_congr λx hx=>?_;have:=hiff x;rw[hp,List.mem_filter] at this;rw[Bool.eq_iff_iff,decide_eq_true_iff,←this];exact⟨λh=>⟨hx,h⟩,λh=>h.2⟩
open Classical in
theorem b6X {l:List Int} (hlen:l.length≤1000000):a6s (sO s) l=some (rcd s l):=by
 unfold a6s;have h24:=G2 hR;rw[a8I hR,d7R,c1A _ _ _ (by omega) hlen (c4f hR),d7R]
 simp only[jn];have hg:∀k,(a0o s (lv s) ((lv s).filter λx=>decide (x∈l)==true) k).length≤24∧∀x∈a0o s (lv s) ((lv s).filter λx=>decide (x∈l)==true) k,x∈lv s:=by
  intro k;cases k with
  | zero=>exact⟨Nat.le_trans (List.length_filter_le ..) h24,λx hx=>(List.mem_filter.1 (show x∈(lv s).filter λx=>decide (x∈l)==true from hx)).1⟩
  | succ k=>exact⟨Nat.le_trans (List.length_filter_le ..) h24,λx hx=>(List.mem_filter.1 (show x∈(lv s).filter _ from hx)).1⟩
 refine a2a (p:=λk=>(a0o s (lv s) ((lv s).filter λx=>decide (x∈l)==true) k,(k:Int))) rfl (lv s).length (λ_=>True) (by omega) trivial (λk hk _=>.inl ⟨?_,trivial⟩) (λ_=>⟨_,by simp only[Int.lt_irrefl,decide_false,Bool.false_eq_true,if_false];rfl,by rw[c7t l]⟩)
 obtain⟨g1,g2⟩:=hg k;simp only[Int.ofNat_lt,hk,decide_true,if_true];rw[M6 (by omega) (by omega),d7R]
 generalize hS:a0o s (lv s) ((lv s).filter λx=>decide (x∈l)==true) k=S at g1 g2;have hSle:∀x∈S,x≤9223372036854775807:=λx hx=>by have:=a5V hR (g2 x hx);omega
 have hflat:∀T:List Int,T.length≤24→(∀x∈T,x≤9223372036854775807)→(T.flatMap (outs s)).length≤96:=λT h1 h2=>by
  rw[List.length_flatMap];have:=b9t (λx=>(outs s x).length) 4 T λx hx=>a6l hR x (h2 x hx);omega
 rw[G7 S (λacc x=>acc++outs s x) id (λj acc=>acc.length≤S.length+4*j) (by omega) (by simp) (λj hj acc hb=>?_) (λb _=>?_)]
 ·simp only[d7R,id];rw[a2J,c1A _ _ _ (by omega) (by
   have:=hflat S g1 hSle;simp only[List.length_append];omega) (c4f hR),d7R,l7,b0L,hS]
  unfold grow;congr 3;refine List.filter_congr λx _=>?_;rw[Bool.eq_iff_iff];simp
 ·have ho:=a6l hR _ (hSle _ (List.getElem_mem hj));simp only[Int.ofNat_lt,hj,decide_true,if_true,p8 hj,d7R,c0H hR (hSle _ (List.getElem_mem hj))];rw[A7 (by omega) (by omega),d7R,l7]
  exact⟨rfl,by simp;omega⟩
 ·simp only[Int.lt_irrefl,decide_false,Bool.false_eq_true,if_false];rfl
end
end Go.Sh
namespace Go.Sh
abbrev Tb:=List c5
abbrev M0(p:c5):g9:=⟨p.State,p.Key,p.Val⟩
def pt(t:Tb)(j:Nat):c5:=t.getD j ⟨0,0,0⟩
theorem b3B{t:Tb}{j:Nat}(h:j<t.length):pt t j=t[j]:=by unfold pt;rw[List.getD_eq_getElem?_getD,List.getElem?_eq_getElem h];rfl
theorem b63{t:Tb}{j:Nat}(h:j<t.length):ix t (j:Int)=some (pt t j):=by rw[p8 h,b3B h]
theorem b5x{t:Tb}{i:Nat}(h:i<t.length)(p:c5)(j:Nat):pt (t.set i p) j=if j=i then p else pt t j:=by
 unfold pt;rw[List.getD_eq_getElem?_getD,List.getD_eq_getElem?_getD,List.getElem?_set];by_cases e:i=j
 ·subst e;simp[h]
 ·rw[if_neg e,if_neg (Ne.symm e)]
def hm(n:Nat)(k:Int):Nat:=(x8 ((x8 (5*k))+1) % (n:Int)).toNat
theorem c7w{n:Nat}(h:1≤n)(k:Int):hm n k<n:=by
 unfold hm;have h1:=Int.emod_nonneg (x8 ((x8 (5*k))+1)) (show (n:Int)≠0 by omega)
 have h2:=Int.emod_lt_of_pos (x8 ((x8 (5*k))+1)) (show (0:Int)<n by omega)
 omega
theorem b4p{n:Nat}(h:1≤n)(h2:n≤1000)(k:Int):a0M n k=some (hm n k:Int):=by
 unfold a0M hm;rw[if_neg (by simp;omega)]
 generalize x8 ((x8 (5*k))+1)=a;have hp:=Int.emod_nonneg a (show (n:Int)≠0 by omega)
 have hl:=Int.emod_lt_of_pos a (show (0:Int)<n by omega)
 unfold rem;rw[if_neg (by omega),d7R,Int.toNat_of_nonneg hp]
 rw[Int.tmod_eq_emod];split;·rw[show a % (n:Int)-((0:Nat):Int)=a % n by simp,if_neg (by simp;omega)]
 ·have:((n:Int).natAbs:Int)=n:=by simp
  rw[this];rw[if_pos (by simp;omega),F2 (by omega) (by omega)]
  congr 1;omega
def pos(n:Nat)(k:Int)(d:Nat):Nat:=(hm n k+d) % n
theorem a3N{n:Nat}(h:1≤n)(k:Int)(d:Nat):pos n k d<n:=Nat.mod_lt _ h
theorem d2j{n:Nat}(h:1≤n)(h8:n≤8):n=1∨n=2∨n=3∨n=4∨n=5∨n=6∨n=7∨n=8:=by omega
theorem c7T{n m i:Nat}(h:1≤n)(h8:n≤8)(hm:m<n)(hi:i<n):∃d,d<n∧(m+d) % n=i:=by
 refine⟨(i+n-m) % n,Nat.mod_lt _ h,?_⟩;rcases d2j h h8 with rfl | rfl | rfl | rfl | rfl | rfl | rfl | rfl <;> omega
theorem d0v{n m d d':Nat}(h:1≤n)(h8:n≤8)(hd:d<n)(hd':d'<n)(e:(m+d) % n=(m+d') % n):d=d':=by
 rcases d2j h h8 with rfl | rfl | rfl | rfl | rfl | rfl | rfl | rfl <;> omega
theorem c0M{n:Nat}(h:1≤n)(h8:n≤8)(k:Int){i:Nat}(hi:i<n):∃d,d<n∧pos n k d=i:=c7T h h8 (c7w h k) hi
theorem d0Q{n:Nat}(h:1≤n)(h8:n≤8){k:Int}{d d':Nat}(hd:d<n)(hd':d'<n)(e:pos n k d=pos n k d'):d=d':=d0v h h8 hd hd' e
structure HR (t:Tb):Prop where
 l1:1≤t.length
 l8:t.length≤8
 st:∀i,i<t.length→((pt t i).State=0∨(pt t i).State=1∨(pt t i).State=2)∧((pt t i).State≠1→(pt t i).Key=0∧(pt t i).Val=0)
 uq:∀i j,i<t.length→j<t.length→(pt t i).State=1→(pt t j).State=1→(pt t i).Key=(pt t j).Key→i=j
 rd:∀i,i<t.length→(pt t i).State=1→∀d,d<t.length→(∀d',d'≤d→pos t.length (pt t i).Key d'≠i)→(pt t (pos t.length (pt t i).Key d)).State≠0
def Fk(t:Tb)(k:Int)(i:Nat):Prop:=i<t.length∧(pt t i).State=1∧(pt t i).Key=k
instance(t:Tb)(k:Int)(i:Nat):Decidable (Fk t k i):=by unfold Fk;infer_instance
theorem step_eq{n:Nat}(h:1≤n)(h2:n≤1000)(k:Int){d:Nat}(hd:d<n):rem (x8 ((hm n k:Int)+d)) n=some ((pos n k d:Nat):Int):=by
 have:=c7w h k;rw[F2 (by omega) (by omega),b2i (by omega) (by omega)]
 unfold pos;simp[Int.natCast_emod]
theorem b6U{t:Tb}(h1:1≤t.length)(h8:t.length≤8)(k:Int) :
  (∃d,d<t.length∧(∀j,j<d→(pt t (pos t.length k j)).State≠0∧¬Fk t k (pos t.length k j))∧Fk t k (pos t.length k d)∧Y5 t k=some ((pos t.length k d:Nat):Int)) ∨
  (∃d,d≤t.length∧(∀j,j<d→(pt t (pos t.length k j)).State≠0∧¬Fk t k (pos t.length k j))∧(d=t.length∨(pt t (pos t.length k d)).State=0)∧Y5 t k=some (-1)):=by
 unfold Y5;simp only[jn,a4j,d7R];generalize hq:(lp (S:=Int) (E:=Int ⊕ Unit) _ 0)=q;have body:∀d:Nat,d<t.length→(if (decide ((d:Int)<(t.length:Int))) then
    (a0M (t.length:Int) k).bind λv14=>
    (rem (x8 (v14+d)) (t.length:Int)).bind λv15=>
    (ix t v15).bind λv16=>
    if (v16.State==0) then
     some (.inr (.inr ()))
    else
    if ((v16.State==1)&&(v16.Key==k)) then
     some (.inr (.inl v15))
    else
    some (.inl (x8 ((d:Int)+1)))
   else
   some (.inr (.inr ())):Option (Int ⊕ (Int ⊕ Unit)))=if (pt t (pos t.length k d)).State=0 then some (.inr (.inr ())) else if Fk t k (pos t.length k d) then some (.inr (.inl ((pos t.length k d:Nat):Int))) else some (.inl ((d+1:Nat):Int)):=λd hd=>by
  have hp:=a3N h1 k d;rw[if_pos (by simpa using hd),b4p h1 (by omega),d7R,step_eq h1 (by omega) k hd,d7R,b63 hp,d7R,l7 (by omega)]
  by_cases a:(pt t (pos t.length k d)).State=0
  ·rw[if_pos (by simpa using a),if_pos a]
  ·rw[if_neg (by simpa using a),if_neg a]
   by_cases b:Fk t k (pos t.length k d)
   ·rw[if_pos (by simp[b.2.1,b.2.2]),if_pos b]
   ·rw[if_neg (by simp;exact λh1 h2=>b ⟨hp,h1,h2⟩),if_neg b]
 have key:=b69 (f:=λ(s12:Int)=>if (decide (s12<(t.length:Int))) then
    (a0M (t.length:Int) k).bind λv14=>
    (rem (x8 (v14+s12)) (t.length:Int)).bind λv15=>
    (ix t v15).bind λv16=>
    if (v16.State==0) then
     some (.inr (.inr ()))
    else
    if ((v16.State==1)&&(v16.Key==k)) then
     some (.inr (.inl v15))
    else
    some (.inl (x8 (s12+1)))
   else
   some (.inr (.inr ()))) t.length (λd=>∀j,j<d→(pt t (pos t.length k j)).State≠0∧¬Fk t k (pos t.length k j))
   (λ(e:Int ⊕ Unit)=>(∃d,d<t.length∧(∀j,j<d→(pt t (pos t.length k j)).State≠0∧¬Fk t k (pos t.length k j))∧Fk t k (pos t.length k d)∧e = .inl ((pos t.length k d:Nat):Int)) ∨
    (∃d,d≤t.length∧(∀j,j<d→(pt t (pos t.length k j)).State≠0∧¬Fk t k (pos t.length k j))∧(d=t.length∨(pt t (pos t.length k d)).State=0)∧e = .inr ())) (by omega) (λj hj=>by omega)
   (λd hd hP=>by
    rw[body d hd];by_cases a:(pt t (pos t.length k d)).State=0
    ·rw[if_pos a];exact .inr ⟨_,rfl,.inr ⟨d,by omega,hP,.inr a,rfl⟩⟩
    ·rw[if_neg a];by_cases b:Fk t k (pos t.length k d)
     ·rw[if_pos b];exact .inr ⟨_,rfl,.inl ⟨d,hd,hP,b,rfl⟩⟩
     ·rw[if_neg b];refine .inl ⟨rfl,λj hj=>?_⟩;rcases Nat.lt_or_ge j d with q | q
      ·exact hP j q
      ·have:j=d:=by omega
       subst this;exact⟨a,b⟩)
   (λhP=>⟨.inr (),by simp,.inr ⟨t.length,Nat.le_refl _,hP,.inl rfl,rfl⟩⟩)
 obtain⟨e,he,hQ⟩:=key;rw[he] at hq;subst hq;rcases hQ with ⟨d,a1,a2,a3,rfl⟩ | ⟨d,a1,a2,a3,rfl⟩;·exact .inl ⟨d,a1,a2,a3,rfl⟩
 ·exact .inr ⟨d,a1,a2,a3,rfl⟩
theorem a7b{t:Tb}(hR:HR t){k:Int}{i:Nat}(hi:Fk t k i):Y5 t k=some (i:Int):=by
 obtain⟨di,hdi,hpi⟩:=c0M hR.l1 hR.l8 k hi.1;have road:∀d,d<di→(pt t (pos t.length k d)).State≠0:=λd hd=>by
  have:=hR.rd i hi.1 hi.2.1 d (by omega) (λd' hd' e=>by
   rw[hi.2.2] at e;have:=d0Q hR.l1 hR.l8 (by omega) hdi (e.trans hpi.symm)
   omega)
  rwa [hi.2.2] at this
 rcases b6U hR.l1 hR.l8 k with ⟨d,a1,a2,a3,a4⟩ | ⟨d,a1,a2,a3,a4⟩;·rw[a4,hR.uq _ i (a3N hR.l1 k d) hi.1 a3.2.1 hi.2.1 (by rw[a3.2.2,hi.2.2])]
 ·exfalso;rcases Nat.lt_or_ge di d with q | q
  ·exact (a2 di q).2 (by rw[hpi];exact hi)
  ·rcases a3 with rfl | a3
   ·omega
   ·rcases Nat.lt_or_ge d di with q' | q'
    ·exact road d q' a3
    ·have:d=di:=by omega
     subst this;rw[hpi,hi.2.1] at a3;cases a3
theorem a5o{t:Tb}(h1:1≤t.length)(h8:t.length≤8){k:Int}(hi:∀i,¬Fk t k i):Y5 t k=some (-1):=by
 rcases b6U h1 h8 k with ⟨d,a1,a2,a3,a4⟩ | ⟨d,a1,a2,a3,a4⟩;·exact absurd a3 (hi _)
 ·exact a4
theorem b3v(t:Tb)(k:Int):(∃i,Fk t k i)∨∀i,¬Fk t k i:=by
 by_cases h:∃i,Fk t k i
 ·exact .inl h
 ·exact .inr λi hi=>h ⟨i,hi⟩
theorem b59{t:Tb}{i:Nat}(h8:t.length≤1000)(hi:i<t.length)(p:c5):a1K t (i:Int) p=some (t.set i p):=by
 unfold a1K E2;rw[M6 (by omega) (by omega),d7R,p8 hi,d7R,Int.toNat_natCast]
inductive b3T (t:Tb) (k v:Int):Tb × Int→Prop
 | old (i:Nat) (hi:Fk t k i):b3T t k v (t.set i ⟨1,k,v⟩,0)
 | new (d:Nat) (hn:∀i,¬Fk t k i) (hd:d<t.length) (hb:∀j,j<d→(pt t (pos t.length k j)).State=1) (hf:(pt t (pos t.length k d)).State≠1):b3T t k v (t.set (pos t.length k d) ⟨1,k,v⟩,0)
 | full (hn:∀i,¬Fk t k i) (ha:∀i,i<t.length→(pt t i).State=1):b3T t k v (t,8)
theorem c2K{t:Tb}(hR:HR t)(k v:Int):∃r,a8E t k v=some r∧b3T t k v r:=by
 have h1:=hR.l1;have h8:=hR.l8;unfold a8E;rcases b3v t k with ⟨i,hi⟩ | hn
 ·rw[a7b hR hi,d7R,if_pos (by simp),b59 (by omega) hi.1]
  exact⟨_,rfl,.old i hi⟩
 ·rw[a5o h1 h8 hn,d7R,if_neg (by decide)]
  simp only[jn,a4j,d7R];have key:=b69 (f:=λ(s15:Int)=>
   if (decide (s15<(t.length:Int))) then
    (a0M (t.length:Int) k).bind λv17=>
    (rem (x8 (v17+s15)) (t.length:Int)).bind λv18=>
    (ix t v18).bind λv19=>
    if (v19.State != 1) then
     (a1K t v18 (⟨1,k,v⟩:c5)).bind λv20=>
     some (Sum.inr (.inl (v20,(0:Int))))
    else
    some (.inl (x8 (s15+1)))
   else
   some (.inr (.inr ()))) t.length (λd=>∀j,j<d→(pt t (pos t.length k j)).State=1)
   (λ(e:(Tb × Int) ⊕ Unit)=>(∃r,e = .inl r∧b3T t k v r)∨(e = .inr ()∧b3T t k v (t,8))) (by omega) (λj hj=>by omega)
   (λd hd hP=>by
    have hp:=a3N h1 k d;rw[if_pos (by simpa using hd),b4p h1 (by omega),d7R,step_eq h1 (by omega) k hd,d7R,b63 hp,d7R]
    by_cases a:(pt t (pos t.length k d)).State=1
    ·rw[if_neg (by simpa using a),l7 (by omega)]
     refine .inl ⟨rfl,λj hj=>?_⟩;rcases Nat.lt_or_ge j d with q | q
     ·exact hP j q
     ·have:j=d:=by omega
      subst this;exact a
    ·rw[if_pos (by simpa using a),b59 (by omega) hp,d7R]
     exact .inr ⟨_,rfl,.inl ⟨_,rfl,.new d hn hd hP a⟩⟩)
   (λhP=>⟨.inr (),by simp,.inr ⟨rfl,.full hn λi hi=>by
    obtain⟨d,hd,rfl⟩:=c0M h1 h8 k hi;exact hP d hd⟩⟩)
  obtain⟨e,he,hQ⟩:=key;rw[he,d7R];rcases hQ with ⟨r,rfl,hr⟩ | ⟨rfl,hr⟩;·exact⟨r,rfl,hr⟩
  ·exact⟨_,rfl,hr⟩
theorem c2p{t:Tb}(hR:HR t){k:Int}{i:Nat}(hi:Fk t k i):L9 t k=some ((pt t i).Val,0):=by
 unfold L9;rw[a7b hR hi,d7R,if_neg (by simp),b63 hi.1,d7R]
theorem c2o{t:Tb}(hR:HR t){k:Int}(hi:∀i,¬Fk t k i):L9 t k=some (0,9):=by
 unfold L9;rw[a5o hR.l1 hR.l8 hi,d7R,if_pos (by decide)]
theorem a9u{t:Tb}(hR:HR t){k:Int}{i:Nat}(hi:Fk t k i):Y4 t k=some (t.set i ⟨2,0,0⟩,(pt t i).Val,0):=by
 have:=hR.l8;unfold Y4;rw[a7b hR hi,d7R,if_neg (by simp),b59 (by omega) hi.1,d7R,b63 hi.1,d7R]
theorem a9t{t:Tb}(hR:HR t){k:Int}(hi:∀i,¬Fk t k i):Y4 t k=some (t,0,9):=by
 unfold Y4;rw[a5o hR.l1 hR.l8 hi,d7R,if_pos (by decide)]
theorem HR.set{t:Tb}(hR:HR t){i:Nat}(hi:i<t.length){p:c5}(h0:p.State=1∨p=⟨2,0,0⟩)
  (hu:p.State=1→∀j,j≠i→¬Fk t p.Key j)(hr:p.State=1→∀d,d<t.length→(∀d',d'≤d→pos t.length p.Key d'≠i)→(pt t (pos t.length p.Key d)).State≠0):HR (t.set i p):=by
 have hnz:p.State≠0:=by
  rcases h0 with h | rfl
  ·omega
  ·simp
 refine⟨by simpa using hR.l1,by simpa using hR.l8,λj hj=>?_,λj j' hj hj' s1 s2 hk=>?_,λj hj s1 d hd hne=>?_⟩ <;> simp only[List.length_set] at *
 ·rw[b5x hi];split
  ·rcases h0 with h | rfl
   ·exact⟨.inr (.inl h),λq=>absurd h q⟩
   ·exact⟨.inr (.inr rfl),λ_=>⟨rfl,rfl⟩⟩
  ·exact hR.st j hj
 ·rw[b5x hi] at s1 s2 hk;rw[b5x hi] at hk;by_cases e1:j=i <;> by_cases e2:j'=i
  ·rw[e1,e2]
  ·rw[if_pos e1] at s1 hk;rw[if_neg e2] at s2 hk;exact absurd ⟨hj',s2,hk.symm⟩ (hu s1 j' e2)
  ·rw[if_neg e1] at s1 hk;rw[if_pos e2] at s2 hk;exact absurd ⟨hj,s1,hk⟩ (hu s2 j e1)
  ·rw[if_neg e1] at s1 hk;rw[if_neg e2] at s2 hk;exact hR.uq j j' hj hj' s1 s2 hk
 ·simp only[b5x hi] at s1 hne ⊢;by_cases e1:j=i
  ·simp only[if_pos e1] at s1 hne ⊢;split;·exact hnz
   ·exact hr s1 d hd (by rw[←e1];exact hne)
  ·simp only[if_neg e1] at s1 hne ⊢;split;·exact hnz
   ·exact hR.rd j hj s1 d hd hne
theorem b0R{t:Tb}(hR:HR t){k v:Int}{r:Tb × Int}(h:b3T t k v r):HR r.1:=by
 cases h with
 | old i hi=>
  refine hR.set hi.1 (.inl rfl) (λ_ j hj q=>hj (hR.uq j i q.1 hi.1 q.2.1 hi.2.1 (q.2.2.trans hi.2.2.symm))) λ_ d hd hne=>?_;have:=hR.rd i hi.1 hi.2.1 d hd (by rw[hi.2.2];exact hne)
  rwa [hi.2.2] at this
 | new d hn hd hb hf=>
  refine hR.set (a3N hR.l1 k d) (.inl rfl) (λ_ j _=>hn j) λ_ d' hd' hne=>?_;rcases Nat.lt_or_ge d' d with q | q
  ·have:=hb d' q;simp only;omega
  ·exact absurd rfl (hne d q)
 | full hn ha=>exact hR
theorem a5k{t:Tb}(hR:HR t){i:Nat}(hi:i<t.length):HR (t.set i ⟨2,0,0⟩):=hR.set hi (.inr rfl) (λq=>by cases q) λq=>by cases q
end Go.Sh
namespace Go.Sh
theorem ixm{t:Tb}{j:Nat}(h:j<t.length):ix (t.map M0) (j:Int)=some (M0 (pt t j)):=by rw[a1p,b63 h];rfl
theorem c8v{t:Tb}(h8:t.length≤1000){k:Int}{i:Nat}(hi:Fk t k i)(hf:∀j,j<i→¬Fk t k j):a1i (t.map M0) k=some (i:Int):=by
 unfold a1i;simp only[jn];refine V2 t.length (λj=>j≤i) (by omega) (Nat.zero_le _) (λj hj hP=>?_) (λhP=>by have:=hi.1;omega)
 rw[if_pos (by simpa using hj),ixm hj,d7R]
 by_cases e:j=i
 ·subst e;exact .inr ⟨.inl (j:Int),by rw[if_pos (by simp[M0,hi.2.1,hi.2.2])],rfl⟩
 ·have:=hf j (by omega)
  refine .inl ⟨by rw[if_neg (by simp[M0];exact λh1 h2=>this ⟨hj,h1,h2⟩),l7 (by omega)],by omega⟩
theorem c8u{t:Tb}(h8:t.length≤1000){k:Int}(hf:∀j,¬Fk t k j):a1i (t.map M0) k=some (-1):=by
 unfold a1i;simp only[jn];refine V2 t.length (λj=>True) (by omega) trivial (λj hj hP=>?_) (λhP=>⟨.inr (),by simp,rfl⟩)
 rw[if_pos (by simpa using hj),ixm hj,d7R]
 refine .inl ⟨by rw[if_neg (by simp[M0];exact λh1 h2=>hf j ⟨hj,h1,h2⟩),l7 (by omega)],trivial⟩
theorem c7k{t:Tb}{k:Int}(h:∃i,Fk t k i):∃i,Fk t k i∧∀j,j<i→¬Fk t k j:=by
 obtain⟨i,h1,h2⟩:=a1t h;exact⟨i,h1,λj hj q=>by have:=h2 j q;omega⟩
theorem b7w{t:Tb}{i:Nat}(h8:t.length≤1000)(hi:i<t.length)(p:c5):a1j (t.map M0) (i:Int) (M0 p)=some ((t.set i p).map M0):=by
 unfold a1j;rw[M6 (by omega) (by simp;omega),d7R,ixm hi,d7R,Int.toNat_natCast,List.map_set]
theorem c1k:b12=a0M:=rfl
theorem d2d{n:Nat}(h1:1≤n)(h8:n≤8)(k:Int)(d:Nat):rem (x8 (((pos n k d:Nat):Int)+1)) n=some ((pos n k (d+1):Nat):Int):=by
 have:=a3N h1 k d;rw[F2 (by omega) (by omega),b2i (by omega) (by omega)]
 unfold pos;congr 1;have:((hm n k+d) % n+1) % n=(hm n k+(d+1)) % n:=by rw[Nat.mod_add_mod];rfl
 rw[←this];simp[Int.natCast_emod]
theorem c0N{n:Nat}(h1:1≤n)(k:Int):pos n k 0=hm n k:=by
 unfold pos;rw[Nat.add_zero,Nat.mod_eq_of_lt (c7w h1 k)]
end Go.Sh
namespace Go.Sh
def Has(t:Tb)(k v:Int):Prop:=∃i,Fk t k i∧(pt t i).Val=v
theorem d3n{t:Tb}{k:Int}:(∀v,¬Has t k v)↔∀i,¬Fk t k i:=by
 constructor;·intro h i hi;exact h _ ⟨i,hi,rfl⟩
 ·rintro h v ⟨i,hi,_⟩;exact h i hi
theorem d3o(t:Tb)(k:Int):(∃v,Has t k v)∨∀v,¬Has t k v:=by
 by_cases h:∃v,Has t k v
 ·exact .inl h
 ·exact .inr λv hv=>h ⟨v,hv⟩
theorem Has.fn{t:Tb}(hR:HR t){k v v':Int}(h:Has t k v)(h':Has t k v'):v=v':=by
 obtain⟨i,a,rfl⟩:=h;obtain⟨j,b,rfl⟩:=h';rw[hR.uq i j a.1 b.1 a.2.1 b.2.1 (a.2.2.trans b.2.2.symm)]
theorem c33{t:Tb}(hR:HR t){k v:Int}(h:Has t k v):L9 t k=some (v,0):=by
 obtain⟨i,a,rfl⟩:=h;exact c2p hR a
theorem c5x{t:Tb}(hR:HR t){k:Int}(h:∀v,¬Has t k v):L9 t k=some (0,9):=c2o hR (d3n.1 h)
theorem b8u{t:Tb}{i:Nat}(hi:i<t.length){k v:Int}(p:c5)(h:∀j,j≠i→Fk t p.Key j→p.State≠1)(k' v':Int) :
  Has (t.set i p) k' v'↔(p.State=1∧p.Key=k'∧p.Val=v')∨∃j,j≠i∧Fk t k' j∧(pt t j).Val=v':=by
 unfold Has Fk;simp only[List.length_set,b5x hi];constructor
 ·rintro⟨j,⟨h1,h2,h3⟩,h4⟩;by_cases e:j=i
  ·rw[if_pos e] at h2 h3 h4;exact .inl ⟨h2,h3,h4⟩
  ·rw[if_neg e] at h2 h3 h4;exact .inr ⟨j,e,⟨h1,h2,h3⟩,h4⟩
 ·rintro (⟨h1,h2,h3⟩ | ⟨j,e,⟨h1,h2,h3⟩,h4⟩);·exact⟨i,by simp[hi,h1,h2,h3]⟩
  ·exact⟨j,by simp[e,h1,h2,h3,h4]⟩
theorem b8P{t:Tb}(hR:HR t){k v:Int}{r:Tb × Int}(h:b3T t k v r)(h0:r.2=0)(k' v':Int):Has r.1 k' v'↔(k'=k∧v'=v)∨(k'≠k∧Has t k' v'):=by
 cases h with
 | old i hi=>
  rw[b8u (k:=k) (v:=v) hi.1 _ (λj hj q=>absurd (hR.uq j i q.1 hi.1 q.2.1 hi.2.1 (q.2.2.trans hi.2.2.symm)) hj)];constructor
  ·rintro (⟨_,rfl,rfl⟩ | ⟨j,e,h1,h2⟩);·exact .inl ⟨rfl,rfl⟩
   ·refine .inr ⟨λq=>?_,j,h1,h2⟩;subst q;exact e (hR.uq j i h1.1 hi.1 h1.2.1 hi.2.1 (h1.2.2.trans hi.2.2.symm))
  ·rintro (⟨rfl,rfl⟩ | ⟨e,j,h1,h2⟩);·exact .inl ⟨rfl,rfl,rfl⟩
   ·refine .inr ⟨j,λq=>?_,h1,h2⟩;subst q;exact e (h1.2.2.symm.trans hi.2.2)
 | new d hn hd hb hf=>
  rw[b8u (k:=k) (v:=v) (a3N hR.l1 k d) _ (λj hj q=>absurd q (hn j))];constructor
  ·rintro (⟨_,rfl,rfl⟩ | ⟨j,e,h1,h2⟩);·exact .inl ⟨rfl,rfl⟩
   ·refine .inr ⟨λq=>?_,j,h1,h2⟩;subst q;exact hn j h1
  ·rintro (⟨rfl,rfl⟩ | ⟨e,j,h1,h2⟩);·exact .inl ⟨rfl,rfl,rfl⟩
   ·refine .inr ⟨j,λq=>?_,h1,h2⟩;subst q;exact hf h1.2.1
 | full hn ha=>cases h0
theorem b44{t:Tb}(hR:HR t){k:Int}{i:Nat}(hi:Fk t k i)(k' v':Int):Has (t.set i ⟨2,0,0⟩) k' v'↔k'≠k∧Has t k' v':=by
 rw[b8u (k:=k) (v:=0) hi.1 _ (λj hj q=>by simp)]
 constructor
 ·rintro (⟨h,_⟩ | ⟨j,e,h1,h2⟩);·cases h
  ·refine⟨λq=>?_,j,h1,h2⟩;subst q;exact e (hR.uq j i h1.1 hi.1 h1.2.1 hi.2.1 (h1.2.2.trans hi.2.2.symm))
 ·rintro⟨e,j,h1,h2⟩;refine .inr ⟨j,λq=>?_,h1,h2⟩;subst q;exact e (h1.2.2.symm.trans hi.2.2)
theorem c57{l:List g9}(h:l.length≤100000):b14 l l=some true:=by
 unfold b14;rw[if_neg (by simp)]
 simp only[jn];refine V2 l.length (λ_=>True) (by omega) trivial (λk hk _=>.inl ⟨?_,trivial⟩) (λ_=>⟨.inr (),by simp,rfl⟩)
 rw[if_pos (by simpa using hk),p8 hk,d7R,d7R,if_neg (by simp),l7 (by omega)]
theorem c2u{l:List Int}(h:l.length≤100000):a3x l l=some true:=by
 unfold a3x;rw[if_neg (by simp)]
 simp only[jn];refine V2 l.length (λ_=>True) (by omega) trivial (λk hk _=>.inl ⟨?_,trivial⟩) (λ_=>⟨.inr (),by simp,rfl⟩)
 rw[if_pos (by simpa using hk),p8 hk,d7R,d7R,if_neg (by simp),l7 (by omega)]
def keys(t:Tb):List Int:=(t.filter (·.State==1)).map (·.Key)
theorem b5a{α β:Type}(p:α→Bool)(f:α→β)(l:List α)(k:Nat)(h:k<l.length):((l.take (k+1)).filter p).map f=((l.take k).filter p).map f++(if p l[k] then [f l[k]] else []):=by
 rw[List.take_succ_eq_append_getElem h,List.filter_append,List.map_append];congr 1;simp only[List.filter_cons,List.filter_nil];split <;> rfl
theorem keys_eq{t:Tb}(h:t.length≤1000):a6f t=some (keys t):=by
 unfold a6f keys;simp only[jn];refine M7 t.length (λk l=>l=((t.take k).filter (·.State==1)).map (·.Key)) (by omega) (by simp) ?_ (λl hl=>⟨_,by simp;rfl,by rw[hl,List.take_length]⟩)
 rintro k l hk rfl;left;rw[b5a _ _ _ _ hk];rw[if_pos (by simpa using hk),p8 hk,d7R,l7 (by omega)]
 have hle:(List.map (·.Key) (List.filter (·.State==1) (List.take k t))).length≤1000:=by
  rw[List.length_map];exact Nat.le_trans (List.length_filter_le ..) (by simp;omega)
 by_cases c:(t[k].State==1)=true
 ·rw[if_pos c,if_pos c,A7 (by omega) (by simp only[List.length_cons,List.length_nil];omega),d7R]
  exact⟨_,rfl,rfl⟩
 ·rw[if_neg c,if_neg c];exact⟨_,rfl,by simp⟩
theorem c8x{t:Tb}(h:t.length≤1000):b13 (t.map M0)=some (keys t):=by
 unfold b13 keys;simp only[jn];refine M7 t.length (λk l=>l=((t.take k).filter (·.State==1)).map (·.Key)) (by omega) (by simp) ?_ (λl hl=>⟨_,by simp;rfl,by rw[hl,List.take_length]⟩)
 rintro k l hk rfl;left;rw[b5a _ _ _ _ hk];rw[if_pos (by simpa using hk),a1p,p8 hk,Option.map_some,d7R,l7 (by omega)]
 have hle:(List.map (·.Key) (List.filter (·.State==1) (List.take k t))).length≤1000:=by
  rw[List.length_map];exact Nat.le_trans (List.length_filter_le ..) (by simp;omega)
 by_cases c:(t[k].State==1)=true
 ·rw[if_pos (by simpa[M0] using c),if_pos c,A7 (by omega) (by simp only[List.length_cons,List.length_nil];omega),d7R]
  exact⟨_,rfl,rfl⟩
 ·rw[if_neg (by simpa[M0] using c),if_neg c]
  exact⟨_,rfl,by simp⟩
theorem b9c{t:Tb}(hR:HR t)(k:Int):a1i (t.map M0) k=Y5 t k:=by
 have h8:=hR.l8;rcases b3v t k with ⟨i,hi⟩ | hn
 ·rw[a7b hR hi];obtain⟨f,hf1,hf2⟩:=c7k ⟨i,hi⟩;rw[c8v (by omega) hf1 hf2,hR.uq f i hf1.1 hi.1 hf1.2.1 hi.2.1 (hf1.2.2.trans hi.2.2.symm)]
 ·rw[a5o hR.l1 hR.l8 hn,c8u (by omega) hn]
theorem c8w{t:Tb}(hR:HR t)(k:Int):a9F (t.map M0) k=L9 t k:=by
 unfold a9F L9;rw[b9c hR];rcases b3v t k with ⟨i,hi⟩ | hn;·rw[a7b hR hi,d7R,d7R,if_neg (by simp),if_neg (by simp),ixm hi.1,b63 hi.1];rfl
 ·rw[a5o hR.l1 hR.l8 hn];rfl
theorem c8t{t:Tb}(hR:HR t)(k:Int):a6u (t.map M0) k=(Y4 t k).map λr=>(r.1.map M0,r.2):=by
 have h8:=hR.l8;rcases b3v t k with ⟨i,hi⟩ | hn
 ·rw[a9u hR hi];unfold a6u;rw[b9c hR,a7b hR hi,d7R,if_neg (by simp)]
  have:=b7w (t:=t) (by omega) hi.1 ⟨2,0,0⟩
  dsimp only[M0] at this;rw[this,d7R,ixm hi.1];rfl
 ·rw[a9t hR hn];unfold a6u;rw[b9c hR,a5o hR.l1 hR.l8 hn];rfl
theorem d6r{t:Tb}(hR:HR t)(k v:Int){r:Tb × Int}(h:b3T t k v r):b4z (t.map M0) k v=some (r.1.map M0,r.2):=by
 have h1:=hR.l1;have h8:=hR.l8;unfold b4z;rw[b9c hR];have hw:∀i,i<t.length→a1j (t.map M0) (i:Int) ⟨1,k,v⟩=some ((t.set i ⟨1,k,v⟩).map M0):=λi hi=>b7w (t:=t) (by omega) hi ⟨1,k,v⟩
 cases h with
 | old i hi=>
  rw[a7b hR hi,d7R,if_pos (by simp),hw i hi.1]
  rfl
 | new d hn hd hb hf=>
  rw[a5o h1 h8 hn,d7R,if_neg (by decide),List.length_map,c1k,b4p h1 (by omega),d7R]
  simp only[jn];rw[←c0N h1 k];obtain⟨e,he,hQ⟩:=b8C (f:=λ((s15,s16):Int × Int)=>
   if (decide (s16<(t.length:Int))) then
    (ix (t.map M0) s15).bind λv19=>
    if (v19.State != 1) then
     (a1j (t.map M0) s15 (⟨1,k,v⟩:g9)).bind λv20=>
     some (Sum.inr (Sum.inl (β:=Unit) (v20,(0:Int))))
    else
    (rem (x8 (s15+1)) (t.length:Int)).bind λv21=>
    some (Sum.inl (v21,x8 (s16+1)))
   else
   some (Sum.inr (Sum.inr ()))) (λd=>(((pos t.length k d:Nat):Int),(d:Int))) d (λ_=>True) (λe=>e = .inl ((t.set (pos t.length k d) ⟨1,k,v⟩).map M0,0)) (by omega) trivial (λj hj _=>by
    have hp:=a3N h1 k j;dsimp only;rw[if_pos (by simp;omega),ixm hp,d7R,if_neg (by simpa[M0] using hb j hj),d2d h1 h8,d7R,l7 (by omega)]
    exact .inl ⟨rfl,trivial⟩) (λ_=>by
    have hp:=a3N h1 k d;dsimp only;rw[if_pos (by simpa using hd),ixm hp,d7R,if_pos (by simpa[M0] using hf),hw _ hp]
    exact⟨_,rfl,rfl⟩)
  have he':lp _ (((pos t.length k 0:Nat):Int),(0:Int))=some e:=he;rw[he',hQ];rfl
 | full hn ha=>
  rw[a5o h1 h8 hn,d7R,if_neg (by decide),List.length_map,c1k,b4p h1 (by omega),d7R]
  simp only[jn];rw[←c0N h1 k];obtain⟨e,he,hQ⟩:=b8C (f:=λ((s15,s16):Int × Int)=>
   if (decide (s16<(t.length:Int))) then
    (ix (t.map M0) s15).bind λv19=>
    if (v19.State != 1) then
     (a1j (t.map M0) s15 (⟨1,k,v⟩:g9)).bind λv20=>
     some (Sum.inr (Sum.inl (β:=Unit) (v20,(0:Int))))
    else
    (rem (x8 (s15+1)) (t.length:Int)).bind λv21=>
    some (Sum.inl (v21,x8 (s16+1)))
   else
   some (Sum.inr (Sum.inr ()))) (λd=>(((pos t.length k d:Nat):Int),(d:Int))) t.length (λ_=>True) (λe=>e = .inr ()) (by omega) trivial (λj hj _=>by
    have hp:=a3N h1 k j;dsimp only;rw[if_pos (by simp;omega),ixm hp,d7R,if_neg (by simpa[M0] using ha _ hp),d2d h1 h8,d7R,l7 (by omega)]
    exact .inl ⟨rfl,trivial⟩) (λ_=>⟨.inr (),by simp,rfl⟩)
  have he':lp _ (((pos t.length k 0:Nat):Int),(0:Int))=some e:=he;rw[he',hQ];rfl
theorem b5y{t:Tb}{k v:Int}{r:Tb × Int}(h:b3T t k v r):r.1.length=t.length:=by cases h <;> simp
end Go.Sh
namespace Go.Sh
theorem a4H(t:Tb):(keys t).length=t.countP (·.State==1):=by
 unfold keys;rw[List.length_map,List.countP_eq_length_filter]
theorem b1D{t:Tb}{i:Nat}(h:i<t.length)(p:c5):(keys (t.set i p)).length+(if (pt t i).State=1 then 1 else 0)=(keys t).length+if p.State=1 then 1 else 0:=by
 rw[a4H,a4H,List.countP_set h,b3B h];simp only[beq_iff_eq];have:(if t[i].State=1 then 1 else 0)≤t.countP λc=>c.State==1:=by
  split
  ·rename_i e;exact List.countP_pos_iff.2 ⟨t[i],List.getElem_mem h,by simpa using e⟩
  ·exact Nat.zero_le _
 omega
theorem c5B{t:Tb}(h:∀i,i<t.length→(pt t i).State=1):(keys t).length=t.length:=by
 rw[a4H,List.countP_eq_length];intro a ha;obtain⟨i,hi,rfl⟩:=List.getElem_of_mem ha;have:=h i hi;rw[b3B hi] at this;simpa using this
theorem d0l{t:Tb}{i:Nat}(hi:i<t.length)(h:(pt t i).State≠1):(keys t).length<t.length:=by
 have h1:(keys t).length≤t.length:=by rw[a4H];exact List.countP_le_length
 rcases Nat.lt_or_ge (keys t).length t.length with q | q
 ·exact q
 ·exfalso;have e:(keys t).length=t.length:=by omega
  rw[a4H,List.countP_eq_length] at e;have:=e t[i] (List.getElem_mem hi);rw[b3B hi] at h;exact h (by simpa using this)
structure TM {V:Type} (φ:V→Int→Prop) (t:Tb) (m:List (Int × V)):Prop where
 R:HR t
 nd:(m.map (·.1)).Nodup
 len:(keys t).length=m.length
 has:∀k,(∀v,Has t k v→∃u,C0 m k=some u∧φ u v)∧((C0 m k).isSome=true→∃v,Has t k v)
theorem TM.some{V:Type}{φ:V→Int→Prop}{t:Tb}{m:List (Int × V)}(h:TM φ t m)(k:Int):(∃v u,Has t k v∧C0 m k=some u∧φ u v)∨(C0 m k=none∧∀v,¬Has t k v):=by
 rcases d3o t k with ⟨v,hv⟩ | hn
 ·obtain⟨u,h1,h2⟩:=(h.has k).1 v hv;exact .inl ⟨v,u,hv,h1,h2⟩
 ·refine .inr ⟨?_,hn⟩;cases hq:C0 m k with
  | none=>rfl
  | some u=>
   obtain⟨v,hv⟩:=(h.has k).2 (by rw[hq];rfl)
   exact absurd hv (hn v)
theorem TM.put{V:Type}{φ:V→Int→Prop}{t:Tb}{m:List (Int × V)}(h:TM φ t m)(k v:Int)(u:V)(hφ:φ u v):∃r,a8E t k v = .some r∧r.1.length=t.length∧((r.2=0∧TM φ r.1 (s6 m k u)∧((C0 m k).isSome=true∨m.length<t.length))∨(r=(t,8)∧(C0 m k)=none∧m.length=t.length)):=by
 obtain⟨r,hr,hp⟩:=c2K h.R k v;refine⟨r,hr,b5y hp,?_⟩;have hRr:=b0R h.R hp;by_cases h0:r.2=0
 ·left;have hh:=b8P h.R hp h0;have hmem:∀k',(∀w,Has r.1 k' w→∃x,C0 (s6 m k u) k' = .some x∧φ x w)∧((C0 (s6 m k u) k').isSome=true→∃w,Has r.1 k' w):=λk'=>by
   rw[a9B];by_cases e:k'=k
   ·subst e;rw[if_pos rfl];refine⟨λw hw=>?_,λ_=>⟨v,(hh _ _).2 (.inl ⟨rfl,rfl⟩)⟩⟩;rcases (hh _ _).1 hw with ⟨_,rfl⟩ | ⟨q,_⟩;·exact⟨u,rfl,hφ⟩
    ·exact absurd rfl q
   ·rw[if_neg e];refine⟨λw hw=>?_,λq=>?_⟩
    ·rcases (hh _ _).1 hw with ⟨q,_⟩ | ⟨_,q⟩;·exact absurd q e
     ·exact (h.has k').1 w q
    ·obtain⟨w,hw⟩:=(h.has k').2 q;exact⟨w,(hh _ _).2 (.inr ⟨e,hw⟩)⟩
  have hlen:(keys r.1).length=(s6 m k u).length∧((C0 m k).isSome=true∨m.length<t.length):=by
   rw[c7U];cases hp with
   | old i hi=>
    have h1:(C0 m k).isSome=true:=by
     obtain⟨x,h1,_⟩:=(h.has k).1 _ ⟨i,hi,rfl⟩;rw[h1];rfl
    have:=b1D hi.1 ⟨1,k,v⟩;rw[if_pos hi.2.1,if_pos rfl,h.len] at this;rw[if_pos h1];exact⟨by simp only;omega,.inl h1⟩
   | new d hn hd hb hf=>
    have h1:(C0 m k)=none:=by
     rcases h.some k with ⟨w,x,hw,_⟩ | ⟨q,_⟩
     ·obtain⟨i,hi,_⟩:=hw;exact absurd hi (hn i)
     ·exact q
    have hlt:=a3N h.R.l1 k d;have:=b1D hlt ⟨1,k,v⟩;rw[if_neg hf,if_pos rfl,h.len] at this;rw[h1];have h2:=d0l hlt hf;rw[h.len] at h2;exact⟨by simpa using this,.inr h2⟩
   | full hn ha=>cases h0
  exact⟨h0,⟨hRr,c2y h.nd k u,hlen.1,hmem⟩,hlen.2⟩
 ·right;cases hp with
  | old i hi=>exact absurd rfl h0
  | new d hn hd hb hf=>exact absurd rfl h0
  | full hn ha=>
   refine⟨rfl,?_,?_⟩
   ·rcases h.some k with ⟨w,x,hw,_⟩ | ⟨q,_⟩
    ·obtain⟨i,hi,_⟩:=hw;exact absurd hi (hn i)
    ·exact q
   ·rw[←h.len,c5B ha]
theorem TM.drop{V:Type}{φ:V→Int→Prop}{t:Tb}{m:List (Int × V)}(h:TM φ t m)(k:Int):(∃r v u,Y4 t k = .some (r,v,0)∧r.length=t.length∧C0 m k = .some u∧φ u v∧TM φ r (b2Y m k))∨(Y4 t k = .some (t,0,9)∧C0 m k=none∧b2Y m k=m):=by
 rcases b3v t k with ⟨i,hi⟩ | hn
 ·left;obtain⟨u,h1,h2⟩:=(h.has k).1 _ ⟨i,hi,rfl⟩;refine⟨_,_,u,a9u h.R hi,by simp,h1,h2,a5k h.R hi.1,(c7O m k).nodup h.nd,?_,λk'=>?_⟩
  ·have:=b1D hi.1 ⟨2,0,0⟩;rw[if_pos hi.2.1,if_neg (by decide),h.len] at this
   rw[c7N,h1];simp only[Option.isSome_some,if_true];omega
  ·have hh:=b44 h.R hi;rw[c5F h.nd];by_cases e:k'=k
   ·subst e;rw[if_pos rfl];exact⟨λw hw=>absurd rfl ((hh _ _).1 hw).1,λq=>by cases q⟩
   ·rw[if_neg e];refine⟨λw hw=>(h.has k').1 w ((hh _ _).1 hw).2,λq=>?_⟩;obtain⟨w,hw⟩:=(h.has k').2 q;exact⟨w,(hh _ _).2 ⟨e,hw⟩⟩
 ·right;have h1:C0 m k=none:=by
   rcases h.some k with ⟨w,x,hw,_⟩ | ⟨q,_⟩
   ·obtain⟨i,hi,_⟩:=hw;exact absurd hi (hn i)
   ·exact q
  refine⟨a9t h.R hn,h1,?_⟩;have:∀(l:List (Int × V)),C0 l k=none→b2Y l k=l:=by
   intro l;induction l with
   | nil=>intro _;rfl
   | cons p l ih=>
    intro q;unfold C0 at q;unfold b2Y;by_cases e:k=p.1
    ·rw[if_pos (by simpa using e)] at q;cases q
    ·rw[if_neg (by simpa using e)] at q
     rw[if_neg (by simpa using e),ih q]
  exact this m h1
theorem c7W{n:Nat}(h1:1≤n)(h8:n≤8):b1x (n:Int)=some (List.replicate n ⟨0,0,0⟩):=by
 unfold b1x;rw[if_neg (by simp;omega),a73 (by omega) (by omega)]
 rfl
theorem b25{n j:Nat}:pt (List.replicate n ⟨0,0,0⟩) j=⟨0,0,0⟩:=by
 unfold pt;rw[List.getD_eq_getElem?_getD,List.getElem?_replicate];split <;> rfl
theorem c8U{V:Type}(φ:V→Int→Prop){n:Nat}(h1:1≤n)(h8:n≤8):TM φ (List.replicate n ⟨0,0,0⟩) []:=by
 refine⟨⟨by simpa using h1,by simpa using h8,λi hi=>?_,λi j hi hj s=>?_,λi hi s=>?_⟩,by simp,?_,λk=>⟨λv hv=>?_,λq=>by cases q⟩⟩
 ·rw[b25];exact⟨.inl rfl,λ_=>⟨rfl,rfl⟩⟩
 ·rw[b25] at s;cases s
 ·rw[b25] at s;cases s
 ·rw[a4H,List.countP_replicate];rfl
 ·obtain⟨i,hi,_⟩:=hv;have:=hi.2.1;rw[b25] at this;cases this
end Go.Sh
namespace Go.Sh
abbrev pp(p:o0):B9:=⟨p.Key,p.Val⟩
def prs(t:Tb):List o0:=(t.filter (·.State==1)).map λp=>⟨p.Key,p.Val⟩
theorem b1C(t:Tb):keys t=(prs t).map (·.Key):=by
 unfold keys prs;rw[List.map_map];rfl
theorem a0Q(t:Tb):(prs t).length=(keys t).length:=by rw[b1C,List.length_map]
theorem a5Y{t:Tb}(h:t.length≤8):(prs t).length≤8:=by
 rw[a0Q,a4H];exact Nat.le_trans List.countP_le_length h
theorem a36{t:Tb}{p:o0}:p∈prs t↔Has t p.Key p.Val:=by
 unfold prs Has;rw[List.mem_map];constructor
 ·rintro⟨q,hq,rfl⟩;obtain⟨h1,h2⟩:=List.mem_filter.1 hq;obtain⟨i,hi,rfl⟩:=List.getElem_of_mem h1;refine⟨i,⟨hi,?_,?_⟩,?_⟩ <;> rw[b3B hi]
  simpa using h2
 ·rintro⟨i,⟨hi,h1,h2⟩,h3⟩;rw[b3B hi] at h1 h2 h3;refine⟨t[i],List.mem_filter.2 ⟨List.getElem_mem hi,by simpa using h1⟩,?_⟩
  cases p;simp at h2 h3 ⊢;exact⟨h2,h3⟩
theorem b8O{t:Tb}(hR:HR t){j:Nat}(h:j<(prs t).length):L9 t (prs t)[j].Key=some ((prs t)[j].Val,0):=c33 hR (a36.1 (List.getElem_mem h))
theorem d1B{E R:Type}{x:Option E}{r:E}{κ:E→Option R}{y:Option R}(h:x=some r)(hy:κ r=y):((x.bind λe=>some e).bind κ)=y:=by rw[h];exact hy
theorem c8h{t:Tb}(hR:HR t):a5m t=some (prs t):=by
 have h8:=hR.l8;have hp:=a5Y h8;unfold a5m B5 a1H a3b;simp only[jn,d7R];rw[keys_eq (by omega),d7R]
 refine d1B (a4f (a2N (prs t).length (λk l=>l=(prs t).take k) (λe=>e=prs t) (by omega) (by simp) ?_ ?_)) rfl
 ·rintro k l hk rfl;refine .inl ⟨_,?_,rfl⟩;dsimp only;rw[if_pos (by rw[←a0Q];simpa using hk),p8 (by rw[←a0Q];exact hk),d7R]
  have e:(keys t)[k]'(by rw[←a0Q];exact hk)=(prs t)[k].Key:=by simp[b1C]
  rw[e,b8O hR hk,d7R,if_pos (by trivial),A7 (by omega) (by simp;omega),d7R,l7 (by omega),List.take_succ_eq_append_getElem hk]
 ·rintro l rfl;exact⟨_,by rw[←a0Q];simp;rfl,by simp⟩
theorem b7r{t:Tb}(hR:HR t):a4n (t.map M0)=some ((prs t).map pp):=by
 have h8:=hR.l8;have hp:=a5Y h8;unfold a4n;simp only[jn];rw[c8x (by omega),d7R]
 refine M7 (prs t).length (λk l=>l=((prs t).take k).map pp) (by omega) (by simp) ?_ (λl hl=>⟨_,by rw[←a0Q];simp;rfl,by rw[hl,List.take_length]⟩)
 rintro k l hk rfl;refine .inl ⟨_,?_,rfl⟩;rw[if_pos (by rw[←a0Q];simpa using hk),p8 (by rw[←a0Q];exact hk),d7R]
 have e:(keys t)[k]'(by rw[←a0Q];exact hk)=(prs t)[k].Key:=by simp[b1C]
 rw[e,c8w hR,b8O hR hk,d7R,A7 (by omega) (by simp;omega),d7R,l7 (by omega),List.take_succ_eq_append_getElem hk,List.map_append]
 rfl
def own(t:Tb)(h:Int):Nat:=(prs t).countP λp=>(h != 0)&&(p.Val==h)
theorem c8d{t:Tb}(hR:HR t)(h:Int):a5l t h=some (own t h:Int):=by
 have h8:=hR.l8;have hp:=a5Y h8;unfold a5l B4 a1H a3a;simp only[jn,d7R];rw[keys_eq (by omega),d7R]
 refine d1B (r:=(prs t).filter λp=>(h != 0)&&(p.Val==h)) (a4f (a2N (prs t).length (λk l=>l=((prs t).take k).filter λp=>(h != 0)&&(p.Val==h)) (λe=>e=(prs t).filter λp=>(h != 0)&&(p.Val==h)) (by omega) (by simp) ?_ ?_)) (by unfold own;rw[List.countP_eq_length_filter])
 ·rintro k l hk rfl;refine .inl ⟨((prs t).take (k+1)).filter λp=>(h != 0)&&(p.Val==h),?_,rfl⟩;dsimp only;rw[if_pos (by rw[←a0Q];simpa using hk),p8 (by rw[←a0Q];exact hk),d7R]
  have e:(keys t)[k]'(by rw[←a0Q];exact hk)=(prs t)[k].Key:=by simp[b1C]
  have hle:(((prs t).take k).filter λp=>(h != 0)&&(p.Val==h)).length≤8:=Nat.le_trans (List.length_filter_le ..) (by simp;omega)
  rw[e,b8O hR hk,d7R,l7 (by omega),List.take_succ_eq_append_getElem hk,List.filter_append,List.filter_cons,List.filter_nil]
  by_cases c:((h != 0)&&((prs t)[k].Val==h))=true
  ·rw[if_pos c,if_pos c,A7 (by omega) (by simp only[List.length_cons,List.length_nil];omega),d7R]
  ·rw[if_neg c,if_neg c,List.append_nil]
 ·rintro l rfl;exact⟨_,by rw[←a0Q];simp;rfl,by simp⟩
theorem c56{t:Tb}(hR:HR t)(h:Int):a9G (t.map M0) h=some (own t h:Int):=by
 have h8:=hR.l8;have hp:=a5Y h8;unfold a9G;simp only[jn];rw[b7r hR,d7R,List.length_map];refine d0r (λs=>∃k:Nat,k≤(prs t).length∧s.2=(k:Int)∧s.1=((((prs t).take k).countP λp=>(h != 0)&&(p.Val==h):Nat):Int)) (λs=>(prs t).length+1-s.2.toNat) ⟨0,by omega,rfl,by simp⟩ (by simp;omega) ?_
 rintro⟨_,_⟩ ⟨k,hk,rfl,rfl⟩;dsimp only;by_cases hlt:k<(prs t).length
 ·left;rw[if_pos (by simpa using hlt),a1p,p8 hlt,Option.map_some,d7R,l7 (n:=k) (by omega)]
  have hle:(((prs t).take k).countP λp=>(h != 0)&&(p.Val==h))≤8:=Nat.le_trans List.countP_le_length (by simp;omega)
  have hstep:(((prs t).take (k+1)).countP λp=>(h != 0)&&(p.Val==h))=(((prs t).take k).countP λp=>(h != 0)&&(p.Val==h))+if ((h != 0)&&((prs t)[k].Val==h))=true then 1 else 0:=by
   rw[List.take_succ_eq_append_getElem hlt,List.countP_append,List.countP_cons,List.countP_nil,Nat.zero_add]
  by_cases c:((h != 0)&&((prs t)[k].Val==h))=true
  ·rw[if_pos (by simp only[Bool.and_eq_true] at c ⊢;exact⟨c.2,c.1⟩),l7 (by omega)]
   rw[if_pos c] at hstep;exact⟨_,rfl,⟨k+1,by omega,rfl,by rw[hstep]⟩,by simp;omega⟩
  ·rw[if_neg (by simp only[Bool.and_eq_true] at c ⊢;exact λq=>c ⟨q.2,q.1⟩)]
   rw[if_neg c] at hstep;exact⟨_,rfl,⟨k+1,by omega,rfl,by rw[hstep];rfl⟩,by simp;omega⟩
 ·right;have:k=(prs t).length:=by omega
  subst this;exact⟨_,by rw[if_neg (by simp)],by rw[List.take_length];rfl⟩
theorem c3b{t:Tb}(hR:HR t)(k v:Int):∃r,U7 t k v=some r∧HR r.1∧r.1.length=t.length ∧
  ((k=0∧r=(t,0,2))∨(k≠0∧v=0∧((∃i,Fk t k i∧r=(t.set i ⟨2,0,0⟩,(pt t i).Val,0))∨((∀i,¬Fk t k i)∧r=(t,0,0)))) ∨
   (k≠0∧v≠0∧((∃i,Fk t k i∧r=(t.set i ⟨1,k,v⟩,(pt t i).Val,0))∨(∃d,(∀i,¬Fk t k i)∧d<t.length∧(pt t d).State≠1∧b3T t k v (t.set d ⟨1,k,v⟩,0)∧r=(t.set d ⟨1,k,v⟩,0,0))∨((∀i,¬Fk t k i)∧(∀i,i<t.length→(pt t i).State=1)∧r=(t,0,8))))):=by
 unfold U7;by_cases hk:k=0
 ·rw[if_pos (by simpa using hk)]
  exact⟨_,rfl,hR,rfl,.inl ⟨hk,rfl⟩⟩
 ·rw[if_neg (by simpa using hk)]
  obtain⟨g,hg,hgv⟩:∃g,L9 t k=some g∧((∃i,Fk t k i∧g=((pt t i).Val,0))∨((∀i,¬Fk t k i)∧g=(0,9))):=by
   rcases b3v t k with ⟨i,hi⟩ | hn;·exact⟨_,c2p hR hi,.inl ⟨i,hi,rfl⟩⟩
   ·exact⟨_,c2o hR hn,.inr ⟨hn,rfl⟩⟩
  rw[hg,d7R];by_cases hv:v=0
  ·rw[if_pos (by simpa using hv)]
   rcases hgv with ⟨i,hi,rfl⟩ | ⟨hn,rfl⟩
   ·rw[a9u hR hi,d7R];exact⟨_,rfl,a5k hR hi.1,by simp,.inr (.inl ⟨hk,hv,.inl ⟨i,hi,rfl⟩⟩)⟩
   ·rw[a9t hR hn,d7R];exact⟨_,rfl,hR,rfl,.inr (.inl ⟨hk,hv,.inr ⟨hn,rfl⟩⟩)⟩
  ·rw[if_neg (by simpa using hv)]
   obtain⟨r,hr,hp⟩:=c2K hR k v;rw[hr,d7R];have hRr:=b0R hR hp;have hl:=b5y hp;have hp':=hp;cases hp with
   | old i hi=>
    rcases hgv with ⟨j,hj,rfl⟩ | ⟨hn,rfl⟩
    ·rw[hR.uq j i hj.1 hi.1 hj.2.1 hi.2.1 (hj.2.2.trans hi.2.2.symm)];exact⟨_,rfl,hRr,hl,.inr (.inr ⟨hk,hv,.inl ⟨i,hi,rfl⟩⟩)⟩
    ·exact absurd hi (hn i)
   | new d hn hd hb hf=>
    rcases hgv with ⟨j,hj,rfl⟩ | ⟨_,rfl⟩;·exact absurd hj (hn j)
    ·exact⟨_,rfl,hRr,hl,.inr (.inr ⟨hk,hv,.inr (.inl ⟨_,hn,a3N hR.l1 k d,hf,hp',rfl⟩)⟩)⟩
   | full hn ha=>exact⟨_,rfl,hR,rfl,.inr (.inr ⟨hk,hv,.inr (.inr ⟨hn,ha,rfl⟩)⟩)⟩
theorem c58{t:Tb}(hR:HR t)(k v:Int):∃r,U7 t k v=some r∧HR r.1∧r.1.length=t.length∧b4A (t.map M0) k v=some (r.1.map M0,r.2) ∧
  ((k=0∧r=(t,0,2))∨(k≠0∧v=0∧((∃i,Fk t k i∧r=(t.set i ⟨2,0,0⟩,(pt t i).Val,0))∨((∀i,¬Fk t k i)∧r=(t,0,0)))) ∨
   (k≠0∧v≠0∧((∃i,Fk t k i∧r=(t.set i ⟨1,k,v⟩,(pt t i).Val,0))∨(∃d,(∀i,¬Fk t k i)∧d<t.length∧(pt t d).State≠1∧b3T t k v (t.set d ⟨1,k,v⟩,0)∧r=(t.set d ⟨1,k,v⟩,0,0))∨((∀i,¬Fk t k i)∧(∀i,i<t.length→(pt t i).State=1)∧r=(t,0,8))))):=by
 unfold U7 b4A;by_cases hk:k=0
 ·rw[if_pos (by simpa using hk),if_pos (by simpa using hk)]
  exact⟨_,rfl,hR,rfl,rfl,.inl ⟨hk,rfl⟩⟩
 ·rw[if_neg (by simpa using hk),if_neg (by simpa using hk),c8w hR]
  obtain⟨g,hg,hgv⟩:∃g,L9 t k=some g∧((∃i,Fk t k i∧g=((pt t i).Val,0))∨((∀i,¬Fk t k i)∧g=(0,9))):=by
   rcases b3v t k with ⟨i,hi⟩ | hn;·exact⟨_,c2p hR hi,.inl ⟨i,hi,rfl⟩⟩
   ·exact⟨_,c2o hR hn,.inr ⟨hn,rfl⟩⟩
  rw[hg,d7R,d7R];by_cases hv:v=0
  ·rw[if_pos (by simpa using hv),if_pos (by simpa using hv),c8t hR]
   rcases hgv with ⟨i,hi,rfl⟩ | ⟨hn,rfl⟩
   ·rw[a9u hR hi,d7R];exact⟨_,rfl,a5k hR hi.1,by simp,rfl,.inr (.inl ⟨hk,hv,.inl ⟨i,hi,rfl⟩⟩)⟩
   ·rw[a9t hR hn,d7R];exact⟨_,rfl,hR,rfl,rfl,.inr (.inl ⟨hk,hv,.inr ⟨hn,rfl⟩⟩)⟩
  ·rw[if_neg (by simpa using hv),if_neg (by simpa using hv)]
   obtain⟨r,hr,hp⟩:=c2K hR k v;rw[hr,d7R,d6r hR k v hp,d7R];have hRr:=b0R hR hp;have hl:=b5y hp;have hp':=hp;cases hp with
   | old i hi=>
    rcases hgv with ⟨j,hj,rfl⟩ | ⟨hn,rfl⟩
    ·rw[hR.uq j i hj.1 hi.1 hj.2.1 hi.2.1 (hj.2.2.trans hi.2.2.symm)];exact⟨_,rfl,hRr,hl,rfl,.inr (.inr ⟨hk,hv,.inl ⟨i,hi,rfl⟩⟩)⟩
    ·exact absurd hi (hn i)
   | new d hn hd hb hf=>
    rcases hgv with ⟨j,hj,rfl⟩ | ⟨_,rfl⟩;·exact absurd hj (hn j)
    ·exact⟨_,rfl,hRr,hl,rfl,.inr (.inr ⟨hk,hv,.inr (.inl ⟨_,hn,a3N hR.l1 k d,hf,hp',rfl⟩)⟩)⟩
   | full hn ha=>exact⟨_,rfl,hR,rfl,rfl,.inr (.inr ⟨hk,hv,.inr (.inr ⟨hn,ha,rfl⟩)⟩)⟩
theorem b7h(t:Tb)(h:Int):own t h=t.countP λp=>(p.State==1)&&((h != 0)&&(p.Val==h)):=by
 unfold own prs;rw[List.countP_map,List.countP_filter];congr 1;funext p
 simp[Bool.and_comm]
theorem c4t{t:Tb}{i:Nat}(hi:i<t.length)(p:c5)(h:Int):own (t.set i p) h+(if (((pt t i).State==1)&&((h != 0)&&((pt t i).Val==h)))=true then 1 else 0)=own t h+if ((p.State==1)&&((h != 0)&&(p.Val==h)))=true then 1 else 0:=by
 rw[b7h,b7h,List.countP_set hi,b3B hi];have:(if ((t[i].State==1)&&((h != 0)&&(t[i].Val==h)))=true then 1 else 0)≤t.countP λp=>(p.State==1)&&((h != 0)&&(p.Val==h)):=by
  split
  ·rename_i e;exact List.countP_pos_iff.2 ⟨t[i],List.getElem_mem hi,e⟩
  ·exact Nat.zero_le _
 omega
theorem c2E{t:Tb}(h8:t.length≤8)(h:Int):own t h≤8:=Nat.le_trans List.countP_le_length (a5Y h8)
end Go.Sh
namespace Go.Sh
end Go.Sh
namespace Go.Sh
theorem c1O{t:Tb}(hR:HR t)(ks:List Int)(hks:ks.length≤1000):∃a had,Y2 t ks=some (a,had)∧HR a∧a.length=t.length∧had.length≤ks.length∧a3y (t.map M0) ks=some (a.map M0,had) ∧
  (∀k v,Has a k v↔k∉ks∧Has t k v)∧(keys a).length+had.length=(keys t).length∧(∀k v,k∈ks→Has t k v→v∈had)∧∀y,own a y+tms had y=own t y:=by
 have key:∀n,n≤ks.length→∃a had,HR a∧a.length=t.length∧had.length≤n∧(∀k v,Has a k v↔k∉ks.take n∧Has t k v)∧(keys a).length+had.length=(keys t).length∧(∀k v,k∈ks.take n→Has t k v→v∈had)∧(∀y,own a y+tms had y=own t y) ∧
   ∃f:Nat→Tb × List Int,f 0=(t,[])∧f n=(a,had)∧∀j,(hj:j<n)→HR (f j).1∧(f j).2.length≤j∧((∃i,∃hjk:j<ks.length,Fk (f j).1 ks[j] i∧f (j+1)=((f j).1.set i ⟨2,0,0⟩,(f j).2 ++ [(pt (f j).1 i).Val]))∨((∀i,∀hjk:j<ks.length,¬Fk (f j).1 ks[j] i)∧f (j+1)=f j)):=by
  intro n;induction n with
  | zero=>exact λ_=>⟨t,[],hR,rfl,by simp,by simp,by simp,by simp,λy=>by unfold tms;split <;> simp,λ_=>(t,[]),rfl,rfl,λj hj=>by omega⟩
  | succ n ih=>
   intro hn;obtain⟨a,had,h1,h2,h3,h4,h5,h6,h7,f,f0,fn,fs⟩:=ih (by omega)
   have hlt:n<ks.length:=by omega
   have htk:∀k,k∈ks.take (n+1)↔k∈ks.take n∨k=ks[n]:=λk=>by
    rw[List.take_succ_eq_append_getElem hlt,List.mem_append,List.mem_singleton]
   rcases b3v a ks[n] with ⟨i,hi⟩ | hno
   ·have hd:=b44 h1 hi;refine⟨a.set i ⟨2,0,0⟩,had ++ [(pt a i).Val],a5k h1 hi.1,by simpa using h2,by simp;omega,λk v=>?_,?_,λk v hk hv=>?_,λy=>?_,λj=>if j=n+1 then (a.set i ⟨2,0,0⟩,had ++ [(pt a i).Val]) else f j,by simp[f0],by simp,λj hj=>?_⟩
    ·rw[hd,h4,htk];constructor;·rintro⟨q1,q2,q3⟩;exact⟨λq=>q.elim q2 q1,q3⟩
     ·rintro⟨q1,q2⟩;exact⟨λq=>q1 (.inr q),λq=>q1 (.inl q),q2⟩
    ·have:=b1D hi.1 ⟨2,0,0⟩;rw[if_pos hi.2.1,if_neg (by decide)] at this
     simp only[List.length_append,List.length_cons,List.length_nil];omega
    ·rw[List.mem_append];rcases (htk k).1 hk with q | q
     ·exact .inl (h6 k v q hv)
     ·subst q;by_cases q':ks[n]∈ks.take n
      ·exact .inl (h6 _ v q' hv)
      ·have:=(h4 _ _).2 ⟨q',hv⟩;rw[this.fn h1 ⟨i,hi,rfl⟩];exact .inr (by simp)
    ·have:=c4t hi.1 ⟨2,0,0⟩ y;have h7':=h7 y;rw[K7];have e:tms [(pt a i).Val] y=if (((pt a i).State==1)&&((y != 0)&&((pt a i).Val==y)))=true then 1 else 0:=by
      rw[hi.2.1];unfold tms;by_cases y0:y=0
      ·simp[y0]
      ·by_cases e:(pt a i).Val=y
       ·simp[y0,e]
       ·simp[y0,e]
     rw[e];rw[if_neg (show ¬((((2:Int)==1)&&((y != 0)&&((0:Int)==y)))=true) by simp)] at this
     omega
    ·rcases Nat.lt_or_ge j n with q | q
     ·have:=fs j q;dsimp only;rw[if_neg (by omega),if_neg (by omega)]
      exact this
     ·have:j=n:=by omega
      subst this;dsimp only;rw[if_neg (by omega),if_pos rfl,fn]
      exact⟨h1,h3,.inl ⟨i,hlt,hi,rfl⟩⟩
   ·refine⟨a,had,h1,h2,by omega,λk v=>?_,h5,λk v hk hv=>?_,h7,λj=>if j=n+1 then (a,had) else f j,by simp[f0],by simp,λj hj=>?_⟩
    ·rw[h4,htk];constructor
     ·rintro⟨q1,q2⟩;refine⟨λq=>q.elim q1 λq=>?_,q2⟩;subst q;obtain⟨i,hi,_⟩:=(h4 _ _).2 ⟨q1,q2⟩;exact hno i hi
     ·rintro⟨q1,q2⟩;exact⟨λq=>q1 (.inl q),q2⟩
    ·rcases (htk k).1 hk with q | q
     ·exact h6 k v q hv
     ·subst q;by_cases q':ks[n]∈ks.take n
      ·exact h6 _ v q' hv
      ·obtain⟨i,hi,_⟩:=(h4 _ _).2 ⟨q',hv⟩;exact absurd hi (hno i)
    ·rcases Nat.lt_or_ge j n with q | q
     ·have:=fs j q;dsimp only;rw[if_neg (by omega),if_neg (by omega)]
      exact this
     ·have:j=n:=by omega
      subst this;dsimp only;rw[if_neg (by omega),if_pos rfl,fn]
      exact⟨h1,h3,.inr ⟨λi _=>hno i,rfl⟩⟩
 obtain⟨a,had,h1,h2,h3,h4,h5,h6,h7,f,f0,fn,fs⟩:=key ks.length (Nat.le_refl _);rw[List.take_length] at h4 h6;refine⟨a,had,?_,h1,h2,h3,?_,h4,h5,h6,h7⟩
 ·unfold Y2;simp only[jn];refine a2a (λj=>((f j).1,(j:Int),(f j).2)) (by rw[f0];rfl) ks.length (λ_=>True) (by omega) trivial (λj hj _=>?_) (λ_=>⟨(a,had),by dsimp only;rw[if_neg (by simp),fn],rfl⟩)
  obtain⟨g1,g2,g3⟩:=fs j hj;left;refine⟨?_,trivial⟩;dsimp only;rw[if_pos (by simpa using hj),p8 hj,d7R,l7 (by omega)]
  rcases g3 with ⟨i,_,hi,e⟩ | ⟨hno,e⟩
  ·rw[a9u g1 hi,d7R,e];dsimp only;rw[if_pos (by decide),A7 (by omega) (by simp;omega),d7R]
  ·rw[a9t g1 (λi=>hno i hj),d7R,e];dsimp only;rw[if_neg (by decide)]
 ·unfold a3y;simp only[jn];refine a2a (λj=>((f j).1.map M0,(j:Int),(f j).2)) (by rw[f0];rfl) ks.length (λ_=>True) (by omega) trivial (λj hj _=>?_) (λ_=>⟨(a.map M0,had),by dsimp only;rw[if_neg (by simp),fn],rfl⟩)
  obtain⟨g1,g2,g3⟩:=fs j hj;left;refine⟨?_,trivial⟩;dsimp only;rw[if_pos (by simpa using hj),p8 hj,d7R,l7 (by omega),c8t g1]
  rcases g3 with ⟨i,_,hi,e⟩ | ⟨hno,e⟩
  ·rw[a9u g1 hi,Option.map_some,d7R,e];dsimp only;rw[if_pos (by decide),A7 (by omega) (by simp;omega),d7R]
  ·rw[a9t g1 (λi=>hno i hj),Option.map_some,d7R,e];dsimp only;rw[if_neg (by decide)]
end Go.Sh
namespace Go.Sh
end Go.Sh
namespace Go.Sh
inductive a1a (s:a7) (t:Tb) (l:List Int):Int→Prop
 | base {h:Int}:h∈l→h∈lv s→a1a s t l h
 | step {a b:Int}:a1a s t l a→b∈outs s a→b∈lv s→a1a s t l b
 | pair {k v:Int}:Has t k v→a1a s t l k→v∈lv s→a1a s t l v
open Classical in
noncomputable def frc (s:a7) (t:Tb) (l:List Int):List Int:=(lv s).filter λh=>decide (a1a s t l h)
open Classical in
noncomputable def fls (s:a7) (t:Tb) (l:List Int):List Int:=(lv s).filter λh=>decide (¬a1a s t l h)
noncomputable def owd(s:a7)(t:Tb)(l:List Int):List Int:=((prs t).filter λp=>decide (p.Key∈l∧p.Key∈lv s∧p.Val∈lv s)).map (·.Val)
def TB(t:Tb):Prop:=∀p∈t,p.Key≤9223372036854775807∧p.Val≤9223372036854775807
def PCl(s:a7)(t:Tb)(l:List Int):Prop:=∀k v,Has t k v→k∈l→k∈lv s→v∈lv s→v∈l
theorem TB.has{t:Tb}(h:TB t){k v:Int}(q:Has t k v):k≤9223372036854775807∧v≤9223372036854775807:=by
 obtain⟨i,⟨h1,_,h2⟩,h3⟩:=q;rw[b3B h1] at h2 h3;have:=h _ (List.getElem_mem h1);rw[h2,h3] at this;exact this
theorem a1a.live{s:a7}{t:Tb}{l:List Int}{h:Int}(q:a1a s t l h):h∈lv s:=by cases q <;> assumption
open Classical in
theorem a7c {s:a7} {t:Tb} {l:List Int} {h:Int}:h∈frc s t l↔a1a s t l h:=by
 unfold frc;rw[List.mem_filter];exact⟨λq=>of_decide_eq_true q.2,λq=>⟨q.live,decide_eq_true q⟩⟩
theorem b8n{s:a7}(hR:RtR (sO s))(t:Tb)(l:List Int):(frc s t l).length≤24:=Nat.le_trans (List.length_filter_le ..) (G2 hR)
theorem d3b{s:a7}(hR:RtR (sO s))(t:Tb)(l:List Int):LB (frc s t l):=λx hx=>by have:=a5V hR (a7c.1 hx).live;omega
theorem d4n{s:a7}(hR:RtR (sO s))(l:List Int):LB (rcd s l):=λx hx=>by have:=a5V hR (a0j.1 hx).live;omega
theorem d2Z(s:a7)(t:Tb)(l:List Int):Cl s (frc s t l):=λa ha b hb hl=>a7c.2 (.step (a7c.1 ha) hb hl)
theorem a1a.least{s:a7}{t:Tb}{l m:List Int}(hc:Cl s m)(hp:PCl s t m)(hl:∀x∈l,x∈lv s→x∈m){h:Int}(q:a1a s t l h):h∈m:=by
 induction q with
 | base h1 h2=>exact hl _ h1 h2
 | step _ h1 h2 ih=>exact hc _ ih _ h1 h2
 | pair h1 h2 h3 ih=>exact hp _ _ h1 ih h2.live h3
theorem a1a.mono{s:a7}{t u:Tb}{l m:List Int}(ht:∀k v,Has t k v→Has u k v)(hl:∀x∈l,x∈lv s→a1a s u m x){h:Int}(q:a1a s t l h):a1a s u m h:=by
 induction q with
 | base h1 h2=>exact hl _ h1 h2
 | step _ h1 h2 ih=>exact .step ih h1 h2
 | pair h1 _ h3 ih=>exact .pair (ht _ _ h1) ih h3
theorem Rch.d7l{s:a7}(t:Tb){l:List Int}{h:Int}(q:Rch s l h):a1a s t l h:=by
 induction q with
 | base h1 h2=>exact .base h1 h2
 | step _ h1 h2 ih=>exact .step ih h1 h2
theorem b1P{s:a7}{t:Tb}{l:List Int}{v:Int}:v∈owd s t l↔∃k,Has t k v∧k∈l∧k∈lv s∧v∈lv s:=by
 unfold owd;rw[List.mem_map];constructor
 ·rintro⟨p,hp,rfl⟩;obtain⟨h1,h2⟩:=List.mem_filter.1 hp;exact⟨p.Key,a36.1 h1,of_decide_eq_true h2⟩
 ·rintro⟨k,h1,h2⟩;exact⟨⟨k,v⟩,List.mem_filter.2 ⟨a36.2 h1,decide_eq_true h2⟩,rfl⟩
theorem b8K{s:a7}{t:Tb}{l:List Int}:(∀v∈owd s t l,v∈l)↔PCl s t l:=by
 constructor;·exact λh k v h1 h2 h3 h4=>h v (b1P.2 ⟨k,h1,h2,h3,h4⟩)
 ·intro h v hv;obtain⟨k,h1,h2,h3,h4⟩:=b1P.1 hv;exact h k v h1 h2 h3 h4
theorem b8L{s:a7}{t:Tb}(hT:HR t)(l:List Int):(owd s t l).length≤8:=by
 unfold owd;rw[List.length_map];exact Nat.le_trans (List.length_filter_le ..) (a5Y hT.l8)
theorem d3U{s:a7}(hR:RtR (sO s))(t:Tb)(l:List Int):LB (owd s t l):=λx hx=>by
 obtain⟨_,_,_,_,h⟩:=b1P.1 hx;have:=a5V hR h;omega
noncomputable def I1(s:a7)(t:Tb)(l:List Int):Nat→List Int
 | 0=>rcd s l
 | k+1=>rcd s (I1 s t l k++owd s t (I1 s t l k))
section
variable{s:a7}{t:Tb}{l:List Int}
theorem b3d(k:Nat):I1 s t l (k+1)=rcd s (I1 s t l k++owd s t (I1 s t l k)):=rfl
theorem a6G(k:Nat):∃m,I1 s t l k=rcd s m:=by
 cases k with
 | zero=>exact⟨_,rfl⟩
 | succ k=>exact⟨_,rfl⟩
theorem d02(k:Nat):Cl s (I1 s t l k):=by
 obtain⟨m,e⟩:=a6G (s:=s) (t:=t) (l:=l) k;rw[e];exact d4m s m
theorem c53(k:Nat){x:Int}(h:x∈I1 s t l k):x∈lv s:=by
 obtain⟨m,e⟩:=a6G (s:=s) (t:=t) (l:=l) k;rw[e] at h;exact (a0j.1 h).live
theorem c1m(k:Nat){x:Int}(h:x∈I1 s t l k):x∈I1 s t l (k+1):=a0j.2 (.base (List.mem_append.2 (.inl h)) (c53 k h))
theorem c52(k:Nat):∀x∈l,x∈lv s→x∈I1 s t l k:=by
 induction k with
 | zero=>exact λx h1 h2=>a0j.2 (.base h1 h2)
 | succ k ih=>exact λx h1 h2=>c1m k (ih x h1 h2)
theorem c8A(k:Nat):∀x∈I1 s t l k,a1a s t l x:=by
 induction k with
 | zero=>exact λx h=>(a0j.1 h).d7l t
 | succ k ih=>
  intro x h;have:=a0j.1 h;induction this with
  | base h1 h2=>
   rcases List.mem_append.1 h1 with q | q
   ·exact ih _ q
   ·obtain⟨k',q1,q2,q3,q4⟩:=b1P.1 q;exact .pair q1 (ih _ q2) q4
  | step h0 h1 h2 ih2=>exact .step (ih2 (a0j.2 h0)) h1 h2
theorem b7q{k:Nat}(h:PCl s t (I1 s t l k)):I1 s t l k=frc s t l:=by
 obtain⟨m,e⟩:=a6G (s:=s) (t:=t) (l:=l) k;have hm:∀x,Rch s m x↔a1a s t l x:=λx=>by
  rw[←a0j,←e];exact⟨c8A k x,λq=>q.least (d02 k) h (c52 k)⟩
 rw[e];unfold rcd frc;exact List.filter_congr λx _=>decide_eq_decide.2 (hm x)
theorem c23{k:Nat}(h:PCl s t (I1 s t l k)):I1 s t l (k+1)=I1 s t l k:=by
 obtain⟨m,e⟩:=a6G (s:=s) (t:=t) (l:=l) k;rw[b3d];have h':=b8K.2 h;rw[e] at h' ⊢;refine b7p λx=>⟨λq=>?_,λq=>.base (List.mem_append.2 (.inl (a0j.2 q))) q.live⟩;refine q.mono λy hy _=>?_;rcases List.mem_append.1 hy with c | c
 ·exact a0j.1 c
 ·exact a0j.1 (h' y c)
theorem b3c{k:Nat}(h:¬PCl s t (I1 s t l k)):((prs t).filter λp=>decide (p.Val∈I1 s t l k)).length<((prs t).filter λp=>decide (p.Val∈I1 s t l (k+1))).length:=by
 obtain⟨v,hv,hn⟩:∃v,v∈owd s t (I1 s t l k)∧v∉I1 s t l k:=Classical.byContradiction λq=>h (b8K.1 λv hv=>Classical.byContradiction λq2=>q ⟨v,hv,q2⟩);obtain⟨k',h1,h2,h3,h4⟩:=b1P.1 hv;refine filter_lt (λp _ hp=>?_) ⟨k',v⟩ (a36.2 h1) ?_ ?_
 ·rw[decide_eq_true_iff] at hp ⊢;exact c1m k hp
 ·rw[decide_eq_true_iff];exact a0j.2 (.base (List.mem_append.2 (.inr hv)) h4)
 ·exact decide_eq_false hn
theorem b2n(s:a7)(t:Tb)(l:List Int):∃n,n≤(prs t).length∧PCl s t (I1 s t l n)∧∀j,j<n→¬PCl s t (I1 s t l j):=by
 have key:∀k,(∃j,j≤k∧PCl s t (I1 s t l j))∨k<((prs t).filter λp=>decide (p.Val∈I1 s t l (k+1))).length:=by
  intro k;induction k with
  | zero=>
   by_cases h:PCl s t (I1 s t l 0)
   ·exact .inl ⟨0,Nat.le_refl _,h⟩
   ·have:=b3c h;exact .inr (by omega)
  | succ k ih=>
   rcases ih with ⟨j,h1,h2⟩ | ih;·exact .inl ⟨j,by omega,h2⟩
   ·by_cases h:PCl s t (I1 s t l (k+1))
    ·exact .inl ⟨k+1,Nat.le_refl _,h⟩
    ·have:=b3c h;exact .inr (by omega)
 obtain⟨j,h1,h2⟩:∃j,j≤(prs t).length∧PCl s t (I1 s t l j):=by
  rcases key (prs t).length with q | q
  ·exact q
  ·have:=List.length_filter_le (λp:o0=>decide (p.Val∈I1 s t l ((prs t).length+1))) (prs t);omega
 obtain⟨n,hn,hmin⟩:=a1t (p:=λj=>PCl s t (I1 s t l j)) ⟨j,h2⟩;exact⟨n,Nat.le_trans (hmin j h2) h1,hn,λi hi q=>by have:=hmin i q;omega⟩
end
noncomputable def rnd(s:a7)(t:Tb)(l:List Int):Nat:=Classical.choose (b2n s t l)
theorem c8z(s:a7)(t:Tb)(l:List Int):rnd s t l≤(prs t).length:=(Classical.choose_spec (b2n s t l)).1
theorem c1l(s:a7)(t:Tb)(l:List Int):PCl s t (I1 s t l (rnd s t l)):=(Classical.choose_spec (b2n s t l)).2.1
theorem c4H(s:a7)(t:Tb)(l:List Int){j:Nat}(h:j<rnd s t l):¬PCl s t (I1 s t l j):=(Classical.choose_spec (b2n s t l)).2.2 j h
section
variable{s:a7}(hR:RtR (sO s)){t:Tb}(hT:HR t)(hTB:TB t)
include hR hT hTB
omit hT hTB in
theorem b67 {h:Int} (hh:h≤9223372036854775807):a4C h s=some (decide (h∈lv s)):=by
 obtain⟨e,h1,h2⟩:=T0 hR hh;unfold a4C;rw[h1,d7R];congr 1;rw[Bool.eq_iff_iff,beq_iff_eq,decide_eq_true_iff];exact h2
omit hT hTB in
theorem b5q {h:Int} (hh:h≤9223372036854775807):a6v (sO s) h=some (decide (h∈lv s)):=by
 obtain⟨e,h1,h2⟩:=T0 hR hh;unfold a6v;rw[a6d s (by have:=a2n hR;omega) hh,h1]
 simp only[Option.map_some,d7R];congr 1;rw[Bool.eq_iff_iff,beq_iff_eq,decide_eq_true_iff];exact h2
theorem c4r{l:List Int}(hl:l.length≤1000000):b1l s t l=some (owd s t l):=by
 unfold b1l;simp only[jn,c8h hT,d7R];have h8:=a5Y hT.l8;rw[G7 ((prs t)) (λb p=>b++(if decide (p.Key∈l∧p.Key∈lv s∧p.Val∈lv s) then [p.Val] else [])) id (λk b=>b.length≤k) (by omega) (by simp) (λk hk b hb=>?_) (λb _=>?_)]
 ·simp only[d7R,id];rw[a2J];congr 1;unfold owd;rw[List.nil_append];generalize prs t=P;induction P with
  | nil=>rfl
  | cons p P ih=>
   rw[List.flatMap_cons,List.filter_cons,ih];by_cases q:p.Key∈l∧p.Key∈lv s∧p.Val∈lv s
   ·simp[q]
   ·simp[q]
 ·have hb':=hTB.has (a36.1 (List.getElem_mem hk));simp only[Int.ofNat_lt,hk,decide_true,if_true,p8 hk,d7R,contains_eq _ _ hl];rw[b67 hR hb'.1,b67 hR hb'.2];by_cases q1:(prs t)[k].Key∈l
  ·rw[decide_eq_true q1];simp only[beq_self_eq_true,a0s,d7R,Bool.true_and];by_cases q2:(prs t)[k].Key∈lv s
   ·rw[decide_eq_true q2];simp only[beq_self_eq_true,a0s,d7R,Bool.true_and];by_cases q3:(prs t)[k].Val∈lv s
    ·rw[if_pos (by simpa using q3),A7 (by omega) (by simp;omega),d7R,l7,if_pos (by simp[q1,q2,q3])]
     exact⟨rfl,by simp;omega⟩
    ·rw[if_neg (by simpa using q3),l7,if_neg (by simp[q3]),List.append_nil]
     exact⟨rfl,by omega⟩
   ·rw[decide_eq_false q2];simp only[show ((false==true):Bool)=false from rfl,b7f,d7R,Bool.false_and,Bool.false_eq_true,if_false];rw[l7,if_neg (by simp[q2]),List.append_nil]
    exact⟨rfl,by omega⟩
  ·rw[decide_eq_false q1];simp only[show ((false==true):Bool)=false from rfl,b7f,d7R,Bool.false_and,Bool.false_eq_true,if_false];rw[l7,if_neg (by simp[q1]),List.append_nil]
   exact⟨rfl,by omega⟩
 ·simp only[Int.lt_irrefl,decide_false,Bool.false_eq_true,if_false];rfl
theorem c5y{l:List Int}(hl:l.length≤1000000):a8W (sO s) (t.map M0) l=some (owd s t l):=by
 unfold a8W;simp only[jn,b7r hT,d7R];have h8:=a5Y hT.l8;rw[G7 ((prs t)) (λb p=>b++(if decide (p.Key∈l∧p.Key∈lv s∧p.Val∈lv s) then [p.Val] else [])) id (λk b=>b.length≤k) (by omega) (by simp) (λk hk b hb=>?_) (λb _=>?_)]
 ·simp only[d7R,id];rw[a2J];congr 1;unfold owd;rw[List.nil_append];generalize prs t=P;induction P with
  | nil=>rfl
  | cons p P ih=>
   rw[List.flatMap_cons,List.filter_cons,ih];by_cases q:p.Key∈l∧p.Key∈lv s∧p.Val∈lv s
   ·simp[q]
   ·simp[q]
 ·have hb':=hTB.has (a36.1 (List.getElem_mem hk));have hk':k<((prs t).map pp).length:=by simpa using hk
  have eix:ix ((prs t).map pp) (k:Int)=some (pp (prs t)[k]):=by rw[a1p,p8 hk];rfl
  simp only[List.length_map,Int.ofNat_lt,hk,decide_true,if_true,eix,d7R,b1t _ _ hl,pp];rw[b5q hR hb'.1,b5q hR hb'.2];simp only[d7R];by_cases q1:(prs t)[k].Key∈lv s
  ·rw[decide_eq_true q1];simp only[beq_self_eq_true,a0s,d7R,Bool.true_and];have h0:=c4f hR _ q1;by_cases q2:(prs t)[k].Key∈l
   ·rw[decide_eq_true (show (prs t)[k].Key≠0∧(prs t)[k].Key∈l from ⟨h0,q2⟩)];simp only[beq_self_eq_true,a0s,d7R,Bool.true_and];by_cases q3:(prs t)[k].Val∈lv s
    ·rw[if_pos (by simpa using q3),A7 (by omega) (by simp;omega),d7R,l7,if_pos (by simp[q1,q2,q3])]
     exact⟨rfl,by simp;omega⟩
    ·rw[if_neg (by simpa using q3),l7,if_neg (by simp[q3]),List.append_nil]
     exact⟨rfl,by omega⟩
   ·rw[decide_eq_false (show ¬((prs t)[k].Key≠0∧(prs t)[k].Key∈l) from λq=>q2 q.2)];simp only[show ((false==true):Bool)=false from rfl,b7f,d7R,Bool.false_and,Bool.false_eq_true,if_false];rw[l7,if_neg (by simp[q2]),List.append_nil]
    exact⟨rfl,by omega⟩
  ·rw[decide_eq_false q1];simp only[show ((false==true):Bool)=false from rfl,b7f,d7R,Bool.false_and,Bool.false_eq_true,if_false];rw[l7,if_neg (by simp[q1]),List.append_nil]
   exact⟨rfl,by omega⟩
 ·simp only[List.length_map,Int.lt_irrefl,decide_false,Bool.false_eq_true,if_false];rfl
theorem c7s(hF:FB s){l:List Int}(hl:LB l)(hlen:l.length≤1000000):a9x s t l=some (frc s t l,(rnd s t l:Int)):=by
 unfold a9x;rw[c31 hR hF hl hlen,d7R];simp only[jn];have hn:=c8z s t l;have h8:=a5Y hT.l8;have hstep:∀k,∃m,I1 s t l k=rcd s m:=a6G;refine a2a (p:=λk=>(I1 s t l k,(k:Int))) rfl (rnd s t l) (λ_=>True) (by omega) trivial (λk hk _=>.inl ⟨?_,trivial⟩) (λ_=>?_)
 ·obtain⟨m,hm⟩:=hstep k;have hlk:(I1 s t l k).length≤24:=by rw[hm];exact c4x hR m
  have hlb:LB (I1 s t l k):=by rw[hm];exact d4n hR m
  have hno:=c4H s t l hk;simp only;rw[c4r hR hT hTB (by omega),d7R]
  have ho:=b8L (s:=s) hT (I1 s t l k);obtain⟨j,⟨hj,hjn⟩,hmin⟩:=a1t (p:=λj=>∃hj:j<(owd s t (I1 s t l k)).length,(owd s t (I1 s t l k))[j]∉I1 s t l k) (by
   refine Classical.byContradiction λq=>hno (b8K.1 λv hv=>Classical.byContradiction λq2=>?_);obtain⟨j,hj,e⟩:=List.mem_iff_getElem.1 hv;exact q ⟨j,hj,by rw[e];exact q2⟩)
  refine V2 (owd s t (I1 s t l k)).length (λi=>i≤j) (by omega) (Nat.zero_le _) (λi hi hP=>?_) (λhP=>by omega)
  simp only[Int.ofNat_lt,hi,decide_true,if_true,p8 hi,d7R];rw[contains_eq _ _ (by omega),d7R]
  rcases Nat.lt_or_ge i j with q | q
  ·refine .inl ⟨?_,q⟩;have:(owd s t (I1 s t l k))[i]∈I1 s t l k:=Classical.byContradiction λq2=>by have:=hmin i ⟨hi,q2⟩;omega
   rw[if_neg (by simp[this]),l7]
  ·have:i=j:=by omega
   subst this;refine .inr ⟨.inl (I1 s t l (k+1),((k+1:Nat):Int)),?_,rfl⟩;rw[if_pos (by simp[hjn]),A7 (by omega) (by omega),d7R,c31 hR hF (λx hx=>by
    rcases List.mem_append.1 hx with q | q
    ·exact d3U hR t _ x q
    ·exact hlb x q) (by simp;omega),d7R,l7,b3d]
   rw[b7p (l:=owd s t (I1 s t l k)++I1 s t l k) (m:=I1 s t l k++owd s t (I1 s t l k)) λx=>⟨λq=>q.mono λy hy hyl=>.base (List.mem_append.2 (List.mem_append.1 hy).symm) hyl,λq=>q.mono λy hy hyl=>.base (List.mem_append.2 (List.mem_append.1 hy).symm) hyl⟩]
 ·have hst:=c1l s t l;have hfr:=b7q hst;refine⟨(frc s t l,(rnd s t l:Int)),?_,rfl⟩;simp only;rw[hfr] at hst ⊢;have hfl:=b8n hR t l;rw[c4r hR hT hTB (by omega),d7R]
  have ho:=b8L (s:=s) hT (frc s t l);refine V2 (owd s t (frc s t l)).length (λ_=>True) (by omega) trivial (λi hi _=>.inl ⟨?_,trivial⟩) (λ_=>⟨.inr (),by simp,rfl⟩)
  have:=b8K.2 hst _ (List.getElem_mem hi);simp only[Int.ofNat_lt,hi,decide_true,if_true,p8 hi,d7R];rw[contains_eq _ _ (by omega),d7R,if_neg (by simp[this]),l7]
theorem c1o{l:List Int}(hlen:l.length≤1000000):a7z (sO s) (t.map M0) l=some (frc s t l,(rnd s t l:Int)):=by
 unfold a7z;rw[b6X hR hlen,d7R];simp only[jn];have hn:=c8z s t l;have h8:=a5Y hT.l8;have hone:∀k,a6s (sO s) (I1 s t l k++owd s t (I1 s t l k))=some (I1 s t l (k+1))∧(I1 s t l k).length≤24∧(owd s t (I1 s t l k)).length≤8∧a8W (sO s) (t.map M0) (I1 s t l k)=some (owd s t (I1 s t l k)):=λk=>by
  obtain⟨m,hm⟩:=a6G (s:=s) (t:=t) (l:=l) k;have hlk:(I1 s t l k).length≤24:=by rw[hm];exact c4x hR m
  have ho:=b8L (s:=s) hT (I1 s t l k);exact⟨by rw[b6X hR (by simp;omega),b3d],hlk,ho,c5y hR hT hTB (by omega)⟩
 refine a2a (p:=λk=>(I1 s t l k,(k:Int))) rfl (rnd s t l) (λ_=>True) (by omega) trivial (λk hk _=>.inl ⟨?_,trivial⟩) (λ_=>?_)
 ·obtain⟨h1,h2,h3,h4⟩:=hone k;obtain⟨_,h2',_,_⟩:=hone (k+1);have hne:I1 s t l (k+1)≠I1 s t l k:=λe=>by
   have:=b3c (c4H s t l hk);rw[e] at this;omega
  simp only;rw[if_pos (by simp;omega),M6 (by omega) (by omega),d7R,h4,d7R,A7 (by omega) (by omega),d7R,h1,d7R,b7E _ _ (by omega),d7R,if_neg (by simpa using hne),l7]
 ·obtain⟨h1,h2,h3,h4⟩:=hone (rnd s t l);obtain⟨_,h2',_,_⟩:=hone (rnd s t l+1);have hst:=c1l s t l;refine⟨.inl (frc s t l,(rnd s t l:Int)),?_,rfl⟩;simp only;rw[if_pos (by simp;omega),M6 (by omega) (by omega),d7R,h4,d7R,A7 (by omega) (by omega),d7R,h1,d7R,b7E _ _ (by omega),d7R,if_pos (by simpa using c23 hst),b7q hst]
theorem c7h(hF:FB s){l:List Int}(hl:LB l)(hlen:l.length≤1000000):b1k s t l=some (frc s t l):=by
 unfold b1k;rw[c7s hR hT hTB hF hl hlen];rfl
theorem c2g{l:List Int}(hlen:l.length≤1000000):b17 (sO s) (t.map M0) l=some (frc s t l):=by
 unfold b17;rw[c1o hR hT hTB hlen];rfl
omit hT hTB hR in
theorem d00 {l:List Int} {x:Int}:Rch s (frc s t l) x↔a1a s t l x:=by
 constructor
 ·intro q;exact a7c.1 (Rch.least (d2Z s t l) (λx h _=>h) q)
 ·exact λq=>.base (a7c.2 q) q.live
theorem c7l(hF:FB s){l:List Int}(hl:LB l)(hlen:l.length≤1000000):a8z s t l=some (fls s t l):=by
 unfold a8z;rw[c7h hR hT hTB hF hl hlen,d7R,d0p hR hF (d3b hR t l) (by have:=b8n hR t l;omega),d7R]
 congr 1;unfold lst fls;exact List.filter_congr λx _=>decide_eq_decide.2 (not_congr d00)
open Classical in
theorem c2j {l:List Int} (hlen:l.length≤1000000):b18 (sO s) (t.map M0) l=some (fls s t l):=by
 unfold b18;have h24:=G2 hR;have hfl:=b8n hR t l;rw[c2g hR hT hTB hlen,d7R,a8I hR,d7R];simp only[jn];rw[G7 (lv s) (λacc x=>if decide (¬a1a s t l x) then acc ++ [x] else acc) id (λk acc=>acc.length≤k) (by omega) (by simp) (λk hk acc hb=>?_) (λb _=>?_)]
 ·simp only[d7R,id];rw[foldl_filter];rfl
 ·simp only[Int.ofNat_lt,hk,decide_true,if_true,p8 hk,d7R];rw[b1t _ _ (by omega),d7R]
  have h0:=c4f hR _ (List.getElem_mem hk);by_cases q:a1a s t l (lv s)[k]
  ·have e:(lv s)[k]∈frc s t l:=a7c.2 q;rw[if_neg (by simp[e,h0]),if_neg (by simpa using q),l7]
   exact⟨rfl,by omega⟩
  ·have e:(lv s)[k]∉frc s t l:=λh=>q (a7c.1 h);rw[if_pos (by simp[e]),if_pos (by simpa using q),A7 (by omega) (by simp;omega),d7R,l7]
   exact⟨rfl,by simp;omega⟩
 ·simp only[Int.lt_irrefl,decide_false,Bool.false_eq_true,if_false];rfl
end
end Go.Sh
namespace Go.Sh
end Go.Sh
namespace Go.Sh
end Go.Sh
namespace Go.Sh
section
variable(s:a7)(hF:FB s)(t:Tb)(hTB:TB t)
include hF hTB
end
end Go.Sh
namespace Go.Sh
def ce(s:a7)(i:Nat):b9:=s.S.a8.getD i ⟨0,0,z0⟩
theorem E7{s:a7}{i:Nat}(h:i<s.S.a8.length):ce s i=s.S.a8[i]:=by
 unfold ce;rw[List.getD_eq_getElem?_getD,List.getElem?_eq_getElem h];rfl
theorem c0s{s:a7}{i:Nat}(h:i<s.S.a8.length):ix s.S.a8 (i:Int)=some (ce s i):=by rw[p8 h,E7 h]
def Th(c:b9):Prop:=c.State=1∨c.State=2
instance(c:b9):Decidable (Th c):=by unfold Th;infer_instance
structure OkO (s:a7) (o:m9):Prop where
 s1:1≤o.Serial
 s2:o.Serial≤s.Serial
 st:0≤o.Strong
 wk:0≤o.Weak
 p1 : -1≤o.Prog
 p2:o.Prog≤5
 fl:o.Fields.length≤4
structure SR (s:a7):Prop where
 len:s.S.a8.length≤24
 l0:0≤s.S.Last
 l9:s.S.Last≤9
 ser:0≤s.Serial
 cell:∀i,i<s.S.a8.length→0≤(ce s i).State∧(ce s i).State≤3∧0≤(ce s i).Gen∧(ce s i).Gen≤s.S.Last
 no:∀i,i<s.S.a8.length→¬Th (ce s i)→c1W (oo (ce s i).Val)
 ok:∀i,i<s.S.a8.length→Th (ce s i)→OkO s (ce s i).Val
 dif:∀i j,i<s.S.a8.length→j<s.S.a8.length→Th (ce s i)→Th (ce s j)→(ce s i).Val.Serial=(ce s j).Val.Serial→i=j
theorem w9{s:a7}:RtR (sO s)↔SR s:=by
 constructor
 ·intro h;refine⟨a2n h,h.l0,h.l9,h.ser,λi hi=>?_,λi hi hn=>?_,λi hi ht=>?_,λi j hi hj a b e=>?_⟩;·rw[E7 hi];exact b9g h i hi
  ·rw[E7 hi] at hn ⊢;have:=h.no i (by rw[C2];exact hi)
   simp only[sO,List.getElem_map] at this;exact this hn
  ·rw[E7 hi] at ht ⊢;obtain⟨a,b,c,d,e,f,g⟩:=c8F h i hi ht;exact⟨a,b,c,d,e,f,g⟩
  ·rw[E7 hi] at a e;rw[E7 hj] at b e;exact c8E h hi hj a b e
 ·intro h;refine⟨by rw[C2];exact h.len,h.l0,h.l9,h.ser,λi hi=>?_,λi hi hn=>?_,λi hi ht=>?_,λi hi k hk a b=>?_⟩
  ·rw[C2] at hi;have:=h.cell i hi;rw[E7 hi] at this;simpa[sO,cO] using this
  ·rw[C2] at hi;have:=h.no i hi;rw[E7 hi] at this;simp only[sO,List.getElem_map] at hn ⊢;exact this hn
  ·rw[C2] at hi;have:=h.ok i hi;rw[E7 hi] at this;simp only[sO,List.getElem_map] at ht ⊢;obtain⟨a,b,c,d,e,f,g⟩:=this ht;exact⟨a,b,c,d,e,f,g⟩
  ·rw[C2] at hi;have hk':k<s.S.a8.length:=by omega
   have:=h.dif i k hi hk';rw[E7 hi,E7 hk'] at this;simp only[sO,List.getElem_map,cO,oo] at a b ⊢;intro e;have:=this a b e.symm;omega
def At(s:a7)(h:Int)(i:Nat):Prop:=i<s.S.a8.length∧(ce s i).State=1∧h=1+(i:Int)+32*(ce s i).Gen
def Y1(s:a7)(h:Int)(i:Nat):Prop:=i<s.S.a8.length∧Th (ce s i)∧h=1+(i:Int)+32*(ce s i).Gen
theorem At.d{s:a7}{h:Int}{i:Nat}(q:At s h i):Y1 s h i:=⟨q.1,.inl q.2.1,q.2.2⟩
theorem Y1.one{s:a7}(hR:SR s){h:Int}{i j:Nat}(q:Y1 s h i)(q':Y1 s h j):i=j:=by
 obtain⟨a1,_,a2⟩:=q;obtain⟨b1,_,b2⟩:=q';have:=hR.len;omega
theorem Y1.rng{s:a7}(hR:SR s){h:Int}{i:Nat}(q:Y1 s h i):1≤h∧h≤320:=by
 obtain⟨a1,_,a2⟩:=q;have:=hR.len;have:=hR.cell i a1;have:=hR.l9;omega
theorem c0z{s:a7}{h:Int}:h∈a0a 0 s.S.a8↔∃i,At s h i:=by
 rw[a8F];constructor
 ·rintro⟨i,hi,h1,h2⟩;refine⟨i,hi,by rw[E7 hi];exact h1,?_⟩
  rw[E7 hi,h2,Nat.zero_add]
 ·rintro⟨i,hi,h1,h2⟩;rw[E7 hi] at h1 h2;exact⟨i,hi,h1,by rw[h2,Nat.zero_add]⟩
theorem a3p{s:a7}(hR:SR s){h:Int}:h∈lv s↔∃i,At s h i:=by rw[b2W (w9.2 hR),c0z]
theorem b0J{s:a7}(hR:SR s){h:Int}{i:Nat}:b2H s.S h i↔Y1 s h i:=by
 constructor
 ·rintro⟨hi,h1,h2,h3,h4⟩;unfold Hnd at h1;refine⟨hi,by rw[E7 hi];exact h4,?_⟩
  rw[E7 hi];omega
 ·rintro⟨hi,h1,h2⟩;have l:=hR.len;have l9:=hR.l9;have c:=hR.cell i hi;rw[E7 hi] at h1 h2 c;exact⟨hi,by unfold Hnd;omega,by omega,by omega,h1⟩
theorem P2{s:a7}(hR:SR s){h:Int}{i:Nat}(q:At s h i):ob s h=(ce s i).Val:=by
 obtain⟨j,hj,h1,h2,_,e⟩:=b8D (w9.2 hR) ((a3p hR).2 ⟨i,q⟩);have:j=i:=Y1.one hR ⟨hj,by rw[E7 hj];exact .inl h1,by rw[E7 hj];exact h2⟩ q.d
 subst this;rw[e,E7 hj]
theorem d2H{s:a7}(hR:SR s){h:Int}{i:Nat}(q:At s h i):y9 s h=some ((ce s i).Val,0):=by
 rw[b5r (w9.2 hR) ((a3p hR).2 ⟨i,q⟩),P2 hR q]
theorem c6J{s:a7}(hR:SR s){h:Int}{i:Nat}(q:At s h i):sk s.S.a8 h=(ce s i).Val.Serial:=by
 have:=hR.len;have hi:=q.1;rw[q.2.2,c1v hi (by omega),E7 hi]
theorem a62{s:a7}(hR:SR s){h:Int}{i:Nat}(q:Y1 s h i):y4 s.S h=some ((i:Int),0):=a9w ((b0J hR).2 q)
theorem b0z{s:a7}(hR:SR s){h:Int}(hh:h≤9223372036854775807)(q:∀i,¬Y1 s h i):y4 s.S h=some (-1,if h=0 then 2 else 3):=b2T hh λi hi=>q i ((b0J hR).1 hi)
theorem c7K{s s':a7}(hR:SR s)(hR':SR s')(P:Int→Bool)(hm:∀h,(∃i,At s' h i)↔(∃i,At s h i)∧P h=true)(hk:∀h i j,At s' h i→At s h j→(ce s' i).Val.Serial=(ce s j).Val.Serial):lv s'=(lv s).filter P:=by
 have hk':∀h∈lv s,P h=true→sk s'.S.a8 h=sk s.S.a8 h:=λh hh hp=>by
  obtain⟨j,hj⟩:=(a3p hR).1 hh;obtain⟨i,hi⟩:=(hm h).2 ⟨⟨j,hj⟩,hp⟩;rw[c6J hR' hi,c6J hR hj,hk h i j hi hj]
 refine d5M (w9.2 hR') ?_ ?_
 ·rw[List.perm_ext_iff_of_nodup ((b1H (w9.2 hR)).filter _) (a7g 0 _ (by have:=hR'.len;omega))]
  intro h;rw[List.mem_filter,a3p hR,c0z,hm h]
 ·refine ((a5u (w9.2 hR)).2.2.filter P).imp_of_mem λ{a b} ha hb hab=>?_;rw[List.mem_filter] at ha hb;rw[hk' a ha.1 ha.2,hk' b hb.1 hb.2];exact hab
theorem d0s{s s':a7}(hR:SR s)(hR':SR s')(hl:s'.S.a8.length=s.S.a8.length)(h1:∀i,i<s.S.a8.length→((ce s' i).State=1↔(ce s i).State=1)∧(ce s' i).Gen=(ce s i).Gen∧(ce s' i).Val.Serial=(ce s i).Val.Serial):lv s'=lv s:=by
 have ha:∀h i,At s' h i↔At s h i:=λh i=>by
  unfold At;rw[hl];constructor
  ·rintro⟨a,b,c⟩;obtain⟨x,y,z⟩:=h1 i a;exact⟨a,x.1 b,by rw[←y];exact c⟩
  ·rintro⟨a,b,c⟩;obtain⟨x,y,z⟩:=h1 i a;exact⟨a,x.2 b,by rw[y];exact c⟩
 rw[c7K hR hR' (λ_=>true) (λh=>by simp only[and_true];exact⟨λ⟨i,q⟩=>⟨i,(ha h i).1 q⟩,λ⟨i,q⟩=>⟨i,(ha h i).2 q⟩⟩) (λh i j q q'=>by
  have:=Y1.one hR ((ha h i).1 q).d q'.d;subst this;exact (h1 i q'.1).2.2)]
 simp
def a2g(s:a7)(i:Nat)(o:m9):a7:=⟨⟨s.S.a8.set i ⟨(ce s i).State,(ce s i).Gen,o⟩,s.S.Last⟩,s.Serial⟩
theorem M8(s:a7)(i:Nat)(o:m9):(a2g s i o).S.a8.length=s.S.a8.length:=by simp[a2g]
theorem a6e{α:Type}{l:List α}{i:Nat}(hi:i<l.length)(c d:α)(j:Nat):(l.set i c).getD j d=if j=i then c else l.getD j d:=by
 rw[List.getD_eq_getElem?_getD,List.getD_eq_getElem?_getD,List.getElem?_set];by_cases h:j=i
 ·subst h;rw[if_pos rfl,if_pos hi,if_pos rfl];rfl
 ·rw[if_neg (Ne.symm h),if_neg h]
theorem a64{s:a7}{i:Nat}(hi:i<s.S.a8.length)(o:m9)(j:Nat):ce (a2g s i o) j=if j=i then ⟨(ce s i).State,(ce s i).Gen,o⟩ else ce s j:=a6e hi _ _ j
theorem b51{s:a7}{i:Nat}(hi:i<s.S.a8.length)(o:m9)(j:Nat):(ce (a2g s i o) j).State=(ce s j).State∧(ce (a2g s i o) j).Gen=(ce s j).Gen:=by
 rw[a64 hi];split;·rename_i q;subst q;exact⟨rfl,rfl⟩
 ·exact⟨rfl,rfl⟩
theorem b4j{s:a7}{i:Nat}(hi:i<s.S.a8.length)(o:m9){h:Int}{j:Nat}:Y1 (a2g s i o) h j↔Y1 s h j:=by
 unfold Y1 Th;rw[M8,(b51 hi o j).1,(b51 hi o j).2]
theorem b4X{s:a7}{i:Nat}(hi:i<s.S.a8.length)(o:m9){h:Int}{j:Nat}:At (a2g s i o) h j↔At s h j:=by
 unfold At;rw[M8,(b51 hi o j).1,(b51 hi o j).2]
theorem b9m{s:a7}(hR:SR s){h:Int}{i:Nat}(q:Y1 s h i)(o:m9):K6 s h o=some (a2g s i o,0):=by
 obtain⟨hi,e⟩:=c1t (v:=o) hR.len ((b0J hR).2 q);unfold K6;rw[e];simp[a2g,E7 hi]
theorem SR.put{s:a7}(hR:SR s){i:Nat}(hi:i<s.S.a8.length)(ht:Th (ce s i)){o:m9}(hs:o.Serial=(ce s i).Val.Serial)(ho:OkO s o):SR (a2g s i o):=by
 have hst:=b51 hi o;have hse:∀j,(ce (a2g s i o) j).Val.Serial=(ce s j).Val.Serial:=λj=>by
  rw[a64 hi];split;·rename_i q;subst q;exact hs
  ·rfl
 refine⟨by rw[M8];exact hR.len,hR.l0,hR.l9,hR.ser,λj hj=>?_,λj hj hn=>?_,λj hj hn=>?_,λj k hj hk a b e=>?_⟩
 ·rw[M8] at hj;rw[(hst j).1,(hst j).2];exact hR.cell j hj
 ·rw[M8] at hj;unfold Th at hn;rw[(hst j).1] at hn;rw[a64 hi];split;·rename_i q;subst q;exact absurd ht hn
  ·exact hR.no j hj hn
 ·rw[M8] at hj;unfold Th at hn;rw[(hst j).1] at hn;rw[a64 hi];split;·exact⟨ho.s1,ho.s2,ho.st,ho.wk,ho.p1,ho.p2,ho.fl⟩
  ·have:=hR.ok j hj hn;exact⟨this.s1,this.s2,this.st,this.wk,this.p1,this.p2,this.fl⟩
 ·rw[M8] at hj hk;unfold Th at a b;rw[(hst j).1] at a;rw[(hst k).1] at b;rw[hse,hse] at e;exact hR.dif j k hj hk a b e
theorem c7I{s:a7}(hR:SR s){i:Nat}(hi:i<s.S.a8.length){o:m9}(hs:o.Serial=(ce s i).Val.Serial)(hR':SR (a2g s i o)):lv (a2g s i o)=lv s:=by
 refine d0s hR hR' (M8 ..) λj hj=>?_;rw[a64 hi];split;·rename_i q;subst q;exact⟨Iff.rfl,rfl,hs⟩
 ·exact⟨Iff.rfl,rfl,rfl⟩
theorem d3O{s:a7}(hR:SR s){h:Int}{i:Nat}(q:At s h i){o:m9}(hR':SR (a2g s i o)){k:Int}(hk:k≤9223372036854775807):ob (a2g s i o) k=if k=h then o else ob s k:=by
 by_cases e:k=h
 ·subst e;rw[if_pos rfl,P2 hR' ((b4X q.1 o).2 q),a64 q.1,if_pos rfl]
 ·rw[if_neg e];by_cases hl:∃j,At s k j
  ·obtain⟨j,hj⟩:=hl;rw[P2 hR' ((b4X q.1 o).2 hj),P2 hR hj,a64 q.1,if_neg];intro e2;subst e2;exact e (hj.2.2.trans q.2.2.symm)
  ·rw[b0o (w9.2 hR) hk (λq2=>hl ((a3p hR).1 q2)),b0o (w9.2 hR') hk λq2=>hl (by
    obtain⟨j,hj⟩:=(a3p hR').1 q2;exact⟨j,(b4X q.1 o).1 hj⟩)]
def D6(h:Int):Nat:=((h-1) % 32).toNat
theorem Y1.D6{s:a7}(hR:SR s){h:Int}{i:Nat}(q:Y1 s h i):D6 h=i:=by
 obtain⟨a,_,c⟩:=q;have:=hR.len;unfold Sh.D6;omega
def seO(s:a7)(h:Int)(o:m9):a7:=a2g s (D6 h) o
theorem A8{s:a7}(hR:SR s){h:Int}(hh:h∈lv s):At s h (D6 h):=by
 obtain⟨i,hi⟩:=(a3p hR).1 hh;rw[hi.d.D6 hR];exact hi
theorem K3{s:a7}(hR:SR s){h:Int}(hh:h∈lv s):OkO s (ob s h):=by
 have q:=A8 hR hh;rw[P2 hR q];exact hR.ok _ q.1 (.inl q.2.1)
theorem I0{s:a7}(hR:SR s){h:Int}(hh:h∈lv s):1≤h∧h≤320:=(A8 hR hh).d.rng hR
theorem a93{s:a7}(hR:SR s):(0:Int)∉lv s:=λh=>by have:=I0 hR h;omega
section
variable{s:a7}(hR:SR s){h:Int}(hh:h∈lv s){o:m9}(hs:o.Serial=(ob s h).Serial)(ho:OkO s o)
include hR hh hs ho
theorem a08:SR (seO s h o):=by
 have q:=A8 hR hh;exact hR.put q.1 (.inl q.2.1) (by rw[hs,P2 hR q]) ho
theorem a3Q:lv (seO s h o)=lv s:=by
 have q:=A8 hR hh;exact c7I hR q.1 (by rw[hs,P2 hR q]) (a08 hR hh hs ho)
theorem a2W{k:Int}(hk:k≤9223372036854775807):ob (seO s h o) k=if k=h then o else ob s k:=d3O hR (A8 hR hh) (a08 hR hh hs ho) hk
theorem b2q:K6 s h o=some (seO s h o,0):=b9m hR (A8 hR hh).d o
theorem c3a{k:Int}{i:Nat}:Y1 (seO s h o) k i↔Y1 s k i:=b4j (A8 hR hh).1 o
theorem b9l(i:Nat):ce (seO s h o) i=if i=D6 h then ⟨(ce s i).State,(ce s i).Gen,o⟩ else ce s i:=by
 unfold seO;rw[a64 (A8 hR hh).1];split;·rename_i q;rw[q]
 ·rfl
end
abbrev stg(o:m9)(n:Int):m9:=⟨o.Serial,n,o.Weak,o.Prog,o.Started,o.Fields⟩
structure Kin (s s':a7):Prop where
 sr:SR s'
 len:s'.S.a8.length=s.S.a8.length
 last:s'.S.Last=s.S.Last
 ser:s'.Serial=s.Serial
 lv:lv s'=lv s
 ad:∀k i,Y1 s' k i↔Y1 s k i
 ob:∀k,k≤9223372036854775807→∃n,ob s' k=(stg (ob s k) (n))
 ce:∀i,i<s.S.a8.length→(ce s' i).State=(ce s i).State∧(ce s' i).Gen=(ce s i).Gen∧(ce s' i).Val.Weak=(ce s i).Val.Weak∧(ce s' i).Val.Fields=(ce s i).Val.Fields∧((ce s i).State≠1→ce s' i=ce s i)
theorem Kin.refl{s:a7}(hR:SR s):Kin s s:=⟨hR,rfl,rfl,rfl,rfl,λ_ _=>Iff.rfl,λk _=>⟨_,rfl⟩,λi _=>⟨rfl,rfl,rfl,rfl,λ_=>rfl⟩⟩
theorem Kin.trans{a b c:a7}(h:Kin a b)(q:Kin b c):Kin a c:=by
 refine⟨q.sr,q.len.trans h.len,q.last.trans h.last,q.ser.trans h.ser,q.lv.trans h.lv,λk i=>(q.ad k i).trans (h.ad k i),λk hk=>?_,λi hi=>?_⟩
 ·obtain⟨n,e⟩:=h.ob k hk;obtain⟨m,f⟩:=q.ob k hk;exact⟨m,by rw[f,e]⟩
 ·obtain⟨a1,a2,a3,a4,a5⟩:=h.ce i hi;obtain⟨b1,b2,b3,b4,b5⟩:=q.ce i (by rw[h.len];exact hi)
  refine⟨b1.trans a1,b2.trans a2,b3.trans a3,b4.trans a4,λhn=>?_⟩;rw[b5 (by rw[a1];exact hn),a5 hn]
theorem Kin.outs{s s':a7}(k:Kin s s'){h:Int}(hh:h≤9223372036854775807):outs s' h=outs s h:=by
 obtain⟨n,e⟩:=k.ob h hh;unfold Sh.outs;rw[e]
theorem Kin.inn{s s':a7}(hR:SR s)(k:Kin s s')(h:Int):inn s' h=inn s h:=by
 unfold Sh.inn;rw[k.lv];congr 1;refine List.map_congr_left λx hx=>?_;rw[k.outs (by have:=I0 hR hx;omega)]
theorem d0n{s:a7}(hR:SR s){h:Int}(hh:h∈lv s){n:Int}(hn:0≤n):Kin s (seO s h (stg (ob s h) (n))):=by
 have ho:OkO s (stg (ob s h) (n)):=by
  have:=K3 hR hh;exact⟨this.s1,this.s2,hn,this.wk,this.p1,this.p2,this.fl⟩
 have q:=A8 hR hh;refine⟨a08 hR hh rfl ho,M8 ..,rfl,rfl,a3Q hR hh rfl ho,λk i=>c3a (o:=(stg (ob s h) (n))) hR hh rfl ho,λk hk=>?_,λi hi=>?_⟩
 ·rw[a2W (o:=(stg (ob s h) (n))) hR hh rfl ho hk];split;·rename_i e;subst e;exact⟨n,rfl⟩
  ·exact⟨_,rfl⟩
 ·rw[b9l (o:=(stg (ob s h) (n))) hR hh rfl ho];split
  ·rename_i e;subst e;rw[P2 hR q];exact⟨rfl,rfl,rfl,rfl,λhn=>absurd q.2.1 hn⟩
  ·exact⟨rfl,rfl,rfl,rfl,λ_=>rfl⟩
def SB(s:a7):Prop:=∀c∈s.S.a8,c.Val.Strong≤9223372036854775807
theorem d5E{s:a7}:FB s↔∀i,i<s.S.a8.length→∀x∈(ce s i).Val.Fields,x≤9223372036854775807:=by
 constructor
 ·intro h i hi x hx;rw[E7 hi] at hx;exact h _ (List.getElem_mem hi) x hx
 ·intro h c hc x hx;obtain⟨i,hi,rfl⟩:=List.getElem_of_mem hc;exact h i hi x (by rw[E7 hi];exact hx)
theorem d6t{s:a7}:SB s↔∀i,i<s.S.a8.length→(ce s i).Val.Strong≤9223372036854775807:=by
 constructor
 ·intro h i hi;rw[E7 hi];exact h _ (List.getElem_mem hi)
 ·intro h c hc;obtain⟨i,hi,rfl⟩:=List.getElem_of_mem hc;have:=h i hi;rwa [E7 hi] at this
end Go.Sh
namespace Go.Sh
noncomputable def inr(s:a7)(t:Tb)(h:Int):Nat:=inn s h+own t h
noncomputable def rst(s:a7)(t:Tb)(h:Int):Int:=if h∈lv s then (ob s h).Strong-(inr s t h:Int) else 0
noncomputable def hld(s:a7)(t:Tb):List Int:=(lv s).filter λh=>decide (0<rst s t h∨12≤(ob s h).Strong)
def d1y(s:a7)(t:Tb)(l:List Int):Prop:=∀h∈lv s,(ob s h).Strong<12→rst s t h=(tms l h:Int)
noncomputable instance(s:a7)(t:Tb)(l:List Int):Decidable (d1y s t l):=Classical.propDecidable _
section
variable{s:a7}(hR:RtR (sO s)){t:Tb}(hT:HR t)
include hR hT
theorem c7A(h:Int):a5I s t h=some (inr s t h:Int):=by
 unfold a5I;have h1:=c2r hR h;have h2:=c2E hT.l8 h;rw[d5K hR,d7R,c8d hT,d7R,F2 (by omega) (by omega)]
 unfold inr;simp
theorem c2s(h:Int):a9H (sO s) (t.map M0) h=some (inr s t h:Int):=by
 unfold a9H;have h1:=c2r hR h;have h2:=c2E hT.l8 h;rw[d0h hR,d7R,c56 hT,d7R,F2 (by omega) (by omega)]
 unfold inr;simp
theorem c7B(h:Int):inr s t h≤104:=by
 have h1:=c2r hR h;have h2:=c2E hT.l8 h;unfold inr;omega
omit hT in
theorem b3m (hB:SB s) {h:Int} (hh:h∈lv s):0≤(ob s h).Strong∧(ob s h).Strong≤9223372036854775807:=by
 obtain⟨i,hi⟩:=(a3p (w9.1 hR)).1 hh;rw[P2 (w9.1 hR) hi];refine⟨((w9.1 hR).ok i hi.1 (.inl hi.2.1)).st,?_⟩;rw[E7 hi.1];exact hB _ (List.getElem_mem _)
theorem d01(hB:SB s){h:Int}(hh:h≤9223372036854775807):a7Q s t h=some (rst s t h):=by
 unfold a7Q;obtain⟨e,h1,h2⟩:=T0 hR hh;rw[h1,d7R];by_cases q:h∈lv s
 ·have:=h2.2 q;subst this;have h3:=c7B hR hT h;have h4:=b3m hR hB q;rw[if_neg (by simp),c7A hR hT,d7R,F2 (by dsimp only;omega) (by dsimp only;omega)]
  unfold rst;rw[if_pos q]
 ·rw[if_pos (by simpa using λq2=>q (h2.1 q2))]
  unfold rst;rw[if_neg q]
theorem c50(hB:SB s){h:Int}(hh:h≤9223372036854775807):a8X (sO s) (t.map M0) h=some (rst s t h):=by
 unfold a8X;obtain⟨e,h1,h2⟩:=T0 hR hh;rw[a6d s (by have:=a2n hR;omega) hh,h1,Option.map_some,d7R]
 by_cases q:h∈lv s
 ·have:=h2.2 q;subst this;have h3:=c7B hR hT h;have h4:=b3m hR hB q;rw[if_neg (by simp),c2s hR hT,d7R]
  simp only[oo];rw[F2 (by omega) (by omega)]
  unfold rst;rw[if_pos q]
 ·rw[if_pos (by simpa using λq2=>q (h2.1 q2))]
  unfold rst;rw[if_neg q]
omit hT in
theorem c3d {h:Int} (hh:h≤9223372036854775807):a6w (sO s) h=some (decide (12≤(ob s h).Strong)):=by
 unfold a6w a0R;obtain⟨e,h1,h2⟩:=T0 hR hh;rw[a6d s (by have:=a2n hR;omega) hh,h1,Option.map_some,d7R,d7R]
 rfl
omit hT in
theorem d1T {k:Nat} (hk:k<(lv s).length):(lv s)[k]≤9223372036854775807:=by
 have:=a5V hR (List.getElem_mem hk);omega
theorem d0f(hB:SB s):a7O s t=some (hld s t):=by
 unfold a7O;simp only[jn];have h24:=G2 hR;rw[a2b hR,d7R,G7 (lv s) (λb x=>if decide (0<rst s t x∨12≤(ob s x).Strong) then b ++ [x] else b) id (λk b=>b.length≤k) (by omega) (by simp) (λk hk b hI=>?_) (λb _=>by simp),d7R]
 ·rw[foldl_filter];rfl
 ·have hm:=List.getElem_mem hk;have hle:=d1T hR hk;simp only[Int.ofNat_lt,hk,decide_true,if_true,p8 hk,d7R];rw[b5r hR hm,d7R];unfold a7P a8v G4;rw[d01 hR hT hB hle,d7R,d7R];by_cases q:0<rst s t (lv s)[k]
  ·rw[decide_eq_true (show rst s t (lv s)[k] > 0 from q)];simp only[show ((true==false):Bool)=false from rfl,b7f,d7R,Bool.true_or,if_true];rw[A7 (by omega) (by simp;omega),d7R,l7,if_pos (decide_eq_true (.inl q))]
   exact⟨rfl,by simp;omega⟩
  ·rw[decide_eq_false (show ¬rst s t (lv s)[k] > 0 from q)];simp only[beq_self_eq_true,a0s,d7R,Bool.false_or];by_cases q2:12≤(ob s (lv s)[k]).Strong
   ·rw[if_pos (decide_eq_true q2),A7 (by omega) (by simp;omega),d7R,l7,if_pos (decide_eq_true (.inr q2))]
    exact⟨rfl,by simp;omega⟩
   ·rw[if_neg (by simpa using q2),l7,if_neg (by simp only[decide_eq_true_eq];exact λc=>c.elim q q2)]
    exact⟨rfl,by omega⟩
theorem c5z(hB:SB s):b2a (sO s) (t.map M0)=some (hld s t):=by
 unfold b2a;simp only[jn];have h24:=G2 hR;rw[a8I hR,d7R,G7 (lv s) (λb x=>if decide (0<rst s t x∨12≤(ob s x).Strong) then b ++ [x] else b) id (λk b=>b.length≤k) (by omega) (by simp) (λk hk b hI=>?_) (λb _=>by simp),d7R]
 ·rw[foldl_filter];rfl
 ·have hle:=d1T hR hk;simp only[Int.ofNat_lt,hk,decide_true,if_true,p8 hk,d7R];rw[c50 hR hT hB hle,d7R];by_cases q:0<rst s t (lv s)[k]
  ·rw[decide_eq_true (show rst s t (lv s)[k] > 0 from q)];simp only[show ((true==false):Bool)=false from rfl,b7f,d7R,Bool.true_or,if_true];rw[A7 (by omega) (by simp;omega),d7R,l7,if_pos (decide_eq_true (.inl q))]
   exact⟨rfl,by simp;omega⟩
  ·rw[decide_eq_false (show ¬rst s t (lv s)[k] > 0 from q)];simp only[beq_self_eq_true,a0s,d7R,Bool.false_or];rw[c3d hR hle,d7R];by_cases q2:12≤(ob s (lv s)[k]).Strong
   ·rw[if_pos (decide_eq_true q2),A7 (by omega) (by simp;omega),d7R,l7,if_pos (decide_eq_true (.inr q2))]
    exact⟨rfl,by simp;omega⟩
   ·rw[if_neg (by simpa using q2),l7,if_neg (by simp only[decide_eq_true_eq];exact λc=>c.elim q q2)]
    exact⟨rfl,by omega⟩
omit hT in
theorem c36:(hld s t).length≤24:=Nat.le_trans (List.length_filter_le ..) (G2 hR)
omit hR hT in
theorem b4o {h:Int}:h∈hld s t↔h∈lv s∧(0<rst s t h∨12≤(ob s h).Strong):=by
 unfold hld;rw[List.mem_filter,decide_eq_true_eq]
omit hT in
theorem d3q:LB (hld s t):=λx hx=>by have:=a5V hR (b4o.1 hx).1;omega
theorem c2n(hTB:TB t)(hF:FB s)(hB:SB s):a1m s t=some (fls s t (hld s t)):=by
 unfold a1m;have:=c36 hR (t:=t);rw[d0f hR hT hB,d7R,c7l hR hT hTB hF (d3q hR) (by omega)]
 rfl
theorem b8o(hTB:TB t)(hB:SB s):a3z (sO s) (t.map M0)=some (fls s t (hld s t)):=by
 unfold a3z;have:=c36 hR (t:=t);rw[c5z hR hT hB,d7R,c2j hR hT hTB (by omega)]
 rfl
end
end Go.Sh
namespace Go.Sh
abbrev TQ:=g5
def tad(q:TQ)(t:k9):TQ × Int:=if q.Cap≤q.L.length then (q,4) else (⟨q.L ++ [t],q.Cap⟩,0)
def tnx(q:TQ):TQ × k9 × Int:=match q.L with
 | []=>(q,⟨0,0,0⟩,10)
 | t::l=>(⟨l,q.Cap⟩,t,0)
theorem d2h{q:TQ}(t:k9)(h:q.L.length≤1000):a9e q t=some (tad q t):=by
 unfold tad;unfold a9e Q9 J4 F7;simp only[d7R];by_cases c:q.Cap≤q.L.length
 ·rw[if_pos (by simpa using c),if_pos c,d7R]
 ·rw[if_neg (by simpa using c),if_neg c]
  have e:cut q.L 0 (q.L.length:Int)=some q.L:=by
   have:=b0I (xs:=q.L) (i:=0) (j:=q.L.length) (Nat.zero_le _) (Nat.le_refl _);simpa using this
  rw[e,d7R,d7R,A7 (by omega) (by simp;omega),d7R,d7R]
theorem b9u{q:TQ}:a1S q=some (tnx q):=by
 unfold tnx;unfold a1S a06 a0b J4 F7;simp only[d7R];cases hl:q.L with
 | nil=>
  have e:cut ([]:List k9) 0 0=some []:=rfl;simp[e]
 | cons t l=>
  have hm:(if (if (((t::l).length:Nat):Int)<1 then (((t::l).length:Nat):Int) else 1) > 0 then (if (((t::l).length:Nat):Int)<1 then (((t::l).length:Nat):Int) else 1) else 0)=1:=by
   rw[if_neg (show ¬(((t::l).length:Nat):Int)<1 by simp;omega)]
   simp
  rw[hm];have e1:cut (t::l) 0 1=some [t]:=by
   have:=b0I (xs:=t::l) (i:=0) (j:=1) (Nat.zero_le _) (by simp)
   simpa using this
  have e2:cut (t::l) 1 (((t::l).length:Nat):Int)=some l:=by
   have:=b0I (xs:=t::l) (i:=1) (j:=(t::l).length) (by simp) (Nat.le_refl _)
   simpa using this
  rw[e1,e2];simp[ix]
theorem d1j{q:TQ}{w:Int}(h:q.L.length≤1000):a4Y q w=some (q.L.any λt=>t.Kind==2&&t.At==w):=by
 unfold a4Y b4D;simp only[jn,d7R];refine V2 q.L.length (λk=>(q.L.take k).any (λt=>t.Kind==2&&t.At==w)=false) (by omega) (by simp) ?_ (λhl=>⟨.inr (),by simp,by rw[List.take_length] at hl;rw[hl]⟩)
 intro k hk hP;simp only[Int.ofNat_lt,hk,decide_true,if_true,p8 hk,d7R];rw[List.take_succ_eq_append_getElem hk,List.any_append,hP,Bool.false_or];by_cases c:(q.L[k].Kind==2)=true
 ·rw[c,if_pos (by decide)]
  by_cases d:(q.L[k].At==w)=true
  ·right;rw[d,if_pos rfl];refine⟨.inl true,rfl,?_⟩;simp only[Option.some.injEq];symm
   rw[List.any_eq_true];exact⟨_,List.getElem_mem hk,by rw[c,d];rfl⟩
  ·have d:(q.L[k].At==w)=false:=by simpa using d
   left;rw[d,if_neg (by decide),l7]
   exact⟨rfl,by simp[d]⟩
 ·have c:(q.L[k].Kind==2)=false:=by simpa using c
  left;rw[c,if_neg (by decide),l7]
  exact⟨rfl,by simp[c]⟩
end Go.Sh
namespace Go.Sh
def tkR(t:k9):o6:=⟨t.Kind,t.At,t.Prog⟩
def tqR(q:TQ):w7:=⟨q.L.map tkR,q.Cap⟩
theorem d2c{q:TQ}(t:k9)(h:q.L.length≤1000):a5B (tqR q) (tkR t)=some (tqR (tad q t).1,(tad q t).2):=by
 unfold a5B tad;have hl:(tqR q).L.length=q.L.length:=by simp[tqR]
 by_cases c:q.Cap≤q.L.length
 ·rw[if_pos (by simp[hl];exact c),if_pos c]
 ·rw[if_neg (by simp[hl];exact Int.not_le.1 c),if_neg c,M6 (by omega) (by rw[hl];omega),d7R,A7 (by omega) (by simp[hl];omega),d7R]
  simp[tqR]
theorem d4j{q:TQ}:b2b (tqR q)=some (tqR (tnx q).1,tkR (tnx q).2.1,(tnx q).2.2):=by
 unfold b2b tnx;obtain⟨L,C⟩:=q;cases L with
 | nil=>simp[tqR,tkR]
 | cons t l=>
  rw[if_neg (by simp[tqR];omega)]
  have e:cut (tqR ⟨t::l,C⟩).L 1 (((tqR ⟨t::l,C⟩).L.length:Nat):Int)=some (l.map tkR):=by
   have:=b0I (xs:=(tqR ⟨t::l,C⟩).L) (i:=1) (j:=(tqR ⟨t::l,C⟩).L.length) (by simp[tqR]) (Nat.le_refl _)
   rw[show (1:Int)=((1:Nat):Int) from rfl,this,List.take_length];simp[tqR]
  rw[e];simp[ix,tqR]
theorem d4g{q:TQ}(h:q.L.length≤1000):b2c (tqR q) (tqR q)=some true:=by
 unfold b2c;have hl:(tqR q).L.length=q.L.length:=by simp[tqR]
 rw[if_neg (by simp)]
 simp only[jn];refine V2 (tqR q).L.length (λ_=>True) (by omega) trivial (λk hk _=>.inl ⟨?_,trivial⟩) (λ_=>⟨.inr (),by simp,rfl⟩)
 simp only[Int.ofNat_lt,hk,decide_true,if_true,p8 hk,d7R];rw[if_neg (by simp),l7 (n:=k) (by omega)]
theorem d0Y{q:TQ}{w:Int}(h:q.L.length≤1000):a4o (tqR q) w=some (q.L.any λt=>t.Kind==2&&t.At==w):=by
 unfold a4o;have hl:(tqR q).L.length=q.L.length:=by simp[tqR]
 simp only[jn,hl];refine V2 q.L.length (λk=>(q.L.take k).any (λt=>t.Kind==2&&t.At==w)=false) (by omega) (by simp) ?_ (λhl=>⟨.inr (),by simp,by rw[List.take_length] at hl;rw[hl]⟩)
 intro k hk hP;have e:ix (tqR q).L (k:Int)=some (tkR q.L[k]):=by rw[show (tqR q).L=q.L.map tkR from rfl,a1p,p8 hk];rfl
 simp only[Int.ofNat_lt,hk,decide_true,if_true,e,d7R];rw[List.take_succ_eq_append_getElem hk,List.any_append,hP,Bool.false_or];by_cases c:(q.L[k].Kind==2&&q.L[k].At==w)=true
 ·right;rw[show ((tkR q.L[k]).Kind==2&&(tkR q.L[k]).At==w)=true from c,if_pos rfl];refine⟨.inl true,rfl,?_⟩;simp only[Option.some.injEq];symm
  rw[List.any_eq_true];exact⟨_,List.getElem_mem hk,c⟩
 ·have c:(q.L[k].Kind==2&&q.L[k].At==w)=false:=by simpa using c
  left;rw[show ((tkR q.L[k]).Kind==2&&(tkR q.L[k]).At==w)=false from c,if_neg (by decide),l7]
  exact⟨rfl,by simp[c]⟩
end Go.Sh
namespace Go.Sh
abbrev Hp:=b7
abbrev wS(x:Hp)(s:a7):Hp:=⟨s,x.Roots,x.a8,x.T,x.Q⟩
abbrev wR(x:Hp)(l:List Int):Hp:=⟨x.S,l,x.a8,x.T,x.Q⟩
abbrev wC(x:Hp)(l:List g6):Hp:=⟨x.S,x.Roots,l,x.T,x.Q⟩
abbrev wT(x:Hp)(t:Tb):Hp:=⟨x.S,x.Roots,x.a8,t,x.Q⟩
abbrev wQ(x:Hp)(q:TQ):Hp:=⟨x.S,x.Roots,x.a8,x.T,q⟩
def nmg(l:List g6)(h:Int):Nat:=l.countP λc=>(h != 0)&&(c.Target==h)
def b6r(q:TQ):List Int:=(q.L.filter (·.Kind==1)).map (·.At)
def wts(q:TQ)(w:Int):Bool:=q.L.any λt=>t.Kind==2&&t.At==w
def otr(x:Hp):List Int:=nz x.Roots++b6r x.Q
noncomputable def nms(x:Hp)(h:Int):Nat:=inn x.S h+own x.T h+tms (otr x) h
def H7(s:a7)(i:Nat)(c:b9):a7:=⟨⟨s.S.a8.set i c,s.S.Last⟩,s.Serial⟩
theorem Y0(s:a7)(i:Nat)(c:b9):(H7 s i c).S.a8.length=s.S.a8.length:=by simp[H7]
theorem L0{s:a7}{i:Nat}(hi:i<s.S.a8.length)(c:b9)(j:Nat):ce (H7 s i c) j=if j=i then c else ce s j:=a6e hi _ _ j
theorem SR.H7{s:a7}(hR:SR s){i:Nat}(hi:i<s.S.a8.length){c:b9}(h1:0≤c.State∧c.State≤3∧0≤c.Gen∧c.Gen≤s.S.Last)(h2:¬Th c→c1W (oo c.Val))(h3:Th c→OkO s c.Val∧Th (ce s i)∧c.Val.Serial=(ce s i).Val.Serial):SR (H7 s i c):=by
 have key:∀j,Th (ce (Sh.H7 s i c) j)→Th (ce s j)∧(ce (Sh.H7 s i c) j).Val.Serial=(ce s j).Val.Serial:=λj hj=>by
  rw[L0 hi] at hj ⊢;split at hj
  ·rename_i e;subst e;rw[if_pos rfl];exact (h3 hj).2
  ·rename_i e;rw[if_neg e];exact⟨hj,rfl⟩
 refine⟨by rw[Y0];exact hR.len,hR.l0,hR.l9,hR.ser,λj hj=>?_,λj hj hn=>?_,λj hj hn=>?_,λj k hj hk a b e=>?_⟩
 ·rw[Y0] at hj;rw[L0 hi];split;·exact h1
  ·exact hR.cell j hj
 ·rw[Y0] at hj;rw[L0 hi] at hn ⊢;split at hn
  ·rename_i e;rw[if_pos e];exact h2 hn
  ·rename_i e;rw[if_neg e];exact hR.no j hj hn
 ·rw[Y0] at hj;rw[L0 hi] at hn ⊢;split at hn
  ·rename_i e;rw[if_pos e];have:=(h3 hn).1;exact⟨this.s1,this.s2,this.st,this.wk,this.p1,this.p2,this.fl⟩
  ·rename_i e;rw[if_neg e];have:=hR.ok j hj hn;exact⟨this.s1,this.s2,this.st,this.wk,this.p1,this.p2,this.fl⟩
 ·rw[Y0] at hj hk;obtain⟨a1,a2⟩:=key j a;obtain⟨b1,b2⟩:=key k b;rw[a2,b2] at e;exact hR.dif j k hj hk a1 b1 e
theorem c6I{s:a7}{i:Nat}(hi:i<s.S.a8.length)(c:b9){h:Int}{j:Nat}(hj:j≠i):Y1 (H7 s i c) h j↔Y1 s h j:=by
 unfold Y1;rw[Y0,L0 hi,if_neg hj]
theorem b4k{s:a7}{i:Nat}(hi:i<s.S.a8.length)(c:b9){h:Int}{j:Nat}(hj:j≠i):At (H7 s i c) h j↔At s h j:=by
 unfold At;rw[Y0,L0 hi,if_neg hj]
theorem c4g{s:a7}(hR:SR s){i:Nat}(hi:i<s.S.a8.length){c:b9}(hc:c.State≠1)(hR':SR (H7 s i c)):lv (H7 s i c)=(lv s).filter λh=>decide (D6 h≠i):=by
 have hno:∀h,¬At (H7 s i c) h i:=λh q=>by
  have:=q.2.1;rw[L0 hi,if_pos rfl] at this;exact hc this
 refine c7K hR hR' _ (λh=>?_) (λh j k q q'=>?_)
 ·rw[decide_eq_true_iff];constructor
  ·rintro⟨j,hj⟩;have hne:j≠i:=λe=>hno h (e▸hj);have:=(b4k hi c hne).1 hj;exact⟨⟨j,this⟩,by rw[this.d.D6 hR];exact hne⟩
  ·rintro⟨⟨j,hj⟩,hp⟩;rw[hj.d.D6 hR] at hp;exact⟨j,(b4k hi c hp).2 hj⟩
 ·have hne:j≠i:=λe=>hno h (e▸q);have q2:=(b4k hi c hne).1 q;have:=Y1.one hR q2.d q'.d;subst this;rw[L0 hi,if_neg hne]
theorem c4m{s:a7}(hR:SR s){i:Nat}(hi:i<s.S.a8.length){c:b9}(hR':SR (H7 s i c)){k:Int}(hk:k∈lv s)(hp:D6 k≠i):ob (H7 s i c) k=ob s k:=by
 have q:=A8 hR hk;rw[P2 hR' ((b4k hi c hp).2 q),P2 hR q,L0 hi,if_neg hp]
structure Kn (s s':a7):Prop where
 sr:SR s'
 len:s'.S.a8.length=s.S.a8.length
 lv:lv s'=lv s
 ad:∀k i,Y1 s' k i↔Y1 s k i
 ob:∀k,k∈Sh.lv s→∃n m,ob s' k=⟨(ob s k).Serial,n,m,(ob s k).Prog,(ob s k).Started,(ob s k).Fields⟩
theorem Kin.kn{s s':a7}(hR:SR s)(k:Kin s s'):Kn s s':=⟨k.sr,k.len,k.lv,k.ad,λh hh=>by
 obtain⟨n,e⟩:=k.ob h (by have:=I0 hR hh;omega)
 exact⟨n,_,e⟩⟩
theorem Kn.inn{s s':a7}(k:Kn s s')(h:Int):inn s' h=inn s h:=by
 unfold Sh.inn;rw[k.lv];congr 1;refine List.map_congr_left λx hx=>?_;obtain⟨n,m,e⟩:=k.ob x hx;unfold Sh.outs;rw[e]
structure HpS (x:Hp):Prop where
 sr:SR x.S
 hr:HR x.T
 r6:x.Roots.length=6
 c6:x.a8.length=6
 cap:x.Q.Cap=30
 q30:x.Q.L.length≤30
 tk:∀t∈x.Q.L,0≤t.Prog∧t.Prog≤5∧((t.Kind=1∧t.At∈lv x.S∧(ob x.S t.At).Started=true)∨(t.Kind=2∧0≤t.At∧t.At≤5))
 td:x.Q.L.Pairwise λa b=>¬(a.Kind=b.Kind∧a.At=b.At)
 rt:∀h∈x.Roots,h=0∨h∈lv x.S
 fl:∀h∈lv x.S,∀v∈(ob x.S h).Fields,v=0∨v∈lv x.S
 pr:∀k v,Has x.T k v→k∈lv x.S∧v∈lv x.S
 cl:∀i (hi:i<x.a8.length),-1≤x.a8[i].Call∧x.a8[i].Call≤5∧(x.a8[i].Target=0→x.a8[i].Intact=false)∧(x.a8[i].Target≠0→∃p,Y1 x.S x.a8[i].Target p)∧(x.a8[i].Intact=true→x.a8[i].Target∈lv x.S∧wts x.Q i=false)
def Wk(x:Hp):Prop:=∀i,i<x.S.S.a8.length→Th (ce x.S i)→(ce x.S i).Val.Weak=(nmg x.a8 (1+(i:Int)+32*(ce x.S i).Gen):Int)∧((ce x.S i).State=2→1≤(ce x.S i).Val.Weak∧(ce x.S i).Val.Fields = []∧(ce x.S i).Val.Strong=0)
def a1F(x:Hp)(L:List Int):Prop:=∀h∈lv x.S,(ob x.S h).Strong<12→(ob x.S h).Strong=((nms x h+tms L h:Nat):Int)
structure N9 (x:Hp):Prop where
 sh:HpS x
 wk:Wk x
 fair:a1F x []
theorem HpS.of{x:Hp}(h:HpS x){s':a7}(hS:SR s')(hl:lv s'=lv x.S)(hd:∀k i,Y1 x.S k i→Y1 s' k i)(hst:∀k∈lv x.S,(ob x.S k).Started=true→(ob s' k).Started=true)(hfl:∀k∈lv x.S,∀v∈(ob s' k).Fields,v=0∨v∈lv x.S):HpS (wS x s'):=by
 refine⟨hS,h.hr,h.r6,h.c6,h.cap,h.q30,λt ht=>?_,h.td,λk hk=>?_,λk hk=>?_,λk v hkv=>?_,λi hi=>?_⟩
 ·obtain⟨a,b,c⟩:=h.tk t ht;refine⟨a,b,?_⟩;rcases c with ⟨c1,c2,c3⟩ | c;·exact .inl ⟨c1,by rw[hl];exact c2,hst _ c2 c3⟩
  ·exact .inr c
 ·dsimp only;rw[hl];exact h.rt k hk
 ·dsimp only at hk ⊢;rw[hl] at hk ⊢;exact hfl k hk
 ·dsimp only;rw[hl];exact h.pr k v hkv
 ·obtain⟨a,b,c,d,e⟩:=h.cl i hi;refine⟨a,b,c,λq=>?_,λq=>?_⟩
  ·obtain⟨p,hp⟩:=d q;exact⟨p,hd _ _ hp⟩
  ·dsimp only;rw[hl];exact e q
theorem HpS.kn{x:Hp}(h:HpS x){s':a7}(k:Kn x.S s'):HpS (wS x s'):=by
 refine h.of k.sr k.lv (λj i q=>(k.ad j i).2 q) (λj hj q=>?_) (λj hj=>?_)
 ·obtain⟨n,m,e⟩:=k.ob j hj;rw[e];exact q
 ·obtain⟨n,m,e⟩:=k.ob j hj;rw[e];exact h.fl j hj
theorem HpS.kin{x:Hp}(h:HpS x){s':a7}(k:Kin x.S s'):HpS (wS x s'):=h.kn (k.kn h.sr)
theorem Wk.kin{x:Hp}(h:Wk x){s':a7}(k:Kin x.S s'):Wk (wS x s'):=by
 intro i hi ht;dsimp only at hi ht ⊢;rw[k.len] at hi;obtain⟨a,b,c,d,e⟩:=k.ce i hi;unfold Th at ht;rw[a] at ht;obtain⟨f,g⟩:=h i hi ht;rw[a,b,c];refine⟨f,λq=>?_⟩;have e':=e (by omega)
 rw[←c,e'];exact g q
theorem HpS.roots{x:Hp}(h:HpS x){l:List Int}(hl:l.length=6)(hr:∀v∈l,v=0∨v∈lv x.S):HpS (wR x l):=⟨h.sr,h.hr,hl,h.c6,h.cap,h.q30,h.tk,h.td,hr,h.fl,h.pr,h.cl⟩
theorem HpS.table{x:Hp}(h:HpS x){t:Tb}(hr:HR t)(hp:∀k v,Has t k v→k∈lv x.S∧v∈lv x.S):HpS (wT x t):=⟨h.sr,hr,h.r6,h.c6,h.cap,h.q30,h.tk,h.td,h.rt,h.fl,hp,h.cl⟩
def V1(c:Int):Int:=if 12≤c then 12 else if c<0 then 1 else c+1
def a6b(c:Int):Int:=if 12≤c then 12 else if c<1 then c else c-1
theorem E0{c:Int}(h:0≤c):0≤V1 c:=by unfold V1;split <;> (try split) <;> omega
theorem O5{c:Int}(h:0≤c):0≤a6b c:=by unfold a6b;split <;> (try split) <;> omega
noncomputable def stO(x:Hp)(h:Int)(f:Int→Int):Hp:=if h∈lv x.S then wS x (seO x.S h (stg (ob x.S h) (f (ob x.S h).Strong))) else x
noncomputable def C8(x:Hp)(h:Int):Hp:=stO x h V1
noncomputable def Q5(x:Hp)(h:Int):Hp:=stO x h a6b
theorem b5Y(x:Hp)(h:Int)(f:Int→Int):stO x h f=wS x (stO x h f).S:=by
 unfold stO;split <;> rfl
theorem b3e(x:Hp)(h:Int):C8 x h=wS x (C8 x h).S:=b5Y x h V1
theorem d4u(x:Hp)(h:Int):Q5 x h=wS x (Q5 x h).S:=b5Y x h a6b
section
variable{x:Hp}(hR:SR x.S)(h:Int){f:Int→Int}(hf:∀c,0≤c→0≤f c)
include hR hf
theorem G6:Kin x.S (stO x h f).S:=by
 unfold stO;split
 ·rename_i q;exact d0n hR q (hf _ (K3 hR q).st)
 ·exact Kin.refl hR
theorem b3k{k:Int}(hk:k∈lv x.S):(ob (stO x h f).S k).Strong=if k=h then f (ob x.S k).Strong else (ob x.S k).Strong:=by
 unfold stO;split
 ·rename_i q;dsimp only;have ho:OkO x.S (stg (ob x.S h) (f (ob x.S h).Strong)):=by
   have:=K3 hR q;exact⟨this.s1,this.s2,hf _ this.st,this.wk,this.p1,this.p2,this.fl⟩
  rw[a2W (o:=stg (ob x.S h) (f (ob x.S h).Strong)) hR q rfl ho (by have:=I0 hR hk;omega)]
  split;·rename_i e;subst e;rfl
  ·rfl
 ·rename_i q;rw[if_neg];intro e;subst e;exact q hk
theorem b4C(k:Int):nms (stO x h f) k=nms x k:=by
 rw[b5Y];unfold nms otr;dsimp only;rw[(G6 hR h hf).inn hR]
end
theorem HpS.st{x:Hp}(h:HpS x)(k:Int){f:Int→Int}(hf:∀c,0≤c→0≤f c):HpS (stO x k f):=by
 rw[b5Y];exact h.kin (G6 h.sr k hf)
theorem Wk.st{x:Hp}(h:Wk x)(hR:SR x.S)(k:Int){f:Int→Int}(hf:∀c,0≤c→0≤f c):Wk (stO x k f):=by
 rw[b5Y];exact h.kin (G6 hR k hf)
theorem Q2(h:Int):tms [] h=0:=by unfold tms;split <;> rfl
theorem H0(v:Int)(L:List Int)(h:Int):tms (v::L) h=tms L h+if v=h∧h≠0 then 1 else 0:=by
 unfold tms;by_cases h0:h=0
 ·simp[h0]
 ·rw[if_neg h0,if_neg h0,List.count_cons];by_cases e:v=h
  ·simp[e,h0]
  ·simp[e]
theorem c1p{x:Hp}(hR:SR x.S){L:List Int}(hf:a1F x L)(v:Int):a1F (C8 x v) (v::L):=by
 intro h hh hlt;unfold C8 at hh hlt ⊢;rw[(G6 hR v λc=>E0).lv] at hh;rw[b3k hR v (λc=>E0) hh] at hlt ⊢;rw[b4C hR v λc=>E0,H0];have h0:h≠0:=λe=>a93 hR (e▸hh);have hp:=(K3 hR hh).st;by_cases e:h=v
 ·subst e;rw[if_pos rfl] at hlt ⊢;have:=hf h hh (by unfold V1 at hlt;split at hlt <;> omega)
  rw[if_pos ⟨rfl,h0⟩];unfold V1 at hlt ⊢;split at hlt;·omega
  ·rename_i q;rw[if_neg q,if_neg (by omega)]
   omega
 ·rw[if_neg e] at hlt ⊢;rw[if_neg (λq=>e q.1.symm)];exact hf h hh hlt
theorem b2m{x:Hp}(hR:SR x.S){L:List Int}{v:Int}(hf:a1F x (v::L)):a1F (Q5 x v) L:=by
 intro h hh hlt;unfold Q5 at hh hlt ⊢;rw[(G6 hR v λc=>O5).lv] at hh;rw[b3k hR v (λc=>O5) hh] at hlt ⊢;rw[b4C hR v λc=>O5];have h0:h≠0:=λe=>a93 hR (e▸hh);have hp:=(K3 hR hh).st;by_cases e:h=v
 ·subst e;rw[if_pos rfl] at hlt ⊢;have:=hf h hh (by unfold a6b at hlt;split at hlt <;> omega)
  rw[H0,if_pos ⟨rfl,h0⟩] at this;unfold a6b at hlt ⊢;split at hlt;·omega
  ·rename_i q;rw[if_neg q,if_neg (by omega)]
   omega
 ·rw[if_neg e] at hlt ⊢;have:=hf h hh hlt;rw[H0,if_neg (λq=>e q.1.symm)] at this;exact this
theorem a1F.mv{x x':Hp}{L L':List Int}(hf:a1F x L)(hl:lv x'.S=lv x.S)(hs:∀h∈lv x.S,(ob x'.S h).Strong=(ob x.S h).Strong)(hn:∀h∈lv x.S,nms x' h+tms L' h=nms x h+tms L h):a1F x' L':=by
 intro h hh hlt;rw[hl] at hh;rw[hs h hh] at hlt ⊢;rw[hf h hh hlt,hn h hh]
end Go.Sh
namespace Go.Sh
theorem b4E:∀ {l:List Int} {r:Nat} (hr:r<l.length) (h k:Int),tms (l.set r h) k+tms [l.getD r 0] k=tms l k+tms [h] k
 | [],_,hr,_,_=>by simp at hr
 | a::l,0,_,h,k=>by
  rw[List.set_cons_zero,List.getD_cons_zero,H0 h l,H0 a l,H0 a [],H0 h [],Q2];omega
 | a::l,r+1,hr,h,k=>by
  rw[List.set_cons_succ,List.getD_cons_succ,H0 a,H0 a l];have:=b4E (l:=l) (r:=r) (by simpa using hr) h k
  omega
theorem b0Z{x x1:Hp}(hx:N9 x){old new:Int}(h1:HpS (C8 x new)→Wk (C8 x new)→HpS x1∧Wk x1)
  (hl:lv x1.S=lv (C8 x new).S)(hs:∀h∈lv x.S,(ob x1.S h).Strong=(ob (C8 x new).S h).Strong)(hn:∀h∈lv x.S,nms x1 h+tms [old] h=nms x h+tms [new] h):N9 (Q5 x1 old):=by
 have l1:lv (C8 x new).S=lv x.S:=(G6 hx.sh.sr new λc=>E0).lv;have f1:a1F (C8 x new) [new]:=c1p hx.sh.sr hx.fair new;obtain⟨h2,w2⟩:=h1 (hx.sh.st new λc=>E0) (hx.wk.st hx.sh.sr new λc=>E0);have f2:a1F x1 [old]:=f1.mv hl (λh hh=>hs h (l1▸hh)) λh hh=>by
  rw[hn h (l1▸hh)];unfold C8;rw[b4C hx.sh.sr new λc=>E0]
 exact⟨h2.st _ λc=>O5,w2.st h2.sr _ λc=>O5,b2m h2.sr f2⟩
noncomputable def G5(x:Hp)(r:Nat)(h:Int):Hp:=Q5 (wR (C8 x h) (x.Roots.set r h)) (x.Roots.getD r 0)
theorem a0A{x:Hp}(hx:N9 x){r:Nat}(hr:r<6){h:Int}(hh:h=0∨h∈lv x.S):N9 (G5 x r h):=by
 have l1:lv (C8 x h).S=lv x.S:=(G6 hx.sh.sr h λc=>E0).lv;refine b0Z hx (λa b=>⟨a.roots (by rw[List.length_set];exact hx.sh.r6) (λv hv=>?_),b⟩) rfl (λ_ _=>rfl) (λk hk=>?_)
 ·rw[l1];rcases List.mem_or_eq_of_mem_set hv with q | q
  ·exact hx.sh.rt v q
  ·exact q▸hh
 ·have hi:=(G6 hx.sh.sr h λc=>E0).inn hx.sh.sr k;rw[b3e];unfold nms otr;dsimp only;rw[show inn (C8 x h).S k=inn x.S k from hi,K7,K7,b3n,b3n];have:=b4E (l:=x.Roots) (r:=r) (by rw[hx.sh.r6];exact hr) h k
  omega
theorem c4T{α:Type}:∀ {l:List α} (hn:l.Nodup) {a:α} (ha:a∈l) (f g:α→Nat) (h:∀x∈l,x≠a→f x=g x),(l.map g).sum+f a=(l.map f).sum+g a
 | [],_,_,ha,_,_,_=>by cases ha
 | b::l,hn,a,ha,f,g,h=>by
  rw[List.nodup_cons] at hn;rw[List.map_cons,List.map_cons,List.sum_cons,List.sum_cons];rcases List.mem_cons.1 ha with e | e
  ·subst e;have:l.map g=l.map f:=List.map_congr_left λx hx=>(h x (List.mem_cons_of_mem _ hx) λe=>hn.1 (e▸hx)).symm;rw[this];omega
  ·have:=c4T hn.2 e f g λx hx=>h x (List.mem_cons_of_mem _ hx);have:=h b (List.mem_cons_self ..) λq=>hn.1 (q▸e);omega
abbrev flg(o:m9)(l:List Int):m9:=⟨o.Serial,o.Strong,o.Weak,o.Prog,o.Started,l⟩
theorem c38{s:a7}(hR:SR s){h:Int}(hh:h∈lv s){o:m9}(hs:o.Serial=(ob s h).Serial)(ho:OkO s o)(y:Int):inn (seO s h o) y+tms (ob s h).Fields y=inn s y+tms o.Fields y:=by
 have hle:=I0 hR hh;have:=c4T (b1H (w9.2 hR)) hh (λx=>tms (outs s x) y) (λx=>tms (outs (seO s h o) x) y) λx hx hne=>by
  have:=I0 hR hx;unfold outs;rw[a2W hR hh hs ho (by omega),if_neg hne]
 have e:tms (outs (seO s h o) h) y=tms o.Fields y:=by
  unfold outs;rw[a2W hR hh hs ho (by omega),if_pos rfl,b3n]
 have e2:tms (outs s h) y=tms (ob s h).Fields y:=b3n _ _;rw[e,e2] at this;unfold inn;rw[a3Q hR hh hs ho];exact this
noncomputable def a1u(x:Hp)(h:Int)(k:Nat)(v:Int):Hp:=Q5 (wS (C8 x v) (seO (C8 x v).S h (flg (ob (C8 x v).S h) ((ob x.S h).Fields.set k v)))) ((ob x.S h).Fields.getD k 0)
theorem b8j{x:Hp}(hx:N9 x){h:Int}(hh:h∈lv x.S){k:Nat}(hk:k<(ob x.S h).Fields.length){v:Int}(hv:v=0∨v∈lv x.S):N9 (a1u x h k v):=by
 have kin:=G6 hx.sh.sr v (f:=V1) λc=>E0;have l1:lv (C8 x v).S=lv x.S:=kin.lv;have hR1:SR (C8 x v).S:=kin.sr;have hh1:h∈lv (C8 x v).S:=by rw[l1];exact hh
 have hle:=I0 hx.sh.sr hh;have hof:(ob (C8 x v).S h).Fields=(ob x.S h).Fields:=by
  obtain⟨n,e⟩:=kin.ob h (by omega)
  show (ob (stO x v V1).S h).Fields=_;rw[e]
 have ho:OkO (C8 x v).S (flg (ob (C8 x v).S h) ((ob x.S h).Fields.set k v)):=by
  have:=K3 hR1 hh1;refine⟨this.s1,this.s2,this.st,this.wk,this.p1,this.p2,?_⟩;have h4:=this.fl;rw[hof] at h4;simpa using h4
 have hob:∀j,j∈lv x.S→ob (seO (C8 x v).S h (flg (ob (C8 x v).S h) ((ob x.S h).Fields.set k v))) j=if j=h then flg (ob (C8 x v).S h) ((ob x.S h).Fields.set k v) else ob (C8 x v).S j:=λj hj=>by
  have:=I0 hx.sh.sr hj;exact a2W (o:=flg (ob (C8 x v).S h) ((ob x.S h).Fields.set k v)) hR1 hh1 rfl ho (by omega)
 refine b0Z hx (λa b=>⟨?_,?_⟩) (a3Q (o:=flg (ob (C8 x v).S h) ((ob x.S h).Fields.set k v)) hR1 hh1 rfl ho) (λj hj=>?_) (λj hj=>?_)
 ·refine a.of (a08 (o:=flg (ob (C8 x v).S h) ((ob x.S h).Fields.set k v)) hR1 hh1 rfl ho) (a3Q (o:=flg (ob (C8 x v).S h) ((ob x.S h).Fields.set k v)) hR1 hh1 rfl ho) (λj i q=>(c3a (o:=flg (ob (C8 x v).S h) ((ob x.S h).Fields.set k v)) hR1 hh1 rfl ho).2 q) (λj hj q=>?_) (λj hj u hu=>?_)
  ·rw[hob j (l1▸hj)];split;·rename_i e;subst e;exact q
   ·exact q
  ·rw[hob j (l1▸hj)] at hu;split at hu
   ·rename_i e;subst e;rcases List.mem_or_eq_of_mem_set hu with q | q
    ·exact a.fl j hj u (by rw[hof];exact q)
    ·rw[l1,q];exact hv
   ·exact a.fl j hj u hu
 ·intro i hi ht;dsimp only at hi ht ⊢;have hp:=A8 hR1 hh1;unfold seO at hi;rw[M8] at hi;have hce:=b9l (o:=flg (ob (C8 x v).S h) ((ob x.S h).Fields.set k v)) hR1 hh1 rfl ho i;rw[hce] at ht ⊢;split at ht
  ·rename_i e;subst e;rw[if_pos rfl];have:=b _ hp.1 (.inl hp.2.1);dsimp only;refine⟨?_,λq=>absurd q (by rw[hp.2.1];decide)⟩
   rw[←this.1,P2 hR1 hp]
  ·rename_i e;rw[if_neg e];exact b i hi ht
 ·rw[hob j hj];split;·rename_i e;subst e;rfl
  ·rfl
 ·have hi:=c38 (o:=flg (ob (C8 x v).S h) ((ob x.S h).Fields.set k v)) hR1 hh1 rfl ho j;have hi2:=kin.inn hx.sh.sr j;have hi2:inn (C8 x v).S j=inn x.S j:=hi2;rw[hi2,hof] at hi;dsimp only at hi;have:=b4E hk v j;have hrest:C8 x v=wS x (C8 x v).S:=b3e x v;unfold nms otr;dsimp only;rw[show (C8 x v).T=x.T by rw[hrest],show (C8 x v).Roots=x.Roots by rw[hrest],show (C8 x v).Q=x.Q by rw[hrest]]
  omega
theorem c8g{t:Tb}(hT:HR t){k v:Int}{r:Tb × Int × Int}(h:U7 t k v=some r)(h0:r.2.2=0):HR r.1∧(∀y,own r.1 y+tms [r.2.1] y=own t y+tms [v] y)∧∀k' v',Has r.1 k' v'→Has t k' v'∨(k'=k∧v'=v∧v≠0):=by
 obtain⟨r',e1,e2,_,e3⟩:=c3b hT k v;rw[h] at e1;cases e1;refine⟨e2,?_⟩;have hos:∀(i:Nat) (p:c5) (y:Int),i<t.length→own (t.set i p) y+(if (pt t i).State=1∧(pt t i).Val=y∧y≠0 then 1 else 0)=own t y+if p.State=1∧p.Val=y∧y≠0 then 1 else 0:=λi p y hi=>by
  have key:∀q:c5,(if ((q.State==1)&&((y != 0)&&(q.Val==y)))=true then 1 else 0:Nat)=if q.State=1∧q.Val=y∧y≠0 then 1 else 0:=λq=>by
   by_cases c:q.State=1∧q.Val=y∧y≠0
   ·rw[if_pos c,if_pos (by simp[c.1,c.2.1,c.2.2])]
   ·rw[if_neg c,if_neg (by simp only[Bool.and_eq_true,beq_iff_eq,bne_iff_ne,ne_eq];exact λq=>c ⟨q.1,q.2.2,q.2.1⟩)]
  have:=c4t hi p y;rw[key,key] at this;exact this
 rcases e3 with ⟨_,rfl⟩ | ⟨hk,hv,⟨i,hi,rfl⟩ | ⟨hn,rfl⟩⟩ | ⟨hk,hv,⟨i,hi,rfl⟩ | ⟨d,hn,hd,hf,hp,rfl⟩ | ⟨hn,ha,rfl⟩⟩;·simp at h0
 ·refine⟨λy=>?_,λk' v' q=>.inl ((b44 hT hi k' v').1 q).2⟩;have:=hos i ⟨2,0,0⟩ y hi.1;rw[H0,H0,Q2];subst hv;dsimp only at this ⊢;rw[if_neg (show ¬((2:Int)=1∧(0:Int)=y∧y≠0) by omega)] at this
  rw[if_neg (show ¬((0:Int)=y∧y≠0) by omega)]
  simp only[hi.2.1,true_and] at this;omega
 ·refine⟨λy=>?_,λk' v' q=>.inl q⟩;rw[hv]
 ·refine⟨λy=>?_,λk' v' q=>?_⟩
  ·have:=hos i ⟨1,k,v⟩ y hi.1;rw[H0,H0,Q2];simp only[hi.2.1,true_and] at this;dsimp only;omega
  ·rcases (b8P hT (.old i hi) rfl k' v').1 q with ⟨a,b⟩ | ⟨_,b⟩;·exact .inr ⟨a,b,hv⟩
   ·exact .inl b
 ·refine⟨λy=>?_,λk' v' q=>?_⟩
  ·have:=hos d ⟨1,k,v⟩ y hd;rw[H0,H0,Q2];dsimp only;rw[if_neg (show ¬((0:Int)=y∧y≠0) by omega)]
   simp only[hf,false_and,true_and,if_false] at this;omega
  ·rcases (b8P hT hp rfl k' v').1 q with ⟨a,b⟩ | ⟨_,b⟩;·exact .inr ⟨a,b,hv⟩
   ·exact .inl b
 ·simp at h0
noncomputable def a6m(x:Hp)(v:Int)(t:Tb)(old:Int):Hp:=Q5 (wT (C8 x v) t) old
theorem c0K{x:Hp}(hx:N9 x){k v:Int}(hk:k∈lv x.S)(hv:v=0∨v∈lv x.S){r:Tb × Int × Int}(h:U7 x.T k v=some r)(h0:r.2.2=0):N9 (a6m x v r.1 r.2.1):=by
 have kin:=G6 hx.sh.sr v (f:=V1) λc=>E0;have l1:lv (C8 x v).S=lv x.S:=kin.lv;obtain⟨p1,p2,p3⟩:=c8g hx.sh.hr h h0;refine b0Z hx (λa b=>⟨a.table p1 λk' v' q=>?_,b⟩) rfl (λ_ _=>rfl) (λj hj=>?_)
 ·rw[l1];rcases p3 k' v' q with q | ⟨rfl,rfl,hne⟩
  ·exact hx.sh.pr k' v' q
  ·exact⟨hk,hv.resolve_left hne⟩
 ·have hi2:inn (C8 x v).S j=inn x.S j:=kin.inn hx.sh.sr j;have hrest:C8 x v=wS x (C8 x v).S:=b3e x v;unfold nms otr;dsimp only;rw[show (C8 x v).Roots=x.Roots by rw[hrest],show (C8 x v).Q=x.Q by rw[hrest],hi2]
  have:=p2 j;omega
end Go.Sh
namespace Go.Sh
instance(s:a7)(h:Int)(i:Nat):Decidable (Y1 s h i):=by unfold Y1;infer_instance
abbrev wkg(o:m9)(n:Int):m9:=⟨o.Serial,o.Strong,n,o.Prog,o.Started,o.Fields⟩
def mkA(s:a7)(i:Nat)(d:Int):a7:=a2g s i (wkg (ce s i).Val ((ce s i).Val.Weak+d))
def gvA(s:a7)(i:Nat):a7:=H7 s i (if (ce s i).Gen=s.S.Last then ⟨3,(ce s i).Gen,z0⟩ else ⟨0,(ce s i).Gen+1,z0⟩)
def hdl(s:a7)(i:Nat):Int:=1+(i:Int)+32*(ce s i).Gen
theorem c3R{s:a7}{i:Nat}(hi:i<s.S.a8.length)(ht:Th (ce s i)):Y1 s (hdl s i) i:=⟨hi,ht,rfl⟩
theorem b4n{s:a7}(hR:SR s){i:Nat}(hi:i<s.S.a8.length):1≤hdl s i:=by
 have:=hR.cell i hi;unfold hdl;omega
section
variable{s:a7}(hR:SR s){i:Nat}(hi:i<s.S.a8.length)(ht:Th (ce s i))
include hR hi ht
theorem b5t{d:Int}(hd:0≤(ce s i).Val.Weak+d):SR (mkA s i d):=by
 have:=hR.ok i hi ht;exact hR.put hi ht rfl ⟨this.s1,this.s2,this.st,hd,this.p1,this.p2,this.fl⟩
theorem a3L(d:Int)(j:Nat):ce (mkA s i d) j=if j=i then ⟨(ce s i).State,(ce s i).Gen,wkg (ce s i).Val ((ce s i).Val.Weak+d)⟩ else ce s j:=a64 hi _ j
theorem a7k{d:Int}(hd:0≤(ce s i).Val.Weak+d):Kn s (mkA s i d):=by
 have hS:=b5t hR hi ht hd;refine⟨hS,M8 ..,c7I hR hi rfl hS,λk j=>b4j hi _,λk hk=>?_⟩;have q:=A8 hR hk;rw[P2 hS ((b4X hi _).2 q),P2 hR q,a3L hR hi ht];split
 ·rename_i e;rw[e];exact⟨_,_,rfl⟩
 ·exact⟨_,_,rfl⟩
theorem a7l{d:Int}(hd:0≤(ce s i).Val.Weak+d){k:Int}(hk:k∈lv s):(ob (mkA s i d) k).Strong=(ob s k).Strong:=by
 have hS:=b5t hR hi ht hd;have q:=A8 hR hk;rw[P2 hS ((b4X hi _).2 q),P2 hR q,a3L hR hi ht];split
 ·rename_i e;rw[e]
 ·rfl
omit ht in
theorem b8t:SR (gvA s i):=by
 have hc:=hR.cell i hi;have no:c1W (oo z0):=⟨rfl,rfl,rfl,rfl,rfl,rfl⟩;unfold gvA;split;·exact hR.H7 hi ⟨by simp,by simp,hc.2.2.1,hc.2.2.2⟩ (λ_=>no) (λq=>absurd q (by unfold Th;simp))
 ·refine hR.H7 hi ⟨by simp,by simp,?_,?_⟩ (λ_=>no) (λq=>absurd q (by unfold Th;simp))
  ·show 0≤(ce s i).Gen+1;omega
  ·show (ce s i).Gen+1≤s.S.Last;omega
omit hR ht in
theorem b8q:∃c,(c.State=0∨c.State=3)∧gvA s i=H7 s i c∧∀j,ce (gvA s i) j=if j=i then c else ce s j:=by
 unfold gvA;split;·exact⟨_,.inr rfl,rfl,λj=>L0 hi _ j⟩
 ·exact⟨_,.inl rfl,rfl,λj=>L0 hi _ j⟩
omit ht in
theorem b8r (h2:(ce s i).State=2):lv (gvA s i)=lv s:=by
 obtain⟨c,c1,c2,_⟩:=b8q (s:=s) hi;have hS:=b8t hR hi;rw[c2] at hS ⊢;rw[c4g hR hi (by omega) hS,List.filter_eq_self]
 intro h hh;rw[decide_eq_true_iff];intro e;have:=(A8 hR hh).2.1;rw[e] at this;omega
omit ht in
theorem b8s (h2:(ce s i).State=2) {k:Int} (hk:k∈lv s):ob (gvA s i) k=ob s k:=by
 obtain⟨c,c1,c2,_⟩:=b8q (s:=s) hi;have hS:=b8t hR hi;rw[c2] at hS ⊢;refine c4m hR hi hS hk λe=>?_;have:=(A8 hR hk).2.1;rw[e] at this;omega
omit ht in
theorem d3j {k:Int} {j:Nat}:Y1 (gvA s i) k j↔Y1 s k j∧j≠i:=by
 obtain⟨c,c1,c2,c3⟩:=b8q (s:=s) hi;by_cases e:j=i
 ·subst e;constructor
  ·rintro⟨_,h,_⟩;rw[c3,if_pos rfl] at h;unfold Th at h;omega
  ·rintro⟨_,h⟩;exact absurd rfl h
 ·rw[c2,c6I hi c e];simp[e]
theorem d0d(h2:(ce s i).State=2)(y:Int):inn (gvA s i) y=inn s y:=by
 unfold inn;rw[b8r hR hi h2];congr 1;refine List.map_congr_left λx hx=>?_;unfold outs;rw[b8s hR hi h2 hx]
end
def mkd(x:Hp)(h:Int)(d:Int):Hp:=if Y1 x.S h (D6 h) then wS x (mkA x.S (D6 h) d) else x
def a9f(x:Hp)(h:Int):Hp:=
 if Y1 x.S h (D6 h) then
  (if (ce x.S (D6 h)).State=2∧(ce x.S (D6 h)).Val.Weak=1 then wS x (gvA (mkA x.S (D6 h) (-1)) (D6 h)) else wS x (mkA x.S (D6 h) (-1)))
 else x
abbrev wcl(h call:Int):g6:=⟨h,h != 0,call⟩
def tgt(x:Hp)(w:Nat):Int:=(x.a8.getD w ⟨0,false,0⟩).Target
def a2C(x:Hp)(w:Nat)(h call:Int):Hp:=a9f (mkd (wC x (x.a8.set w (wcl h call))) h 1) (tgt x w)
theorem d0x{l:List g6}{w:Nat}(hw:w<l.length)(c:g6){k:Int}(hk:k≠0):nmg (l.set w c) k+(if l[w].Target=k then 1 else 0)=nmg l k+if c.Target=k then 1 else 0:=by
 unfold nmg;rw[List.countP_set hw];have e:∀d:g6,(((k != 0)&&(d.Target==k))=true)=(d.Target=k):=λd=>by simp[hk]
 simp only[e];have:(if l[w].Target=k then 1 else 0)≤l.countP λc=>(k != 0)&&(c.Target==k):=by
  split
  ·rename_i q;exact List.countP_pos_iff.2 ⟨l[w],List.getElem_mem hw,by simp[q,hk]⟩
  ·exact Nat.zero_le _
 omega
theorem b1M{l:List g6}{i:Nat}(hi:i<l.length)(h0:l[i].Target≠0):0<nmg l l[i].Target:=List.countP_pos_iff.2 ⟨l[i],List.getElem_mem hi,by simp[h0]⟩
theorem c1K{x:Hp}(hx:N9 x){w:Nat}(hw:w<6){h call:Int}(hh:h=0∨h∈lv x.S)(hc : -1≤call∧call≤5)(hq:wts x.Q w=false):N9 (a2C x w h call):=by
 have hR:=hx.sh.sr;have hwl:w<x.a8.length:=by rw[hx.sh.c6];exact hw
 have htg:tgt x w=x.a8[w].Target:=by
  unfold tgt;rw[List.getD_eq_getElem?_getD,List.getElem?_eq_getElem hwl];rfl
 have s1:HpS (wC x (x.a8.set w (wcl h call))):=by
  have:=hx.sh;refine⟨this.sr,this.hr,this.r6,by simpa using this.c6,this.cap,this.q30,this.tk,this.td,this.rt,this.fl,this.pr,λi hi=>?_⟩
  dsimp only at hi ⊢;rw[List.getElem_set];rw[List.length_set] at hi;split
  ·rename_i e;subst e;dsimp only;refine⟨hc.1,hc.2,λq=>by simp[q],λq=>?_,λq=>?_⟩
   ·exact⟨_,(A8 hR (hh.resolve_left q)).d⟩
   ·have q:h≠0:=by simpa using q
    exact⟨hh.resolve_left q,hq⟩
  ·exact this.cl i hi
 have k2:∃s2,mkd (wC x (x.a8.set w (wcl h call))) h 1=wS (wC x (x.a8.set w (wcl h call))) s2∧Kn x.S s2∧(∀k∈lv x.S,(ob s2 k).Strong=(ob x.S k).Strong) ∧
   ∀i,i<x.S.S.a8.length→(ce s2 i).State=(ce x.S i).State∧(ce s2 i).Gen=(ce x.S i).Gen∧(ce s2 i).Val.Fields=(ce x.S i).Val.Fields∧(ce s2 i).Val.Strong=(ce x.S i).Val.Strong∧(Th (ce x.S i)→(ce s2 i).Val.Weak=(ce x.S i).Val.Weak+if h=hdl x.S i then 1 else 0):=by
  unfold mkd;rcases hh with h0 | hh
  ·have hno:¬Y1 x.S h (D6 h):=λq=>by have:=q.rng hR;omega
   rw[if_neg hno];refine⟨x.S,rfl,(Kin.refl hR).kn hR,λ_ _=>rfl,λi hi=>⟨rfl,rfl,rfl,rfl,λht=>?_⟩⟩;have:=b4n hR hi;rw[if_neg (by omega)]
   omega
  ·have hp:=A8 hR hh;have hwk:=(hR.ok _ hp.1 (.inl hp.2.1)).wk;rw[if_pos hp.d];refine⟨_,rfl,a7k hR hp.1 (.inl hp.2.1) (by omega),λk hk=>a7l hR hp.1 (.inl hp.2.1) (by omega) hk,λi hi=>?_⟩
   rw[a3L hR hp.1 (.inl hp.2.1)];split
   ·rename_i e;subst e;refine⟨rfl,rfl,rfl,rfl,λ_=>?_⟩;rw[if_pos (show h=hdl x.S (D6 h) from hp.2.2)]
   ·rename_i e;refine⟨rfl,rfl,rfl,rfl,λht=>?_⟩;rw[if_neg];·omega
    ·intro q;exact e (Y1.one hR (q▸c3R hi ht) hp.d)
 obtain⟨s2,e2,kn2,st2,ce2⟩:=k2;have hR2:=kn2.sr;have len2:=kn2.len;have hS2:HpS (wS (wC x (x.a8.set w (wcl h call))) s2):=s1.kn kn2;have hdl2:∀i,i<x.S.S.a8.length→hdl s2 i=hdl x.S i:=λi hi=>by unfold hdl;rw[(ce2 i hi).2.1]
 have th2:∀i,i<x.S.S.a8.length→(Th (ce s2 i)↔Th (ce x.S i)):=λi hi=>by unfold Th;rw[(ce2 i hi).1]
 have wk2:∀i,i<x.S.S.a8.length→Th (ce x.S i)→(ce s2 i).Val.Weak=(nmg (x.a8.set w (wcl h call)) (hdl x.S i):Int)+if tgt x w=hdl x.S i then 1 else 0:=λi hi ht=>by
  have h0:hdl x.S i≠0:=by have:=b4n hR hi;omega
  have:=d0x hwl (wcl h call) h0;rw[(ce2 i hi).2.2.2.2 ht,(hx.wk i hi ht).1,htg];dsimp only at this;unfold hdl at this ⊢;by_cases a:h=1+(i:Int)+32*(ce x.S i).Gen <;> by_cases b:x.a8[w].Target=1+(i:Int)+32*(ce x.S i).Gen
  ·rw[if_pos a,if_pos b] at *;omega
  ·rw[if_pos a,if_neg b] at *;omega
  ·rw[if_neg a,if_pos b] at *;omega
  ·rw[if_neg a,if_neg b] at *;omega
 have dd2:∀i,i<x.S.S.a8.length→(ce s2 i).State=2→(ce s2 i).Val.Fields = []∧(ce s2 i).Val.Strong=0:=λi hi q=>by
  obtain⟨a,_,b,c,_⟩:=ce2 i hi;rw[a] at q;rw[b,c];exact ((hx.wk i hi (.inr q)).2 q).2
 have nms2:∀k,nms (wS (wC x (x.a8.set w (wcl h call))) s2) k=nms x k:=λk=>by
  unfold nms otr;dsimp only;rw[kn2.inn]
 have fair2:a1F (wS (wC x (x.a8.set w (wcl h call))) s2) []:=hx.fair.mv kn2.lv st2 λk _=>by rw[nms2]
 unfold a2C;rw[e2];unfold a9f;dsimp only;by_cases hold:tgt x w=0
 ·have hno:¬Y1 s2 (tgt x w) (D6 (tgt x w)):=λq=>by have:=q.rng hR2;omega
  rw[if_neg hno];refine⟨hS2,λi hi ht=>?_,fair2⟩;dsimp only at hi ht ⊢;rw[len2] at hi;have ht':=(th2 i hi).1 ht;have h0:=b4n hR hi;have hw2:=wk2 i hi ht';rw[if_neg (by omega)] at hw2
  rw[show (1+(i:Int)+32*(ce s2 i).Gen)=hdl x.S i from hdl2 i hi];refine⟨by omega,λq=>⟨?_,dd2 i hi q⟩⟩
  have q':(ce x.S i).State=2:=by rw[←(ce2 i hi).1];exact q
  have:=((hx.wk i hi ht').2 q').1;rw[(ce2 i hi).2.2.2.2 ht'];split <;> omega
 ·obtain⟨p,hp⟩:∃p,Y1 x.S (tgt x w) p:=by
   rw[htg] at hold ⊢;exact (hx.sh.cl w hwl).2.2.2.1 hold
  have hpp:=hp.D6 hR;have hp2:Y1 s2 (tgt x w) p:=(kn2.ad _ _).2 hp;have hth:tgt x w=hdl x.S p:=hp.2.2;rw[hpp,if_pos hp2];have hpl2:=hp2.1;have hw2:=wk2 p hp.1 hp.2.1;rw[if_pos hth] at hw2;have hd:0≤(ce s2 p).Val.Weak+(-1):=by omega
  have kn3:=a7k hR2 hpl2 hp2.2.1 hd;have hR3:=kn3.sr;have ce3:=a3L hR2 hpl2 hp2.2.1 (-1);have hS3:HpS (wS (wC x (x.a8.set w (wcl h call))) (mkA s2 p (-1))):=hS2.kn kn3;have fair3:a1F (wS (wC x (x.a8.set w (wcl h call))) (mkA s2 p (-1))) []:=fair2.mv kn3.lv (λk hk=>a7l hR2 hpl2 hp2.2.1 hd hk) λk _=>by
   unfold nms otr;dsimp only;rw[kn3.inn]
  have wk3:∀i,i<x.S.S.a8.length→Th (ce x.S i)→(ce (mkA s2 p (-1)) i).Val.Weak=(nmg (x.a8.set w (wcl h call)) (hdl x.S i):Int):=λi hi ht=>by
   rw[ce3];by_cases e:i=p
   ·subst e;rw[if_pos rfl];dsimp only;omega
   ·rw[if_neg e,wk2 i hi ht,if_neg];·omega
    ·intro q;exact e (Y1.one hR (q▸c3R hi ht) hp)
  have cs3:∀i,(ce (mkA s2 p (-1)) i).State=(ce s2 i).State∧(ce (mkA s2 p (-1)) i).Gen=(ce s2 i).Gen∧(ce (mkA s2 p (-1)) i).Val.Fields=(ce s2 i).Val.Fields∧(ce (mkA s2 p (-1)) i).Val.Strong=(ce s2 i).Val.Strong:=λi=>by
   rw[ce3];split
   ·rename_i e;subst e;exact⟨rfl,rfl,rfl,rfl⟩
   ·exact⟨rfl,rfl,rfl,rfl⟩
  by_cases hg:(ce s2 p).State=2∧(ce s2 p).Val.Weak=1
  ·-- the slot is given back
   rw[if_pos hg];have hpl3:p<(mkA s2 p (-1)).S.a8.length:=by rw[kn3.len];exact hpl2
   have h23:(ce (mkA s2 p (-1)) p).State=2:=by rw[(cs3 p).1];exact hg.1
   have hn0:nmg (x.a8.set w (wcl h call)) (tgt x w)=0:=by rw[hth];omega
   have hlv:=b8r hR3 hpl3 h23;have hob:=λk hk=>b8s (k:=k) hR3 hpl3 h23 hk;obtain⟨c,c1,c2,c3⟩:=b8q (s:=mkA s2 p (-1)) hpl3;refine⟨⟨b8t hR3 hpl3,hS3.hr,hS3.r6,hS3.c6,hS3.cap,hS3.q30,λt htt=>?_,hS3.td,λv hv=>?_,λv hv u hu=>?_,λk v hkv=>?_,λi hi=>?_⟩,λi hi ht=>?_,?_⟩
   ·obtain⟨a,b,d⟩:=hS3.tk t htt;refine⟨a,b,?_⟩;dsimp only at d ⊢;rw[hlv];rcases d with ⟨d1,d2,d3⟩ | d;·exact .inl ⟨d1,d2,by rw[hob _ d2];exact d3⟩
    ·exact .inr d
   ·dsimp only;rw[hlv];exact hS3.rt v hv
   ·dsimp only at hv hu ⊢;rw[hlv] at hv ⊢;rw[hob _ hv] at hu;exact hS3.fl v hv u hu
   ·dsimp only;rw[hlv];exact hS3.pr k v hkv
   ·obtain⟨a1,a2,a3,a4,a5⟩:=hS3.cl i hi;refine⟨a1,a2,a3,λq=>?_,λq=>?_⟩
    ·obtain⟨j,hj⟩:=a4 q;refine⟨j,(d3j hR3 hpl3).2 ⟨hj,λe=>?_⟩⟩;subst e;have e1:=(kn2.ad _ _).1 ((kn3.ad _ _).1 hj);have e2:(x.a8.set w (wcl h call))[i].Target=tgt x w:=e1.2.2.trans hp.2.2.symm;have:=b1M hi q;dsimp only at this;rw[e2] at this;omega
    ·dsimp only;rw[hlv];exact a5 q
   ·dsimp only at hi ht ⊢;rw[show (gvA (mkA s2 p (-1)) p).S.a8.length=x.S.S.a8.length by rw[c2,Y0,kn3.len,len2]] at hi
    rw[c3] at ht ⊢;split at ht;·unfold Th at ht;omega
    ·rename_i e;rw[if_neg e];have ht':Th (ce x.S i):=(th2 i hi).1 (by unfold Th at ht ⊢;rw[(cs3 i).1] at ht;exact ht)
     have:=wk3 i hi ht';rw[show (1+(i:Int)+32*(ce (mkA s2 p (-1)) i).Gen)=hdl x.S i by rw[(cs3 i).2.1];exact hdl2 i hi]
     refine⟨this,λq=>?_⟩;rw[(cs3 i).1] at q;rw[(cs3 i).2.2.1,(cs3 i).2.2.2,ce3,if_neg e];refine⟨?_,dd2 i hi q⟩;have q':(ce x.S i).State=2:=by rw[←(ce2 i hi).1];exact q
     have:=((hx.wk i hi ht').2 q').1;rw[(ce2 i hi).2.2.2.2 ht'];split <;> omega
   ·refine fair3.mv hlv (λk hk=>by rw[hob k hk]) λk _=>?_
    unfold nms otr;dsimp only;rw[d0d hR3 hpl3 (.inr h23) h23]
  ·rw[if_neg hg];refine⟨hS3,λi hi ht=>?_,fair3⟩;dsimp only at hi ht ⊢;rw[kn3.len,len2] at hi;have ht':Th (ce x.S i):=(th2 i hi).1 (by unfold Th at ht ⊢;rw[(cs3 i).1] at ht;exact ht)
   have:=wk3 i hi ht';rw[show (1+(i:Int)+32*(ce (mkA s2 p (-1)) i).Gen)=hdl x.S i by rw[(cs3 i).2.1];exact hdl2 i hi]
   refine⟨this,λq=>?_⟩;rw[(cs3 i).1] at q;rw[(cs3 i).2.2.1,(cs3 i).2.2.2];refine⟨?_,dd2 i hi q⟩;rw[ce3];split
   ·rename_i e;subst e;dsimp only;have:(ce s2 i).Val.Weak≠1:=λq2=>hg ⟨q,q2⟩;omega
   ·have q':(ce x.S i).State=2:=by rw[←(ce2 i hi).1];exact q
    have:=((hx.wk i hi ht').2 q').1;rw[(ce2 i hi).2.2.2.2 ht'];split <;> omega
end Go.Sh
namespace Go.Sh
def wcR(c:g6):m8:=⟨c.Target,c.Intact,c.Call⟩
def hO(x:Hp):c7:=⟨sO x.S,x.Roots,x.a8.map wcR,x.T.map M0,tqR x.Q⟩
structure HB (x:Hp):Prop where
 sb:SB x.S
 fb:FB x.S
 rb:LB x.Roots
 cb:∀c∈x.a8,c.Target≤9223372036854775807
 tb:TB x.T
 qb:∀t∈x.Q.L,t.At≤9223372036854775807
theorem c7G{β:Type}{b:Nat}{f:Int × List β→Option ((Int × List β) ⊕ List β)}(n:Nat)(g:Nat→β)(hb:0<b)(h:n*b≤140737488355328)
  (hs:∀(k:Nat) acc,k<n→f ((k:Int),acc)=(app b acc [g k]).bind λv=>some (.inl (x8 ((k:Int)+1),v)))(he:∀acc,f ((n:Int),acc)=some (.inr acc)):lp f (0,[])=some ((List.range n).map g):=by
 have hl:n*1≤n*b:=Nat.mul_le_mul_left _ hb;refine a4f (a2N n (λk l=>l=(List.range k).map g) (λe=>e=(List.range n).map g) (by omega) (by simp) ?_ ?_)
 ·rintro k l hk rfl;have h3:(k+1)*b≤n*b:=Nat.mul_le_mul_right _ hk;refine .inl ⟨(List.range (k+1)).map g,?_,rfl⟩;rw[hs k _ hk,A7 hb (by simp;omega),d7R,l7,List.range_succ,List.map_append]
  rfl
 ·rintro l rfl;exact⟨_,he _,rfl⟩
theorem d5w{R:Type}{f:Int→Option (Int ⊕ (Bool ⊕ Unit))}{κ:Bool ⊕ Unit→Option R}{Q:R→Prop}(n:Nat)(p:Nat→Prop)(hn:n<4611686018427387904)
  (hs:∀k:Nat,k<n→∃z,f (k:Int)=some z∧((p k∧z = .inl ((k+1:Nat):Int))∨(¬p k∧z = .inr (.inl false))))(he:f (n:Int)=some (.inr (.inr ())))
  (h1:(∀k,k<n→p k)→∃r,κ (.inr ())=some r∧Q r)(h0:(¬∀k,k<n→p k)→∃r,κ (.inl false)=some r∧Q r):∃r,(lp f 0).bind κ=some r∧Q r:=by
 obtain⟨e,e1,e2⟩:=b69 (f:=f) n (λk=>∀j,j<k→p j) (λe=>(e = .inr ()∧∀k,k<n→p k)∨(e = .inl false∧¬∀k,k<n→p k)) hn (λj hj=>by omega) (λk hk hP=>by
  obtain⟨z,z1,z2⟩:=hs k hk;rcases z2 with ⟨a,rfl⟩ | ⟨a,rfl⟩
  ·refine .inl ⟨z1,λj hj=>?_⟩;rcases Nat.lt_or_ge j k with q | q
   ·exact hP j q
   ·have:j=k:=by omega
    subst this;exact a
  ·exact .inr ⟨_,z1,.inr ⟨rfl,λq=>a (q k hk)⟩⟩) (λhP=>⟨_,he,.inl ⟨rfl,hP⟩⟩)
 rw[e1];rcases e2 with ⟨rfl,h⟩ | ⟨rfl,h⟩;·exact h1 h
 ·exact h0 h
theorem c8J{s:a7}(hR:SR s){h:Int}(hh:h∈lv s):seO s h (ob s h)=s:=by
 have q:=A8 hR hh;unfold seO a2g;rw[P2 hR q];have e:s.S.a8.set (D6 h) ⟨(ce s (D6 h)).State,(ce s (D6 h)).Gen,(ce s (D6 h)).Val⟩=s.S.a8:=by
  rw[show (⟨(ce s (D6 h)).State,(ce s (D6 h)).Gen,(ce s (D6 h)).Val⟩:b9)=ce s (D6 h) from rfl,E7 q.1];exact List.set_getElem_self q.1
 rw[e]
section
variable{x:Hp}(hR:SR x.S)
include hR
theorem c7C{h:Int}(hh:h≤9223372036854775807):a5q x h=some (decide (h∈lv x.S)):=by
 unfold a5q;obtain⟨e,h1,h2⟩:=T0 (w9.2 hR) hh;rw[h1,d7R];congr 1;rw[Bool.eq_iff_iff,beq_iff_eq,decide_eq_true_iff,h2]
theorem b4q{h:Int}(hh:h≤9223372036854775807):Y6 (hO x) h=some (decide (h∈lv x.S)):=by
 unfold Y6;obtain⟨e,h1,h2⟩:=T0 (w9.2 hR) hh;rw[show (hO x).S=sO x.S from rfl,a6d x.S (by have:=hR.len;omega) hh,h1,Option.map_some,d7R]
 congr 1;rw[Bool.eq_iff_iff,beq_iff_eq,decide_eq_true_iff,h2]
theorem a2O{h:Int}(hh:h≤9223372036854775807):L2 x h=some (decide (h=0∨h∈lv x.S)):=by
 unfold L2;by_cases q:h=0
 ·subst q;simp[u4]
 ·have e:(h==0)=false:=by simpa using q
  rw[e];simp only[beq_self_eq_true,a0s,Bool.false_or];rw[c7C hR hh,d7R];simp[q]
theorem b1J{h:Int}(hh:h≤9223372036854775807):Y7 (hO x) h=some (decide (h=0∨h∈lv x.S)):=by
 unfold Y7;by_cases q:h=0
 ·subst q;simp[u4]
 ·have e:(h==0)=false:=by simpa using q
  rw[e];simp only[beq_self_eq_true,a0s,Bool.false_or];rw[b4q hR hh,d7R];simp[q]
theorem d3u{c:Int}(hc:c≤9223372036854775807):a9s c=some (V1 c):=by
 unfold a9s a4y G4 V1;simp only[d7R];by_cases q:12≤c
 ·rw[if_pos (by simpa using q),if_pos q,d7R]
 ·rw[if_neg (by simpa using q),if_neg q,d7R]
  by_cases q2:c<0
  ·rw[if_pos (show 0 > c from q2),if_pos q2];rfl
  ·rw[if_neg (show ¬0 > c from q2),if_neg q2,F2 (by omega) (by omega)]
theorem c0r{c:Int}(hc:c≤9223372036854775807):b1T c=some (V1 c):=by
 unfold b1T a0R V1;simp only[d7R];by_cases q:12≤c
 ·rw[if_pos (by simpa using q),if_pos q]
 ·rw[if_neg (by simpa using q),if_neg q]
  by_cases q2:c<0
  ·rw[if_pos (by simpa using q2),if_pos q2]
  ·rw[if_neg (by simpa using q2),if_neg q2,F2 (by omega) (by omega)]
omit hR in
theorem c8n {s:a7} (hR:SR s) {h:Int} (hh:h∈lv s) {n:Int} (hn:0≤n):K6 s h (stg (ob s h) n)=some (seO s h (stg (ob s h) n),0):=by
 have:=K3 hR hh;exact b2q (o:=stg (ob s h) n) hR hh rfl ⟨this.s1,this.s2,hn,this.wk,this.p1,this.p2,this.fl⟩
omit hR in
theorem b2r {s:a7} (hR:SR s) {h:Int} (hh:h∈lv s) {o:m9} (hs:o.Serial=(ob s h).Serial) (ho:OkO s o):M9 (sO s) h (oo o)=some (sO (seO s h o),0):=by
 have:=I0 hR hh;rw[c8N s hR.len (by omega) o,b2q hR hh hs ho]
 rfl
theorem a6F{h:Int}(hh:h≤9223372036854775807)(hB:∀k∈lv x.S,(ob x.S k).Strong≤9223372036854775807):a0p x h=some (C8 x h):=by
 unfold a0p U9 C8 stO;obtain⟨e,h1,h2⟩:=T0 (w9.2 hR) hh;rw[h1,d7R];by_cases q:h∈lv x.S
 ·have e0:=h2.2 q;subst e0;rw[if_pos q,d3u hR (hB h q)];simp only[beq_self_eq_true,if_true,d7R];have:=c8n hR q (E0 (K3 hR q).st);rw[this];rfl
 ·have:(e==0)=false:=by simpa using λc=>q (h2.1 c)
  rw[this,if_neg q];rfl
theorem a83{h:Int}(hh:h≤9223372036854775807)(hB:∀k∈lv x.S,(ob x.S k).Strong≤9223372036854775807):a0x (hO x) h=some (hO (C8 x h)):=by
 unfold a0x a4N C8 stO;obtain⟨e,h1,h2⟩:=T0 (w9.2 hR) hh;have hg:F5 (hO x).S h=some (oo (ob x.S h),e):=by
  rw[show (hO x).S=sO x.S from rfl,a6d x.S (by have:=hR.len;omega) hh,h1]
  rfl
 rw[hg,d7R];by_cases q:h∈lv x.S
 ·have e0:=h2.2 q;subst e0;have hs:b1T (oo (ob x.S h),(0:Int)).1.Strong=some (V1 (ob x.S h).Strong):=c0r hR (hB h q);rw[if_pos q,hs,d7R];simp only[d7R,bne_self_eq_false,Bool.false_eq_true,if_false];have ok:=K3 hR q;have:=b2r (o:=stg (ob x.S h) (V1 (ob x.S h).Strong)) hR q rfl ⟨ok.s1,ok.s2,E0 ok.st,ok.wk,ok.p1,ok.p2,ok.fl⟩;rw[show M9 (hO x).S h ⟨(oo (ob x.S h)).Serial,V1 (ob x.S h).Strong,(oo (ob x.S h)).Weak,(oo (ob x.S h)).Prog,(oo (ob x.S h)).Started,(oo (ob x.S h)).Fields⟩=_ from this];rfl
 ·have he:(e != 0)=true:=by simpa using λc=>q (h2.1 c)
  have hb:(oo (ob x.S h)).Strong≤9223372036854775807:=by
   rw[b0o (w9.2 hR) hh q];decide
  rw[c0r hR hb,d7R,d7R];simp only[he,if_true];rw[if_neg q];rfl
omit hR in
theorem d2P (c:Int) (h1 : -1000000≤c):a18 c=some (a6b c):=by
 unfold a18 b2M a2H G4 a6b;simp only[d7R];by_cases q:12≤c
 ·rw[if_pos (by simpa using q),if_pos q]
  rfl
 ·rw[if_neg (by simpa using q),if_neg q]
  by_cases q2:c<1
  ·rw[if_pos (by simpa using q2),if_pos q2]
   rfl
  ·rw[if_neg (by simpa using q2),if_neg q2,F2 (by omega) (by omega)]
   rfl
theorem a2U{h:Int}(hh:h≤9223372036854775807):D3 x h=some (Q5 x h):=by
 unfold D3 N6 Q5 stO;obtain⟨e,h1,h2⟩:=T0 (w9.2 hR) hh;rw[h1,d7R];by_cases q:h∈lv x.S
 ·have e0:=h2.2 q;subst e0;have ok:=K3 hR q;rw[if_pos q,d2P _ (by have:=ok.st;dsimp only;omega)]
  simp only[beq_self_eq_true,if_true,d7R];have:=c8n hR q (O5 ok.st);rw[this];rfl
 ·have:(e==0)=false:=by simpa using λc=>q (h2.1 c)
  rw[this,if_neg q];rfl
theorem a4r{h:Int}(hh:h≤9223372036854775807):E8 (hO x) h=some (hO (Q5 x h)):=by
 unfold E8 a4N Q5 stO;obtain⟨e,h1,h2⟩:=T0 (w9.2 hR) hh;have hg:F5 (hO x).S h=some (oo (ob x.S h),e):=by
  rw[show (hO x).S=sO x.S from rfl,a6d x.S (by have:=hR.len;omega) hh,h1]
  rfl
 rw[hg,d7R];by_cases q:h∈lv x.S
 ·have e0:=h2.2 q;subst e0;have ok:=K3 hR q;have put:∀n,0≤n→M9 (hO x).S h ⟨(oo (ob x.S h)).Serial,n,(oo (ob x.S h)).Weak,(oo (ob x.S h)).Prog,(oo (ob x.S h)).Started,(oo (ob x.S h)).Fields⟩=some (sO (seO x.S h (stg (ob x.S h) n)),0):=λn hn=>
   b2r (o:=stg (ob x.S h) n) hR q rfl ⟨ok.s1,ok.s2,hn,ok.wk,ok.p1,ok.p2,ok.fl⟩
  have hs:(oo (ob x.S h)).Strong=(ob x.S h).Strong:=rfl;rw[if_pos q];unfold b4w a0R a6b;simp only[d7R,hs];by_cases q1:12≤(ob x.S h).Strong
  ·rw[if_pos (by simpa using q1),if_pos q1]
   simp only[d7R,bne_self_eq_false,Bool.false_eq_true,if_false];rw[put 12 (by decide)]
   rfl
  ·rw[if_neg (by simpa using q1),if_neg q1]
   by_cases q2:(ob x.S h).Strong<1
   ·rw[if_pos (by simpa using q2),if_pos q2]
    simp only[d7R,show ((11:Int) != 0)=true from rfl,if_true];rw[show stg (ob x.S h) (ob x.S h).Strong=ob x.S h from rfl,c8J hR q]
   ·rw[if_neg (by simpa using q2),if_neg q2,F2 (by omega) (by have:=ok.st;omega)]
    simp only[d7R,bne_self_eq_false,Bool.false_eq_true,if_false];rw[put _ (by omega)]
    rfl
 ·have he:(e != 0)=true:=by simpa using λc=>q (h2.1 c)
  rw[if_neg q,b0o (w9.2 hR) hh q];unfold b4w a0R;simp only[d7R];rfl
end
theorem c6e{x:Hp}(hR:SR x.S)(hB:SB x.S):∀k∈lv x.S,(ob x.S k).Strong≤9223372036854775807:=λk hk=>(b3m (w9.2 hR) hB hk).2
end Go.Sh
