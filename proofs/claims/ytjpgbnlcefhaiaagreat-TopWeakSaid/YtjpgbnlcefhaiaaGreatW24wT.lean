/-
 Several texts of one kind, one behind the other.
-/
import Derived.Test.YtjpgbnlcefhaiaaGreatW24wSh
import Derived.Test.YtjpgbnlcefhaiaaGreatW24wSh1
import Derived.Test.YtjpgbnlcefhaiaaGreatW24wSh
import Derived.Test.YtjpgbnlcefhaiaaGreatW24wSh
import Derived.Test.YtjpgbnlcefhaiaaGreatW24wSh
set_option linter.unusedVariables false
set_option linter.unusedSimpArgs false
set_option linter.unusedSectionVars false
namespace Go.Sh
def Hnd(h:Int):Prop:=1≤h∧(h-1) % 32<24∧(h-1) / 32≤9
instance(h:Int):Decidable (Hnd h):=by unfold Hnd;infer_instance
theorem b2L{h:Int}(q:Hnd h):1≤h∧h≤320:=by unfold Hnd at q;omega
theorem a6O{i g:Int}(h1:0≤i)(h2:i<24)(h3:0≤g)(h4:g≤9):a0U i g=some (1+i+32*g):=by
 unfold a0U;rw[if_neg (by simp;omega)];rw[show s6 (i*1)=i by rw[a28];omega,show s6 (1+i)=1+i by rw[a28];omega,show s6 (g*32)=32*g by rw[a28];omega,show s6 (1+i+32*g)=1+i+32*g by rw[a28];omega]
theorem a6Z{i g:Int}:a4R i g=some (if 0≤i∧i<24∧0≤g∧g≤9 then 1+i+32*g else 0):=by
 unfold a4R;split;·rename_i h;rw[if_neg (by simp at h;omega)]
 ·rename_i h;have h:0≤i∧i<24∧0≤g∧g≤9:=by simp at h;omega
  rw[if_pos h];rw[show s6 (1+i)=1+i by rw[a28];omega,show s6 (32*g)=32*g by rw[a28];omega,show s6 (1+i+32*g)=1+i+32*g by rw[a28];omega]
theorem a6g{h:Int}(hh:h≤9223372036854775807):a1c h=some (if Hnd h then ((h-1) % 32,(h-1) / 32,true) else (-1,-1,false)):=by
 unfold a1c;split
 ·rename_i q;rw[if_neg (by unfold Hnd;simp at q;omega)]
 ·rename_i q;have q:1≤h:=by simpa using q
  rw[B8 (n:=h-1),a5T (by omega) (by omega),d1G,b17 (by omega) (by omega) (by omega),d1G,b17 (by omega) (by omega) (by omega),d1G,Int.ediv_one];split
  ·rename_i q2;rw[if_neg (by unfold Hnd;simp at q2;omega)]
  ·rename_i q2;rw[if_pos (by unfold Hnd;simp at q2;omega)]
theorem a3t{h:Int}(hh:h≤9223372036854775807):a2m h=some (if Hnd h then (h-1) % 32 else -1):=by
 unfold a2m;rw[a6g hh,d1G];split <;> rfl
theorem a4r{h:Int}(hh:h≤9223372036854775807):a3s h=some (if Hnd h then (h-1) / 32 else -1):=by
 unfold a3s;rw[a6g hh,d1G];split <;> rfl
theorem a9Z{h:Int}:a7L h=some (decide (Hnd h)):=by
 unfold a7L;split
 ·rename_i q;rw[decide_eq_false (by unfold Hnd;simp at q;omega)]
 ·rename_i q;have q:1≤h∧h≤400:=by simp at q;omega
  rw[B8 (n:=h-1),a5T (by omega) (by omega),d1G,b17 (by omega) (by omega) (by omega),d1G,a6Z,d1G];congr 1;by_cases k:Hnd h
  ·rw[decide_eq_true k,if_pos (by unfold Hnd at k;omega)];simp;omega
  ·rw[decide_eq_false k,if_neg (by unfold Hnd at k;omega)];simp;omega
theorem a61{h:Int}:a60 h=some (if Hnd h then (h-1) % 32 else -1):=by
 unfold a60;rw[a9Z,d1G];by_cases k:Hnd h
 ·have:=b2L k;rw[decide_eq_true k,if_neg (by simp),if_pos k,B8 (n:=h-1),a5T (by omega) (by omega),d1G]
 ·rw[decide_eq_false k,if_pos (by simp),if_neg k]
theorem b87{h:Int}:b5Y h=some (if Hnd h then (h-1) / 32 else -1):=by
 unfold b5Y;rw[a9Z,d1G];by_cases k:Hnd h
 ·have:=b2L k;rw[decide_eq_true k,if_neg (by simp),if_pos k,B8 (n:=h-1),b17 (by omega) (by omega) (by omega),d1G]
 ·rw[decide_eq_false k,if_pos (by simp),if_neg k]
end Go.Sh
namespace Go.Sh
theorem b9w(a b:List Int)(ha:a.length<4611686018427387904):b24 a b=some (decide (a=b)):=by
 unfold b24;by_cases hl:a.length=b.length
 ·rw[if_neg (by simp[hl])];simp only[jn];refine a1S a.length (λk=>∀j (h1:j<a.length) (h2:j<b.length),j<k→a[j]=b[j]) ha (λ_ _ _ h=>by omega) (λk hk hP=>?_) (λhP=>?_)
  ·have hk2:k<b.length:=by omega
   simp only[Int.ofNat_lt,hk,decide_true,if_true,n7 hk,n7 hk2,d1G];by_cases e:a[k]=b[k]
   ·refine .inl ⟨?_,λj h1 h2 hj=>?_⟩;·rw[if_neg (by simpa using e),k8]
    ·rcases Nat.lt_or_ge j k with q | q
     ·exact hP j h1 h2 q
     ·have:j=k:=by omega
      subst this;exact e
   ·refine .inr ⟨.inl false,by rw[if_pos (by simpa using e)],?_⟩;simp only;rw[decide_eq_false (λq=>e (by subst q;rfl))]
  ·refine⟨.inr (),by simp,?_⟩;simp only;rw[decide_eq_true (List.ext_getElem hl λi h1 h2=>hP i h1 h2 h1)]
 ·rw[if_pos (by rw[bne_iff_ne];omega)];rw[decide_eq_false (λq=>hl (by rw[q]))]
end Go.Sh
namespace Go.Sh
abbrev z0:l4:=⟨0,0,0,0,false,[]⟩
structure SlO (s:c4):Prop where
 len:s.a8.length≤24
 l0:0≤s.Last
 l9:s.Last≤9
 cell:∀i (h:i<s.a8.length),0≤s.a8[i].State∧s.a8[i].State≤3∧0≤s.a8[i].Gen∧s.a8[i].Gen≤s.Last
theorem a5a{s:c4}{i:Int}{k:Nat}{c:b7}(hi:i=k)(hk:k<s.a8.length)(hl:s.a8.length≤24):A3 s i c=some ⟨s.a8.set k c,s.Last⟩:=by
 subst hi;unfold A3 r8;rw[J2 (by omega) (by omega),d1G,n7 hk,d1G,Int.toNat_natCast]
theorem b6t{s:c4}(hR:SlO s)(v:l4) :
  (∃i,∃h:i<s.a8.length,s.a8[i].State=0∧(∀j (hj:j<i),s.a8[j].State≠0)∧F9 s v=some (⟨s.a8.set i ⟨1,s.a8[i].Gen,v⟩,s.Last⟩,1+i+32*s.a8[i].Gen,0)) ∨
  ((∀i (h:i<s.a8.length),s.a8[i].State≠0)∧F9 s v=some (s,0,4)):=by
 have hlen:=hR.len;by_cases q:∃i,∃h:i<s.a8.length,s.a8[i].State=0
 ·obtain⟨i,⟨hi,h0⟩,hmin⟩:=a0C (p:=λi=>∃h:i<s.a8.length,s.a8[i].State=0) q;left;refine⟨i,hi,h0,λj hj=>λe=>by have:=hmin j ⟨by omega,e⟩;omega,?_⟩;unfold F9;simp only[jn,K0,d1G];have hc:=hR.cell i hi;refine a1S s.a8.length (λk=>k≤i) (by omega) (by omega) (λk hk hP=>?_) (λhP=>by omega);rcases Nat.lt_or_ge k i with g | g
  ·refine .inl ⟨?_,g⟩;have:s.a8[k].State≠0:=λe=>by have:=hmin k ⟨hk,e⟩;omega
   simp only[Int.ofNat_lt,hk,decide_true,if_true,n7 hk,d1G];rw[if_neg (by simpa using this),k8]
  ·have:k=i:=by omega
   subst this;refine .inr ⟨.inl _,?_,rfl⟩;simp only[Int.ofNat_lt,hk,decide_true,if_true,n7 hk,d1G,h0,a5a rfl hk hlen];rw[a6O (by omega) (by omega) hc.2.2.1 (by have:=hR.l9;omega)];simp
 ·right;refine⟨λi h e=>q ⟨i,h,e⟩,?_⟩;unfold F9;simp only[jn,K0,d1G];refine a1S s.a8.length (λk=>True) (by omega) trivial (λk hk _=>?_) (λhP=>⟨.inr (),by simp,rfl⟩);refine .inl ⟨?_,trivial⟩;have:s.a8[k].State≠0:=λe=>q ⟨k,hk,e⟩;simp only[Int.ofNat_lt,hk,decide_true,if_true,n7 hk,d1G];rw[if_neg (by simpa using this),k8]
def b0s(s:c4)(h:Int)(i:Nat):Prop:=∃hi:i<s.a8.length,Hnd h∧(h-1) % 32=i∧s.a8[i].Gen=(h-1) / 32∧(s.a8[i].State=1∨s.a8[i].State=2)
theorem a1a(s:c4){h:Int}(hh:h≤9223372036854775807) :
  (∃i,b0s s h i∧p6 s h=some ((i:Int),0))∨((∀i,¬b0s s h i)∧p6 s h=some (-1,if h=0 then 2 else 3)):=by
 unfold p6;by_cases h0:h=0
 ·right;subst h0;exact⟨λi ⟨_,h1,_⟩=>by unfold Hnd at h1;omega,by simp⟩
 ·rw[if_neg (by simpa using h0),a3t hh,d1G,if_neg h0];by_cases hd:Hnd h
  ·rw[if_pos hd];have hd':=hd;unfold Hnd at hd';obtain⟨k,hk⟩:∃k:Nat,(h-1) % 32=k:=⟨((h-1) % 32).toNat,by omega⟩;rw[hk];by_cases hl:k<s.a8.length
   ·rw[if_neg (by simp;omega),n7 hl,d1G,a4r hh,d1G,if_pos hd];by_cases g:s.a8[k].Gen=(h-1) / 32∧(s.a8[k].State=1∨s.a8[k].State=2)
    ·left;refine⟨k,⟨hl,hd,hk,g⟩,?_⟩;rw[if_neg];simp;omega
    ·right;refine⟨λi ⟨hi,_,h2,h3⟩=>?_,?_⟩
     ·have:i=k:=by omega
      subst this;exact g h3
     ·rw[if_pos];simp;omega
   ·right;refine⟨λi ⟨hi,_,h2,h3⟩=>by omega,?_⟩;rw[if_pos (by simp;omega)]
  ·right;refine⟨λi ⟨hi,h1,_⟩=>hd h1,?_⟩;rw[if_neg hd,if_pos (by simp)]
theorem a7D{s:c4}{h:Int}{i:Nat}(hf:b0s s h i):p6 s h=some ((i:Int),0):=by
 have hh:=b2L hf.2.1;rcases a1a s (h:=h) (by omega) with ⟨j,h1,h2⟩ | ⟨h1,_⟩
 ·obtain⟨_,_,e1,_⟩:=hf;obtain⟨_,_,e2,_⟩:=h1;have:i=j:=by omega
  subst this;exact h2
 ·exact absurd hf (h1 i)
theorem b0G{s:c4}{h:Int}(hh:h≤9223372036854775807)(hf:∀i,¬b0s s h i):p6 s h=some (-1,if h=0 then 2 else 3):=by
 rcases a1a s hh with ⟨j,h1,_⟩ | ⟨_,h2⟩;·exact absurd h1 (hf j)
 ·exact h2
theorem a2l(h:Int):(if h=0 then 2 else 3:Int)≠0:=by split <;> omega
theorem b65{s:c4}{h:Int}{i:Nat}(hf:b0s s h i):∃hi:i<s.a8.length,B3 s h=some (if s.a8[i].State=2 then (z0,3) else (s.a8[i].Val,0)):=by
 refine⟨hf.1,?_⟩;unfold B3;rw[a7D hf,d1G,if_neg (by simp),n7 hf.1,d1G];split <;> rename_i q
 ·rw[if_pos (by simpa using q)]
 ·rw[if_neg (by simpa using q)]
theorem c2X{s:c4}{h:Int}(hh:h≤9223372036854775807)(hf:∀i,¬b0s s h i):B3 s h=some (z0,if h=0 then 2 else 3):=by
 unfold B3;rw[b0G hh hf,d1G,if_pos (by simpa using a2l h)]
theorem b7R{s:c4}{h:Int}{v:l4}{i:Nat}(hl:s.a8.length≤24)(hf:b0s s h i):∃hi:i<s.a8.length,H2 s h v=some (⟨s.a8.set i ⟨s.a8[i].State,s.a8[i].Gen,v⟩,s.Last⟩,0):=by
 refine⟨hf.1,?_⟩;unfold H2;rw[a7D hf,d1G,if_neg (by simp),n7 hf.1,d1G,a5a rfl hf.1 hl,d1G]
theorem c4m{s:c4}{h:Int}{v:l4}(hh:h≤9223372036854775807)(hf:∀i,¬b0s s h i):H2 s h v=some (s,if h=0 then 2 else 3):=by
 unfold H2;rw[b0G hh hf,d1G,if_pos (by simpa using a2l h)]
end Go.Sh
namespace Go.Sh
def oo(o:l4):K8:=⟨o.Serial,o.Strong,o.Weak,o.Prog,o.Started,o.Fields⟩
def cO(c:b7):F5:=⟨c.State,c.Gen,oo c.Val⟩
def sO(s:a7):n9:=⟨s.S.a8.map cO,s.S.Last,s.Serial⟩
def Sm(s:a7):Prop:=s.S.a8.length≤30∧∀i (h:i<s.S.a8.length),s.S.a8[i].Val.Fields.length≤10
instance(s:a7):Decidable (Sm s):=by unfold Sm;infer_instance
def plc(i:Nat)(c:F5):J8:=⟨c.State,c.Gen,(i:Int)⟩
def pl(t:n9):E0:=⟨t.a8.mapIdx plc,t.Last⟩
theorem a4a(t:n9)(h:t.a8.length≤1000):Q9 t=some (pl t):=by
 unfold Q9;simp only[jn];refine P0 t.a8.length (λk acc=>acc=(t.a8.mapIdx plc).take k) (by omega) (by simp) (λk acc hk hP=>?_) (λacc hP=>?_)
 ·subst hP;refine .inl ⟨_,?_,rfl⟩;simp only[Int.ofNat_lt,hk,decide_true,if_true,n7 hk,d1G];rw[x8 (by omega) (by simp;omega),d1G,k8];have e:(t.a8.mapIdx plc).take (k+1)=(t.a8.mapIdx plc).take k ++ [plc k t.a8[k]]:=by
   rw[List.take_add_one,List.getElem?_eq_getElem (by simpa using hk)];simp
  rw[e];rfl
 ·subst hP;rw[List.take_of_length_le (by simp)];exact⟨t.a8.mapIdx plc,by simp only[Int.lt_irrefl,decide_false,Bool.false_eq_true,if_false],rfl⟩
def Thr(c:F5):Prop:=c.State=1∨c.State=2
instance(c:F5):Decidable (Thr c):=by unfold Thr;infer_instance
def c9x(t:n9)(o:K8):Prop:=1≤o.Serial∧o.Serial≤t.Serial∧0≤o.Strong∧0≤o.Weak ∧ -1≤o.Prog∧o.Prog≤5∧o.Fields.length≤4
def c0Q(o:K8):Prop:=o.Serial=0∧o.Strong=0∧o.Weak=0∧o.Prog=0∧o.Started=false∧o.Fields.length=0
structure RtR (t:n9):Prop where
 len:t.a8.length≤24
 l0:0≤t.Last
 l9:t.Last≤9
 Z9:0≤t.Serial
 cell:∀i (h:i<t.a8.length),0≤t.a8[i].State∧t.a8[i].State≤3∧0≤t.a8[i].Gen∧t.a8[i].Gen≤t.Last
 no:∀i (h:i<t.a8.length),¬Thr t.a8[i]→c0Q t.a8[i].Val
 ok:∀i (h:i<t.a8.length),Thr t.a8[i]→c9x t t.a8[i].Val
 dif:∀i (h:i<t.a8.length) k (hk:k<i),Thr t.a8[i]→Thr t.a8[k]→t.a8[k].Val.Serial≠t.a8[i].Val.Serial
end Go.Sh
namespace Go.Sh
theorem b7U{c:Int→Int→Option Int}{xs:List Int}(key:Int→Int)(hc:∀x y,∃r,c x y=some r∧(r<0↔key x<key y))(hl:xs.length<4611686018427387904) :
  ∃ys,b1b c xs=some ys∧ys.Perm xs∧ys.Pairwise (λa b=>key a≤key b):=by
 have hlt:∀x y,Go.Proofs.ltOf (λx y=>(c x y).getD 0) x y=decide (key x<key y):=λx y=>by
  obtain⟨r,h1,h2⟩:=hc x y;show decide ((c x y).getD 0<0)=_;rw[h1,Option.getD_some];exact decide_eq_decide.2 h2
 have hO:Go.Sort.SWO (Go.Proofs.ltOf λx y=>(c x y).getD 0):=by
  refine⟨λx=>?_,λx y z=>?_,λx y z=>?_⟩;·rw[hlt];simp
  ·rw[hlt,hlt,hlt];simp;omega
  ·rw[hlt,hlt,hlt];simp;omega
 have hcond:(∀x y,(c x y).isSome=true)∧Go.Sort.SWO (Go.Proofs.ltOf λx y=>(c x y).getD 0)∧xs.length<4611686018427387904:=⟨λx y=>by
  obtain⟨r,h1,_⟩:=hc x y;rw[h1];rfl,hO,hl⟩
 unfold b1b;rw[if_pos hcond];refine⟨_,rfl,?_⟩;obtain⟨⟨p1,p2,p3⟩,p4⟩:=Go.Sort.pdq_sorts (Go.Proofs.ltOf λx y=>(c x y).getD 0) hO xs.toArray 0 xs.length (Go.Lib.bitLen xs.length) true true (Nat.zero_le _) (by simp) (Or.inl rfl);generalize Go.Sort.pdq (Go.Proofs.ltOf λx y=>(c x y).getD 0) xs.toArray 0 xs.length (Go.Lib.bitLen xs.length) true true=d at p1 p2 p3 p4 ⊢;have hs:d.size=xs.length:=by simpa using p1
 refine⟨?_,?_⟩
 ·have e1:d.extract 0 xs.length=d:=by rw[←hs];exact Array.extract_size
  have e2:xs.toArray.extract 0 xs.length=xs.toArray:=by
   simp
  rw[e1,e2] at p3;simpa using p3
 ·rw[List.pairwise_iff_getElem];intro i j hi hj hij;have hi':i<d.size:=by simpa using hi
  have hj':j<d.size:=by simpa using hj
  have:=p4 i j (Nat.zero_le _) hij (by omega);rw[hlt,getElem!_pos d j hj',getElem!_pos d i hi'] at this;have:=of_decide_eq_false this;simp only[Array.getElem_toList];omega
def V5:Nat→List b7→List Int
 | _,[]=>[]
 | k,c::r=>(if c.State=1 then [1+(k:Int)+32*c.Gen] else [])++V5 (k+1) r
theorem a7H(c:b7):∀(k:Nat) (xs:List b7),V5 k (xs ++ [c])=V5 k xs++(if c.State=1 then [1+((k+xs.length:Nat):Int)+32*c.Gen] else [])
 | k,[]=>by simp[V5]
 | k,x::r=>by
  simp only[List.cons_append,V5,a7H c (k+1) r,List.append_assoc,List.length_cons];rw[show k+1+r.length=k+(r.length+1) by omega]
theorem a4K:∀(k:Nat) (xs:List b7),(V5 k xs).length≤xs.length
 | _,[]=>by simp[V5]
 | k,c::r=>by
  have:=a4K (k+1) r;simp only[V5,List.length_append,List.length_cons];split <;> simp <;> omega
theorem a6S{h:Int}:∀ {k:Nat} {xs:List b7},h∈V5 k xs↔∃i,∃hi:i<xs.length,xs[i].State=1∧h=1+((k+i:Nat):Int)+32*xs[i].Gen
 | k,[]=>by simp[V5]
 | k,c::r=>by
  simp only[V5,List.mem_append,a6S (k:=k+1) (xs:=r)];constructor
  ·rintro (q | ⟨i,hi,q1,q2⟩)
   ·by_cases hc:c.State=1
    ·rw[if_pos hc] at q;exact⟨0,by simp,by simpa using hc,by simpa using q⟩
    ·rw[if_neg hc] at q;cases q
   ·exact⟨i+1,by simpa using hi,by simpa using q1,by simp only[List.getElem_cons_succ];rw[q2,show k+1+i=k+(i+1) by omega]⟩
  ·rintro⟨i,hi,q1,q2⟩;cases i with
   | zero=>
    left;simp only[List.getElem_cons_zero] at q1 q2;rw[if_pos q1];simp[q2]
   | succ i=>
    right;simp only[List.getElem_cons_succ] at q1 q2;exact⟨i,by simpa using hi,q1,by rw[q2,show k+1+i=k+(i+1) by omega]⟩
def sk(cs:List b7)(h:Int):Int:=match cs[((h-1) % 32).toNat]? with
 | some c=>c.Val.Serial
 | none=>0
theorem b7T{cs:List b7}{i:Nat}{g:Int}(h:i<cs.length)(h32:cs.length≤32):sk cs (1+(i:Int)+32*g)=cs[i].Val.Serial:=by
 unfold sk;have:((1+(i:Int)+32*g-1) % 32).toNat=i:=by omega
 rw[this,List.getElem?_eq_getElem h]
structure Slb (cs:List b7):Prop where
 len:cs.length≤24
 gen:∀i (h:i<cs.length),0≤cs[i].Gen∧cs[i].Gen≤9
theorem b4x{s:a7}(hR:Slb s.S.a8):∃l,C1 s=some l∧l.Perm (V5 0 s.S.a8)∧l.Pairwise (λa b=>sk s.S.a8 a≤sk s.S.a8 b):=by
 have hlen:=hR.len;unfold C1;simp only[jn];have hh:=a4K 0 s.S.a8;have hloop:∃e:List (Int × Int) × List Int,lp (S:=Int × (List (Int × Int)) × (List Int)) (E:=((List (Int × Int)) × (List Int))) (λ((s23,s24,s25):Int × (List (Int × Int)) × (List Int))=>
   if (decide (s23<(s.S.a8.length:Int))) then
    ((ix s.S.a8 s23).bind λv35=>
     if (v35.State==1) then
      (a0U s23 v35.Gen).bind λv36=>
      (app 8 s25 [v36]).bind λv37=>
      some (.inl (s6 (s23+1),(n8 s24 v36 v35.Val.Serial),v37))
     else
     some (.inl (s6 (s23+1),s24,s25)))
   else
   some (.inr (s24,s25))) (0,[],[])=some e∧e.2=V5 0 s.S.a8∧∀h∈e.2,y7 e.1 h=some (sk s.S.a8 h):=by
  refine a2G (T:=List (Int × Int) × List Int) s.S.a8.length (λk e=>e.2=V5 0 (s.S.a8.take k)∧∀h∈e.2,y7 e.1 h=some (sk s.S.a8 h)) (λe:List (Int × Int) × List Int=>e.2=V5 0 s.S.a8∧∀h∈e.2,y7 e.1 h=some (sk s.S.a8 h)) (by omega) ⟨by simp[V5],by simp⟩ (λk e hk hP=>?_) (λe hP=>?_)
  ·obtain⟨h1,h2⟩:=hP;obtain⟨m,l⟩:=e;simp only at h1 h2;left;have hc:=hR.gen k hk;have hl:l.length≤24:=by rw[h1];have:=a4K 0 (s.S.a8.take k);simp at this;omega
   have et:s.S.a8.take (k+1)=s.S.a8.take k ++ [s.S.a8[k]]:=by rw[List.take_add_one,List.getElem?_eq_getElem hk];rfl
   have el:(s.S.a8.take k).length=k:=by simp;omega
   by_cases q:s.S.a8[k].State=1
   ·refine⟨(n8 m (1+(k:Int)+32*s.S.a8[k].Gen) s.S.a8[k].Val.Serial,l ++ [1+(k:Int)+32*s.S.a8[k].Gen]),?_,?_,?_⟩
    ·simp only[Int.ofNat_lt,hk,decide_true,if_true,n7 hk,d1G,q,beq_self_eq_true];rw[a6O (by omega) (by omega) hc.1 hc.2,d1G,x8 (by omega) (by simp;omega),d1G,k8]
    ·simp only;rw[et,a7H,if_pos q,el,h1,Nat.zero_add]
    ·intro h hh;simp only[List.mem_append,List.mem_singleton] at hh ⊢;rw[a7I];rcases hh with hh | rfl
     ·split;·rename_i e;rw[e,b7T hk (by omega)]
      ·exact h2 h hh
     ·rw[if_pos rfl,b7T hk (by omega)]
   ·refine⟨(m,l),?_,?_,h2⟩
    ·simp only[Int.ofNat_lt,hk,decide_true,if_true,n7 hk,d1G];rw[if_neg (by simpa using q),k8]
    ·simp only;rw[et,a7H,if_neg q,h1,List.append_nil]
  ·obtain⟨h1,h2⟩:=hP;obtain⟨m,l⟩:=e;refine⟨(m,l),by simp only[Int.lt_irrefl,decide_false,Bool.false_eq_true,if_false],?_,h2⟩;simpa using h1
 obtain⟨⟨m,l⟩,e1,e2,e3⟩:=hloop;rw[show lp _ _=_ from e1,d1G];simp only at e2 e3 ⊢;subst e2;obtain⟨ys,q1,q2,q3⟩:=b7U (c:=λp q=>a27 p q m) (xs:=V5 0 s.S.a8) (λh=>(y7 m h).getD 0) (λx y=>by
  unfold a27 a2B a0l;simp only[d1G,bne_self_eq_false,Bool.false_eq_true,if_false];generalize (y7 m x).getD 0=a;generalize (y7 m y).getD 0=b;by_cases h1:a<b
  ·rw[decide_eq_true h1];exact⟨-1,rfl,by simp[h1]⟩
  ·rw[decide_eq_false h1];by_cases h2:a > b
   ·rw[decide_eq_true h2];exact⟨1,rfl,by simp[h1]⟩
   ·rw[decide_eq_false h2];exact⟨0,rfl,by simp[h1]⟩) (by omega)
 refine⟨ys,by rw[q1];rfl,q2,q3.imp_of_mem λ{a b} ha hb hab=>?_⟩;rw[e3 a (q2.mem_iff.1 ha),e3 b (q2.mem_iff.1 hb)] at hab;simpa using hab
theorem a52{key:Int→Int}:∀ {l m:List Int},l.Perm m→l.Pairwise (λa b=>key a≤key b)→m.Pairwise (λa b=>key a≤key b)→(∀a∈l,∀b∈l,key a=key b→a=b)→l=m
 | [],m,hp,_,_,_=>(List.nil_perm.1 hp).symm
 | a::l,[],hp,_,_,_=>by simp at hp
 | a::l,b::m,hp,h1,h2,hk=>by
  have ha:=List.pairwise_cons.1 h1;have hb:=List.pairwise_cons.1 h2;have e:a=b:=by
   have m1:b∈a::l:=hp.mem_iff.2 (List.mem_cons_self ..);have m2:a∈b::m:=hp.mem_iff.1 (List.mem_cons_self ..);rcases List.mem_cons.1 m1 with q | q
   ·exact q.symm
   ·rcases List.mem_cons.1 m2 with q' | q'
    ·exact q'
    ·exact hk a (List.mem_cons_self ..) b m1 (Int.le_antisymm (ha.1 b q) (hb.1 a q'))
  subst e;rw[a52 (List.perm_cons a |>.1 hp) ha.2 hb.2 λx hx y hy=>hk x (List.mem_cons_of_mem _ hx) y (List.mem_cons_of_mem _ hy)]
end Go.Sh
namespace Go.Sh
theorem z8(s:a7):(sO s).a8.length=s.S.a8.length:=by simp[sO]
theorem c0C(s:a7)(i:Int):ix (sO s).a8 i=(ix s.S.a8 i).map cO:=a0y cO s.S.a8 i
theorem a0K(t:n9):(pl t).a8.length=t.a8.length:=by simp[pl]
theorem b7v{t:n9}{k:Nat}(h:k<t.a8.length):ix (pl t).a8 k=some (plc k t.a8[k]):=by
 rw[n7 (by simpa[pl] using h)];simp[pl]
theorem b0F(s:a7){h:Int}(hh:h≤9223372036854775807):N5 (pl (sO s)) h=p6 s.S h:=by
 unfold N5 p6;rw[a61,a3t hh,b87,a4r hh];simp only[d1G,a0K,z8];generalize (if Hnd h then (h-1) % 32 else -1:Int)=v;generalize (if Hnd h then (h-1) / 32 else -1:Int)=g;split;·rfl
 ·split;·rfl
  ·rename_i q;have q:0≤v∧v<s.S.a8.length:=by simp at q;omega
   obtain⟨k,rfl⟩:∃k:Nat,v=k:=⟨v.toNat,by omega⟩;have hk:k<s.S.a8.length:=by omega
   rw[b7v (by rw[z8];exact hk),n7 hk];simp only[d1G,plc,sO,List.getElem_map,cO]
theorem c4l(s:a7)(hl:s.S.a8.length≤24){h:Int}(hh:h≤9223372036854775807)(o:l4):K9 (sO s) h (oo o)=(H3 s h o).map λp=>(sO p.1,p.2):=by
 unfold K9 H3;rw[a4a _ (by rw[z8];omega),d1G,b0F s hh];rcases a1a s.S hh with ⟨i,hf,e⟩ | ⟨hf,e⟩
 ·obtain⟨hi,e2⟩:=b7R (v:=o) hl hf;rw[e,e2];simp only[d1G,bne_self_eq_false,Bool.false_eq_true,if_false,Option.map_some];unfold a2u;rw[J2 (by omega) (by rw[z8];omega),d1G,n7 (by rw[z8];exact hi),d1G];simp[sO,cO,oo,List.map_set]
 ·rw[e,c4m hh hf];simp only[d1G];rw[if_pos (by simpa using a2l h)];rfl
end Go.Sh
namespace Go.Sh
theorem a1r{s:a7}(h:RtR (sO s)):s.S.a8.length≤24:=by have:=h.len;rwa [z8] at this
theorem b6e{s:a7}(h:RtR (sO s))(i:Nat)(hi:i<s.S.a8.length):0≤s.S.a8[i].State∧s.S.a8[i].State≤3∧0≤s.S.a8[i].Gen∧s.S.a8[i].Gen≤s.S.Last:=by
 have:=h.cell i (by rw[z8];exact hi);simpa[sO,cO] using this
theorem b6f{s:a7}(h:RtR (sO s)):Slb s.S.a8:=⟨a1r h,λi hi=>by have:=b6e h i hi;have h9:s.S.Last≤9:=h.l9;omega⟩
theorem c4f{s:a7}(h:RtR (sO s))(i:Nat)(hi:i<s.S.a8.length)(ht:s.S.a8[i].State=1∨s.S.a8[i].State=2):c9x (sO s) (oo s.S.a8[i].Val):=by
 have:=h.ok i (by rw[z8];exact hi);simp only[sO,List.getElem_map,cO,Thr] at this;exact this ht
theorem c4e{s:a7}(h:RtR (sO s)){i j:Nat}(hi:i<s.S.a8.length)(hj:j<s.S.a8.length)(a:s.S.a8[i].State=1∨s.S.a8[i].State=2)(b:s.S.a8[j].State=1∨s.S.a8[j].State=2)(e:s.S.a8[i].Val.Serial=s.S.a8[j].Val.Serial):i=j:=by
 have key:∀i (hi:i<s.S.a8.length) j (hj:j<i),(s.S.a8[i].State=1∨s.S.a8[i].State=2)→(s.S.a8[j].State=1∨s.S.a8[j].State=2)→s.S.a8[j].Val.Serial≠s.S.a8[i].Val.Serial:=λi hi j hj a b=>by
  have:=h.dif i (by rw[z8];exact hi) j hj;simp only[sO,List.getElem_map,cO,Thr,oo] at this;exact this a b
 rcases Nat.lt_trichotomy i j with q | q | q
 ·exact absurd e (key j hj i q b a)
 ·exact q
 ·exact absurd e.symm (key i hi j q a b)
theorem a4J{s:a7}(hR:RtR (sO s)){x:Int}(hx:x∈V5 0 s.S.a8):∃i,∃hi:i<s.S.a8.length,s.S.a8[i].State=1∧x=1+(i:Int)+32*s.S.a8[i].Gen∧b0s s.S x i∧sk s.S.a8 x=s.S.a8[i].Val.Serial∧r7 s x=some (s.S.a8[i].Val,0):=by
 obtain⟨i,hi,h1,h2⟩:=a6S.1 hx;rw[Nat.zero_add] at h2;have hl:=(a1r hR);have hc:=(b6f hR).gen i hi;have hf:b0s s.S x i:=⟨hi,by unfold Hnd;omega,by omega,by omega,.inl h1⟩;refine⟨i,hi,h1,h2,hf,by rw[h2];exact b7T hi (by omega),?_⟩;obtain⟨_,e⟩:=b65 hf;unfold r7;rw[e,if_neg (by omega)];rfl
theorem c2U{s:a7}{x:Int}{i:Nat}(hf:b0s s.S x i)(h1:∀hi:i<s.S.a8.length,s.S.a8[i].State=1):x∈V5 0 s.S.a8:=by
 obtain⟨hi,q1,q2,q3,_⟩:=hf;refine a6S.2 ⟨i,hi,h1 hi,?_⟩;unfold Hnd at q1;rw[Nat.zero_add];omega
theorem b6m{s:a7}(hR:RtR (sO s)){x y:Int}(hx:x∈V5 0 s.S.a8)(hy:y∈V5 0 s.S.a8)(e:sk s.S.a8 x=sk s.S.a8 y):x=y:=by
 obtain⟨i,hi,a1,a2,_,a4,_⟩:=a4J hR hx;obtain⟨j,hj,b1,b2,_,b4,_⟩:=a4J hR hy;have:=(c4e hR) hi hj (.inl a1) (.inl b1) (by rw[←a4,←b4];exact e);subst this;rw[a2,b2]
theorem a5y:∀(k:Nat) (cs:List b7),k+cs.length≤32→(V5 k cs).Nodup
 | _,[],_=>List.nodup_nil
 | k,c::r,h=>by
  simp only[List.length_cons] at h;unfold V5;rw[List.nodup_append];refine⟨by split <;> simp,a5y (k+1) r (by omega),λa ha b hb e=>?_⟩;split at ha
  ·simp only[List.mem_singleton] at ha;subst ha;subst e;obtain⟨i,hi,h1,h2⟩:=a6S.1 hb;have:((1+(k:Int)+32*c.Gen)-1) % 32=((1+((k+1+i:Nat):Int)+32*r[i].Gen)-1) % 32:=by rw[h2]
   omega
  ·cases ha
theorem b94{s:a7}(hR:RtR (sO s)):∃l,C1 s=some l∧l.Perm (V5 0 s.S.a8)∧l.Pairwise (λa b=>sk s.S.a8 a<sk s.S.a8 b):=by
 obtain⟨l,h1,h2,h3⟩:=b4x (b6f hR);refine⟨l,h1,h2,?_⟩;have hn:l.Nodup:=h2.nodup_iff.2 (a5y 0 _ (by have:=(a1r hR);omega));have:=List.Pairwise.and h3 hn;refine this.imp_of_mem λ{a b} ha hb ⟨q1,q2⟩=>?_;rcases Int.lt_or_eq_of_le q1 with q | q
 ·exact q
 ·exact absurd (b6m hR (h2.mem_iff.1 ha) (h2.mem_iff.1 hb) q) q2
end Go.Sh
namespace Go.Sh
theorem a9I:∀(k:Nat) (cs:List b7) (i:Nat) (c:b7) (hi:i<cs.length),cs[i].State≠1→c.State=1→(V5 k (cs.set i c)).Perm ((1+((k+i:Nat):Int)+32*c.Gen)::V5 k cs)
 | _,[],i,_,hi,_,_=>by simp at hi
 | k,d::r,0,c,hi,h1,h2=>by
  simp only[List.getElem_cons_zero] at h1;simp only[List.set_cons_zero,V5,if_pos h2,if_neg h1,List.nil_append,Nat.add_zero];exact List.Perm.refl _
 | k,d::r,i+1,c,hi,h1,h2=>by
  simp only[List.getElem_cons_succ] at h1;simp only[List.set_cons_succ,V5];have:=a9I (k+1) r i c (by simpa using hi) h1 h2;rw[show k+1+i=k+(i+1) by omega] at this;exact (List.Perm.append_left _ this).trans List.perm_middle
theorem c89{cs:List b7}{i:Nat}{c:b7}{x:Int}(h:((x-1) % 32).toNat≠i):sk (cs.set i c) x=sk cs x:=by
 unfold sk;rw[List.getElem?_set_ne (by omega)]
theorem b8Q{s:a7}(hR:RtR (sO s)){i:Nat}(hi:i<s.S.a8.length)(h0:s.S.a8[i].State=0)(o:l4)(ho:o.Serial=s.Serial+1){l:List Int}(hl:C1 s=some l) :
  C1 ⟨⟨s.S.a8.set i ⟨1,s.S.a8[i].Gen,o⟩,s.S.Last⟩,s.Serial+1⟩=some (l ++ [1+(i:Int)+32*s.S.a8[i].Gen]):=by
 obtain⟨l',e,l1,l2⟩:=b94 hR;rw[hl] at e;cases e;have hlen:=a1r hR;have hsl:Slb (s.S.a8.set i ⟨1,s.S.a8[i].Gen,o⟩):=⟨by simpa using hlen,λj hj=>by
  rw[List.getElem_set];have:=(b6f hR).gen;split;·exact this i hi
  ·exact this j (by simpa using hj)⟩
 obtain⟨m,m1,m2,m3⟩:=b4x (s:=⟨⟨s.S.a8.set i ⟨1,s.S.a8[i].Gen,o⟩,s.S.Last⟩,s.Serial+1⟩) hsl;have hp:=a9I 0 s.S.a8 i ⟨1,s.S.a8[i].Gen,o⟩ hi (by omega) rfl;rw[Nat.zero_add] at hp;have hold:∀x∈l,sk (s.S.a8.set i ⟨1,s.S.a8[i].Gen,o⟩) x=sk s.S.a8 x∧sk s.S.a8 x≤s.Serial:=λx hx=>by
  obtain⟨j,hj,a1,a2,a3,a4,_⟩:=a4J hR (l1.mem_iff.1 hx);refine⟨c89 ?_,?_⟩
  ·obtain⟨_,_,q,_⟩:=a3;intro e;have:j=i:=by omega
   subst this;omega
  ·rw[a4];exact (c4f hR j hj (.inl a1)).2.1
 have hnew:sk (s.S.a8.set i ⟨1,s.S.a8[i].Gen,o⟩) (1+(i:Int)+32*s.S.a8[i].Gen)=s.Serial+1:=by
  rw[b7T (by simpa using hi) (by simp;omega)];simp[ho]
 rw[m1];congr 1;refine a52 (key:=sk (s.S.a8.set i ⟨1,s.S.a8[i].Gen,o⟩)) ?_ m3 ?_ ?_
 ·refine m2.trans (hp.trans ?_);refine List.Perm.trans (List.Perm.cons _ l1.symm) ?_;exact (List.perm_append_singleton _ _).symm
 ·rw[List.pairwise_append];refine⟨l2.imp_of_mem λ{a b} ha hb hab=>?_,by simp,λa ha b hb=>?_⟩;·rw[(hold a ha).1,(hold b hb).1];omega
  ·rw[List.mem_singleton] at hb;subst hb;rw[hnew,(hold a ha).1];have:=(hold a ha).2;omega
 ·have hm:∀a∈m,a∈l∨a=1+(i:Int)+32*s.S.a8[i].Gen:=λa ha=>by
   have:=hp.mem_iff.1 (m2.mem_iff.1 ha);rcases List.mem_cons.1 this with q | q
   ·exact .inr q
   ·exact .inl (l1.mem_iff.2 q)
  intro a ha b hb hab;rcases hm a ha with qa | rfl <;> rcases hm b hb with qb | rfl
  ·rw[(hold a qa).1,(hold b qb).1] at hab;exact b6m hR (l1.mem_iff.1 qa) (l1.mem_iff.1 qb) hab
  ·rw[(hold a qa).1,hnew] at hab;have:=(hold a qa).2;omega
  ·rw[(hold b qb).1,hnew] at hab;have:=(hold b qb).2;omega
  ·rfl
end Go.Sh
namespace Go.Sh
theorem c94(n last:Int):∃a,a3k n last=some a∧b50 n last=some (sO a)∧RtR (sO a)∧a.S.a8.length≤24∧∀i (h:i<a.S.a8.length),a.S.a8[i].Val.Fields.length≤4:=by
 unfold a3k b50 T0 c0l;by_cases h:0≤n∧n≤24∧0≤last∧last≤9
 ·obtain⟨h1,h2,h3,h4⟩:=h;obtain⟨k,rfl⟩:∃k:Nat,n=k:=⟨n.toNat,by omega⟩;rw[if_neg (by simp;omega),if_neg (by simp;omega),a6X (by omega) (by omega),a6X (by omega) (by omega)];simp only[d1G,List.length_replicate];rw[a6X (by omega) (by omega)];refine⟨_,rfl,?_,?_,by simp;omega,λi h=>by simp⟩;·simp[sO,cO,oo]
  ·refine⟨by simp[sO];omega,h3,h4,by simp[sO],λi h=>?_,λi h=>?_,λi h q=>?_,λi h k hk q=>?_⟩;·simp[sO,cO];omega
   ·simp[sO,cO,oo,c0Q]
   ·exfalso;simp[sO,cO,oo,Thr] at q
   ·exfalso;simp[sO,cO,oo,Thr] at q
 ·rw[if_pos (by simp;omega),if_pos (by simp;omega)];simp only[d1G,List.length_nil];rw[show mk 80 ((0:Nat):Int) (⟨0,0,⟨0,0,0,0,false,[]⟩⟩:F5)=some [] from rfl];refine⟨_,rfl,rfl,⟨by simp[sO],by simp[sO],by simp[sO],by simp[sO],?_,?_,?_,?_⟩,by simp,λi h=>by simp at h⟩ <;> (intro i h;simp[sO] at h)
end Go.Sh
namespace Go.Sh
noncomputable def lv(s:a7):List Int:=(C1 s).getD []
def ob(s:a7)(h:Int):l4:=((r7 s h).getD (z0,0)).1
def outs(s:a7)(h:Int):List Int:=nz (ob s h).Fields
def FB(s:a7):Prop:=∀c∈s.S.a8,∀x∈c.Val.Fields,x≤9223372036854775807
section
variable{s:a7}(hR:RtR (sO s))
include hR
theorem a5C:C1 s=some (lv s)∧(lv s).Perm (V5 0 s.S.a8)∧(lv s).Pairwise (λa b=>sk s.S.a8 a<sk s.S.a8 b):=by
 obtain⟨l,h1,h2,h3⟩:=b94 hR;have:lv s=l:=by unfold lv;rw[h1];rfl
 rw[this];exact⟨h1,h2,h3⟩
theorem a2b:C1 s=some (lv s):=(a5C hR).1
theorem b0K{h:Int}:h∈lv s↔h∈V5 0 s.S.a8:=(a5C hR).2.1.mem_iff
theorem E3:(lv s).length≤24:=by
 rw[(a5C hR).2.1.length_eq];exact Nat.le_trans (a4K 0 s.S.a8) (a1r hR)
theorem a9Q:(lv s).Nodup:=(a5C hR).2.1.nodup_iff.2 (a5y 0 _ (by have:=(a1r hR);omega))
theorem b2S{h:Int}(hh:h∈lv s):r7 s h=some (ob s h,0):=by
 obtain⟨i,hi,_,_,_,_,e⟩:=a4J hR ((b0K hR).1 hh);unfold ob;rw[e];rfl
theorem b5I{h:Int}(hh:h∈lv s):∃i,∃hi:i<s.S.a8.length,s.S.a8[i].State=1∧h=1+(i:Int)+32*s.S.a8[i].Gen∧b0s s.S h i∧ob s h=s.S.a8[i].Val:=by
 obtain⟨i,hi,h1,h2,h3,_,e⟩:=a4J hR ((b0K hR).1 hh);refine⟨i,hi,h1,h2,h3,?_⟩;unfold ob;rw[e];rfl
theorem a4s{h:Int}(hh:h∈lv s):1≤h∧h≤320:=by
 obtain⟨i,hi,_,_,hf,_⟩:=b5I hR hh;exact b2L hf.2.1
theorem c66{h:Int}(hh:h≤9223372036854775807)(hn:h∉lv s):∃e,e≠0∧r7 s h=some (z0,e):=by
 rcases a1a s.S hh with ⟨i,hf,_⟩ | ⟨hf,_⟩
 ·obtain⟨hi,e⟩:=b65 hf;unfold r7;rw[e];by_cases h2:s.S.a8[i].State=2
  ·rw[if_pos h2];exact⟨3,by decide,rfl⟩
  ·exact absurd ((b0K hR).2 (c2U hf λ_=>hf.2.2.2.2.resolve_right h2)) hn
 ·unfold r7;rw[c2X hh hf];exact⟨_,a2l h,rfl⟩
theorem a8B{h:Int}(hh:h≤9223372036854775807)(hn:h∉lv s):ob s h=z0:=by
 obtain⟨e,_,h1⟩:=c66 hR hh hn;unfold ob;rw[h1];rfl
theorem O3{h:Int}(hh:h≤9223372036854775807):∃e,r7 s h=some (ob s h,e)∧(e=0↔h∈lv s):=by
 by_cases q:h∈lv s
 ·exact⟨0,b2S hR q,by simp[q]⟩
 ·obtain⟨e,h0,h1⟩:=c66 hR hh q;refine⟨e,?_,by simp[h0,q]⟩;rw[h1,a8B hR hh q]
theorem c0f{h:Int}(hh:h≤9223372036854775807)(hn:h∉lv s):outs s h = []:=by
 unfold outs;rw[a8B hR hh hn];rfl
theorem b5N(h:Int)(hh:h≤9223372036854775807):(ob s h).Fields.length≤4:=by
 by_cases q:h∈lv s
 ·obtain⟨i,hi,h1,_,_,e⟩:=b5I hR q;rw[e];exact (c4f hR i hi (.inl h1)).2.2.2.2.2.2
 ·rw[a8B hR hh q];exact Nat.zero_le _
theorem a4O(h:Int)(hh:h≤9223372036854775807):(outs s h).length≤4:=Nat.le_trans (c3t _) (b5N hR h hh)
theorem c52(hF:FB s){h x:Int}(hh:h≤9223372036854775807)(hx:x∈outs s h):x≤9223372036854775807:=by
 by_cases q:h∈lv s
 ·obtain⟨i,hi,h1,_,_,e⟩:=b5I hR q;unfold outs at hx;rw[e] at hx;exact hF _ (List.getElem_mem hi) x (a5H.1 hx).1
 ·rw[c0f hR hh q] at hx;cases hx
end
theorem c53{s:a7}{h x:Int}(hx:x∈outs s h):x≠0:=(a5H.1 hx).2
theorem a4G(s:a7)(hl:s.S.a8.length≤1000){h:Int}(hh:h≤9223372036854775807):D6 (sO s) h=(r7 s h).map λp=>(oo p.1,p.2):=by
 unfold D6 r7 B3 b18;rw[a4a _ (by rw[z8];exact hl),d1G,b0F s hh];rcases a1a s.S hh with ⟨i,hf,e⟩ | ⟨hf,e⟩
 ·rw[e];have hi:=hf.1;simp only[d1G,bne_self_eq_false,Bool.false_eq_true,if_false];rw[b7v (by rw[z8];exact hi),n7 hi];simp only[d1G,plc,sO,List.getElem_map,cO];split;·rfl
  ·simp only[d1G,bne_self_eq_false,Bool.false_eq_true,if_false];rw[n7 (by simpa using hi)];simp[cO,oo]
 ·rw[e];simp only[d1G];have hne:((if h=0 then 2 else 3:Int) != 0)=true:=by simpa using a2l h
  simp only[hne,if_true,d1G];rfl
end Go.Sh
namespace Go.Sh
theorem c4n{s:a7}(hR:RtR (sO s)){l:List Int}(hl:∀x∈l,x∈lv s)(hn:l.length≤100) :
  ∃m,a85 (sO s) l=some m∧m.Perm l∧m.Pairwise (λa b=>sk s.S.a8 a≤sk s.S.a8 b):=by
 have hfind:∀x∈l,∃i:Nat,∃hi:i<s.S.a8.length,N5 (pl (sO s)) x=some ((i:Int),0)∧s.S.a8[i].Val.Serial=sk s.S.a8 x:=λx hx=>by
  obtain⟨i,hi,_,_,hf,h4,_⟩:=a4J hR ((b0K hR).1 (hl x hx));refine⟨i,hi,?_,h4.symm⟩;rw[b0F s (by have:=b2L hf.2.1;omega),a7D hf]
 unfold a85;rw[J2 (by omega) (by omega),d1G];simp only[jn];let K:List Int→Nat→Int:=λo a=>sk s.S.a8 (o.getD a 0)
 have hplain:=a4a (sO s) (by rw[z8];have:=a1r hR;omega);have inner:∀(n:Nat) (o:List Int),n<l.length→o.Perm l→(∀a b,a<b→b≤n→b≠n→K o a≤K o b) →
   ∃o',lp (S:=Int × (List Int)) (E:=(List Int)) (λ((s58,s59):Int × (List Int))=>
      if (decide (s58 > 0)) then
       (Q9 (sO s)).bind λv62=>
       (ix s59 (s6 (s58-1))).bind λv63=>
       (N5 v62 v63).bind λv64=>
       (ix s59 s58).bind λv65=>
       (N5 v62 v65).bind λv66=>
       (y8 (((decide (v64.1<0))||(decide (v66.1<0)))==false) (⟨0,0,⟨0,0,0,0,false,[]⟩⟩:F5) (ix (sO s).a8 v64.1)).bind λv67=>
       (y8 (((decide (v64.1<0))||(decide (v66.1<0)))==false) (⟨0,0,⟨0,0,0,0,false,[]⟩⟩:F5) (ix (sO s).a8 v66.1)).bind λv68=>
       if (((decide (v64.1<0))||(decide (v66.1<0)))||(decide (v67.Val.Serial≤v68.Val.Serial))) then
        some (.inr s59)
       else
       (ix (s59.set (s58).toNat v63) (s6 (s58-1))).bind λv69=>
       some (.inl (s6 (s58-1),((s59.set (s58).toNat v63).set (s6 (s58-1)).toNat v65)))
      else
      some (.inr s59)) ((n:Int),o)=some o'∧o'.Perm l∧∀a b,a<b→b≤n→K o' a≤K o' b:=by
  intro n o hn' hp hk;have hbn:(n:Int).toNat<4611686018427387904:=by rw[Int.toNat_natCast];omega
  refine a8Z (s0:=((n:Int),o)) (λq=>∃k:Nat,q.1=(k:Int)∧k≤n∧q.2.Perm l∧∀a b,a<b→b≤n→b≠k→K q.2 a≤K q.2 b) (λo'=>o'.Perm l∧∀a b,a<b→b≤n→K o' a≤K o' b) (λq=>q.1.toNat) ⟨n,rfl,Nat.le_refl _,hp,hk⟩ hbn ?_;rintro⟨_,o⟩ ⟨k,rfl,hkn,hp,hk⟩;simp only at hp hk ⊢;have hol:o.length=l.length:=hp.length_eq;rcases Nat.eq_zero_or_pos k with rfl | hpos
  ·right;refine⟨o,by rw[if_neg (by simp)],hp,λa b h1 h2=>hk a b h1 h2 (by omega)⟩
  ·obtain⟨j,rfl⟩:∃j,k=j+1:=⟨k-1,by omega⟩;have hj1:j+1<o.length:=by omega
   have hj:j<o.length:=by omega
   have ew:s6 (((j+1:Nat):Int)-1)=(j:Int):=by rw[B8 (by omega) (by omega)];omega
   obtain⟨ia,hia,fa,ka⟩:=hfind o[j] (hp.mem_iff.1 (List.getElem_mem hj));obtain⟨ib,hib,fb,kb⟩:=hfind o[j+1] (hp.mem_iff.1 (List.getElem_mem hj1));have ea:ix (sO s).a8 (ia:Int)=some (cO s.S.a8[ia]):=by rw[c0C,n7 hia];rfl
   have eb:ix (sO s).a8 (ib:Int)=some (cO s.S.a8[ib]):=by rw[c0C,n7 hib];rfl
   have hneg:((decide ((ia:Int)<0))||(decide ((ib:Int)<0)))=false:=by simp
   have hpos':decide (((j+1:Nat):Int) > 0)=true:=by simp
   simp only[hpos',if_true,hplain,ew,n7 hj,n7 hj1,d1G,fa,fb,hneg,beq_self_eq_true,a2S,ea,eb,Bool.false_or,cO,oo,ka,kb,Int.toNat_natCast];have Kj:K o j=sk s.S.a8 o[j]:=by simp[K,List.getD,List.getElem?_eq_getElem hj]
   have Kj1:K o (j+1)=sk s.S.a8 o[j+1]:=by simp[K,List.getD,List.getElem?_eq_getElem hj1]
   by_cases hle:sk s.S.a8 o[j]≤sk s.S.a8 o[j+1]
   ·right;refine⟨o,by rw[if_pos (by simpa using hle)],hp,λa b h1 h2=>?_⟩;by_cases e:b=j+1
    ·subst e;rcases Nat.lt_or_ge a j with q | q
     ·have:=hk a j q (by omega) (by omega);omega
     ·have:a=j:=by omega
      subst this;omega
    ·exact hk a b h1 h2 e
   ·left;refine⟨_,by rw[if_neg (by simpa using hle),n7 (by simpa using hj)];rfl,⟨j,rfl,by omega,?_,λa b h1 h2 h3=>?_⟩,by show (j:Int).toNat<((j+1:Nat):Int).toNat;omega⟩;·exact (List.set_set_perm hj1 hj).trans hp
    ·have hK:∀c,K ((o.set (j+1) o[j]).set j o[j+1]) c=if c=j then K o (j+1) else if c=j+1 then K o j else K o c:=λc=>by
      simp only[K,List.getD,List.getElem?_set,List.length_set];by_cases c1:c=j
      ·subst c1;simp[hj,List.getElem?_eq_getElem hj1]
      ·by_cases c2:c=j+1
       ·subst c2;simp[hj1,List.getElem?_eq_getElem hj]
       ·rw[if_neg (by omega),if_neg (by omega),if_neg c1,if_neg c2]
     show K ((o.set (j+1) o[j]).set ((j:Nat):Int).toNat o[j+1]) a≤K ((o.set (j+1) o[j]).set ((j:Nat):Int).toNat o[j+1]) b;rw[Int.toNat_natCast,hK,hK];by_cases a1:a=j
     ·subst a1;rw[if_pos rfl];by_cases b2:b=a+1
      ·subst b2;rw[if_neg (by omega),if_pos rfl];omega
      ·rw[if_neg (by omega),if_neg b2];exact hk (a+1) b (by omega) h2 b2
     ·rw[if_neg a1];by_cases a2:a=j+1
      ·subst a2;rw[if_pos rfl,if_neg (by omega),if_neg (by omega)];exact hk j b (by omega) h2 (by omega)
      ·rw[if_neg a2,if_neg h3];by_cases b2:b=j+1
       ·subst b2;rw[if_pos rfl];exact hk a j (by omega) (by omega) (by omega)
       ·rw[if_neg b2];exact hk a b h1 h2 b2
 have outer:∃m,(lp (S:=Int × (List Int)) (E:=(List Int)) (λ((s38,s39):Int × (List Int))=>
   if (decide (s38<(s39.length:Int))) then
     (lp (S:=Int × (List Int)) (E:=(List Int)) (λ((s58,s59):Int × (List Int))=>
      if (decide (s58 > 0)) then
       (Q9 (sO s)).bind λv62=>
       (ix s59 (s6 (s58-1))).bind λv63=>
       (N5 v62 v63).bind λv64=>
       (ix s59 s58).bind λv65=>
       (N5 v62 v65).bind λv66=>
       (y8 (((decide (v64.1<0))||(decide (v66.1<0)))==false) (⟨0,0,⟨0,0,0,0,false,[]⟩⟩:F5) (ix (sO s).a8 v64.1)).bind λv67=>
       (y8 (((decide (v64.1<0))||(decide (v66.1<0)))==false) (⟨0,0,⟨0,0,0,0,false,[]⟩⟩:F5) (ix (sO s).a8 v66.1)).bind λv68=>
       if (((decide (v64.1<0))||(decide (v66.1<0)))||(decide (v67.Val.Serial≤v68.Val.Serial))) then
        some (.inr s59)
       else
       (ix (s59.set (s58).toNat v63) (s6 (s58-1))).bind λv69=>
       some (.inl (s6 (s58-1),((s59.set (s58).toNat v63).set (s6 (s58-1)).toNat v65)))
      else
      some (.inr s59)) (s38,s39)).bind λe57=>
     some (.inl (s6 (s38+1),e57))
   else
   some (.inr s39)) (1,l))=some m∧m.Perm l∧m.Pairwise (λa b=>sk s.S.a8 a≤sk s.S.a8 b):=by
  have hb1:l.length+1-(1:Int).toNat<4611686018427387904:=by omega
  refine a8Z (s0:=((1:Int),l)) (λq=>∃k:Nat,q.1=(k:Int)∧(k≤l.length∨k=1)∧1≤k∧q.2.Perm l∧∀a b,a<b→b<k→K q.2 a≤K q.2 b) (λ(o':List Int)=>o'.Perm l∧o'.Pairwise (λa b=>sk s.S.a8 a≤sk s.S.a8 b)) (λq=>l.length+1-q.1.toNat) ⟨1,rfl,.inr rfl,by omega,List.Perm.refl _,λa b h1 h2=>by omega⟩ hb1 ?_;rintro⟨_,o⟩ ⟨k,rfl,hkl,hk1,hp,hk⟩;simp only at hp hk ⊢;have hol:o.length=l.length:=hp.length_eq;rcases Nat.lt_or_ge k l.length with h1 | h1
  ·left;obtain⟨o',e1,e2,e3⟩:=inner k o h1 hp λa b x1 x2 x3=>hk a b x1 (by omega);refine⟨(((k+1:Nat):Int),o'),?_,⟨k+1,rfl,by omega,by omega,e2,λa b x1 x2=>e3 a b x1 (by omega)⟩,by show l.length+1-((k+1:Nat):Int).toNat<l.length+1-(k:Int).toNat;omega⟩;rw[if_pos (by simp;omega),e1,d1G,k8 (by omega)]
  ·right;refine⟨o,by rw[if_neg (by simp;omega)],hp,?_⟩;rw[List.pairwise_iff_getElem];intro i j hi hj hij;have:=hk i j hij (by omega);simpa[K,List.getD,List.getElem?_eq_getElem hi,List.getElem?_eq_getElem hj] using this
 obtain⟨m,e1,e2,e3⟩:=outer;exact⟨m,by rw[show lp _ _=_ from e1];rfl,e2,e3⟩
theorem a8Y{s:a7}(hR:RtR (sO s)):a1o (sO s)=some (lv s):=by
 have hlen:=a1r hR;unfold a1o;simp only[jn];have hloop:lp (S:=Int × (List Int)) (E:=(List Int)) (λ((s18,s19):Int × (List Int))=>
   if (decide (s18<((sO s).a8.length:Int))) then
     (ix (sO s).a8 s18).bind λv27=>
     if (v27.State==1) then
      (a4R s18 v27.Gen).bind λv28=>
      (app 8 s19 [v28]).bind λv29=>
      some (.inl (s6 (s18+1),v29))
     else
     some (.inl (s6 (s18+1),s19))
   else
   some (.inr s19)) (0,[])=some (V5 0 s.S.a8):=by
  refine a4f (a2G (T:=List Int) s.S.a8.length (λk l=>l=V5 0 (s.S.a8.take k)) (λe=>e=V5 0 s.S.a8) (by omega) (by simp[V5]) (λk l hk hP=>?_) (λl hP=>?_))
  ·subst hP;left;have hc:=(b6f hR).gen k hk;have hl:=a4K 0 (s.S.a8.take k);have et:s.S.a8.take (k+1)=s.S.a8.take k ++ [s.S.a8[k]]:=by rw[List.take_add_one,List.getElem?_eq_getElem hk];rfl
   have el:(s.S.a8.take k).length=k:=by simp;omega
   refine⟨_,?_,rfl⟩;simp only[z8,Int.ofNat_lt,hk,decide_true,if_true,c0C,n7 hk,Option.map_some,d1G,cO];rw[et,a7H,el,Nat.zero_add];by_cases q:s.S.a8[k].State=1
   ·rw[if_pos (by simpa using q),if_pos q,a6Z,d1G,if_pos (by omega),x8 (by omega) (by simp;omega),d1G,k8]
   ·rw[if_neg (by simpa using q),if_neg q,k8,List.append_nil]
  ·subst hP;refine⟨_,by simp only[z8,Int.lt_irrefl,decide_false,Bool.false_eq_true,if_false];rfl,by simp⟩
 rw[show lp _ _=_ from hloop,d1G];obtain⟨m,h1,h2,h3⟩:=c4n hR (l:=V5 0 s.S.a8) (λx hx=>(b0K hR).2 hx) (by have:=a4K 0 s.S.a8;omega);rw[h1,d1G];congr 1;obtain⟨_,l2,l3⟩:=a5C hR;exact a52 (key:=sk s.S.a8) (h2.trans l2.symm) h3 (l3.imp λh=>by omega) λa ha b hb e=>b6m hR (h2.mem_iff.1 ha) (h2.mem_iff.1 hb) e
end Go.Sh
namespace Go.Sh
theorem b7n(v:List Int)(h:v.length≤1000000):a3l v=some (nz v):=by
 unfold a3l a79;simp only[jn,d1G];rw[D3 v (λb x=>if x != 0 then b ++ [x] else b) id (λk b=>b.length≤k) (by omega) (by simp) (λk hk b hb=>?_) (λb _=>?_)]
 ·simp only[d1G,id];rw[foldl_filter];rfl
 ·simp only[Int.ofNat_lt,hk,decide_true,if_true,n7 hk,d1G];by_cases q:(v[k] != 0)=true
  ·rw[if_pos (by simpa using q),if_pos q,x8 (by omega) (by simp;omega),d1G,k8];exact⟨rfl,by simp;omega⟩
  ·rw[if_neg (by simpa using q),if_neg q,k8];exact⟨rfl,by omega⟩
 ·simp only[Int.lt_irrefl,decide_false,Bool.false_eq_true,if_false];rfl
theorem b2W(v:List Int)(h:v.length≤1000000):a3d v=some (nz v):=by
 unfold a3d;simp only[jn];rw[D3 v (λb x=>if x != 0 then b ++ [x] else b) id (λk b=>b.length≤k) (by omega) (by simp) (λk hk b hb=>?_) (λb _=>?_)]
 ·simp only[d1G,id];rw[foldl_filter];rfl
 ·simp only[Int.ofNat_lt,hk,decide_true,if_true,n7 hk,d1G];by_cases q:(v[k] != 0)=true
  ·rw[if_pos q,if_pos q,x8 (by omega) (by simp;omega),d1G,k8];exact⟨rfl,by simp;omega⟩
  ·rw[if_neg q,if_neg q,k8];exact⟨rfl,by omega⟩
 ·simp only[Int.lt_irrefl,decide_false,Bool.false_eq_true,if_false];rfl
theorem a9a(l:List Int)(h:Int)(hl:l.length≤1000000):a3f l h=some (V7 l h:Int):=by
 unfold a3f;simp only[jn];rw[b4z l (λ(b:Int) x=>if (x==h&&h != 0) then b+1 else b) id (λk b=>0≤b∧b≤k) (by omega) (by simp) (λk hk b hb=>?_) (λb _=>?_)]
 ·simp only[d1G,id];rw[b1q];simp
 ·simp only[Int.ofNat_lt,hk,decide_true,if_true,n7 hk,d1G];by_cases q:(l[k]==h&&h != 0)=true
  ·rw[if_pos q,if_pos q,k8,B8 (n:=b+1) (by omega) (by omega)];exact⟨rfl,by omega⟩
  ·rw[if_neg q,if_neg q,k8];exact⟨rfl,by omega⟩
 ·simp only[Int.lt_irrefl,decide_false,Bool.false_eq_true,if_false];rfl
noncomputable def inn(s:a7)(h:Int):Nat:=((lv s).map λx=>V7 (outs s x) h).sum
theorem b96{s:a7}(hR:RtR (sO s)){k:Nat}(hk:k<(lv s).length):(lv s)[k]≤9223372036854775807:=by
 have:=a4s hR (List.getElem_mem hk);omega
section
variable{s:a7}(hR:RtR (sO s))
include hR
theorem c3M{h:Int}(hh:h≤9223372036854775807):a4U s h=some (outs s h):=by
 obtain⟨e,h1,_⟩:=O3 hR hh;unfold a4U;rw[h1,d1G,b7n _ (by have:=b5N hR h hh;simp only;omega)];rfl
theorem b7r{h:Int}(hh:h≤9223372036854775807):b2b (sO s) h=some (outs s h):=by
 unfold b2b;rw[a4G s (by have:=a1r hR;omega) hh];obtain⟨e,h1,h2⟩:=O3 hR hh;rw[h1];simp only[Option.map_some,d1G];by_cases q:e=0
 ·subst q;rw[if_neg (by simp),b2W _ (by have:=b5N hR h hh;simp only[oo];omega)];rfl
 ·rw[if_pos (by simpa using q),c0f hR hh (λq'=>q (h2.2 q'))]
theorem b8M(h:Int):inn s h≤96:=by
 have:=b6r (λx=>V7 (outs s x) h) 4 (lv s) λx hx=>Nat.le_trans (b9p _ _) (a4O hR x (by have:=a4s hR hx;omega));have:=E3 hR;unfold inn;omega
theorem c9R(h:Int):b2e s h=some (inn s h:Int):=by
 unfold b2e a5S;simp only[jn,d1G];rw[show C1 s=_ from a2b hR,d1G];have hl:=E3 hR;rw[D3 (lv s) (λ(b:Int) x=>b+(V7 (outs s x) h:Int)) id (λk b=>0≤b∧b≤4*k) (by omega) (by simp) (λk hk b hb=>?_) (λb _=>?_)]
 ·simp only[d1G,id];have:=a8U (λx=>V7 (outs s x) h) (lv s) 0;rw[show ((0:Nat):Int)=0 from rfl] at this;rw[this,Nat.zero_add];rfl
 ·have ho:=c3M hR (b96 hR hk);have hol:=a4O hR _ (b96 hR hk);have ht:=b9p (outs s (lv s)[k]) h;simp only[Int.ofNat_lt,hk,decide_true,if_true,n7 hk,d1G,ho];rw[D3 (outs s (lv s)[k]) (λ(b:Int) x=>if (x==h&&h != 0) then b+1 else b) id (λj c=>b≤c∧c≤b+j) (by omega) (by simp) (λj hj c hc=>?_) (λc _=>?_)]
  ·simp only[d1G,id];rw[b1q,k8];exact⟨rfl,by omega⟩
  ·simp only[Int.ofNat_lt,hj,decide_true,if_true,n7 hj,d1G];have hne:=c53 (List.getElem_mem hj);by_cases q:(outs s (lv s)[k])[j]=h
   ·have e2:((outs s (lv s)[k])[j]==h&&h != 0)=true:=by simp only[Bool.and_eq_true,beq_iff_eq,bne_iff_ne];omega
    rw[e2,if_pos (by simpa using q),if_pos rfl,k8,B8 (n:=c+1) (by omega) (by omega)];exact⟨rfl,by omega⟩
   ·have e2:((outs s (lv s)[k])[j]==h&&h != 0)=false:=by rw[Bool.eq_false_iff];simp only[ne_eq,Bool.and_eq_true,beq_iff_eq,bne_iff_ne];omega
    rw[e2,if_neg (by simpa using q),k8];exact⟨rfl,by simp;omega⟩
  ·simp only[Int.lt_irrefl,decide_false,Bool.false_eq_true,if_false];rfl
 ·simp only[Int.lt_irrefl,decide_false,Bool.false_eq_true,if_false];rfl
theorem c5x(h:Int):b88 (sO s) h=some (inn s h:Int):=by
 unfold b88;simp only[jn,a8Y hR,d1G];have hl:=E3 hR;rw[b4z (lv s) (λ(b:Int) x=>b+(V7 (outs s x) h:Int)) id (λk b=>0≤b∧b≤4*k) (by omega) (by simp) (λk hk b hb=>?_) (λb _=>?_)]
 ·simp only[d1G,id];have:=a8U (λx=>V7 (outs s x) h) (lv s) 0;rw[show ((0:Nat):Int)=0 from rfl] at this;rw[this,Nat.zero_add];rfl
 ·have hol:=a4O hR _ (b96 hR hk);have ht:=b9p (outs s (lv s)[k]) h;simp only[Int.ofNat_lt,hk,decide_true,if_true,n7 hk,d1G,b7r hR (b96 hR hk)];rw[a9a _ _ (by omega),d1G,k8,B8 (by omega) (by omega)];exact⟨rfl,by omega⟩
 ·simp only[Int.lt_irrefl,decide_false,Bool.false_eq_true,if_false];rfl
end
end Go.Sh
namespace Go.Sh
section
variable{s:a7}(hR:RtR (sO s))(hF:FB s)
include hR hF
end
theorem a9s{α:Type}(p:α→Bool):∀l:List α,l.length=(l.filter p).length+(l.filter λx => !p x).length
 | []=>rfl
 | x::l=>by
  have:=a9s p l;by_cases h:p x
  ·simp[h];omega
  ·simp[h];omega
theorem c9S{s:a7}(hR:RtR (sO s)){l:List Int}(hp:l.Perm (V5 0 s.S.a8))(hs:l.Pairwise (λa b=>sk s.S.a8 a<sk s.S.a8 b)):lv s=l:=by
 obtain⟨_,l2,l3⟩:=a5C hR;exact a52 (key:=sk s.S.a8) (l2.trans hp.symm) (l3.imp λh=>by omega) (hs.imp λh=>by omega) λa ha b hb e=>b6m hR (l2.mem_iff.1 ha) (l2.mem_iff.1 hb) e
end Go.Sh
namespace Go.Sh
inductive Rch (s:a7) (l:List Int):Int→Prop
 | base {h:Int}:h∈l→h∈lv s→Rch s l h
 | step {a b:Int}:Rch s l a→b∈outs s a→b∈lv s→Rch s l b
open Classical in
noncomputable def rcd (s:a7) (l:List Int):List Int:=(lv s).filter λh=>decide (Rch s l h)
open Classical in
noncomputable def M3 (s:a7) (l:List Int):List Int:=(lv s).filter λh=>decide (¬Rch s l h)
def Cl(s:a7)(l:List Int):Prop:=∀a∈l,∀b∈outs s a,b∈lv s→b∈l
def LB(l:List Int):Prop:=∀x∈l,x≤9223372036854775807
theorem Rch.live{s:a7}{l:List Int}{h:Int}(q:Rch s l h):h∈lv s:=by cases q <;> assumption
open Classical in
theorem W5 {s:a7} {l:List Int} {h:Int}:h∈rcd s l↔Rch s l h:=by
 unfold rcd;rw[List.mem_filter];exact⟨λq=>of_decide_eq_true q.2,λq=>⟨q.live,decide_eq_true q⟩⟩
theorem c0n{s:a7}(hR:RtR (sO s))(l:List Int):(rcd s l).length≤24:=Nat.le_trans (List.length_filter_le ..) (E3 hR)
theorem c8W(s:a7)(l:List Int):Cl s (rcd s l):=λa ha b hb hl=>W5.2 (.step (W5.1 ha) hb hl)
theorem Rch.least{s:a7}{l m:List Int}(hc:Cl s m)(hl:∀x∈l,x∈lv s→x∈m){h:Int}(q:Rch s l h):h∈m:=by
 induction q with
 | base h1 h2=>exact hl _ h1 h2
 | step _ h1 h2 ih=>exact hc _ ih _ h1 h2
theorem Rch.mono{s:a7}{l m:List Int}(hl:∀x∈l,x∈lv s→Rch s m x){h:Int}(q:Rch s l h):Rch s m h:=by
 induction q with
 | base h1 h2=>exact hl _ h1 h2
 | step _ h1 h2 ih=>exact .step ih h1 h2
theorem b4K{s:a7}{l m:List Int}(h:∀x,Rch s l x↔Rch s m x):rcd s l=rcd s m:=by
 unfold rcd;exact List.filter_congr λx _=>decide_eq_decide.2 (h x)
theorem filter_lt{α:Type}{p q:α→Bool}:∀ {l:List α},(∀x∈l,p x=true→q x=true)→∀x∈l,q x=true→p x=false→(l.filter p).length<(l.filter q).length
 | [],_,x,hx,_,_=>by cases hx
 | y::l,h,x,hx,h1,h2=>by
  have hle:(l.filter p).length≤(l.filter q).length:=by
   have h':∀x∈l,p x=true→q x=true:=λx hx=>h x (List.mem_cons_of_mem _ hx);clear h hx;induction l with
   | nil=>simp
   | cons z l ih=>
    have:=ih λx hx=>h' x (List.mem_cons_of_mem _ hx);have hz:=h' z (List.mem_cons_self ..);simp only[List.filter_cons];by_cases a:p z=true
    ·rw[if_pos a,if_pos (hz a)];simp only[List.length_cons];omega
    ·rw[if_neg a];split <;> (try simp only[List.length_cons]) <;> omega
  rcases List.mem_cons.1 hx with rfl | hx'
  ·simp only[List.filter_cons,h1,h2,if_true,Bool.false_eq_true,if_false,List.length_cons];omega
  ·have:=filter_lt (λx hx=>h x (List.mem_cons_of_mem _ hx)) x hx' h1 h2;have hy:=h y (List.mem_cons_self ..);simp only[List.filter_cons];by_cases a:p y=true
   ·rw[if_pos a,if_pos (hy a)];simp only[List.length_cons];omega
   ·rw[if_neg a];split <;> (try simp only[List.length_cons]) <;> omega
theorem a3y{l m:List Int}(hn:l.Nodup)(h:∀x∈l,x∈m):l.length≤m.length:=by
 induction l generalizing m with
 | nil=>simp
 | cons x l ih=>
  rw[List.nodup_cons] at hn;have hx:=h x (List.mem_cons_self ..);have:=ih (m:=m.erase x) hn.2 λy hy=>(List.mem_erase_of_ne (λe=>hn.1 (by subst e;exact hy))).2 (h y (List.mem_cons_of_mem _ hy));rw[List.length_erase_of_mem hx] at this;have:0<m.length:=List.length_pos_of_mem hx;simp only[List.length_cons];omega
section
variable{s:a7}(hR:RtR (sO s))
include hR
theorem c1f{h:Int}(hh:h≤9223372036854775807):Z1 s h=some (decide (h∈lv s)):=by
 obtain⟨e,h1,h2⟩:=O3 hR hh;unfold Z1;rw[h1,d1G];congr 1;rw[Bool.eq_iff_iff,beq_iff_eq,decide_eq_true_iff];exact h2
abbrev Mk(m:List (Int × Bool))(x:Int):Prop:=(y7 m x).getD false=true
noncomputable def unm(s:a7)(m:List (Int × Bool)):Nat:=((lv s).filter λx => !(y7 m x).getD false).length
omit hR in
theorem b0O (m:List (Int × Bool)) (x y:Int):Mk (n8 m x true) y↔y=x∨Mk m y:=by
 unfold Mk;rw[a7I];by_cases q:y=x
 ·simp[q]
 ·simp[q]
omit hR in
theorem c6y {m:List (Int × Bool)} {x:Int} (hx:x∈lv s) (hm:¬Mk m x):unm s (n8 m x true)<unm s m:=by
 unfold unm;refine filter_lt (λy _ h=>?_) x hx (by simpa[Mk] using hm) ?_
 ·by_cases q:Mk m y
  ·have:=(b0O m x y).2 (.inr q);unfold Mk at this;rw[this] at h;cases h
  ·simpa[Mk] using q
 ·have:=(b0O m x x).2 (.inl rfl);unfold Mk at this;rw[this];rfl
structure b8h (s:a7) (l:List Int) (q:g6) (m:List (Int × Bool)):Prop where
 nd:q.L.Nodup
 cap:q.Cap=((lv s).length:Int)
 mkd:∀x∈q.L,Mk m x
 rc:∀x,Mk m x→Rch s l x
omit hR in
theorem b8h.room {l:List Int} {q:g6} {m:List (Int × Bool)} (h:b8h s l q m) {x:Int} (hx:x∈lv s) (hm:¬Mk m x):q.L.length<(lv s).length:=by
 have:(x::q.L).length≤(lv s).length:=a3y (List.nodup_cons.2 ⟨λk=>hm (h.mkd x k),h.nd⟩) λy hy=>by
  rcases List.mem_cons.1 hy with rfl | k
  ·exact hx
  ·exact (h.rc y (h.mkd y k)).live
 simp only[List.length_cons] at this;omega
omit hR in
theorem c58 {q:g6} {x:Int} (h:(q.L.length:Int)<q.Cap) (h2:q.L.length≤1000):L7 q x=some (⟨q.L ++ [x],q.Cap⟩,0):=by
 unfold L7 I1 L8;rw[d1G,if_neg (by simp;omega)];have:=a8S (xs:=q.L) (i:=0) (j:=q.L.length) (by omega) (Nat.le_refl _);rw[show ((0:Nat):Int)=0 from rfl] at this;rw[this];simp only[List.take_length,List.drop_zero,d1G];rw[x8 (by omega) (by simp;omega)];rfl
omit hR in
theorem c8K {x:Int} {r:List Int} {c:Int} (h2:r.length≤1000):a0r ⟨x::r,c⟩=some (⟨r,c⟩,x,0):=by
 unfold a0r a2K I1 L8;simp only[d1G,List.length_cons];have e:(if (if (((r.length+1:Nat):Int))<1 then (((r.length+1:Nat):Int)) else 1) > 0 then (if (((r.length+1:Nat):Int))<1 then (((r.length+1:Nat):Int)) else 1) else 0:Int)=((1:Nat):Int):=by
  rw[if_neg (show ¬(((r.length+1:Nat):Int)<1) by omega)];rfl
 rw[e];have h1:=a8S (xs:=x::r) (i:=0) (j:=1) (by omega) (by simp);have h3:=a8S (xs:=x::r) (i:=1) (j:=r.length+1) (by omega) (by simp);rw[show ((0:Nat):Int)=0 from rfl] at h1;rw[h1,h3];simp only[d1G];have e1:List.drop 0 (List.take 1 (x::r)) = [x]:=by simp
 have e2:List.drop 1 (List.take (r.length+1) (x::r))=r:=by simp
 rw[e1,e2];rfl
abbrev b7y(s:a7)(xs:List Int):Int × g6 × (List (Int × Bool))→Option ((Int × g6 × (List (Int × Bool))) ⊕ (g6 × (List (Int × Bool)))):=
 λ(s114,s115,s116)=>
   if (decide (s114<(xs.length:Int))) then
     (ix xs s114).bind λv126=>
     (Z1 s v126).bind λv127=>
     if (v127==true) then
      if (!((y7 s116 v126).getD (false:Bool))) then
       (L7 s115 v126).bind λv128=>
       some (.inl (s6 (s114+1),v128.1,(n8 s116 v126 true)))
      else
      some (.inl (s6 (s114+1),s115,s116))
     else
     some (.inl (s6 (s114+1),s115,s116))
   else
   some (.inr (s115,s116))
theorem b4I{l xs:List Int}{q:g6}{m:List (Int × Bool)}(hxs:LB xs)(hlen:xs.length≤1000000)(h0:b8h s l q m)(hr:∀x∈xs,x∈lv s→Rch s l x) :
  ∃q' m',lp (b7y s xs) (0,q,m)=some (q',m')∧b8h s l q' m'∧(∀x,Mk m' x↔Mk m x∨x∈xs∧x∈lv s)∧(∀x,Mk m' x→Mk m x∨x∈q'.L)∧(∀x∈q.L,x∈q'.L)∧2*unm s m'+q'.L.length≤2*unm s m+q.L.length:=by
 have:=a2G (f:=b7y s xs) (t0:=(q,m)) xs.length (λk t=>b8h s l t.1 t.2∧(∀x,Mk t.2 x↔Mk m x∨x∈xs.take k∧x∈lv s)∧(∀x,Mk t.2 x→Mk m x∨x∈t.1.L)∧(∀x∈q.L,x∈t.1.L)∧2*unm s t.2+t.1.L.length≤2*unm s m+q.L.length)
  (λt=>b8h s l t.1 t.2∧(∀x,Mk t.2 x↔Mk m x∨x∈xs∧x∈lv s)∧(∀x,Mk t.2 x→Mk m x∨x∈t.1.L)∧(∀x∈q.L,x∈t.1.L)∧2*unm s t.2+t.1.L.length≤2*unm s m+q.L.length) (by omega)
  ⟨h0,λx=>by simp,λx h=>.inl h,λx h=>h,Nat.le_refl _⟩ (λk t hk hP=>?_) (λt hP=>?_)
 ·obtain⟨⟨q',m'⟩,h1,h2⟩:=this;exact⟨q',m',h1,h2⟩
 ·obtain⟨q1,m1⟩:=t;obtain⟨p1,p2,p3,p4,p5⟩:=hP;simp only at p1 p2 p3 p4 p5;left;have hle:=hxs _ (List.getElem_mem hk);have ht:∀x,x∈xs.take (k+1)↔x∈xs.take k∨x=xs[k]:=λx=>by rw[List.take_succ_eq_append_getElem hk,List.mem_append,List.mem_singleton]
  simp only[b7y,Int.ofNat_lt,hk,decide_true,if_true,n7 hk,d1G,c1f hR hle];by_cases hv:xs[k]∈lv s
  ·rw[if_pos (by simpa using hv)];by_cases hm:Mk m1 xs[k]
   ·rw[if_neg (by rw[show (y7 m1 xs[k]).getD false=true from hm];decide),k8];refine⟨(q1,m1),rfl,p1,λx=>?_,p3,p4,p5⟩;rw[p2,ht];constructor
    ·rintro (a | ⟨a,b⟩);·exact .inl a
     ·exact .inr ⟨.inl a,b⟩
    ·rintro (a | ⟨a | rfl,b⟩);·exact .inl a
     ·exact .inr ⟨a,b⟩
     ·exact (p2 _).1 hm
   ·have hm':(y7 m1 xs[k]).getD false=false:=by simpa[Mk] using hm
    have hroom:=p1.room hv hm;have hl24:=E3 hR;rw[if_pos (by rw[hm'];decide),c58 (by rw[p1.cap];omega) (by omega),d1G,k8];refine⟨(⟨q1.L ++ [xs[k]],q1.Cap⟩,n8 m1 xs[k] true),rfl,⟨?_,p1.cap,λx hx=>?_,λx hx=>?_⟩,λx=>?_,λx hx=>?_,λx hx=>?_,?_⟩
    ·simp only;rw[List.nodup_append];refine⟨p1.nd,by simp,λa ha b hb e=>?_⟩;rw[List.mem_singleton] at hb;subst hb;subst e;exact hm (p1.mkd _ ha)
    ·simp only[List.mem_append,List.mem_singleton] at hx;rw[b0O];rcases hx with a | a
     ·exact .inr (p1.mkd x a)
     ·exact .inl a
    ·rcases (b0O m1 xs[k] x).1 hx with rfl | a
     ·exact hr _ (List.getElem_mem hk) hv
     ·exact p1.rc x a
    ·simp only;rw[b0O,p2,ht];constructor
     ·rintro (rfl | a | ⟨a,b⟩);·exact .inr ⟨.inr rfl,hv⟩
      ·exact .inl a
      ·exact .inr ⟨.inl a,b⟩
     ·rintro (a | ⟨a | a,b⟩);·exact .inr (.inl a)
      ·exact .inr (.inr ⟨a,b⟩)
      ·exact .inl a
    ·simp only[List.mem_append,List.mem_singleton];rcases (b0O m1 xs[k] x).1 hx with a | a
     ·exact .inr (.inr a)
     ·rcases p3 x a with b | b
      ·exact .inl b
      ·exact .inr (.inl b)
    ·simp only[List.mem_append];exact .inl (p4 x hx)
    ·have:=c6y hv hm;simp only[List.length_append,List.length_singleton];omega
  ·rw[if_neg (by simpa using hv),k8];refine⟨(q1,m1),rfl,p1,λx=>?_,p3,p4,p5⟩;rw[p2,ht];constructor
   ·rintro (a | ⟨a,b⟩);·exact .inl a
    ·exact .inr ⟨.inl a,b⟩
   ·rintro (a | ⟨a | rfl,b⟩);·exact .inl a
    ·exact .inr ⟨a,b⟩
    ·exact absurd b hv
 ·obtain⟨q1,m1⟩:=t;refine⟨(q1,m1),?_,?_⟩;·simp only[b7y,Int.lt_irrefl,decide_false,Bool.false_eq_true,if_false]
  ·simpa using hP
theorem b4S(hF:FB s){l:List Int}(hl:LB l)(hlen:l.length≤1000000):∃m,a1p s l=some m∧∀x,Mk m x↔Rch s l x:=by
 unfold a1p a2e;simp only[jn,a2b hR,d1G];have h24:=E3 hR;obtain⟨q0,m0,e0,i0,i1,i2,i3,i4⟩:=b4I hR (l:=l) (xs:=l) (q:=⟨[],((lv s).length:Int)⟩) (m:=[]) hl hlen ⟨List.nodup_nil,rfl,(λx hx=>by cases hx),(λx hx=>by simp[Mk,y7] at hx)⟩ (λx h1 h2=>.base h1 h2);rw[show lp _ _=_ from e0,d1G];simp only;have hu:unm s []≤24:=Nat.le_trans (List.length_filter_le ..) h24;obtain⟨m,h1,h2⟩:=a8Z (s0:=(q0,m0)) (f:=λ((s70,s71):g6 × (List (Int × Bool)))=>
    (I1 s70).bind λv74=>
    if (decide (v74 > 0)) then
     (a0r s70).bind λv75=>
     (a4U s v75.2.1).bind λv76=>
      (lp (b7y s v76) (0,v75.1,s71)).bind λe97=>
      (some (.inl (e97.1,e97.2)):Option ((g6 × List (Int × Bool)) ⊕ List (Int × Bool)))
    else
    some (.inr s71)) (λt=>b8h s l t.1 t.2∧(∀x∈l,x∈lv s→Mk t.2 x)∧∀a,Mk t.2 a→a∈t.1.L∨∀b∈outs s a,b∈lv s→Mk t.2 b) (λm=>∀x,Mk m x↔Rch s l x) (λt=>2*unm s t.2+t.1.L.length)
   ⟨i0,λx h1 h2=>(i1 x).2 (.inr ⟨h1,h2⟩),λa ha=>.inl ((i2 a ha).resolve_left (by simp[Mk,y7]))⟩ (by show 2*unm s m0+q0.L.length<_;simp only[List.length_nil] at i4;omega) (by
   rintro⟨q,m⟩ ⟨p1,p2,p3⟩;simp only at p1 p2 p3 ⊢;have hq:=a3y p1.nd λx hx=>(p1.rc x (p1.mkd x hx)).live;unfold I1;rw[d1G];cases hqL:q.L with
   | nil=>
    right;refine⟨m,by rw[if_neg (by simp)],λx=>⟨p1.rc x,λh=>?_⟩⟩;induction h with
    | base a b=>exact p2 _ a b
    | step _ a b ih=>
     rcases p3 _ ih with c | c
     ·rw[hqL] at c;cases c
     ·exact c _ a b
   | cons a r=>
    left;have hqe:q=⟨a::r,q.Cap⟩:=by rw[←hqL]
    have hal:a∈lv s:=(p1.rc a (p1.mkd a (by rw[hqL];exact List.mem_cons_self ..))).live;have ha:a≤9223372036854775807:=by have:=a4s hR hal;omega
    have hnd:=p1.nd;rw[hqL] at hnd hq;simp only[List.length_cons] at hq;obtain⟨q',m',e1,j0,j1,j2,j3,j4⟩:=b4I hR (l:=l) (xs:=outs s a) (q:=⟨r,q.Cap⟩) (m:=m) (λx hx=>c52 hR hF ha hx) (by have:=a4O hR a ha;omega) ⟨(List.nodup_cons.1 hnd).2,p1.cap,λx hx=>p1.mkd x (by rw[hqL];exact List.mem_cons_of_mem _ hx),p1.rc⟩ (λx h1 h2=>.step (p1.rc a (p1.mkd a (by rw[hqL];exact List.mem_cons_self ..))) h1 h2);refine⟨(q',m'),?_,⟨j0,λx h1 h2=>(j1 x).2 (.inl (p2 x h1 h2)),λb hb=>?_⟩,?_⟩
    ·rw[if_pos (by simp),hqe,c8K (by omega),d1G];simp only;rw[c3M hR ha,d1G,e1,d1G]
    ·simp only at hb ⊢;rcases j2 b hb with c | c
     ·rcases p3 b c with d | d
      ·rw[hqL] at d;rcases List.mem_cons.1 d with rfl | d
       ·exact .inr λy h1 h2=>(j1 y).2 (.inr ⟨h1,h2⟩)
       ·exact .inl (j3 b d)
      ·exact .inr λy h1 h2=>(j1 y).2 (.inl (d y h1 h2))
     ·exact .inl c
    ·show 2*unm s m'+q'.L.length<2*unm s m+(a::r).length;simp only[List.length_cons] at j4 ⊢;omega)
 refine⟨m,?_,h2⟩;rw[show lp _ _=_ from h1];rfl
end
end Go.Sh
namespace Go.Sh
theorem c27(l:List Int)(x:Int)(hl:l.length≤1000000):∃r:Int,N8 l x=some r∧(0≤r↔x∈l):=by
 unfold N8;simp only[jn];by_cases h:x∈l
 ·obtain⟨i,hi,e⟩:=List.mem_iff_getElem.1 h;obtain⟨j,⟨hj,ej⟩,hmin⟩:=a0C (p:=λi=>∃hi:i<l.length,l[i]=x) ⟨i,hi,e⟩;refine⟨(j:Int),?_,by simp[h]⟩;refine a1S l.length (λk=>k≤j) (by omega) (Nat.zero_le _) (λk hk hP=>?_) (λhP=>by omega);simp only[Int.ofNat_lt,hk,decide_true,if_true,n7 hk,d1G];rcases Nat.lt_or_ge k j with q | q
  ·refine .inl ⟨?_,q⟩;rw[if_neg (by
    rw[beq_iff_eq];intro e;have:=hmin k ⟨hk,e.symm⟩;omega),k8]
  ·have:k=j:=by omega
   subst this;exact .inr ⟨_,by rw[if_pos (by simpa using ej.symm)],rfl⟩
 ·refine⟨-1,?_,by simp[h]⟩;refine a1S l.length (λk=>True) (by omega) trivial (λk hk hP=>.inl ⟨?_,trivial⟩) (λhP=>⟨.inr (),by simp,rfl⟩);simp only[Int.ofNat_lt,hk,decide_true,if_true,n7 hk,d1G];rw[if_neg (by
   rw[beq_iff_eq];intro e;exact h (e▸List.getElem_mem hk)),k8]
theorem contains_eq(l:List Int)(x:Int)(hl:l.length≤1000000):C5 l x=some (decide (x∈l)):=by
 obtain⟨r,h1,h2⟩:=c27 l x hl;unfold C5;rw[h1,d1G];congr 1;exact decide_eq_decide.2 h2
theorem a9C(l:List Int)(x:Int)(hl:l.length≤1000000):a7M l x=some (decide (x≠0∧x∈l)):=by
 unfold a7M;rw[a9a l x hl,d1G];congr 1;rw[decide_eq_decide,←a1w];omega
open Classical in
theorem b7Y (all l:List Int) (b:Bool) (ha:all.length≤1000000) (hl:l.length≤1000000) (h0:∀x∈all,x≠0):a7N all l b=some (all.filter λx=>decide (x∈l)==b):=by
 unfold a7N;simp only[jn];rw[D3 all (λacc x=>if decide (x∈l)==b then acc ++ [x] else acc) id (λk acc=>acc.length≤k) (by omega) (by simp) (λk hk acc hb=>?_) (λb _=>?_)]
 ·simp only[d1G,id];rw[foldl_filter];rfl
 ·simp only[Int.ofNat_lt,hk,decide_true,if_true,n7 hk,d1G,a9C _ _ hl];have e:decide (all[k]≠0∧all[k]∈l)=decide (all[k]∈l):=decide_eq_decide.2 ⟨λq=>q.2,λq=>⟨h0 _ (List.getElem_mem hk),q⟩⟩;rw[e];by_cases q:(decide (all[k]∈l)==b)=true
  ·rw[if_pos q,if_pos q,x8 (by omega) (by simp;omega),d1G,k8];exact⟨rfl,by simp;omega⟩
  ·rw[if_neg q,if_neg q,k8];exact⟨rfl,by omega⟩
 ·simp only[Int.lt_irrefl,decide_false,Bool.false_eq_true,if_false];rfl
section
variable{s:a7}(hR:RtR (sO s))
include hR
theorem b97:∀x∈lv s,x≠0:=λx hx=>by have:=a4s hR hx;omega
open Classical in
theorem b9T (hF:FB s) {l:List Int} (hl:LB l) (hlen:l.length≤1000000):a3D s l=some (rcd s l):=by
 obtain⟨m,h1,h2⟩:=b4S hR hF hl hlen;unfold a3D O4 a21;rw[h1,d1G];simp only[jn,a2b hR,d1G];have h24:=E3 hR;rw[D3 (lv s) (λacc x=>if decide (Rch s l x) then acc ++ [x] else acc) id (λk acc=>acc.length≤k) (by omega) (by simp) (λk hk acc hb=>?_) (λb _=>?_)]
 ·simp only[d1G,id];rw[foldl_filter];rfl
 ·simp only[Int.ofNat_lt,hk,decide_true,if_true,n7 hk,d1G];by_cases q:Rch s l (lv s)[k]
  ·rw[if_pos ((h2 _).2 q),if_pos (by simpa using q),x8 (by omega) (by simp;omega),d1G,k8];exact⟨rfl,by simp;omega⟩
  ·rw[if_neg (λk=>q ((h2 _).1 k)),if_neg (by simpa using q),k8];exact⟨rfl,by omega⟩
 ·simp only[Int.lt_irrefl,decide_false,Bool.false_eq_true,if_false];rfl
open Classical in
theorem c5F (hF:FB s) {l:List Int} (hl:LB l) (hlen:l.length≤1000000):a5R s l=some (M3 s l):=by
 obtain⟨m,h1,h2⟩:=b4S hR hF hl hlen;unfold a5R O5 a23;rw[h1,d1G];simp only[jn,a2b hR,d1G];have h24:=E3 hR;rw[D3 (lv s) (λacc x=>if decide (¬Rch s l x) then acc ++ [x] else acc) id (λk acc=>acc.length≤k) (by omega) (by simp) (λk hk acc hb=>?_) (λb _=>?_)]
 ·simp only[d1G,id];rw[foldl_filter];rfl
 ·simp only[Int.ofNat_lt,hk,decide_true,if_true,n7 hk,d1G];by_cases q:Rch s l (lv s)[k]
  ·have e:(y7 m (lv s)[k]).getD false=true:=(h2 _).2 q;rw[if_neg (by rw[e];decide),if_neg (by simpa using q),k8];exact⟨rfl,by omega⟩
  ·have e:(y7 m (lv s)[k]).getD false=false:=by
    have:¬Mk m (lv s)[k]:=λk=>q ((h2 _).1 k);simpa[Mk] using this
   rw[if_pos (by rw[e];decide),if_pos (by simpa using q),x8 (by omega) (by simp;omega),d1G,k8];exact⟨rfl,by simp;omega⟩
 ·simp only[Int.lt_irrefl,decide_false,Bool.false_eq_true,if_false];rfl
def grow(s:a7)(all seen:List Int):List Int:=all.filter λx=>decide (x∈seen++seen.flatMap (outs s))
def W9(s:a7)(all seen:List Int):Nat→List Int
 | 0=>seen
 | k+1=>grow s all (W9 s all seen k)
omit hR in
theorem a8V (all seen:List Int) (k:Nat):W9 s all seen (k+1)=grow s all (W9 s all seen k):=rfl
omit hR in
theorem a9B {all seen:List Int} {x:Int}:x∈grow s all seen↔x∈all∧(x∈seen∨∃a∈seen,x∈outs s a):=by
 unfold grow;rw[List.mem_filter,decide_eq_true_iff,List.mem_append,List.mem_flatMap]
open Classical in
omit hR in
theorem c22 (l:List Int):W9 s (lv s) ((lv s).filter λx=>decide (x∈l)==true) (lv s).length=rcd s l:=by
 have hsub:∀k x,x∈W9 s (lv s) ((lv s).filter λx=>decide (x∈l)==true) k→Rch s l x:=by
  intro k;induction k with
  | zero=>
   intro x hx;have:=List.mem_filter.1 (show x∈(lv s).filter λx=>decide (x∈l)==true from hx);exact .base (by simpa using this.2) this.1
  | succ k ih=>
   intro x hx;rw[a8V,a9B] at hx;rcases hx.2 with q | ⟨a,q1,q2⟩
   ·exact ih x q
   ·exact .step (ih a q1) q2 hx.1
 have hall:∀k x,x∈W9 s (lv s) ((lv s).filter λx=>decide (x∈l)==true) k→x∈lv s:=λk x hx=>(hsub k x hx).live;have hfil:∀k,∃p:Int→Bool,W9 s (lv s) ((lv s).filter λx=>decide (x∈l)==true) k=(lv s).filter p:=by
  intro k;cases k with
  | zero=>exact⟨_,rfl⟩
  | succ k=>exact⟨_,rfl⟩
 have hinc:∀k x,x∈W9 s (lv s) ((lv s).filter λx=>decide (x∈l)==true) k→x∈W9 s (lv s) ((lv s).filter λx=>decide (x∈l)==true) (k+1):=λk x hx=>a9B.2 ⟨hall k x hx,.inl hx⟩;have key:∀k,Cl s (W9 s (lv s) ((lv s).filter λx=>decide (x∈l)==true) k)∨k≤(W9 s (lv s) ((lv s).filter λx=>decide (x∈l)==true) k).length:=by
  intro k;induction k with
  | zero=>exact .inr (Nat.zero_le _)
  | succ k ih=>
   by_cases hc:Cl s (W9 s (lv s) ((lv s).filter λx=>decide (x∈l)==true) k)
   ·left;have:∀x,x∈W9 s (lv s) ((lv s).filter λx=>decide (x∈l)==true) (k+1)↔x∈W9 s (lv s) ((lv s).filter λx=>decide (x∈l)==true) k:=λx=>⟨λhx=>by
     rw[a8V,a9B] at hx;rcases hx.2 with q | ⟨a,q1,q2⟩
     ·exact q
     ·exact hc a q1 x q2 hx.1,hinc k x⟩
    intro a ha b hb hbl;exact (this b).2 (hc a ((this a).1 ha) b hb hbl)
   ·right;have hk:=ih.resolve_left hc;obtain⟨b,hb1,hb2,hb3⟩:∃b,b∈lv s∧b∈W9 s (lv s) ((lv s).filter λx=>decide (x∈l)==true) (k+1)∧b∉W9 s (lv s) ((lv s).filter λx=>decide (x∈l)==true) k:=by
     refine Classical.byContradiction λq=>hc λa ha b hb hbl=>Classical.byContradiction λq2=>q ⟨b,hbl,a9B.2 ⟨hbl,.inr ⟨a,ha,hb⟩⟩,q2⟩
    obtain⟨p,hp⟩:=hfil k;obtain⟨p',hp'⟩:=hfil (k+1);have hi:=hinc k;rw[hp] at hi hb3 hk;rw[hp'] at hi hb2 ⊢;have:=filter_lt (p:=p) (q:=p') (l:=lv s) (λx hx h=>(List.mem_filter.1 (hi x (List.mem_filter.2 ⟨hx,h⟩))).2) b hb1 (List.mem_filter.1 hb2).2 (by
     cases h:p b;·rfl
     ·exact absurd (List.mem_filter.2 ⟨hb1,h⟩) hb3)
    omega
 have hcl:Cl s (W9 s (lv s) ((lv s).filter λx=>decide (x∈l)==true) (lv s).length):=by
  rcases key (lv s).length with q | q
  ·exact q
  ·obtain⟨p,hp⟩:=hfil (lv s).length;rw[hp] at q ⊢;have:(lv s).filter p=lv s:=List.filter_eq_self.2 λx hx=>by
    cases h:p x
    ·have:=filter_lt (p:=p) (q:=λ_=>true) (l:=lv s) (λ_ _ _=>rfl) x hx rfl h;rw[List.filter_eq_self.2 (λ_ _=>rfl)] at this;omega
    ·rfl
   rw[this];exact λ_ _ _ _ h=>h
 have hbase:∀k x,x∈l→x∈lv s→x∈W9 s (lv s) ((lv s).filter λx=>decide (x∈l)==true) k:=by
  intro k;induction k with
  | zero=>intro x h1 h2;exact List.mem_filter.2 ⟨h2,by simpa using h1⟩
  | succ k ih=>intro x h1 h2;exact hinc k x (ih x h1 h2)
 have hiff:∀x,x∈W9 s (lv s) ((lv s).filter λx=>decide (x∈l)==true) (lv s).length↔Rch s l x:=λx=>⟨hsub _ x,λq=>Rch.least hcl (hbase _) q⟩;obtain⟨p,hp⟩:=hfil (lv s).length;rw[hp];unfold rcd;refine List.filter_congr λx hx=>?_;have:=hiff x;rw[hp,List.mem_filter] at this;rw[Bool.eq_iff_iff,decide_eq_true_iff,←this];exact⟨λh=>⟨hx,h⟩,λh=>h.2⟩
open Classical in
theorem b4n {l:List Int} (hlen:l.length≤1000000):a63 (sO s) l=some (rcd s l):=by
 unfold a63;have h24:=E3 hR;rw[a8Y hR,d1G,b7Y _ _ _ (by omega) hlen (b97 hR),d1G];simp only[jn];have hg:∀k,(W9 s (lv s) ((lv s).filter λx=>decide (x∈l)==true) k).length≤24∧∀x∈W9 s (lv s) ((lv s).filter λx=>decide (x∈l)==true) k,x∈lv s:=by
  intro k;cases k with
  | zero=>exact⟨Nat.le_trans (List.length_filter_le ..) h24,λx hx=>(List.mem_filter.1 (show x∈(lv s).filter λx=>decide (x∈l)==true from hx)).1⟩
  | succ k=>exact⟨Nat.le_trans (List.length_filter_le ..) h24,λx hx=>(List.mem_filter.1 (show x∈(lv s).filter _ from hx)).1⟩
 refine a0p (p:=λk=>(W9 s (lv s) ((lv s).filter λx=>decide (x∈l)==true) k,(k:Int))) rfl (lv s).length (λ_=>True) (by omega) trivial (λk hk _=>.inl ⟨?_,trivial⟩) (λ_=>⟨_,by simp only[Int.lt_irrefl,decide_false,Bool.false_eq_true,if_false];rfl,by rw[c22 l]⟩);obtain⟨g1,g2⟩:=hg k;simp only[Int.ofNat_lt,hk,decide_true,if_true];rw[J2 (by omega) (by omega),d1G];generalize hS:W9 s (lv s) ((lv s).filter λx=>decide (x∈l)==true) k=S at g1 g2;have hSle:∀x∈S,x≤9223372036854775807:=λx hx=>by have:=a4s hR (g2 x hx);omega
 have hflat:∀T:List Int,T.length≤24→(∀x∈T,x≤9223372036854775807)→(T.flatMap (outs s)).length≤96:=λT h1 h2=>by
  rw[List.length_flatMap];have:=b6r (λx=>(outs s x).length) 4 T λx hx=>a4O hR x (h2 x hx);omega
 rw[D3 S (λacc x=>acc++outs s x) id (λj acc=>acc.length≤S.length+4*j) (by omega) (by simp) (λj hj acc hb=>?_) (λb _=>?_)]
 ·simp only[d1G,id];rw[a1O,b7Y _ _ _ (by omega) (by
   have:=hflat S g1 hSle;simp only[List.length_append];omega) (b97 hR),d1G,k8,a8V,hS]
  unfold grow;congr 3;refine List.filter_congr λx _=>?_;rw[Bool.eq_iff_iff];simp
 ·have ho:=a4O hR _ (hSle _ (List.getElem_mem hj));simp only[Int.ofNat_lt,hj,decide_true,if_true,n7 hj,d1G,b7r hR (hSle _ (List.getElem_mem hj))];rw[x8 (by omega) (by omega),d1G,k8];exact⟨rfl,by simp;omega⟩
 ·simp only[Int.lt_irrefl,decide_false,Bool.false_eq_true,if_false];rfl
end
end Go.Sh
namespace Go.Sh
abbrev Tb:=List b8
abbrev J3(p:b8):o8:=⟨p.State,p.Key,p.Val⟩
def pt(t:Tb)(j:Nat):b8:=t.getD j ⟨0,0,0⟩
theorem b1s{t:Tb}{j:Nat}(h:j<t.length):pt t j=t[j]:=by unfold pt;rw[List.getD_eq_getElem?_getD,List.getElem?_eq_getElem h];rfl
theorem b4u{t:Tb}{j:Nat}(h:j<t.length):ix t (j:Int)=some (pt t j):=by rw[n7 h,b1s h]
theorem b20{t:Tb}{i:Nat}(h:i<t.length)(p:b8)(j:Nat):pt (t.set i p) j=if j=i then p else pt t j:=by
 unfold pt;rw[List.getD_eq_getElem?_getD,List.getD_eq_getElem?_getD,List.getElem?_set];by_cases e:i=j
 ·subst e;simp[h]
 ·rw[if_neg e,if_neg (Ne.symm e)]
def hm(n:Nat)(k:Int):Nat:=(s6 ((s6 (5*k))+1) % (n:Int)).toNat
theorem c25{n:Nat}(h:1≤n)(k:Int):hm n k<n:=by
 unfold hm;have h1:=Int.emod_nonneg (s6 ((s6 (5*k))+1)) (show (n:Int)≠0 by omega);have h2:=Int.emod_lt_of_pos (s6 ((s6 (5*k))+1)) (show (0:Int)<n by omega);omega
theorem b10{n:Nat}(h:1≤n)(h2:n≤1000)(k:Int):Y5 n k=some (hm n k:Int):=by
 unfold Y5 hm;rw[if_neg (by simp;omega)];generalize s6 ((s6 (5*k))+1)=a;have hp:=Int.emod_nonneg a (show (n:Int)≠0 by omega);have hl:=Int.emod_lt_of_pos a (show (0:Int)<n by omega);unfold rem;rw[if_neg (by omega),d1G,Int.toNat_of_nonneg hp];rw[Int.tmod_eq_emod];split;·rw[show a % (n:Int)-((0:Nat):Int)=a % n by simp,if_neg (by simp;omega)]
 ·have:((n:Int).natAbs:Int)=n:=by simp
  rw[this];rw[if_pos (by simp;omega),B8 (by omega) (by omega)];congr 1;omega
def pos(n:Nat)(k:Int)(d:Nat):Nat:=(hm n k+d) % n
theorem a2J{n:Nat}(h:1≤n)(k:Int)(d:Nat):pos n k d<n:=Nat.mod_lt _ h
theorem c7i{n:Nat}(h:1≤n)(h8:n≤8):n=1∨n=2∨n=3∨n=4∨n=5∨n=6∨n=7∨n=8:=by omega
theorem c3q{n m i:Nat}(h:1≤n)(h8:n≤8)(hm:m<n)(hi:i<n):∃d,d<n∧(m+d) % n=i:=by
 refine⟨(i+n-m) % n,Nat.mod_lt _ h,?_⟩;rcases c7i h h8 with rfl | rfl | rfl | rfl | rfl | rfl | rfl | rfl <;> omega
theorem c5L{n m d d':Nat}(h:1≤n)(h8:n≤8)(hd:d<n)(hd':d'<n)(e:(m+d) % n=(m+d') % n):d=d':=by
 rcases c7i h h8 with rfl | rfl | rfl | rfl | rfl | rfl | rfl | rfl <;> omega
theorem b7w{n:Nat}(h:1≤n)(h8:n≤8)(k:Int){i:Nat}(hi:i<n):∃d,d<n∧pos n k d=i:=c3q h h8 (c25 h k) hi
theorem c56{n:Nat}(h:1≤n)(h8:n≤8){k:Int}{d d':Nat}(hd:d<n)(hd':d'<n)(e:pos n k d=pos n k d'):d=d':=c5L h h8 hd hd' e
structure HR (t:Tb):Prop where
 l1:1≤t.length
 l8:t.length≤8
 st:∀i,i<t.length→((pt t i).State=0∨(pt t i).State=1∨(pt t i).State=2)∧((pt t i).State≠1→(pt t i).Key=0∧(pt t i).Val=0)
 uq:∀i j,i<t.length→j<t.length→(pt t i).State=1→(pt t j).State=1→(pt t i).Key=(pt t j).Key→i=j
 rd:∀i,i<t.length→(pt t i).State=1→∀d,d<t.length→(∀d',d'≤d→pos t.length (pt t i).Key d'≠i)→(pt t (pos t.length (pt t i).Key d)).State≠0
def Fk(t:Tb)(k:Int)(i:Nat):Prop:=i<t.length∧(pt t i).State=1∧(pt t i).Key=k
instance(t:Tb)(k:Int)(i:Nat):Decidable (Fk t k i):=by unfold Fk;infer_instance
theorem step_eq{n:Nat}(h:1≤n)(h2:n≤1000)(k:Int){d:Nat}(hd:d<n):rem (s6 ((hm n k:Int)+d)) n=some ((pos n k d:Nat):Int):=by
 have:=c25 h k;rw[B8 (by omega) (by omega),a5T (by omega) (by omega)];unfold pos;simp[Int.natCast_emod]
theorem b4k{t:Tb}(h1:1≤t.length)(h8:t.length≤8)(k:Int) :
  (∃d,d<t.length∧(∀j,j<d→(pt t (pos t.length k j)).State≠0∧¬Fk t k (pos t.length k j))∧Fk t k (pos t.length k d)∧U3 t k=some ((pos t.length k d:Nat):Int)) ∨
  (∃d,d≤t.length∧(∀j,j<d→(pt t (pos t.length k j)).State≠0∧¬Fk t k (pos t.length k j))∧(d=t.length∨(pt t (pos t.length k d)).State=0)∧U3 t k=some (-1)):=by
 unfold U3;simp only[jn,a29,d1G];generalize hq:(lp (S:=Int) (E:=Int ⊕ Unit) _ 0)=q;have body:∀d:Nat,d<t.length→(if (decide ((d:Int)<(t.length:Int))) then
    (Y5 (t.length:Int) k).bind λv14=>
    (rem (s6 (v14+d)) (t.length:Int)).bind λv15=>
    (ix t v15).bind λv16=>
    if (v16.State==0) then
     some (.inr (.inr ()))
    else
    if ((v16.State==1)&&(v16.Key==k)) then
     some (.inr (.inl v15))
    else
    some (.inl (s6 ((d:Int)+1)))
   else
   some (.inr (.inr ())):Option (Int ⊕ (Int ⊕ Unit)))=if (pt t (pos t.length k d)).State=0 then some (.inr (.inr ())) else if Fk t k (pos t.length k d) then some (.inr (.inl ((pos t.length k d:Nat):Int))) else some (.inl ((d+1:Nat):Int)):=λd hd=>by
  have hp:=a2J h1 k d;rw[if_pos (by simpa using hd),b10 h1 (by omega),d1G,step_eq h1 (by omega) k hd,d1G,b4u hp,d1G,k8 (by omega)];by_cases a:(pt t (pos t.length k d)).State=0
  ·rw[if_pos (by simpa using a),if_pos a]
  ·rw[if_neg (by simpa using a),if_neg a];by_cases b:Fk t k (pos t.length k d)
   ·rw[if_pos (by simp[b.2.1,b.2.2]),if_pos b]
   ·rw[if_neg (by simp;exact λh1 h2=>b ⟨hp,h1,h2⟩),if_neg b]
 have key:=b7i (f:=λ(s12:Int)=>if (decide (s12<(t.length:Int))) then
    (Y5 (t.length:Int) k).bind λv14=>
    (rem (s6 (v14+s12)) (t.length:Int)).bind λv15=>
    (ix t v15).bind λv16=>
    if (v16.State==0) then
     some (.inr (.inr ()))
    else
    if ((v16.State==1)&&(v16.Key==k)) then
     some (.inr (.inl v15))
    else
    some (.inl (s6 (s12+1)))
   else
   some (.inr (.inr ()))) t.length (λd=>∀j,j<d→(pt t (pos t.length k j)).State≠0∧¬Fk t k (pos t.length k j))
   (λ(e:Int ⊕ Unit)=>(∃d,d<t.length∧(∀j,j<d→(pt t (pos t.length k j)).State≠0∧¬Fk t k (pos t.length k j))∧Fk t k (pos t.length k d)∧e = .inl ((pos t.length k d:Nat):Int)) ∨
    (∃d,d≤t.length∧(∀j,j<d→(pt t (pos t.length k j)).State≠0∧¬Fk t k (pos t.length k j))∧(d=t.length∨(pt t (pos t.length k d)).State=0)∧e = .inr ())) (by omega) (λj hj=>by omega)
   (λd hd hP=>by
    rw[body d hd];by_cases a:(pt t (pos t.length k d)).State=0
    ·rw[if_pos a];exact .inr ⟨_,rfl,.inr ⟨d,by omega,hP,.inr a,rfl⟩⟩
    ·rw[if_neg a];by_cases b:Fk t k (pos t.length k d)
     ·rw[if_pos b];exact .inr ⟨_,rfl,.inl ⟨d,hd,hP,b,rfl⟩⟩
     ·rw[if_neg b];refine .inl ⟨rfl,λj hj=>?_⟩;rcases Nat.lt_or_ge j d with q | q
      ·exact hP j q
      ·have:j=d:=by omega
       subst this;exact⟨a,b⟩)
   (λhP=>⟨.inr (),by simp,.inr ⟨t.length,Nat.le_refl _,hP,.inl rfl,rfl⟩⟩)
 obtain⟨e,he,hQ⟩:=key;rw[he] at hq;subst hq;rcases hQ with ⟨d,a1,a2,a3,rfl⟩ | ⟨d,a1,a2,a3,rfl⟩;·exact .inl ⟨d,a1,a2,a3,rfl⟩
 ·exact .inr ⟨d,a1,a2,a3,rfl⟩
theorem a5t{t:Tb}(hR:HR t){k:Int}{i:Nat}(hi:Fk t k i):U3 t k=some (i:Int):=by
 obtain⟨di,hdi,hpi⟩:=b7w hR.l1 hR.l8 k hi.1;have road:∀d,d<di→(pt t (pos t.length k d)).State≠0:=λd hd=>by
  have:=hR.rd i hi.1 hi.2.1 d (by omega) (λd' hd' e=>by
   rw[hi.2.2] at e;have:=c56 hR.l1 hR.l8 (by omega) hdi (e.trans hpi.symm);omega)
  rwa [hi.2.2] at this
 rcases b4k hR.l1 hR.l8 k with ⟨d,a1,a2,a3,a4⟩ | ⟨d,a1,a2,a3,a4⟩;·rw[a4,hR.uq _ i (a2J hR.l1 k d) hi.1 a3.2.1 hi.2.1 (by rw[a3.2.2,hi.2.2])]
 ·exfalso;rcases Nat.lt_or_ge di d with q | q
  ·exact (a2 di q).2 (by rw[hpi];exact hi)
  ·rcases a3 with rfl | a3
   ·omega
   ·rcases Nat.lt_or_ge d di with q' | q'
    ·exact road d q' a3
    ·have:d=di:=by omega
     subst this;rw[hpi,hi.2.1] at a3;cases a3
theorem a31{t:Tb}(h1:1≤t.length)(h8:t.length≤8){k:Int}(hi:∀i,¬Fk t k i):U3 t k=some (-1):=by
 rcases b4k h1 h8 k with ⟨d,a1,a2,a3,a4⟩ | ⟨d,a1,a2,a3,a4⟩;·exact absurd a3 (hi _)
 ·exact a4
theorem b1o(t:Tb)(k:Int):(∃i,Fk t k i)∨∀i,¬Fk t k i:=by
 by_cases h:∃i,Fk t k i
 ·exact .inl h
 ·exact .inr λi hi=>h ⟨i,hi⟩
theorem b3C{t:Tb}{i:Nat}(h8:t.length≤1000)(hi:i<t.length)(p:b8):a0V t (i:Int) p=some (t.set i p):=by
 unfold a0V B4;rw[J2 (by omega) (by omega),d1G,n7 hi,d1G,Int.toNat_natCast]
inductive b1E (t:Tb) (k v:Int):Tb × Int→Prop
 | old (i:Nat) (hi:Fk t k i):b1E t k v (t.set i ⟨1,k,v⟩,0)
 | new (d:Nat) (hn:∀i,¬Fk t k i) (hd:d<t.length) (hb:∀j,j<d→(pt t (pos t.length k j)).State=1) (hf:(pt t (pos t.length k d)).State≠1):b1E t k v (t.set (pos t.length k d) ⟨1,k,v⟩,0)
 | full (hn:∀i,¬Fk t k i) (ha:∀i,i<t.length→(pt t i).State=1):b1E t k v (t,8)
theorem b84{t:Tb}(hR:HR t)(k v:Int):∃r,a6R t k v=some r∧b1E t k v r:=by
 have h1:=hR.l1;have h8:=hR.l8;unfold a6R;rcases b1o t k with ⟨i,hi⟩ | hn
 ·rw[a5t hR hi,d1G,if_pos (by simp),b3C (by omega) hi.1];exact⟨_,rfl,.old i hi⟩
 ·rw[a31 h1 h8 hn,d1G,if_neg (by decide)];simp only[jn,a29,d1G];have key:=b7i (f:=λ(s15:Int)=>
   if (decide (s15<(t.length:Int))) then
    (Y5 (t.length:Int) k).bind λv17=>
    (rem (s6 (v17+s15)) (t.length:Int)).bind λv18=>
    (ix t v18).bind λv19=>
    if (v19.State != 1) then
     (a0V t v18 (⟨1,k,v⟩:b8)).bind λv20=>
     some (Sum.inr (.inl (v20,(0:Int))))
    else
    some (.inl (s6 (s15+1)))
   else
   some (.inr (.inr ()))) t.length (λd=>∀j,j<d→(pt t (pos t.length k j)).State=1)
   (λ(e:(Tb × Int) ⊕ Unit)=>(∃r,e = .inl r∧b1E t k v r)∨(e = .inr ()∧b1E t k v (t,8))) (by omega) (λj hj=>by omega)
   (λd hd hP=>by
    have hp:=a2J h1 k d;rw[if_pos (by simpa using hd),b10 h1 (by omega),d1G,step_eq h1 (by omega) k hd,d1G,b4u hp,d1G];by_cases a:(pt t (pos t.length k d)).State=1
    ·rw[if_neg (by simpa using a),k8 (by omega)];refine .inl ⟨rfl,λj hj=>?_⟩;rcases Nat.lt_or_ge j d with q | q
     ·exact hP j q
     ·have:j=d:=by omega
      subst this;exact a
    ·rw[if_pos (by simpa using a),b3C (by omega) hp,d1G];exact .inr ⟨_,rfl,.inl ⟨_,rfl,.new d hn hd hP a⟩⟩)
   (λhP=>⟨.inr (),by simp,.inr ⟨rfl,.full hn λi hi=>by
    obtain⟨d,hd,rfl⟩:=b7w h1 h8 k hi;exact hP d hd⟩⟩)
  obtain⟨e,he,hQ⟩:=key;rw[he,d1G];rcases hQ with ⟨r,rfl,hr⟩ | ⟨rfl,hr⟩;·exact⟨r,rfl,hr⟩
  ·exact⟨_,rfl,hr⟩
theorem b8K{t:Tb}(hR:HR t){k:Int}{i:Nat}(hi:Fk t k i):I4 t k=some ((pt t i).Val,0):=by
 unfold I4;rw[a5t hR hi,d1G,if_neg (by simp),b4u hi.1,d1G]
theorem b8J{t:Tb}(hR:HR t){k:Int}(hi:∀i,¬Fk t k i):I4 t k=some (0,9):=by
 unfold I4;rw[a31 hR.l1 hR.l8 hi,d1G,if_pos (by decide)]
theorem a7B{t:Tb}(hR:HR t){k:Int}{i:Nat}(hi:Fk t k i):U2 t k=some (t.set i ⟨2,0,0⟩,(pt t i).Val,0):=by
 have:=hR.l8;unfold U2;rw[a5t hR hi,d1G,if_neg (by simp),b3C (by omega) hi.1,d1G,b4u hi.1,d1G]
theorem a7A{t:Tb}(hR:HR t){k:Int}(hi:∀i,¬Fk t k i):U2 t k=some (t,0,9):=by
 unfold U2;rw[a31 hR.l1 hR.l8 hi,d1G,if_pos (by decide)]
theorem HR.set{t:Tb}(hR:HR t){i:Nat}(hi:i<t.length){p:b8}(h0:p.State=1∨p=⟨2,0,0⟩)
  (hu:p.State=1→∀j,j≠i→¬Fk t p.Key j)(hr:p.State=1→∀d,d<t.length→(∀d',d'≤d→pos t.length p.Key d'≠i)→(pt t (pos t.length p.Key d)).State≠0):HR (t.set i p):=by
 have hnz:p.State≠0:=by
  rcases h0 with h | rfl
  ·omega
  ·simp
 refine⟨by simpa using hR.l1,by simpa using hR.l8,λj hj=>?_,λj j' hj hj' s1 s2 hk=>?_,λj hj s1 d hd hne=>?_⟩ <;> simp only[List.length_set] at *
 ·rw[b20 hi];split
  ·rcases h0 with h | rfl
   ·exact⟨.inr (.inl h),λq=>absurd h q⟩
   ·exact⟨.inr (.inr rfl),λ_=>⟨rfl,rfl⟩⟩
  ·exact hR.st j hj
 ·rw[b20 hi] at s1 s2 hk;rw[b20 hi] at hk;by_cases e1:j=i <;> by_cases e2:j'=i
  ·rw[e1,e2]
  ·rw[if_pos e1] at s1 hk;rw[if_neg e2] at s2 hk;exact absurd ⟨hj',s2,hk.symm⟩ (hu s1 j' e2)
  ·rw[if_neg e1] at s1 hk;rw[if_pos e2] at s2 hk;exact absurd ⟨hj,s1,hk⟩ (hu s2 j e1)
  ·rw[if_neg e1] at s1 hk;rw[if_neg e2] at s2 hk;exact hR.uq j j' hj hj' s1 s2 hk
 ·simp only[b20 hi] at s1 hne ⊢;by_cases e1:j=i
  ·simp only[if_pos e1] at s1 hne ⊢;split;·exact hnz
   ·exact hr s1 d hd (by rw[←e1];exact hne)
  ·simp only[if_neg e1] at s1 hne ⊢;split;·exact hnz
   ·exact hR.rd j hj s1 d hd hne
theorem a83{t:Tb}(hR:HR t){k v:Int}{r:Tb × Int}(h:b1E t k v r):HR r.1:=by
 cases h with
 | old i hi=>
  refine hR.set hi.1 (.inl rfl) (λ_ j hj q=>hj (hR.uq j i q.1 hi.1 q.2.1 hi.2.1 (q.2.2.trans hi.2.2.symm))) λ_ d hd hne=>?_;have:=hR.rd i hi.1 hi.2.1 d hd (by rw[hi.2.2];exact hne);rwa [hi.2.2] at this
 | new d hn hd hb hf=>
  refine hR.set (a2J hR.l1 k d) (.inl rfl) (λ_ j _=>hn j) λ_ d' hd' hne=>?_;rcases Nat.lt_or_ge d' d with q | q
  ·have:=hb d' q;simp only;omega
  ·exact absurd rfl (hne d q)
 | full hn ha=>exact hR
theorem a3Y{t:Tb}(hR:HR t){i:Nat}(hi:i<t.length):HR (t.set i ⟨2,0,0⟩):=hR.set hi (.inr rfl) (λq=>by cases q) λq=>by cases q
end Go.Sh
namespace Go.Sh
theorem ixm{t:Tb}{j:Nat}(h:j<t.length):ix (t.map J3) (j:Int)=some (J3 (pt t j)):=by rw[a0y,b4u h];rfl
theorem c35{t:Tb}(h8:t.length≤1000){k:Int}{i:Nat}(hi:Fk t k i)(hf:∀j,j<i→¬Fk t k j):a2v (t.map J3) k=some (i:Int):=by
 unfold a2v;simp only[jn];refine a1S t.length (λj=>j≤i) (by omega) (Nat.zero_le _) (λj hj hP=>?_) (λhP=>by have:=hi.1;omega);rw[if_pos (by simpa using hj),ixm hj,d1G];by_cases e:j=i
 ·subst e;exact .inr ⟨.inl (j:Int),by rw[if_pos (by simp[J3,hi.2.1,hi.2.2])],rfl⟩
 ·have:=hf j (by omega);refine .inl ⟨by rw[if_neg (by simp[J3];exact λh1 h2=>this ⟨hj,h1,h2⟩),k8 (by omega)],by omega⟩
theorem c34{t:Tb}(h8:t.length≤1000){k:Int}(hf:∀j,¬Fk t k j):a2v (t.map J3) k=some (-1):=by
 unfold a2v;simp only[jn];refine a1S t.length (λj=>True) (by omega) trivial (λj hj hP=>?_) (λhP=>⟨.inr (),by simp,rfl⟩);rw[if_pos (by simpa using hj),ixm hj,d1G];refine .inl ⟨by rw[if_neg (by simp[J3];exact λh1 h2=>hf j ⟨hj,h1,h2⟩),k8 (by omega)],trivial⟩
theorem c2S{t:Tb}{k:Int}(h:∃i,Fk t k i):∃i,Fk t k i∧∀j,j<i→¬Fk t k j:=by
 obtain⟨i,h1,h2⟩:=a0C h;exact⟨i,h1,λj hj q=>by have:=h2 j q;omega⟩
theorem b4Q{t:Tb}{i:Nat}(h8:t.length≤1000)(hi:i<t.length)(p:b8):a2w (t.map J3) (i:Int) (J3 p)=some ((t.set i p).map J3):=by
 unfold a2w;rw[J2 (by omega) (by simp;omega),d1G,ixm hi,d1G,Int.toNat_natCast,List.map_set]
theorem b7I:b7F=Y5:=rfl
theorem c7d{n:Nat}(h1:1≤n)(h8:n≤8)(k:Int)(d:Nat):rem (s6 (((pos n k d:Nat):Int)+1)) n=some ((pos n k (d+1):Nat):Int):=by
 have:=a2J h1 k d;rw[B8 (by omega) (by omega),a5T (by omega) (by omega)];unfold pos;congr 1;have:((hm n k+d) % n+1) % n=(hm n k+(d+1)) % n:=by rw[Nat.mod_add_mod];rfl
 rw[←this];simp[Int.natCast_emod]
theorem b7x{n:Nat}(h1:1≤n)(k:Int):pos n k 0=hm n k:=by
 unfold pos;rw[Nat.add_zero,Nat.mod_eq_of_lt (c25 h1 k)]
end Go.Sh
namespace Go.Sh
def Has(t:Tb)(k v:Int):Prop:=∃i,Fk t k i∧(pt t i).Val=v
theorem c8a{t:Tb}{k:Int}:(∀v,¬Has t k v)↔∀i,¬Fk t k i:=by
 constructor;·intro h i hi;exact h _ ⟨i,hi,rfl⟩
 ·rintro h v ⟨i,hi,_⟩;exact h i hi
theorem c8b(t:Tb)(k:Int):(∃v,Has t k v)∨∀v,¬Has t k v:=by
 by_cases h:∃v,Has t k v
 ·exact .inl h
 ·exact .inr λv hv=>h ⟨v,hv⟩
theorem Has.fn{t:Tb}(hR:HR t){k v v':Int}(h:Has t k v)(h':Has t k v'):v=v':=by
 obtain⟨i,a,rfl⟩:=h;obtain⟨j,b,rfl⟩:=h';rw[hR.uq i j a.1 b.1 a.2.1 b.2.1 (a.2.2.trans b.2.2.symm)]
theorem b9V{t:Tb}(hR:HR t){k v:Int}(h:Has t k v):I4 t k=some (v,0):=by
 obtain⟨i,a,rfl⟩:=h;exact b8K hR a
theorem c1c{t:Tb}(hR:HR t){k:Int}(h:∀v,¬Has t k v):I4 t k=some (0,9):=b8J hR (c8a.1 h)
theorem b5A{t:Tb}{i:Nat}(hi:i<t.length){k v:Int}(p:b8)(h:∀j,j≠i→Fk t p.Key j→p.State≠1)(k' v':Int) :
  Has (t.set i p) k' v'↔(p.State=1∧p.Key=k'∧p.Val=v')∨∃j,j≠i∧Fk t k' j∧(pt t j).Val=v':=by
 unfold Has Fk;simp only[List.length_set,b20 hi];constructor
 ·rintro⟨j,⟨h1,h2,h3⟩,h4⟩;by_cases e:j=i
  ·rw[if_pos e] at h2 h3 h4;exact .inl ⟨h2,h3,h4⟩
  ·rw[if_neg e] at h2 h3 h4;exact .inr ⟨j,e,⟨h1,h2,h3⟩,h4⟩
 ·rintro (⟨h1,h2,h3⟩ | ⟨j,e,⟨h1,h2,h3⟩,h4⟩);·exact⟨i,by simp[hi,h1,h2,h3]⟩
  ·exact⟨j,by simp[e,h1,h2,h3,h4]⟩
theorem b5V{t:Tb}(hR:HR t){k v:Int}{r:Tb × Int}(h:b1E t k v r)(h0:r.2=0)(k' v':Int):Has r.1 k' v'↔(k'=k∧v'=v)∨(k'≠k∧Has t k' v'):=by
 cases h with
 | old i hi=>
  rw[b5A (k:=k) (v:=v) hi.1 _ (λj hj q=>absurd (hR.uq j i q.1 hi.1 q.2.1 hi.2.1 (q.2.2.trans hi.2.2.symm)) hj)];constructor
  ·rintro (⟨_,rfl,rfl⟩ | ⟨j,e,h1,h2⟩);·exact .inl ⟨rfl,rfl⟩
   ·refine .inr ⟨λq=>?_,j,h1,h2⟩;subst q;exact e (hR.uq j i h1.1 hi.1 h1.2.1 hi.2.1 (h1.2.2.trans hi.2.2.symm))
  ·rintro (⟨rfl,rfl⟩ | ⟨e,j,h1,h2⟩);·exact .inl ⟨rfl,rfl,rfl⟩
   ·refine .inr ⟨j,λq=>?_,h1,h2⟩;subst q;exact e (h1.2.2.symm.trans hi.2.2)
 | new d hn hd hb hf=>
  rw[b5A (k:=k) (v:=v) (a2J hR.l1 k d) _ (λj hj q=>absurd q (hn j))];constructor
  ·rintro (⟨_,rfl,rfl⟩ | ⟨j,e,h1,h2⟩);·exact .inl ⟨rfl,rfl⟩
   ·refine .inr ⟨λq=>?_,j,h1,h2⟩;subst q;exact hn j h1
  ·rintro (⟨rfl,rfl⟩ | ⟨e,j,h1,h2⟩);·exact .inl ⟨rfl,rfl,rfl⟩
   ·refine .inr ⟨j,λq=>?_,h1,h2⟩;subst q;exact hf h1.2.1
 | full hn ha=>cases h0
theorem b2x{t:Tb}(hR:HR t){k:Int}{i:Nat}(hi:Fk t k i)(k' v':Int):Has (t.set i ⟨2,0,0⟩) k' v'↔k'≠k∧Has t k' v':=by
 rw[b5A (k:=k) (v:=0) hi.1 _ (λj hj q=>by simp)];constructor
 ·rintro (⟨h,_⟩ | ⟨j,e,h1,h2⟩);·cases h
  ·refine⟨λq=>?_,j,h1,h2⟩;subst q;exact e (hR.uq j i h1.1 hi.1 h1.2.1 hi.2.1 (h1.2.2.trans hi.2.2.symm))
 ·rintro⟨e,j,h1,h2⟩;refine .inr ⟨j,λq=>?_,h1,h2⟩;subst q;exact e (h1.2.2.symm.trans hi.2.2)
def keys(t:Tb):List Int:=(t.filter (·.State==1)).map (·.Key)
theorem b2B{α β:Type}(p:α→Bool)(f:α→β)(l:List α)(k:Nat)(h:k<l.length):((l.take (k+1)).filter p).map f=((l.take k).filter p).map f++(if p l[k] then [f l[k]] else []):=by
 rw[List.take_succ_eq_append_getElem h,List.filter_append,List.map_append];congr 1;simp only[List.filter_cons,List.filter_nil];split <;> rfl
theorem keys_eq{t:Tb}(h:t.length≤1000):a4I t=some (keys t):=by
 unfold a4I keys;simp only[jn];refine P0 t.length (λk l=>l=((t.take k).filter (·.State==1)).map (·.Key)) (by omega) (by simp) ?_ (λl hl=>⟨_,by simp;rfl,by rw[hl,List.take_length]⟩);rintro k l hk rfl;left;rw[b2B _ _ _ _ hk];rw[if_pos (by simpa using hk),n7 hk,d1G,k8 (by omega)];have hle:(List.map (·.Key) (List.filter (·.State==1) (List.take k t))).length≤1000:=by
  rw[List.length_map];exact Nat.le_trans (List.length_filter_le ..) (by simp;omega)
 by_cases c:(t[k].State==1)=true
 ·rw[if_pos c,if_pos c,x8 (by omega) (by simp only[List.length_cons,List.length_nil];omega),d1G];exact⟨_,rfl,rfl⟩
 ·rw[if_neg c,if_neg c];exact⟨_,rfl,by simp⟩
theorem c37{t:Tb}(h:t.length≤1000):b27 (t.map J3)=some (keys t):=by
 unfold b27 keys;simp only[jn];refine P0 t.length (λk l=>l=((t.take k).filter (·.State==1)).map (·.Key)) (by omega) (by simp) ?_ (λl hl=>⟨_,by simp;rfl,by rw[hl,List.take_length]⟩);rintro k l hk rfl;left;rw[b2B _ _ _ _ hk];rw[if_pos (by simpa using hk),a0y,n7 hk,Option.map_some,d1G,k8 (by omega)];have hle:(List.map (·.Key) (List.filter (·.State==1) (List.take k t))).length≤1000:=by
  rw[List.length_map];exact Nat.le_trans (List.length_filter_le ..) (by simp;omega)
 by_cases c:(t[k].State==1)=true
 ·rw[if_pos (by simpa[J3] using c),if_pos c,x8 (by omega) (by simp only[List.length_cons,List.length_nil];omega),d1G];exact⟨_,rfl,rfl⟩
 ·rw[if_neg (by simpa[J3] using c),if_neg c];exact⟨_,rfl,by simp⟩
theorem b6a{t:Tb}(hR:HR t)(k:Int):a2v (t.map J3) k=U3 t k:=by
 have h8:=hR.l8;rcases b1o t k with ⟨i,hi⟩ | hn
 ·rw[a5t hR hi];obtain⟨f,hf1,hf2⟩:=c2S ⟨i,hi⟩;rw[c35 (by omega) hf1 hf2,hR.uq f i hf1.1 hi.1 hf1.2.1 hi.2.1 (hf1.2.2.trans hi.2.2.symm)]
 ·rw[a31 hR.l1 hR.l8 hn,c34 (by omega) hn]
theorem c36{t:Tb}(hR:HR t)(k:Int):a92 (t.map J3) k=I4 t k:=by
 unfold a92 I4;rw[b6a hR];rcases b1o t k with ⟨i,hi⟩ | hn;·rw[a5t hR hi,d1G,d1G,if_neg (by simp),if_neg (by simp),ixm hi.1,b4u hi.1];rfl
 ·rw[a31 hR.l1 hR.l8 hn];rfl
theorem c31{t:Tb}(hR:HR t)(k:Int):a64 (t.map J3) k=(U2 t k).map λr=>(r.1.map J3,r.2):=by
 have h8:=hR.l8;rcases b1o t k with ⟨i,hi⟩ | hn
 ·rw[a7B hR hi];unfold a64;rw[b6a hR,a5t hR hi,d1G,if_neg (by simp)];have:=b4Q (t:=t) (by omega) hi.1 ⟨2,0,0⟩;dsimp only[J3] at this;rw[this,d1G,ixm hi.1];rfl
 ·rw[a7A hR hn];unfold a64;rw[b6a hR,a31 hR.l1 hR.l8 hn];rfl
theorem d0i{t:Tb}(hR:HR t)(k v:Int){r:Tb × Int}(h:b1E t k v r):b53 (t.map J3) k v=some (r.1.map J3,r.2):=by
 have h1:=hR.l1;have h8:=hR.l8;unfold b53;rw[b6a hR];have hw:∀i,i<t.length→a2w (t.map J3) (i:Int) ⟨1,k,v⟩=some ((t.set i ⟨1,k,v⟩).map J3):=λi hi=>b4Q (t:=t) (by omega) hi ⟨1,k,v⟩;cases h with
 | old i hi=>
  rw[a5t hR hi,d1G,if_pos (by simp),hw i hi.1];rfl
 | new d hn hd hb hf=>
  rw[a31 h1 h8 hn,d1G,if_neg (by decide),List.length_map,b7I,b10 h1 (by omega),d1G];simp only[jn];rw[←b7x h1 k];obtain⟨e,he,hQ⟩:=b5H (f:=λ((s15,s16):Int × Int)=>
   if (decide (s16<(t.length:Int))) then
    (ix (t.map J3) s15).bind λv19=>
    if (v19.State != 1) then
     (a2w (t.map J3) s15 (⟨1,k,v⟩:o8)).bind λv20=>
     some (Sum.inr (Sum.inl (β:=Unit) (v20,(0:Int))))
    else
    (rem (s6 (s15+1)) (t.length:Int)).bind λv21=>
    some (Sum.inl (v21,s6 (s16+1)))
   else
   some (Sum.inr (Sum.inr ()))) (λd=>(((pos t.length k d:Nat):Int),(d:Int))) d (λ_=>True) (λe=>e = .inl ((t.set (pos t.length k d) ⟨1,k,v⟩).map J3,0)) (by omega) trivial (λj hj _=>by
    have hp:=a2J h1 k j;dsimp only;rw[if_pos (by simp;omega),ixm hp,d1G,if_neg (by simpa[J3] using hb j hj),c7d h1 h8,d1G,k8 (by omega)];exact .inl ⟨rfl,trivial⟩) (λ_=>by
    have hp:=a2J h1 k d;dsimp only;rw[if_pos (by simpa using hd),ixm hp,d1G,if_pos (by simpa[J3] using hf),hw _ hp];exact⟨_,rfl,rfl⟩)
  have he':lp _ (((pos t.length k 0:Nat):Int),(0:Int))=some e:=he;rw[he',hQ];rfl
 | full hn ha=>
  rw[a31 h1 h8 hn,d1G,if_neg (by decide),List.length_map,b7I,b10 h1 (by omega),d1G];simp only[jn];rw[←b7x h1 k];obtain⟨e,he,hQ⟩:=b5H (f:=λ((s15,s16):Int × Int)=>
   if (decide (s16<(t.length:Int))) then
    (ix (t.map J3) s15).bind λv19=>
    if (v19.State != 1) then
     (a2w (t.map J3) s15 (⟨1,k,v⟩:o8)).bind λv20=>
     some (Sum.inr (Sum.inl (β:=Unit) (v20,(0:Int))))
    else
    (rem (s6 (s15+1)) (t.length:Int)).bind λv21=>
    some (Sum.inl (v21,s6 (s16+1)))
   else
   some (Sum.inr (Sum.inr ()))) (λd=>(((pos t.length k d:Nat):Int),(d:Int))) t.length (λ_=>True) (λe=>e = .inr ()) (by omega) trivial (λj hj _=>by
    have hp:=a2J h1 k j;dsimp only;rw[if_pos (by simp;omega),ixm hp,d1G,if_neg (by simpa[J3] using ha _ hp),c7d h1 h8,d1G,k8 (by omega)];exact .inl ⟨rfl,trivial⟩) (λ_=>⟨.inr (),by simp,rfl⟩)
  have he':lp _ (((pos t.length k 0:Nat):Int),(0:Int))=some e:=he;rw[he',hQ];rfl
theorem b21{t:Tb}{k v:Int}{r:Tb × Int}(h:b1E t k v r):r.1.length=t.length:=by cases h <;> simp
end Go.Sh
namespace Go.Sh
theorem a3w(t:Tb):(keys t).length=t.countP (·.State==1):=by
 unfold keys;rw[List.length_map,List.countP_eq_length_filter]
theorem a9M{t:Tb}{i:Nat}(h:i<t.length)(p:b8):(keys (t.set i p)).length+(if (pt t i).State=1 then 1 else 0)=(keys t).length+if p.State=1 then 1 else 0:=by
 rw[a3w,a3w,List.countP_set h,b1s h];simp only[beq_iff_eq];have:(if t[i].State=1 then 1 else 0)≤t.countP λc=>c.State==1:=by
  split
  ·rename_i e;exact List.countP_pos_iff.2 ⟨t[i],List.getElem_mem h,by simpa using e⟩
  ·exact Nat.zero_le _
 omega
theorem c1g{t:Tb}(h:∀i,i<t.length→(pt t i).State=1):(keys t).length=t.length:=by
 rw[a3w,List.countP_eq_length];intro a ha;obtain⟨i,hi,rfl⟩:=List.getElem_of_mem ha;have:=h i hi;rw[b1s hi] at this;simpa using this
theorem c5B{t:Tb}{i:Nat}(hi:i<t.length)(h:(pt t i).State≠1):(keys t).length<t.length:=by
 have h1:(keys t).length≤t.length:=by rw[a3w];exact List.countP_le_length
 rcases Nat.lt_or_ge (keys t).length t.length with q | q
 ·exact q
 ·exfalso;have e:(keys t).length=t.length:=by omega
  rw[a3w,List.countP_eq_length] at e;have:=e t[i] (List.getElem_mem hi);rw[b1s hi] at h;exact h (by simpa using this)
structure TM {V:Type} (φ:V→Int→Prop) (t:Tb) (m:List (Int × V)):Prop where
 R:HR t
 nd:(m.map (·.1)).Nodup
 len:(keys t).length=m.length
 has:∀k,(∀v,Has t k v→∃u,y7 m k=some u∧φ u v)∧((y7 m k).isSome=true→∃v,Has t k v)
theorem TM.some{V:Type}{φ:V→Int→Prop}{t:Tb}{m:List (Int × V)}(h:TM φ t m)(k:Int):(∃v u,Has t k v∧y7 m k=some u∧φ u v)∨(y7 m k=none∧∀v,¬Has t k v):=by
 rcases c8b t k with ⟨v,hv⟩ | hn
 ·obtain⟨u,h1,h2⟩:=(h.has k).1 v hv;exact .inl ⟨v,u,hv,h1,h2⟩
 ·refine .inr ⟨?_,hn⟩;cases hq:y7 m k with
  | none=>rfl
  | some u=>
   obtain⟨v,hv⟩:=(h.has k).2 (by rw[hq];rfl);exact absurd hv (hn v)
theorem TM.put{V:Type}{φ:V→Int→Prop}{t:Tb}{m:List (Int × V)}(h:TM φ t m)(k v:Int)(u:V)(hφ:φ u v):∃r,a6R t k v = .some r∧r.1.length=t.length∧((r.2=0∧TM φ r.1 (n8 m k u)∧((y7 m k).isSome=true∨m.length<t.length))∨(r=(t,8)∧(y7 m k)=none∧m.length=t.length)):=by
 obtain⟨r,hr,hp⟩:=b84 h.R k v;refine⟨r,hr,b21 hp,?_⟩;have hRr:=a83 h.R hp;by_cases h0:r.2=0
 ·left;have hh:=b5V h.R hp h0;have hmem:∀k',(∀w,Has r.1 k' w→∃x,y7 (n8 m k u) k' = .some x∧φ x w)∧((y7 (n8 m k u) k').isSome=true→∃w,Has r.1 k' w):=λk'=>by
   rw[a7I];by_cases e:k'=k
   ·subst e;rw[if_pos rfl];refine⟨λw hw=>?_,λ_=>⟨v,(hh _ _).2 (.inl ⟨rfl,rfl⟩)⟩⟩;rcases (hh _ _).1 hw with ⟨_,rfl⟩ | ⟨q,_⟩;·exact⟨u,rfl,hφ⟩
    ·exact absurd rfl q
   ·rw[if_neg e];refine⟨λw hw=>?_,λq=>?_⟩
    ·rcases (hh _ _).1 hw with ⟨q,_⟩ | ⟨_,q⟩;·exact absurd q e
     ·exact (h.has k').1 w q
    ·obtain⟨w,hw⟩:=(h.has k').2 q;exact⟨w,(hh _ _).2 (.inr ⟨e,hw⟩)⟩
  have hlen:(keys r.1).length=(n8 m k u).length∧((y7 m k).isSome=true∨m.length<t.length):=by
   rw[c3r];cases hp with
   | old i hi=>
    have h1:(y7 m k).isSome=true:=by
     obtain⟨x,h1,_⟩:=(h.has k).1 _ ⟨i,hi,rfl⟩;rw[h1];rfl
    have:=a9M hi.1 ⟨1,k,v⟩;rw[if_pos hi.2.1,if_pos rfl,h.len] at this;rw[if_pos h1];exact⟨by simp only;omega,.inl h1⟩
   | new d hn hd hb hf=>
    have h1:(y7 m k)=none:=by
     rcases h.some k with ⟨w,x,hw,_⟩ | ⟨q,_⟩
     ·obtain⟨i,hi,_⟩:=hw;exact absurd hi (hn i)
     ·exact q
    have hlt:=a2J h.R.l1 k d;have:=a9M hlt ⟨1,k,v⟩;rw[if_neg hf,if_pos rfl,h.len] at this;rw[h1];have h2:=c5B hlt hf;rw[h.len] at h2;exact⟨by simpa using this,.inr h2⟩
   | full hn ha=>cases h0
  exact⟨h0,⟨hRr,b8S h.nd k u,hlen.1,hmem⟩,hlen.2⟩
 ·right;cases hp with
  | old i hi=>exact absurd rfl h0
  | new d hn hd hb hf=>exact absurd rfl h0
  | full hn ha=>
   refine⟨rfl,?_,?_⟩
   ·rcases h.some k with ⟨w,x,hw,_⟩ | ⟨q,_⟩
    ·obtain⟨i,hi,_⟩:=hw;exact absurd hi (hn i)
    ·exact q
   ·rw[←h.len,c1g ha]
theorem TM.drop{V:Type}{φ:V→Int→Prop}{t:Tb}{m:List (Int × V)}(h:TM φ t m)(k:Int):(∃r v u,U2 t k = .some (r,v,0)∧r.length=t.length∧y7 m k = .some u∧φ u v∧TM φ r (b0M m k))∨(U2 t k = .some (t,0,9)∧y7 m k=none∧b0M m k=m):=by
 rcases b1o t k with ⟨i,hi⟩ | hn
 ·left;obtain⟨u,h1,h2⟩:=(h.has k).1 _ ⟨i,hi,rfl⟩;refine⟨_,_,u,a7B h.R hi,by simp,h1,h2,a3Y h.R hi.1,(c3l m k).nodup h.nd,?_,λk'=>?_⟩
  ·have:=a9M hi.1 ⟨2,0,0⟩;rw[if_pos hi.2.1,if_neg (by decide),h.len] at this;rw[c3k,h1];simp only[Option.isSome_some,if_true];omega
  ·have hh:=b2x h.R hi;rw[c1k h.nd];by_cases e:k'=k
   ·subst e;rw[if_pos rfl];exact⟨λw hw=>absurd rfl ((hh _ _).1 hw).1,λq=>by cases q⟩
   ·rw[if_neg e];refine⟨λw hw=>(h.has k').1 w ((hh _ _).1 hw).2,λq=>?_⟩;obtain⟨w,hw⟩:=(h.has k').2 q;exact⟨w,(hh _ _).2 ⟨e,hw⟩⟩
 ·right;have h1:y7 m k=none:=by
   rcases h.some k with ⟨w,x,hw,_⟩ | ⟨q,_⟩
   ·obtain⟨i,hi,_⟩:=hw;exact absurd hi (hn i)
   ·exact q
  refine⟨a7A h.R hn,h1,?_⟩;have:∀(l:List (Int × V)),y7 l k=none→b0M l k=l:=by
   intro l;induction l with
   | nil=>intro _;rfl
   | cons p l ih=>
    intro q;unfold y7 at q;unfold b0M;by_cases e:k=p.1
    ·rw[if_pos (by simpa using e)] at q;cases q
    ·rw[if_neg (by simpa using e)] at q;rw[if_neg (by simpa using e),ih q]
  exact this m h1
theorem c8r{n:Nat}(h1:1≤n)(h8:n≤8):a9G (n:Int)=some (List.replicate n ⟨0,0,0⟩):=by
 unfold a9G;rw[if_neg (by simp;omega),a6X (by omega) (by omega)];rfl
theorem b2Z{n j:Nat}:pt (List.replicate n ⟨0,0,0⟩) j=⟨0,0,0⟩:=by
 unfold pt;rw[List.getD_eq_getElem?_getD,List.getElem?_replicate];split <;> rfl
theorem c9h{V:Type}(φ:V→Int→Prop){n:Nat}(h1:1≤n)(h8:n≤8):TM φ (List.replicate n ⟨0,0,0⟩) []:=by
 refine⟨⟨by simpa using h1,by simpa using h8,λi hi=>?_,λi j hi hj s=>?_,λi hi s=>?_⟩,by simp,?_,λk=>⟨λv hv=>?_,λq=>by cases q⟩⟩;·rw[b2Z];exact⟨.inl rfl,λ_=>⟨rfl,rfl⟩⟩
 ·rw[b2Z] at s;cases s
 ·rw[b2Z] at s;cases s
 ·rw[a3w,List.countP_replicate];rfl
 ·obtain⟨i,hi,_⟩:=hv;have:=hi.2.1;rw[b2Z] at this;cases this
end Go.Sh
namespace Go.Sh
abbrev pp(p:l6):a3z:=⟨p.Key,p.Val⟩
def prs(t:Tb):List l6:=(t.filter (·.State==1)).map λp=>⟨p.Key,p.Val⟩
theorem a9L(t:Tb):keys t=(prs t).map (·.Key):=by
 unfold keys prs;rw[List.map_map];rfl
theorem Y9(t:Tb):(prs t).length=(keys t).length:=by rw[a9L,List.length_map]
theorem a4v{t:Tb}(h:t.length≤8):(prs t).length≤8:=by
 rw[Y9,a3w];exact Nat.le_trans List.countP_le_length h
theorem a20{t:Tb}{p:l6}:p∈prs t↔Has t p.Key p.Val:=by
 unfold prs Has;rw[List.mem_map];constructor
 ·rintro⟨q,hq,rfl⟩;obtain⟨h1,h2⟩:=List.mem_filter.1 hq;obtain⟨i,hi,rfl⟩:=List.getElem_of_mem h1;refine⟨i,⟨hi,?_,?_⟩,?_⟩ <;> rw[b1s hi]
  simpa using h2
 ·rintro⟨i,⟨hi,h1,h2⟩,h3⟩;rw[b1s hi] at h1 h2 h3;refine⟨t[i],List.mem_filter.2 ⟨List.getElem_mem hi,by simpa using h1⟩,?_⟩;cases p;simp at h2 h3 ⊢;exact⟨h2,h3⟩
theorem b5U{t:Tb}(hR:HR t){j:Nat}(h:j<(prs t).length):I4 t (prs t)[j].Key=some ((prs t)[j].Val,0):=b9V hR (a20.1 (List.getElem_mem h))
theorem c6O{E R:Type}{x:Option E}{r:E}{κ:E→Option R}{y:Option R}(h:x=some r)(hy:κ r=y):((x.bind λe=>some e).bind κ)=y:=by rw[h];exact hy
theorem c3R{t:Tb}(hR:HR t):a30 t=some (prs t):=by
 have h8:=hR.l8;have hp:=a4v h8;unfold a30 w9 a0R a19;simp only[jn,d1G];rw[keys_eq (by omega),d1G];refine c6O (a4f (a2G (prs t).length (λk l=>l=(prs t).take k) (λe=>e=prs t) (by omega) (by simp) ?_ ?_)) rfl
 ·rintro k l hk rfl;refine .inl ⟨_,?_,rfl⟩;dsimp only;rw[if_pos (by rw[←Y9];simpa using hk),n7 (by rw[←Y9];exact hk),d1G];have e:(keys t)[k]'(by rw[←Y9];exact hk)=(prs t)[k].Key:=by simp[a9L]
  rw[e,b5U hR hk,d1G,if_pos (by trivial),x8 (by omega) (by simp;omega),d1G,k8 (by omega),List.take_succ_eq_append_getElem hk]
 ·rintro l rfl;exact⟨_,by rw[←Y9];simp;rfl,by simp⟩
theorem b4M{t:Tb}(hR:HR t):a7O (t.map J3)=some ((prs t).map pp):=by
 have h8:=hR.l8;have hp:=a4v h8;unfold a7O;simp only[jn];rw[c37 (by omega),d1G];refine P0 (prs t).length (λk l=>l=((prs t).take k).map pp) (by omega) (by simp) ?_ (λl hl=>⟨_,by rw[←Y9];simp;rfl,by rw[hl,List.take_length]⟩);rintro k l hk rfl;refine .inl ⟨_,?_,rfl⟩;rw[if_pos (by rw[←Y9];simpa using hk),n7 (by rw[←Y9];exact hk),d1G];have e:(keys t)[k]'(by rw[←Y9];exact hk)=(prs t)[k].Key:=by simp[a9L]
 rw[e,c36 hR,b5U hR hk,d1G,x8 (by omega) (by simp;omega),d1G,k8 (by omega),List.take_succ_eq_append_getElem hk,List.map_append];rfl
def own(t:Tb)(h:Int):Nat:=(prs t).countP λp=>(h != 0)&&(p.Val==h)
theorem c3N{t:Tb}(hR:HR t)(h:Int):a3Z t h=some (own t h:Int):=by
 have h8:=hR.l8;have hp:=a4v h8;unfold a3Z w8 a0R a18;simp only[jn,d1G];rw[keys_eq (by omega),d1G];refine c6O (r:=(prs t).filter λp=>(h != 0)&&(p.Val==h)) (a4f (a2G (prs t).length (λk l=>l=((prs t).take k).filter λp=>(h != 0)&&(p.Val==h)) (λe=>e=(prs t).filter λp=>(h != 0)&&(p.Val==h)) (by omega) (by simp) ?_ ?_)) (by unfold own;rw[List.countP_eq_length_filter])
 ·rintro k l hk rfl;refine .inl ⟨((prs t).take (k+1)).filter λp=>(h != 0)&&(p.Val==h),?_,rfl⟩;dsimp only;rw[if_pos (by rw[←Y9];simpa using hk),n7 (by rw[←Y9];exact hk),d1G];have e:(keys t)[k]'(by rw[←Y9];exact hk)=(prs t)[k].Key:=by simp[a9L]
  have hle:(((prs t).take k).filter λp=>(h != 0)&&(p.Val==h)).length≤8:=Nat.le_trans (List.length_filter_le ..) (by simp;omega);rw[e,b5U hR hk,d1G,k8 (by omega),List.take_succ_eq_append_getElem hk,List.filter_append,List.filter_cons,List.filter_nil];by_cases c:((h != 0)&&((prs t)[k].Val==h))=true
  ·rw[if_pos c,if_pos c,x8 (by omega) (by simp only[List.length_cons,List.length_nil];omega),d1G]
  ·rw[if_neg c,if_neg c,List.append_nil]
 ·rintro l rfl;exact⟨_,by rw[←Y9];simp;rfl,by simp⟩
theorem c1z{t:Tb}(hR:HR t)(h:Int):b0X (t.map J3) h=some (own t h:Int):=by
 have h8:=hR.l8;have hp:=a4v h8;unfold b0X;simp only[jn];rw[b4M hR,d1G,List.length_map];refine c5H (λs=>∃k:Nat,k≤(prs t).length∧s.2=(k:Int)∧s.1=((((prs t).take k).countP λp=>(h != 0)&&(p.Val==h):Nat):Int)) (λs=>(prs t).length+1-s.2.toNat) ⟨0,by omega,rfl,by simp⟩ (by simp;omega) ?_;rintro⟨_,_⟩ ⟨k,hk,rfl,rfl⟩;dsimp only;by_cases hlt:k<(prs t).length
 ·left;rw[if_pos (by simpa using hlt),a0y,n7 hlt,Option.map_some,d1G,k8 (n:=k) (by omega)];have hle:(((prs t).take k).countP λp=>(h != 0)&&(p.Val==h))≤8:=Nat.le_trans List.countP_le_length (by simp;omega);have hstep:(((prs t).take (k+1)).countP λp=>(h != 0)&&(p.Val==h))=(((prs t).take k).countP λp=>(h != 0)&&(p.Val==h))+if ((h != 0)&&((prs t)[k].Val==h))=true then 1 else 0:=by
   rw[List.take_succ_eq_append_getElem hlt,List.countP_append,List.countP_cons,List.countP_nil,Nat.zero_add]
  by_cases c:((h != 0)&&((prs t)[k].Val==h))=true
  ·rw[if_pos (by simp only[Bool.and_eq_true] at c ⊢;exact⟨c.2,c.1⟩),k8 (by omega)];rw[if_pos c] at hstep;exact⟨_,rfl,⟨k+1,by omega,rfl,by rw[hstep]⟩,by simp;omega⟩
  ·rw[if_neg (by simp only[Bool.and_eq_true] at c ⊢;exact λq=>c ⟨q.2,q.1⟩)];rw[if_neg c] at hstep;exact⟨_,rfl,⟨k+1,by omega,rfl,by rw[hstep];rfl⟩,by simp;omega⟩
 ·right;have:k=(prs t).length:=by omega
  subst this;exact⟨_,by rw[if_neg (by simp)],by rw[List.take_length];rfl⟩
theorem b9l{t:Tb}(hR:HR t)(k v:Int):∃r,P8 t k v=some r∧HR r.1∧r.1.length=t.length ∧
  ((k=0∧r=(t,0,2))∨(k≠0∧v=0∧((∃i,Fk t k i∧r=(t.set i ⟨2,0,0⟩,(pt t i).Val,0))∨((∀i,¬Fk t k i)∧r=(t,0,0)))) ∨
   (k≠0∧v≠0∧((∃i,Fk t k i∧r=(t.set i ⟨1,k,v⟩,(pt t i).Val,0))∨(∃d,(∀i,¬Fk t k i)∧d<t.length∧(pt t d).State≠1∧b1E t k v (t.set d ⟨1,k,v⟩,0)∧r=(t.set d ⟨1,k,v⟩,0,0))∨((∀i,¬Fk t k i)∧(∀i,i<t.length→(pt t i).State=1)∧r=(t,0,8))))):=by
 unfold P8;by_cases hk:k=0
 ·rw[if_pos (by simpa using hk)];exact⟨_,rfl,hR,rfl,.inl ⟨hk,rfl⟩⟩
 ·rw[if_neg (by simpa using hk)];obtain⟨g,hg,hgv⟩:∃g,I4 t k=some g∧((∃i,Fk t k i∧g=((pt t i).Val,0))∨((∀i,¬Fk t k i)∧g=(0,9))):=by
   rcases b1o t k with ⟨i,hi⟩ | hn;·exact⟨_,b8K hR hi,.inl ⟨i,hi,rfl⟩⟩
   ·exact⟨_,b8J hR hn,.inr ⟨hn,rfl⟩⟩
  rw[hg,d1G];by_cases hv:v=0
  ·rw[if_pos (by simpa using hv)];rcases hgv with ⟨i,hi,rfl⟩ | ⟨hn,rfl⟩
   ·rw[a7B hR hi,d1G];exact⟨_,rfl,a3Y hR hi.1,by simp,.inr (.inl ⟨hk,hv,.inl ⟨i,hi,rfl⟩⟩)⟩
   ·rw[a7A hR hn,d1G];exact⟨_,rfl,hR,rfl,.inr (.inl ⟨hk,hv,.inr ⟨hn,rfl⟩⟩)⟩
  ·rw[if_neg (by simpa using hv)];obtain⟨r,hr,hp⟩:=b84 hR k v;rw[hr,d1G];have hRr:=a83 hR hp;have hl:=b21 hp;have hp':=hp;cases hp with
   | old i hi=>
    rcases hgv with ⟨j,hj,rfl⟩ | ⟨hn,rfl⟩
    ·rw[hR.uq j i hj.1 hi.1 hj.2.1 hi.2.1 (hj.2.2.trans hi.2.2.symm)];exact⟨_,rfl,hRr,hl,.inr (.inr ⟨hk,hv,.inl ⟨i,hi,rfl⟩⟩)⟩
    ·exact absurd hi (hn i)
   | new d hn hd hb hf=>
    rcases hgv with ⟨j,hj,rfl⟩ | ⟨_,rfl⟩;·exact absurd hj (hn j)
    ·exact⟨_,rfl,hRr,hl,.inr (.inr ⟨hk,hv,.inr (.inl ⟨_,hn,a2J hR.l1 k d,hf,hp',rfl⟩)⟩)⟩
   | full hn ha=>exact⟨_,rfl,hR,rfl,.inr (.inr ⟨hk,hv,.inr (.inr ⟨hn,ha,rfl⟩)⟩)⟩
theorem c1B{t:Tb}(hR:HR t)(k v:Int):∃r,P8 t k v=some r∧HR r.1∧r.1.length=t.length∧b54 (t.map J3) k v=some (r.1.map J3,r.2) ∧
  ((k=0∧r=(t,0,2))∨(k≠0∧v=0∧((∃i,Fk t k i∧r=(t.set i ⟨2,0,0⟩,(pt t i).Val,0))∨((∀i,¬Fk t k i)∧r=(t,0,0)))) ∨
   (k≠0∧v≠0∧((∃i,Fk t k i∧r=(t.set i ⟨1,k,v⟩,(pt t i).Val,0))∨(∃d,(∀i,¬Fk t k i)∧d<t.length∧(pt t d).State≠1∧b1E t k v (t.set d ⟨1,k,v⟩,0)∧r=(t.set d ⟨1,k,v⟩,0,0))∨((∀i,¬Fk t k i)∧(∀i,i<t.length→(pt t i).State=1)∧r=(t,0,8))))):=by
 unfold P8 b54;by_cases hk:k=0
 ·rw[if_pos (by simpa using hk),if_pos (by simpa using hk)];exact⟨_,rfl,hR,rfl,rfl,.inl ⟨hk,rfl⟩⟩
 ·rw[if_neg (by simpa using hk),if_neg (by simpa using hk),c36 hR];obtain⟨g,hg,hgv⟩:∃g,I4 t k=some g∧((∃i,Fk t k i∧g=((pt t i).Val,0))∨((∀i,¬Fk t k i)∧g=(0,9))):=by
   rcases b1o t k with ⟨i,hi⟩ | hn;·exact⟨_,b8K hR hi,.inl ⟨i,hi,rfl⟩⟩
   ·exact⟨_,b8J hR hn,.inr ⟨hn,rfl⟩⟩
  rw[hg,d1G,d1G];by_cases hv:v=0
  ·rw[if_pos (by simpa using hv),if_pos (by simpa using hv),c31 hR];rcases hgv with ⟨i,hi,rfl⟩ | ⟨hn,rfl⟩
   ·rw[a7B hR hi,d1G];exact⟨_,rfl,a3Y hR hi.1,by simp,rfl,.inr (.inl ⟨hk,hv,.inl ⟨i,hi,rfl⟩⟩)⟩
   ·rw[a7A hR hn,d1G];exact⟨_,rfl,hR,rfl,rfl,.inr (.inl ⟨hk,hv,.inr ⟨hn,rfl⟩⟩)⟩
  ·rw[if_neg (by simpa using hv),if_neg (by simpa using hv)];obtain⟨r,hr,hp⟩:=b84 hR k v;rw[hr,d1G,d0i hR k v hp,d1G];have hRr:=a83 hR hp;have hl:=b21 hp;have hp':=hp;cases hp with
   | old i hi=>
    rcases hgv with ⟨j,hj,rfl⟩ | ⟨hn,rfl⟩
    ·rw[hR.uq j i hj.1 hi.1 hj.2.1 hi.2.1 (hj.2.2.trans hi.2.2.symm)];exact⟨_,rfl,hRr,hl,rfl,.inr (.inr ⟨hk,hv,.inl ⟨i,hi,rfl⟩⟩)⟩
    ·exact absurd hi (hn i)
   | new d hn hd hb hf=>
    rcases hgv with ⟨j,hj,rfl⟩ | ⟨_,rfl⟩;·exact absurd hj (hn j)
    ·exact⟨_,rfl,hRr,hl,rfl,.inr (.inr ⟨hk,hv,.inr (.inl ⟨_,hn,a2J hR.l1 k d,hf,hp',rfl⟩)⟩)⟩
   | full hn ha=>exact⟨_,rfl,hR,rfl,rfl,.inr (.inr ⟨hk,hv,.inr (.inr ⟨hn,ha,rfl⟩)⟩)⟩
theorem b4H(t:Tb)(h:Int):own t h=t.countP λp=>(p.State==1)&&((h != 0)&&(p.Val==h)):=by
 unfold own prs;rw[List.countP_map,List.countP_filter];congr 1;funext p
 simp[Bool.and_comm]
theorem c0j{t:Tb}{i:Nat}(hi:i<t.length)(p:b8)(h:Int):own (t.set i p) h+(if (((pt t i).State==1)&&((h != 0)&&((pt t i).Val==h)))=true then 1 else 0)=own t h+if ((p.State==1)&&((h != 0)&&(p.Val==h)))=true then 1 else 0:=by
 rw[b4H,b4H,List.countP_set hi,b1s hi];have:(if ((t[i].State==1)&&((h != 0)&&(t[i].Val==h)))=true then 1 else 0)≤t.countP λp=>(p.State==1)&&((h != 0)&&(p.Val==h)):=by
  split
  ·rename_i e;exact List.countP_pos_iff.2 ⟨t[i],List.getElem_mem hi,e⟩
  ·exact Nat.zero_le _
 omega
theorem b8Y{t:Tb}(h8:t.length≤8)(h:Int):own t h≤8:=Nat.le_trans List.countP_le_length (a4v h8)
end Go.Sh
namespace Go.Sh
end Go.Sh
namespace Go.Sh
theorem b8a{t:Tb}(hR:HR t)(ks:List Int)(hks:ks.length≤1000):∃a had,U0 t ks=some (a,had)∧HR a∧a.length=t.length∧had.length≤ks.length∧a4c (t.map J3) ks=some (a.map J3,had) ∧
  (∀k v,Has a k v↔k∉ks∧Has t k v)∧(keys a).length+had.length=(keys t).length∧(∀k v,k∈ks→Has t k v→v∈had)∧∀y,own a y+V7 had y=own t y:=by
 have key:∀n,n≤ks.length→∃a had,HR a∧a.length=t.length∧had.length≤n∧(∀k v,Has a k v↔k∉ks.take n∧Has t k v)∧(keys a).length+had.length=(keys t).length∧(∀k v,k∈ks.take n→Has t k v→v∈had)∧(∀y,own a y+V7 had y=own t y) ∧
   ∃f:Nat→Tb × List Int,f 0=(t,[])∧f n=(a,had)∧∀j,(hj:j<n)→HR (f j).1∧(f j).2.length≤j∧((∃i,∃hjk:j<ks.length,Fk (f j).1 ks[j] i∧f (j+1)=((f j).1.set i ⟨2,0,0⟩,(f j).2 ++ [(pt (f j).1 i).Val]))∨((∀i,∀hjk:j<ks.length,¬Fk (f j).1 ks[j] i)∧f (j+1)=f j)):=by
  intro n;induction n with
  | zero=>exact λ_=>⟨t,[],hR,rfl,by simp,by simp,by simp,by simp,λy=>by unfold V7;split <;> simp,λ_=>(t,[]),rfl,rfl,λj hj=>by omega⟩
  | succ n ih=>
   intro hn;obtain⟨a,had,h1,h2,h3,h4,h5,h6,h7,f,f0,fn,fs⟩:=ih (by omega);have hlt:n<ks.length:=by omega
   have htk:∀k,k∈ks.take (n+1)↔k∈ks.take n∨k=ks[n]:=λk=>by
    rw[List.take_succ_eq_append_getElem hlt,List.mem_append,List.mem_singleton]
   rcases b1o a ks[n] with ⟨i,hi⟩ | hno
   ·have hd:=b2x h1 hi;refine⟨a.set i ⟨2,0,0⟩,had ++ [(pt a i).Val],a3Y h1 hi.1,by simpa using h2,by simp;omega,λk v=>?_,?_,λk v hk hv=>?_,λy=>?_,λj=>if j=n+1 then (a.set i ⟨2,0,0⟩,had ++ [(pt a i).Val]) else f j,by simp[f0],by simp,λj hj=>?_⟩
    ·rw[hd,h4,htk];constructor;·rintro⟨q1,q2,q3⟩;exact⟨λq=>q.elim q2 q1,q3⟩
     ·rintro⟨q1,q2⟩;exact⟨λq=>q1 (.inr q),λq=>q1 (.inl q),q2⟩
    ·have:=a9M hi.1 ⟨2,0,0⟩;rw[if_pos hi.2.1,if_neg (by decide)] at this;simp only[List.length_append,List.length_cons,List.length_nil];omega
    ·rw[List.mem_append];rcases (htk k).1 hk with q | q
     ·exact .inl (h6 k v q hv)
     ·subst q;by_cases q':ks[n]∈ks.take n
      ·exact .inl (h6 _ v q' hv)
      ·have:=(h4 _ _).2 ⟨q',hv⟩;rw[this.fn h1 ⟨i,hi,rfl⟩];exact .inr (by simp)
    ·have:=c0j hi.1 ⟨2,0,0⟩ y;have h7':=h7 y;rw[H4];have e:V7 [(pt a i).Val] y=if (((pt a i).State==1)&&((y != 0)&&((pt a i).Val==y)))=true then 1 else 0:=by
      rw[hi.2.1];unfold V7;by_cases y0:y=0
      ·simp[y0]
      ·by_cases e:(pt a i).Val=y
       ·simp[y0,e]
       ·simp[y0,e]
     rw[e];rw[if_neg (show ¬((((2:Int)==1)&&((y != 0)&&((0:Int)==y)))=true) by simp)] at this;omega
    ·rcases Nat.lt_or_ge j n with q | q
     ·have:=fs j q;dsimp only;rw[if_neg (by omega),if_neg (by omega)];exact this
     ·have:j=n:=by omega
      subst this;dsimp only;rw[if_neg (by omega),if_pos rfl,fn];exact⟨h1,h3,.inl ⟨i,hlt,hi,rfl⟩⟩
   ·refine⟨a,had,h1,h2,by omega,λk v=>?_,h5,λk v hk hv=>?_,h7,λj=>if j=n+1 then (a,had) else f j,by simp[f0],by simp,λj hj=>?_⟩
    ·rw[h4,htk];constructor
     ·rintro⟨q1,q2⟩;refine⟨λq=>q.elim q1 λq=>?_,q2⟩;subst q;obtain⟨i,hi,_⟩:=(h4 _ _).2 ⟨q1,q2⟩;exact hno i hi
     ·rintro⟨q1,q2⟩;exact⟨λq=>q1 (.inl q),q2⟩
    ·rcases (htk k).1 hk with q | q
     ·exact h6 k v q hv
     ·subst q;by_cases q':ks[n]∈ks.take n
      ·exact h6 _ v q' hv
      ·obtain⟨i,hi,_⟩:=(h4 _ _).2 ⟨q',hv⟩;exact absurd hi (hno i)
    ·rcases Nat.lt_or_ge j n with q | q
     ·have:=fs j q;dsimp only;rw[if_neg (by omega),if_neg (by omega)];exact this
     ·have:j=n:=by omega
      subst this;dsimp only;rw[if_neg (by omega),if_pos rfl,fn];exact⟨h1,h3,.inr ⟨λi _=>hno i,rfl⟩⟩
 obtain⟨a,had,h1,h2,h3,h4,h5,h6,h7,f,f0,fn,fs⟩:=key ks.length (Nat.le_refl _);rw[List.take_length] at h4 h6;refine⟨a,had,?_,h1,h2,h3,?_,h4,h5,h6,h7⟩
 ·unfold U0;simp only[jn];refine a0p (λj=>((f j).1,(j:Int),(f j).2)) (by rw[f0];rfl) ks.length (λ_=>True) (by omega) trivial (λj hj _=>?_) (λ_=>⟨(a,had),by dsimp only;rw[if_neg (by simp),fn],rfl⟩);obtain⟨g1,g2,g3⟩:=fs j hj;left;refine⟨?_,trivial⟩;dsimp only;rw[if_pos (by simpa using hj),n7 hj,d1G,k8 (by omega)];rcases g3 with ⟨i,_,hi,e⟩ | ⟨hno,e⟩
  ·rw[a7B g1 hi,d1G,e];dsimp only;rw[if_pos (by decide),x8 (by omega) (by simp;omega),d1G]
  ·rw[a7A g1 (λi=>hno i hj),d1G,e];dsimp only;rw[if_neg (by decide)]
 ·unfold a4c;simp only[jn];refine a0p (λj=>((f j).1.map J3,(j:Int),(f j).2)) (by rw[f0];rfl) ks.length (λ_=>True) (by omega) trivial (λj hj _=>?_) (λ_=>⟨(a.map J3,had),by dsimp only;rw[if_neg (by simp),fn],rfl⟩);obtain⟨g1,g2,g3⟩:=fs j hj;left;refine⟨?_,trivial⟩;dsimp only;rw[if_pos (by simpa using hj),n7 hj,d1G,k8 (by omega),c31 g1];rcases g3 with ⟨i,_,hi,e⟩ | ⟨hno,e⟩
  ·rw[a7B g1 hi,Option.map_some,d1G,e];dsimp only;rw[if_pos (by decide),x8 (by omega) (by simp;omega),d1G]
  ·rw[a7A g1 (λi=>hno i hj),Option.map_some,d1G,e];dsimp only;rw[if_neg (by decide)]
end Go.Sh
namespace Go.Sh
end Go.Sh
namespace Go.Sh
inductive a0j (s:a7) (t:Tb) (l:List Int):Int→Prop
 | base {h:Int}:h∈l→h∈lv s→a0j s t l h
 | step {a b:Int}:a0j s t l a→b∈outs s a→b∈lv s→a0j s t l b
 | pair {k v:Int}:Has t k v→a0j s t l k→v∈lv s→a0j s t l v
open Classical in
noncomputable def frc (s:a7) (t:Tb) (l:List Int):List Int:=(lv s).filter λh=>decide (a0j s t l h)
open Classical in
noncomputable def fls (s:a7) (t:Tb) (l:List Int):List Int:=(lv s).filter λh=>decide (¬a0j s t l h)
noncomputable def owd(s:a7)(t:Tb)(l:List Int):List Int:=((prs t).filter λp=>decide (p.Key∈l∧p.Key∈lv s∧p.Val∈lv s)).map (·.Val)
def TB(t:Tb):Prop:=∀p∈t,p.Key≤9223372036854775807∧p.Val≤9223372036854775807
def PCl(s:a7)(t:Tb)(l:List Int):Prop:=∀k v,Has t k v→k∈l→k∈lv s→v∈lv s→v∈l
theorem TB.has{t:Tb}(h:TB t){k v:Int}(q:Has t k v):k≤9223372036854775807∧v≤9223372036854775807:=by
 obtain⟨i,⟨h1,_,h2⟩,h3⟩:=q;rw[b1s h1] at h2 h3;have:=h _ (List.getElem_mem h1);rw[h2,h3] at this;exact this
theorem a0j.live{s:a7}{t:Tb}{l:List Int}{h:Int}(q:a0j s t l h):h∈lv s:=by cases q <;> assumption
open Classical in
theorem a5u {s:a7} {t:Tb} {l:List Int} {h:Int}:h∈frc s t l↔a0j s t l h:=by
 unfold frc;rw[List.mem_filter];exact⟨λq=>of_decide_eq_true q.2,λq=>⟨q.live,decide_eq_true q⟩⟩
theorem b5t{s:a7}(hR:RtR (sO s))(t:Tb)(l:List Int):(frc s t l).length≤24:=Nat.le_trans (List.length_filter_le ..) (E3 hR)
theorem c7Z{s:a7}(hR:RtR (sO s))(t:Tb)(l:List Int):LB (frc s t l):=λx hx=>by have:=a4s hR (a5u.1 hx).live;omega
theorem c8X{s:a7}(hR:RtR (sO s))(l:List Int):LB (rcd s l):=λx hx=>by have:=a4s hR (W5.1 hx).live;omega
theorem c7Y(s:a7)(t:Tb)(l:List Int):Cl s (frc s t l):=λa ha b hb hl=>a5u.2 (.step (a5u.1 ha) hb hl)
theorem a0j.least{s:a7}{t:Tb}{l m:List Int}(hc:Cl s m)(hp:PCl s t m)(hl:∀x∈l,x∈lv s→x∈m){h:Int}(q:a0j s t l h):h∈m:=by
 induction q with
 | base h1 h2=>exact hl _ h1 h2
 | step _ h1 h2 ih=>exact hc _ ih _ h1 h2
 | pair h1 h2 h3 ih=>exact hp _ _ h1 ih h2.live h3
theorem a0j.mono{s:a7}{t u:Tb}{l m:List Int}(ht:∀k v,Has t k v→Has u k v)(hl:∀x∈l,x∈lv s→a0j s u m x){h:Int}(q:a0j s t l h):a0j s u m h:=by
 induction q with
 | base h1 h2=>exact hl _ h1 h2
 | step _ h1 h2 ih=>exact .step ih h1 h2
 | pair h1 _ h3 ih=>exact .pair (ht _ _ h1) ih h3
theorem Rch.d09{s:a7}(t:Tb){l:List Int}{h:Int}(q:Rch s l h):a0j s t l h:=by
 induction q with
 | base h1 h2=>exact .base h1 h2
 | step _ h1 h2 ih=>exact .step ih h1 h2
theorem a9Y{s:a7}{t:Tb}{l:List Int}{v:Int}:v∈owd s t l↔∃k,Has t k v∧k∈l∧k∈lv s∧v∈lv s:=by
 unfold owd;rw[List.mem_map];constructor
 ·rintro⟨p,hp,rfl⟩;obtain⟨h1,h2⟩:=List.mem_filter.1 hp;exact⟨p.Key,a20.1 h1,of_decide_eq_true h2⟩
 ·rintro⟨k,h1,h2⟩;exact⟨⟨k,v⟩,List.mem_filter.2 ⟨a20.2 h1,decide_eq_true h2⟩,rfl⟩
theorem b5Q{s:a7}{t:Tb}{l:List Int}:(∀v∈owd s t l,v∈l)↔PCl s t l:=by
 constructor;·exact λh k v h1 h2 h3 h4=>h v (a9Y.2 ⟨k,h1,h2,h3,h4⟩)
 ·intro h v hv;obtain⟨k,h1,h2,h3,h4⟩:=a9Y.1 hv;exact h k v h1 h2 h3 h4
theorem b5R{s:a7}{t:Tb}(hT:HR t)(l:List Int):(owd s t l).length≤8:=by
 unfold owd;rw[List.length_map];exact Nat.le_trans (List.length_filter_le ..) (a4v hT.l8)
theorem c8G{s:a7}(hR:RtR (sO s))(t:Tb)(l:List Int):LB (owd s t l):=λx hx=>by
 obtain⟨_,_,_,_,h⟩:=a9Y.1 hx;have:=a4s hR h;omega
noncomputable def E4(s:a7)(t:Tb)(l:List Int):Nat→List Int
 | 0=>rcd s l
 | k+1=>rcd s (E4 s t l k++owd s t (E4 s t l k))
section
variable{s:a7}{t:Tb}{l:List Int}
theorem b05(k:Nat):E4 s t l (k+1)=rcd s (E4 s t l k++owd s t (E4 s t l k)):=rfl
theorem a4W(k:Nat):∃m,E4 s t l k=rcd s m:=by
 cases k with
 | zero=>exact⟨_,rfl⟩
 | succ k=>exact⟨_,rfl⟩
theorem c6i(k:Nat):Cl s (E4 s t l k):=by
 obtain⟨m,e⟩:=a4W (s:=s) (t:=t) (l:=l) k;rw[e];exact c8W s m
theorem c1w(k:Nat){x:Int}(h:x∈E4 s t l k):x∈lv s:=by
 obtain⟨m,e⟩:=a4W (s:=s) (t:=t) (l:=l) k;rw[e] at h;exact (W5.1 h).live
theorem b7K(k:Nat){x:Int}(h:x∈E4 s t l k):x∈E4 s t l (k+1):=W5.2 (.base (List.mem_append.2 (.inl h)) (c1w k h))
theorem c1v(k:Nat):∀x∈l,x∈lv s→x∈E4 s t l k:=by
 induction k with
 | zero=>exact λx h1 h2=>W5.2 (.base h1 h2)
 | succ k ih=>exact λx h1 h2=>b7K k (ih x h1 h2)
theorem c4a(k:Nat):∀x∈E4 s t l k,a0j s t l x:=by
 induction k with
 | zero=>exact λx h=>(W5.1 h).d09 t
 | succ k ih=>
  intro x h;have:=W5.1 h;induction this with
  | base h1 h2=>
   rcases List.mem_append.1 h1 with q | q
   ·exact ih _ q
   ·obtain⟨k',q1,q2,q3,q4⟩:=a9Y.1 q;exact .pair q1 (ih _ q2) q4
  | step h0 h1 h2 ih2=>exact .step (ih2 (W5.2 h0)) h1 h2
theorem b4L{k:Nat}(h:PCl s t (E4 s t l k)):E4 s t l k=frc s t l:=by
 obtain⟨m,e⟩:=a4W (s:=s) (t:=t) (l:=l) k;have hm:∀x,Rch s m x↔a0j s t l x:=λx=>by
  rw[←W5,←e];exact⟨c4a k x,λq=>q.least (c6i k) h (c1v k)⟩
 rw[e];unfold rcd frc;exact List.filter_congr λx _=>decide_eq_decide.2 (hm x)
theorem b9d{k:Nat}(h:PCl s t (E4 s t l k)):E4 s t l (k+1)=E4 s t l k:=by
 obtain⟨m,e⟩:=a4W (s:=s) (t:=t) (l:=l) k;rw[b05];have h':=b5Q.2 h;rw[e] at h' ⊢;refine b4K λx=>⟨λq=>?_,λq=>.base (List.mem_append.2 (.inl (W5.2 q))) q.live⟩;refine q.mono λy hy _=>?_;rcases List.mem_append.1 hy with c | c
 ·exact W5.1 c
 ·exact W5.1 (h' y c)
theorem b04{k:Nat}(h:¬PCl s t (E4 s t l k)):((prs t).filter λp=>decide (p.Val∈E4 s t l k)).length<((prs t).filter λp=>decide (p.Val∈E4 s t l (k+1))).length:=by
 obtain⟨v,hv,hn⟩:∃v,v∈owd s t (E4 s t l k)∧v∉E4 s t l k:=Classical.byContradiction λq=>h (b5Q.1 λv hv=>Classical.byContradiction λq2=>q ⟨v,hv,q2⟩);obtain⟨k',h1,h2,h3,h4⟩:=a9Y.1 hv;refine filter_lt (λp _ hp=>?_) ⟨k',v⟩ (a20.2 h1) ?_ ?_
 ·rw[decide_eq_true_iff] at hp ⊢;exact b7K k hp
 ·rw[decide_eq_true_iff];exact W5.2 (.base (List.mem_append.2 (.inr hv)) h4)
 ·exact decide_eq_false hn
theorem b0b(s:a7)(t:Tb)(l:List Int):∃n,n≤(prs t).length∧PCl s t (E4 s t l n)∧∀j,j<n→¬PCl s t (E4 s t l j):=by
 have key:∀k,(∃j,j≤k∧PCl s t (E4 s t l j))∨k<((prs t).filter λp=>decide (p.Val∈E4 s t l (k+1))).length:=by
  intro k;induction k with
  | zero=>
   by_cases h:PCl s t (E4 s t l 0)
   ·exact .inl ⟨0,Nat.le_refl _,h⟩
   ·have:=b04 h;exact .inr (by omega)
  | succ k ih=>
   rcases ih with ⟨j,h1,h2⟩ | ih;·exact .inl ⟨j,by omega,h2⟩
   ·by_cases h:PCl s t (E4 s t l (k+1))
    ·exact .inl ⟨k+1,Nat.le_refl _,h⟩
    ·have:=b04 h;exact .inr (by omega)
 obtain⟨j,h1,h2⟩:∃j,j≤(prs t).length∧PCl s t (E4 s t l j):=by
  rcases key (prs t).length with q | q
  ·exact q
  ·have:=List.length_filter_le (λp:l6=>decide (p.Val∈E4 s t l ((prs t).length+1))) (prs t);omega
 obtain⟨n,hn,hmin⟩:=a0C (p:=λj=>PCl s t (E4 s t l j)) ⟨j,h2⟩;exact⟨n,Nat.le_trans (hmin j h2) h1,hn,λi hi q=>by have:=hmin i q;omega⟩
end
noncomputable def rnd(s:a7)(t:Tb)(l:List Int):Nat:=Classical.choose (b0b s t l)
theorem c39(s:a7)(t:Tb)(l:List Int):rnd s t l≤(prs t).length:=(Classical.choose_spec (b0b s t l)).1
theorem b7J(s:a7)(t:Tb)(l:List Int):PCl s t (E4 s t l (rnd s t l)):=(Classical.choose_spec (b0b s t l)).2.1
theorem c0x(s:a7)(t:Tb)(l:List Int){j:Nat}(h:j<rnd s t l):¬PCl s t (E4 s t l j):=(Classical.choose_spec (b0b s t l)).2.2 j h
section
variable{s:a7}(hR:RtR (sO s)){t:Tb}(hT:HR t)(hTB:TB t)
include hR hT hTB
omit hT hTB in
theorem b4y {h:Int} (hh:h≤9223372036854775807):a3r h s=some (decide (h∈lv s)):=by
 obtain⟨e,h1,h2⟩:=O3 hR hh;unfold a3r;rw[h1,d1G];congr 1;rw[Bool.eq_iff_iff,beq_iff_eq,decide_eq_true_iff];exact h2
omit hT hTB in
theorem b2R {h:Int} (hh:h≤9223372036854775807):a7P (sO s) h=some (decide (h∈lv s)):=by
 obtain⟨e,h1,h2⟩:=O3 hR hh;unfold a7P;rw[a4G s (by have:=a1r hR;omega) hh,h1];simp only[Option.map_some,d1G];congr 1;rw[Bool.eq_iff_iff,beq_iff_eq,decide_eq_true_iff];exact h2
theorem c0h{l:List Int}(hl:l.length≤1000000):a9u s t l=some (owd s t l):=by
 unfold a9u;simp only[jn,c3R hT,d1G];have h8:=a4v hT.l8;rw[D3 ((prs t)) (λb p=>b++(if decide (p.Key∈l∧p.Key∈lv s∧p.Val∈lv s) then [p.Val] else [])) id (λk b=>b.length≤k) (by omega) (by simp) (λk hk b hb=>?_) (λb _=>?_)]
 ·simp only[d1G,id];rw[a1O];congr 1;unfold owd;rw[List.nil_append];generalize prs t=P;induction P with
  | nil=>rfl
  | cons p P ih=>
   rw[List.flatMap_cons,List.filter_cons,ih];by_cases q:p.Key∈l∧p.Key∈lv s∧p.Val∈lv s
   ·simp[q]
   ·simp[q]
 ·have hb':=hTB.has (a20.1 (List.getElem_mem hk));simp only[Int.ofNat_lt,hk,decide_true,if_true,n7 hk,d1G,contains_eq _ _ hl];rw[b4y hR hb'.1,b4y hR hb'.2];by_cases q1:(prs t)[k].Key∈l
  ·rw[decide_eq_true q1];simp only[beq_self_eq_true,a2S,d1G,Bool.true_and];by_cases q2:(prs t)[k].Key∈lv s
   ·rw[decide_eq_true q2];simp only[beq_self_eq_true,a2S,d1G,Bool.true_and];by_cases q3:(prs t)[k].Val∈lv s
    ·rw[if_pos (by simpa using q3),x8 (by omega) (by simp;omega),d1G,k8,if_pos (by simp[q1,q2,q3])];exact⟨rfl,by simp;omega⟩
    ·rw[if_neg (by simpa using q3),k8,if_neg (by simp[q3]),List.append_nil];exact⟨rfl,by omega⟩
   ·rw[decide_eq_false q2];simp only[show ((false==true):Bool)=false from rfl,b4F,d1G,Bool.false_and,Bool.false_eq_true,if_false];rw[k8,if_neg (by simp[q2]),List.append_nil];exact⟨rfl,by omega⟩
  ·rw[decide_eq_false q1];simp only[show ((false==true):Bool)=false from rfl,b4F,d1G,Bool.false_and,Bool.false_eq_true,if_false];rw[k8,if_neg (by simp[q1]),List.append_nil];exact⟨rfl,by omega⟩
 ·simp only[Int.lt_irrefl,decide_false,Bool.false_eq_true,if_false];rfl
theorem c1d{l:List Int}(hl:l.length≤1000000):a93 (sO s) (t.map J3) l=some (owd s t l):=by
 unfold a93;simp only[jn,b4M hT,d1G];have h8:=a4v hT.l8;rw[D3 ((prs t)) (λb p=>b++(if decide (p.Key∈l∧p.Key∈lv s∧p.Val∈lv s) then [p.Val] else [])) id (λk b=>b.length≤k) (by omega) (by simp) (λk hk b hb=>?_) (λb _=>?_)]
 ·simp only[d1G,id];rw[a1O];congr 1;unfold owd;rw[List.nil_append];generalize prs t=P;induction P with
  | nil=>rfl
  | cons p P ih=>
   rw[List.flatMap_cons,List.filter_cons,ih];by_cases q:p.Key∈l∧p.Key∈lv s∧p.Val∈lv s
   ·simp[q]
   ·simp[q]
 ·have hb':=hTB.has (a20.1 (List.getElem_mem hk));have hk':k<((prs t).map pp).length:=by simpa using hk
  have eix:ix ((prs t).map pp) (k:Int)=some (pp (prs t)[k]):=by rw[a0y,n7 hk];rfl
  simp only[List.length_map,Int.ofNat_lt,hk,decide_true,if_true,eix,d1G,a9C _ _ hl,pp];rw[b2R hR hb'.1,b2R hR hb'.2];simp only[d1G];by_cases q1:(prs t)[k].Key∈lv s
  ·rw[decide_eq_true q1];simp only[beq_self_eq_true,a2S,d1G,Bool.true_and];have h0:=b97 hR _ q1;by_cases q2:(prs t)[k].Key∈l
   ·rw[decide_eq_true (show (prs t)[k].Key≠0∧(prs t)[k].Key∈l from ⟨h0,q2⟩)];simp only[beq_self_eq_true,a2S,d1G,Bool.true_and];by_cases q3:(prs t)[k].Val∈lv s
    ·rw[if_pos (by simpa using q3),x8 (by omega) (by simp;omega),d1G,k8,if_pos (by simp[q1,q2,q3])];exact⟨rfl,by simp;omega⟩
    ·rw[if_neg (by simpa using q3),k8,if_neg (by simp[q3]),List.append_nil];exact⟨rfl,by omega⟩
   ·rw[decide_eq_false (show ¬((prs t)[k].Key≠0∧(prs t)[k].Key∈l) from λq=>q2 q.2)];simp only[show ((false==true):Bool)=false from rfl,b4F,d1G,Bool.false_and,Bool.false_eq_true,if_false];rw[k8,if_neg (by simp[q2]),List.append_nil];exact⟨rfl,by omega⟩
  ·rw[decide_eq_false q1];simp only[show ((false==true):Bool)=false from rfl,b4F,d1G,Bool.false_and,Bool.false_eq_true,if_false];rw[k8,if_neg (by simp[q1]),List.append_nil];exact⟨rfl,by omega⟩
 ·simp only[List.length_map,Int.lt_irrefl,decide_false,Bool.false_eq_true,if_false];rfl
theorem c21(hF:FB s){l:List Int}(hl:LB l)(hlen:l.length≤1000000):a7E s t l=some (frc s t l,(rnd s t l:Int)):=by
 unfold a7E;rw[b9T hR hF hl hlen,d1G];simp only[jn];have hn:=c39 s t l;have h8:=a4v hT.l8;have hstep:∀k,∃m,E4 s t l k=rcd s m:=a4W;refine a0p (p:=λk=>(E4 s t l k,(k:Int))) rfl (rnd s t l) (λ_=>True) (by omega) trivial (λk hk _=>.inl ⟨?_,trivial⟩) (λ_=>?_)
 ·obtain⟨m,hm⟩:=hstep k;have hlk:(E4 s t l k).length≤24:=by rw[hm];exact c0n hR m
  have hlb:LB (E4 s t l k):=by rw[hm];exact c8X hR m
  have hno:=c0x s t l hk;simp only;rw[c0h hR hT hTB (by omega),d1G];have ho:=b5R (s:=s) hT (E4 s t l k);obtain⟨j,⟨hj,hjn⟩,hmin⟩:=a0C (p:=λj=>∃hj:j<(owd s t (E4 s t l k)).length,(owd s t (E4 s t l k))[j]∉E4 s t l k) (by
   refine Classical.byContradiction λq=>hno (b5Q.1 λv hv=>Classical.byContradiction λq2=>?_);obtain⟨j,hj,e⟩:=List.mem_iff_getElem.1 hv;exact q ⟨j,hj,by rw[e];exact q2⟩)
  refine a1S (owd s t (E4 s t l k)).length (λi=>i≤j) (by omega) (Nat.zero_le _) (λi hi hP=>?_) (λhP=>by omega);simp only[Int.ofNat_lt,hi,decide_true,if_true,n7 hi,d1G];rw[contains_eq _ _ (by omega),d1G];rcases Nat.lt_or_ge i j with q | q
  ·refine .inl ⟨?_,q⟩;have:(owd s t (E4 s t l k))[i]∈E4 s t l k:=Classical.byContradiction λq2=>by have:=hmin i ⟨hi,q2⟩;omega
   rw[if_neg (by simp[this]),k8]
  ·have:i=j:=by omega
   subst this;refine .inr ⟨.inl (E4 s t l (k+1),((k+1:Nat):Int)),?_,rfl⟩;rw[if_pos (by simp[hjn]),x8 (by omega) (by omega),d1G,b9T hR hF (λx hx=>by
    rcases List.mem_append.1 hx with q | q
    ·exact c8G hR t _ x q
    ·exact hlb x q) (by simp;omega),d1G,k8,b05]
   rw[b4K (l:=owd s t (E4 s t l k)++E4 s t l k) (m:=E4 s t l k++owd s t (E4 s t l k)) λx=>⟨λq=>q.mono λy hy hyl=>.base (List.mem_append.2 (List.mem_append.1 hy).symm) hyl,λq=>q.mono λy hy hyl=>.base (List.mem_append.2 (List.mem_append.1 hy).symm) hyl⟩]
 ·have hst:=b7J s t l;have hfr:=b4L hst;refine⟨(frc s t l,(rnd s t l:Int)),?_,rfl⟩;simp only;rw[hfr] at hst ⊢;have hfl:=b5t hR t l;rw[c0h hR hT hTB (by omega),d1G];have ho:=b5R (s:=s) hT (frc s t l);refine a1S (owd s t (frc s t l)).length (λ_=>True) (by omega) trivial (λi hi _=>.inl ⟨?_,trivial⟩) (λ_=>⟨.inr (),by simp,rfl⟩);have:=b5Q.2 hst _ (List.getElem_mem hi);simp only[Int.ofNat_lt,hi,decide_true,if_true,n7 hi,d1G];rw[contains_eq _ _ (by omega),d1G,if_neg (by simp[this]),k8]
theorem b7M{l:List Int}(hlen:l.length≤1000000):a86 (sO s) (t.map J3) l=some (frc s t l,(rnd s t l:Int)):=by
 unfold a86;rw[b4n hR hlen,d1G];simp only[jn];have hn:=c39 s t l;have h8:=a4v hT.l8;have hone:∀k,a63 (sO s) (E4 s t l k++owd s t (E4 s t l k))=some (E4 s t l (k+1))∧(E4 s t l k).length≤24∧(owd s t (E4 s t l k)).length≤8∧a93 (sO s) (t.map J3) (E4 s t l k)=some (owd s t (E4 s t l k)):=λk=>by
  obtain⟨m,hm⟩:=a4W (s:=s) (t:=t) (l:=l) k;have hlk:(E4 s t l k).length≤24:=by rw[hm];exact c0n hR m
  have ho:=b5R (s:=s) hT (E4 s t l k);exact⟨by rw[b4n hR (by simp;omega),b05],hlk,ho,c1d hR hT hTB (by omega)⟩
 refine a0p (p:=λk=>(E4 s t l k,(k:Int))) rfl (rnd s t l) (λ_=>True) (by omega) trivial (λk hk _=>.inl ⟨?_,trivial⟩) (λ_=>?_)
 ·obtain⟨h1,h2,h3,h4⟩:=hone k;obtain⟨_,h2',_,_⟩:=hone (k+1);have hne:E4 s t l (k+1)≠E4 s t l k:=λe=>by
   have:=b04 (c0x s t l hk);rw[e] at this;omega
  simp only;rw[if_pos (by simp;omega),J2 (by omega) (by omega),d1G,h4,d1G,x8 (by omega) (by omega),d1G,h1,d1G,b9w _ _ (by omega),d1G,if_neg (by simpa using hne),k8]
 ·obtain⟨h1,h2,h3,h4⟩:=hone (rnd s t l);obtain⟨_,h2',_,_⟩:=hone (rnd s t l+1);have hst:=b7J s t l;refine⟨.inl (frc s t l,(rnd s t l:Int)),?_,rfl⟩;simp only;rw[if_pos (by simp;omega),J2 (by omega) (by omega),d1G,h4,d1G,x8 (by omega) (by omega),d1G,h1,d1G,b9w _ _ (by omega),d1G,if_pos (by simpa using b9d hst),b4L hst]
theorem c2P(hF:FB s){l:List Int}(hl:LB l)(hlen:l.length≤1000000):a9t s t l=some (frc s t l):=by
 unfold a9t;rw[c21 hR hT hTB hF hl hlen];rfl
theorem b8B{l:List Int}(hlen:l.length≤1000000):b28 (sO s) (t.map J3) l=some (frc s t l):=by
 unfold b28;rw[b7M hR hT hTB hlen];rfl
omit hT hTB hR in
theorem c6g {l:List Int} {x:Int}:Rch s (frc s t l) x↔a0j s t l x:=by
 constructor
 ·intro q;exact a5u.1 (Rch.least (c7Y s t l) (λx h _=>h) q)
 ·exact λq=>.base (a5u.2 q) q.live
theorem c2T(hF:FB s){l:List Int}(hl:LB l)(hlen:l.length≤1000000):a6L s t l=some (fls s t l):=by
 unfold a6L;rw[c2P hR hT hTB hF hl hlen,d1G,c5F hR hF (c7Z hR t l) (by have:=b5t hR t l;omega),d1G];congr 1;unfold M3 fls;exact List.filter_congr λx _=>decide_eq_decide.2 (not_congr c6g)
open Classical in
theorem b8E {l:List Int} (hlen:l.length≤1000000):b29 (sO s) (t.map J3) l=some (fls s t l):=by
 unfold b29;have h24:=E3 hR;have hfl:=b5t hR t l;rw[b8B hR hT hTB hlen,d1G,a8Y hR,d1G];simp only[jn];rw[D3 (lv s) (λacc x=>if decide (¬a0j s t l x) then acc ++ [x] else acc) id (λk acc=>acc.length≤k) (by omega) (by simp) (λk hk acc hb=>?_) (λb _=>?_)]
 ·simp only[d1G,id];rw[foldl_filter];rfl
 ·simp only[Int.ofNat_lt,hk,decide_true,if_true,n7 hk,d1G];rw[a9C _ _ (by omega),d1G];have h0:=b97 hR _ (List.getElem_mem hk);by_cases q:a0j s t l (lv s)[k]
  ·have e:(lv s)[k]∈frc s t l:=a5u.2 q;rw[if_neg (by simp[e,h0]),if_neg (by simpa using q),k8];exact⟨rfl,by omega⟩
  ·have e:(lv s)[k]∉frc s t l:=λh=>q (a5u.1 h);rw[if_pos (by simp[e]),if_pos (by simpa using q),x8 (by omega) (by simp;omega),d1G,k8];exact⟨rfl,by simp;omega⟩
 ·simp only[Int.lt_irrefl,decide_false,Bool.false_eq_true,if_false];rfl
end
end Go.Sh
namespace Go.Sh
end Go.Sh
namespace Go.Sh
end Go.Sh
namespace Go.Sh
section
variable(s:a7)(hF:FB s)(t:Tb)(hTB:TB t)
include hF hTB
end
end Go.Sh
namespace Go.Sh
def ce(s:a7)(i:Nat):b7:=s.S.a8.getD i ⟨0,0,z0⟩
theorem C4{s:a7}{i:Nat}(h:i<s.S.a8.length):ce s i=s.S.a8[i]:=by
 unfold ce;rw[List.getD_eq_getElem?_getD,List.getElem?_eq_getElem h];rfl
theorem b7c{s:a7}{i:Nat}(h:i<s.S.a8.length):ix s.S.a8 (i:Int)=some (ce s i):=by rw[n7 h,C4 h]
def Th(c:b7):Prop:=c.State=1∨c.State=2
instance(c:b7):Decidable (Th c):=by unfold Th;infer_instance
structure OkO (s:a7) (o:l4):Prop where
 s1:1≤o.Serial
 s2:o.Serial≤s.Serial
 st:0≤o.Strong
 wk:0≤o.Weak
 p1 : -1≤o.Prog
 p2:o.Prog≤5
 fl:o.Fields.length≤4
structure SR (s:a7):Prop where
 len:s.S.a8.length≤24
 l0:0≤s.S.Last
 l9:s.S.Last≤9
 Z9:0≤s.Serial
 cell:∀i,i<s.S.a8.length→0≤(ce s i).State∧(ce s i).State≤3∧0≤(ce s i).Gen∧(ce s i).Gen≤s.S.Last
 no:∀i,i<s.S.a8.length→¬Th (ce s i)→c0Q (oo (ce s i).Val)
 ok:∀i,i<s.S.a8.length→Th (ce s i)→OkO s (ce s i).Val
 dif:∀i j,i<s.S.a8.length→j<s.S.a8.length→Th (ce s i)→Th (ce s j)→(ce s i).Val.Serial=(ce s j).Val.Serial→i=j
theorem p8{s:a7}:RtR (sO s)↔SR s:=by
 constructor
 ·intro h;refine⟨a1r h,h.l0,h.l9,h.Z9,λi hi=>?_,λi hi hn=>?_,λi hi ht=>?_,λi j hi hj a b e=>?_⟩;·rw[C4 hi];exact b6e h i hi
  ·rw[C4 hi] at hn ⊢;have:=h.no i (by rw[z8];exact hi);simp only[sO,List.getElem_map] at this;exact this hn
  ·rw[C4 hi] at ht ⊢;obtain⟨a,b,c,d,e,f,g⟩:=c4f h i hi ht;exact⟨a,b,c,d,e,f,g⟩
  ·rw[C4 hi] at a e;rw[C4 hj] at b e;exact c4e h hi hj a b e
 ·intro h;refine⟨by rw[z8];exact h.len,h.l0,h.l9,h.Z9,λi hi=>?_,λi hi hn=>?_,λi hi ht=>?_,λi hi k hk a b=>?_⟩
  ·rw[z8] at hi;have:=h.cell i hi;rw[C4 hi] at this;simpa[sO,cO] using this
  ·rw[z8] at hi;have:=h.no i hi;rw[C4 hi] at this;simp only[sO,List.getElem_map] at hn ⊢;exact this hn
  ·rw[z8] at hi;have:=h.ok i hi;rw[C4 hi] at this;simp only[sO,List.getElem_map] at ht ⊢;obtain⟨a,b,c,d,e,f,g⟩:=this ht;exact⟨a,b,c,d,e,f,g⟩
  ·rw[z8] at hi;have hk':k<s.S.a8.length:=by omega
   have:=h.dif i k hi hk';rw[C4 hi,C4 hk'] at this;simp only[sO,List.getElem_map,cO,oo] at a b ⊢;intro e;have:=this a b e.symm;omega
def At(s:a7)(h:Int)(i:Nat):Prop:=i<s.S.a8.length∧(ce s i).State=1∧h=1+(i:Int)+32*(ce s i).Gen
def T9(s:a7)(h:Int)(i:Nat):Prop:=i<s.S.a8.length∧Th (ce s i)∧h=1+(i:Int)+32*(ce s i).Gen
theorem At.d{s:a7}{h:Int}{i:Nat}(q:At s h i):T9 s h i:=⟨q.1,.inl q.2.1,q.2.2⟩
theorem T9.one{s:a7}(hR:SR s){h:Int}{i j:Nat}(q:T9 s h i)(q':T9 s h j):i=j:=by
 obtain⟨a1,_,a2⟩:=q;obtain⟨b1,_,b2⟩:=q';have:=hR.len;omega
theorem T9.rng{s:a7}(hR:SR s){h:Int}{i:Nat}(q:T9 s h i):1≤h∧h≤320:=by
 obtain⟨a1,_,a2⟩:=q;have:=hR.len;have:=hR.cell i a1;have:=hR.l9;omega
theorem b7k{s:a7}{h:Int}:h∈V5 0 s.S.a8↔∃i,At s h i:=by
 rw[a6S];constructor
 ·rintro⟨i,hi,h1,h2⟩;refine⟨i,hi,by rw[C4 hi];exact h1,?_⟩;rw[C4 hi,h2,Nat.zero_add]
 ·rintro⟨i,hi,h1,h2⟩;rw[C4 hi] at h1 h2;exact⟨i,hi,h1,by rw[h2,Nat.zero_add]⟩
theorem a2Q{s:a7}(hR:SR s){h:Int}:h∈lv s↔∃i,At s h i:=by rw[b0K (p8.2 hR),b7k]
theorem a8T{s:a7}(hR:SR s){h:Int}{i:Nat}:b0s s.S h i↔T9 s h i:=by
 constructor
 ·rintro⟨hi,h1,h2,h3,h4⟩;unfold Hnd at h1;refine⟨hi,by rw[C4 hi];exact h4,?_⟩;rw[C4 hi];omega
 ·rintro⟨hi,h1,h2⟩;have l:=hR.len;have l9:=hR.l9;have c:=hR.cell i hi;rw[C4 hi] at h1 h2 c;exact⟨hi,by unfold Hnd;omega,by omega,by omega,h1⟩
theorem M5{s:a7}(hR:SR s){h:Int}{i:Nat}(q:At s h i):ob s h=(ce s i).Val:=by
 obtain⟨j,hj,h1,h2,_,e⟩:=b5I (p8.2 hR) ((a2Q hR).2 ⟨i,q⟩);have:j=i:=T9.one hR ⟨hj,by rw[C4 hj];exact .inl h1,by rw[C4 hj];exact h2⟩ q.d;subst this;rw[e,C4 hj]
theorem c7K{s:a7}(hR:SR s){h:Int}{i:Nat}(q:At s h i):r7 s h=some ((ce s i).Val,0):=by
 rw[b2S (p8.2 hR) ((a2Q hR).2 ⟨i,q⟩),M5 hR q]
theorem c6N{s:a7}(hR:SR s){h:Int}{i:Nat}(q:At s h i):sk s.S.a8 h=(ce s i).Val.Serial:=by
 have:=hR.len;have hi:=q.1;rw[q.2.2,b7T hi (by omega),C4 hi]
theorem a5k{s:a7}(hR:SR s){h:Int}{i:Nat}(q:T9 s h i):p6 s.S h=some ((i:Int),0):=a7D ((a8T hR).2 q)
theorem a8J{s:a7}(hR:SR s){h:Int}(hh:h≤9223372036854775807)(q:∀i,¬T9 s h i):p6 s.S h=some (-1,if h=0 then 2 else 3):=b0G hh λi hi=>q i ((a8T hR).1 hi)
theorem c3h{s s':a7}(hR:SR s)(hR':SR s')(P:Int→Bool)(hm:∀h,(∃i,At s' h i)↔(∃i,At s h i)∧P h=true)(hk:∀h i j,At s' h i→At s h j→(ce s' i).Val.Serial=(ce s j).Val.Serial):lv s'=(lv s).filter P:=by
 have hk':∀h∈lv s,P h=true→sk s'.S.a8 h=sk s.S.a8 h:=λh hh hp=>by
  obtain⟨j,hj⟩:=(a2Q hR).1 hh;obtain⟨i,hi⟩:=(hm h).2 ⟨⟨j,hj⟩,hp⟩;rw[c6N hR' hi,c6N hR hj,hk h i j hi hj]
 refine c9S (p8.2 hR') ?_ ?_
 ·rw[List.perm_ext_iff_of_nodup ((a9Q (p8.2 hR)).filter _) (a5y 0 _ (by have:=hR'.len;omega))];intro h;rw[List.mem_filter,a2Q hR,b7k,hm h]
 ·refine ((a5C (p8.2 hR)).2.2.filter P).imp_of_mem λ{a b} ha hb hab=>?_;rw[List.mem_filter] at ha hb;rw[hk' a ha.1 ha.2,hk' b hb.1 hb.2];exact hab
theorem c5I{s s':a7}(hR:SR s)(hR':SR s')(hl:s'.S.a8.length=s.S.a8.length)(h1:∀i,i<s.S.a8.length→((ce s' i).State=1↔(ce s i).State=1)∧(ce s' i).Gen=(ce s i).Gen∧(ce s' i).Val.Serial=(ce s i).Val.Serial):lv s'=lv s:=by
 have ha:∀h i,At s' h i↔At s h i:=λh i=>by
  unfold At;rw[hl];constructor
  ·rintro⟨a,b,c⟩;obtain⟨x,y,z⟩:=h1 i a;exact⟨a,x.1 b,by rw[←y];exact c⟩
  ·rintro⟨a,b,c⟩;obtain⟨x,y,z⟩:=h1 i a;exact⟨a,x.2 b,by rw[y];exact c⟩
 rw[c3h hR hR' (λ_=>true) (λh=>by simp only[and_true];exact⟨λ⟨i,q⟩=>⟨i,(ha h i).1 q⟩,λ⟨i,q⟩=>⟨i,(ha h i).2 q⟩⟩) (λh i j q q'=>by
  have:=T9.one hR ((ha h i).1 q).d q'.d;subst this;exact (h1 i q'.1).2.2)]
 simp
def a1l(s:a7)(i:Nat)(o:l4):a7:=⟨⟨s.S.a8.set i ⟨(ce s i).State,(ce s i).Gen,o⟩,s.S.Last⟩,s.Serial⟩
theorem J4(s:a7)(i:Nat)(o:l4):(a1l s i o).S.a8.length=s.S.a8.length:=by simp[a1l]
theorem a4H{α:Type}{l:List α}{i:Nat}(hi:i<l.length)(c d:α)(j:Nat):(l.set i c).getD j d=if j=i then c else l.getD j d:=by
 rw[List.getD_eq_getElem?_getD,List.getD_eq_getElem?_getD,List.getElem?_set];by_cases h:j=i
 ·subst h;rw[if_pos rfl,if_pos hi,if_pos rfl];rfl
 ·rw[if_neg (Ne.symm h),if_neg h]
theorem a5n{s:a7}{i:Nat}(hi:i<s.S.a8.length)(o:l4)(j:Nat):ce (a1l s i o) j=if j=i then ⟨(ce s i).State,(ce s i).Gen,o⟩ else ce s j:=a4H hi _ _ j
theorem b3u{s:a7}{i:Nat}(hi:i<s.S.a8.length)(o:l4)(j:Nat):(ce (a1l s i o) j).State=(ce s j).State∧(ce (a1l s i o) j).Gen=(ce s j).Gen:=by
 rw[a5n hi];split;·rename_i q;subst q;exact⟨rfl,rfl⟩
 ·exact⟨rfl,rfl⟩
theorem b1U{s:a7}{i:Nat}(hi:i<s.S.a8.length)(o:l4){h:Int}{j:Nat}:T9 (a1l s i o) h j↔T9 s h j:=by
 unfold T9 Th;rw[J4,(b3u hi o j).1,(b3u hi o j).2]
theorem b2r{s:a7}{i:Nat}(hi:i<s.S.a8.length)(o:l4){h:Int}{j:Nat}:At (a1l s i o) h j↔At s h j:=by
 unfold At;rw[J4,(b3u hi o j).1,(b3u hi o j).2]
theorem b6k{s:a7}(hR:SR s){h:Int}{i:Nat}(q:T9 s h i)(o:l4):H3 s h o=some (a1l s i o,0):=by
 obtain⟨hi,e⟩:=b7R (v:=o) hR.len ((a8T hR).2 q);unfold H3;rw[e];simp[a1l,C4 hi]
theorem SR.put{s:a7}(hR:SR s){i:Nat}(hi:i<s.S.a8.length)(ht:Th (ce s i)){o:l4}(hs:o.Serial=(ce s i).Val.Serial)(ho:OkO s o):SR (a1l s i o):=by
 have hst:=b3u hi o;have hse:∀j,(ce (a1l s i o) j).Val.Serial=(ce s j).Val.Serial:=λj=>by
  rw[a5n hi];split;·rename_i q;subst q;exact hs
  ·rfl
 refine⟨by rw[J4];exact hR.len,hR.l0,hR.l9,hR.Z9,λj hj=>?_,λj hj hn=>?_,λj hj hn=>?_,λj k hj hk a b e=>?_⟩
 ·rw[J4] at hj;rw[(hst j).1,(hst j).2];exact hR.cell j hj
 ·rw[J4] at hj;unfold Th at hn;rw[(hst j).1] at hn;rw[a5n hi];split;·rename_i q;subst q;exact absurd ht hn
  ·exact hR.no j hj hn
 ·rw[J4] at hj;unfold Th at hn;rw[(hst j).1] at hn;rw[a5n hi];split;·exact⟨ho.s1,ho.s2,ho.st,ho.wk,ho.p1,ho.p2,ho.fl⟩
  ·have:=hR.ok j hj hn;exact⟨this.s1,this.s2,this.st,this.wk,this.p1,this.p2,this.fl⟩
 ·rw[J4] at hj hk;unfold Th at a b;rw[(hst j).1] at a;rw[(hst k).1] at b;rw[hse,hse] at e;exact hR.dif j k hj hk a b e
theorem c3g{s:a7}(hR:SR s){i:Nat}(hi:i<s.S.a8.length){o:l4}(hs:o.Serial=(ce s i).Val.Serial)(hR':SR (a1l s i o)):lv (a1l s i o)=lv s:=by
 refine c5I hR hR' (J4 ..) λj hj=>?_;rw[a5n hi];split;·rename_i q;subst q;exact⟨Iff.rfl,rfl,hs⟩
 ·exact⟨Iff.rfl,rfl,rfl⟩
theorem c8A{s:a7}(hR:SR s){h:Int}{i:Nat}(q:At s h i){o:l4}(hR':SR (a1l s i o)){k:Int}(hk:k≤9223372036854775807):ob (a1l s i o) k=if k=h then o else ob s k:=by
 by_cases e:k=h
 ·subst e;rw[if_pos rfl,M5 hR' ((b2r q.1 o).2 q),a5n q.1,if_pos rfl]
 ·rw[if_neg e];by_cases hl:∃j,At s k j
  ·obtain⟨j,hj⟩:=hl;rw[M5 hR' ((b2r q.1 o).2 hj),M5 hR hj,a5n q.1,if_neg];intro e2;subst e2;exact e (hj.2.2.trans q.2.2.symm)
  ·rw[a8B (p8.2 hR) hk (λq2=>hl ((a2Q hR).1 q2)),a8B (p8.2 hR') hk λq2=>hl (by
    obtain⟨j,hj⟩:=(a2Q hR').1 q2;exact⟨j,(b2r q.1 o).1 hj⟩)]
def A7(h:Int):Nat:=((h-1) % 32).toNat
theorem T9.A7{s:a7}(hR:SR s){h:Int}{i:Nat}(q:T9 s h i):A7 h=i:=by
 obtain⟨a,_,c⟩:=q;have:=hR.len;unfold Sh.A7;omega
def seO(s:a7)(h:Int)(o:l4):a7:=a1l s (A7 h) o
theorem u4{s:a7}(hR:SR s){h:Int}(hh:h∈lv s):At s h (A7 h):=by
 obtain⟨i,hi⟩:=(a2Q hR).1 hh;rw[hi.d.A7 hR];exact hi
theorem H0{s:a7}(hR:SR s){h:Int}(hh:h∈lv s):OkO s (ob s h):=by
 have q:=u4 hR hh;rw[M5 hR q];exact hR.ok _ q.1 (.inl q.2.1)
theorem G4{s:a7}(hR:SR s){h:Int}(hh:h∈lv s):1≤h∧h≤320:=(u4 hR hh).d.rng hR
theorem a8e{s:a7}(hR:SR s):(0:Int)∉lv s:=λh=>by have:=G4 hR h;omega
section
variable{s:a7}(hR:SR s){h:Int}(hh:h∈lv s){o:l4}(hs:o.Serial=(ob s h).Serial)(ho:OkO s o)
include hR hh hs ho
theorem a0h:SR (seO s h o):=by
 have q:=u4 hR hh;exact hR.put q.1 (.inl q.2.1) (by rw[hs,M5 hR q]) ho
theorem a2M:lv (seO s h o)=lv s:=by
 have q:=u4 hR hh;exact c3g hR q.1 (by rw[hs,M5 hR q]) (a0h hR hh hs ho)
theorem a10{k:Int}(hk:k≤9223372036854775807):ob (seO s h o) k=if k=h then o else ob s k:=c8A hR (u4 hR hh) (a0h hR hh hs ho) hk
theorem b0e:H3 s h o=some (seO s h o,0):=b6k hR (u4 hR hh).d o
theorem b9k{k:Int}{i:Nat}:T9 (seO s h o) k i↔T9 s k i:=b1U (u4 hR hh).1 o
theorem b6j(i:Nat):ce (seO s h o) i=if i=A7 h then ⟨(ce s i).State,(ce s i).Gen,o⟩ else ce s i:=by
 unfold seO;rw[a5n (u4 hR hh).1];split;·rename_i q;rw[q]
 ·rfl
end
abbrev stg(o:l4)(n:Int):l4:=⟨o.Serial,n,o.Weak,o.Prog,o.Started,o.Fields⟩
structure Kin (s s':a7):Prop where
 sr:SR s'
 len:s'.S.a8.length=s.S.a8.length
 last:s'.S.Last=s.S.Last
 Z9:s'.Serial=s.Serial
 lv:lv s'=lv s
 ad:∀k i,T9 s' k i↔T9 s k i
 ob:∀k,k≤9223372036854775807→∃n,ob s' k=(stg (ob s k) (n))
 ce:∀i,i<s.S.a8.length→(ce s' i).State=(ce s i).State∧(ce s' i).Gen=(ce s i).Gen∧(ce s' i).Val.Weak=(ce s i).Val.Weak∧(ce s' i).Val.Fields=(ce s i).Val.Fields∧((ce s i).State≠1→ce s' i=ce s i)
theorem Kin.refl{s:a7}(hR:SR s):Kin s s:=⟨hR,rfl,rfl,rfl,rfl,λ_ _=>Iff.rfl,λk _=>⟨_,rfl⟩,λi _=>⟨rfl,rfl,rfl,rfl,λ_=>rfl⟩⟩
theorem Kin.trans{a b c:a7}(h:Kin a b)(q:Kin b c):Kin a c:=by
 refine⟨q.sr,q.len.trans h.len,q.last.trans h.last,q.Z9.trans h.Z9,q.lv.trans h.lv,λk i=>(q.ad k i).trans (h.ad k i),λk hk=>?_,λi hi=>?_⟩
 ·obtain⟨n,e⟩:=h.ob k hk;obtain⟨m,f⟩:=q.ob k hk;exact⟨m,by rw[f,e]⟩
 ·obtain⟨a1,a2,a3,a4,a5⟩:=h.ce i hi;obtain⟨b1,b2,b3,b4,b5⟩:=q.ce i (by rw[h.len];exact hi);refine⟨b1.trans a1,b2.trans a2,b3.trans a3,b4.trans a4,λhn=>?_⟩;rw[b5 (by rw[a1];exact hn),a5 hn]
theorem Kin.outs{s s':a7}(k:Kin s s'){h:Int}(hh:h≤9223372036854775807):outs s' h=outs s h:=by
 obtain⟨n,e⟩:=k.ob h hh;unfold Sh.outs;rw[e]
theorem Kin.inn{s s':a7}(hR:SR s)(k:Kin s s')(h:Int):inn s' h=inn s h:=by
 unfold Sh.inn;rw[k.lv];congr 1;refine List.map_congr_left λx hx=>?_;rw[k.outs (by have:=G4 hR hx;omega)]
theorem c5D{s:a7}(hR:SR s){h:Int}(hh:h∈lv s){n:Int}(hn:0≤n):Kin s (seO s h (stg (ob s h) (n))):=by
 have ho:OkO s (stg (ob s h) (n)):=by
  have:=H0 hR hh;exact⟨this.s1,this.s2,hn,this.wk,this.p1,this.p2,this.fl⟩
 have q:=u4 hR hh;refine⟨a0h hR hh rfl ho,J4 ..,rfl,rfl,a2M hR hh rfl ho,λk i=>b9k (o:=(stg (ob s h) (n))) hR hh rfl ho,λk hk=>?_,λi hi=>?_⟩
 ·rw[a10 (o:=(stg (ob s h) (n))) hR hh rfl ho hk];split;·rename_i e;subst e;exact⟨n,rfl⟩
  ·exact⟨_,rfl⟩
 ·rw[b6j (o:=(stg (ob s h) (n))) hR hh rfl ho];split
  ·rename_i e;subst e;rw[M5 hR q];exact⟨rfl,rfl,rfl,rfl,λhn=>absurd q.2.1 hn⟩
  ·exact⟨rfl,rfl,rfl,rfl,λ_=>rfl⟩
def SB(s:a7):Prop:=∀c∈s.S.a8,c.Val.Strong≤9223372036854775807
theorem c9N{s:a7}:FB s↔∀i,i<s.S.a8.length→∀x∈(ce s i).Val.Fields,x≤9223372036854775807:=by
 constructor
 ·intro h i hi x hx;rw[C4 hi] at hx;exact h _ (List.getElem_mem hi) x hx
 ·intro h c hc x hx;obtain⟨i,hi,rfl⟩:=List.getElem_of_mem hc;exact h i hi x (by rw[C4 hi];exact hx)
theorem d0k{s:a7}:SB s↔∀i,i<s.S.a8.length→(ce s i).Val.Strong≤9223372036854775807:=by
 constructor
 ·intro h i hi;rw[C4 hi];exact h _ (List.getElem_mem hi)
 ·intro h c hc;obtain⟨i,hi,rfl⟩:=List.getElem_of_mem hc;have:=h i hi;rwa [C4 hi] at this
end Go.Sh
namespace Go.Sh
noncomputable def inr(s:a7)(t:Tb)(h:Int):Nat:=inn s h+own t h
noncomputable def rst(s:a7)(t:Tb)(h:Int):Int:=if h∈lv s then (ob s h).Strong-(inr s t h:Int) else 0
noncomputable def hld(s:a7)(t:Tb):List Int:=(lv s).filter λh=>decide (0<rst s t h∨12≤(ob s h).Strong)
def c6I(s:a7)(t:Tb)(l:List Int):Prop:=∀h∈lv s,(ob s h).Strong<12→rst s t h=(V7 l h:Int)
noncomputable instance(s:a7)(t:Tb)(l:List Int):Decidable (c6I s t l):=Classical.propDecidable _
section
variable{s:a7}(hR:RtR (sO s)){t:Tb}(hT:HR t)
include hR hT
theorem c28(h:Int):a4h s t h=some (inr s t h:Int):=by
 unfold a4h;have h1:=b8M hR h;have h2:=b8Y hT.l8 h;rw[c9R hR,d1G,c3N hT,d1G,B8 (by omega) (by omega)];unfold inr;simp
theorem b8N(h:Int):b0Y (sO s) (t.map J3) h=some (inr s t h:Int):=by
 unfold b0Y;have h1:=b8M hR h;have h2:=b8Y hT.l8 h;rw[c5x hR,d1G,c1z hT,d1G,B8 (by omega) (by omega)];unfold inr;simp
theorem c29(h:Int):inr s t h≤104:=by
 have h1:=b8M hR h;have h2:=b8Y hT.l8 h;unfold inr;omega
omit hT in
theorem b1e (hB:SB s) {h:Int} (hh:h∈lv s):0≤(ob s h).Strong∧(ob s h).Strong≤9223372036854775807:=by
 obtain⟨i,hi⟩:=(a2Q (p8.1 hR)).1 hh;rw[M5 (p8.1 hR) hi];refine⟨((p8.1 hR).ok i hi.1 (.inl hi.2.1)).st,?_⟩;rw[C4 hi.1];exact hB _ (List.getElem_mem _)
theorem c6h(hB:SB s){h:Int}(hh:h≤9223372036854775807):a59 s t h=some (rst s t h):=by
 unfold a59;obtain⟨e,h1,h2⟩:=O3 hR hh;rw[h1,d1G];by_cases q:h∈lv s
 ·have:=h2.2 q;subst this;have h3:=c29 hR hT h;have h4:=b1e hR hB q;rw[if_neg (by simp),c28 hR hT,d1G,B8 (by dsimp only;omega) (by dsimp only;omega)];unfold rst;rw[if_pos q]
 ·rw[if_pos (by simpa using λq2=>q (h2.1 q2))];unfold rst;rw[if_neg q]
theorem c1t(hB:SB s){h:Int}(hh:h≤9223372036854775807):b3b (sO s) (t.map J3) h=some (rst s t h):=by
 unfold b3b;obtain⟨e,h1,h2⟩:=O3 hR hh;rw[a4G s (by have:=a1r hR;omega) hh,h1,Option.map_some,d1G];by_cases q:h∈lv s
 ·have:=h2.2 q;subst this;have h3:=c29 hR hT h;have h4:=b1e hR hB q;rw[if_neg (by simp),b8N hR hT,d1G];simp only[oo];rw[B8 (by omega) (by omega)];unfold rst;rw[if_pos q]
 ·rw[if_pos (by simpa using λq2=>q (h2.1 q2))];unfold rst;rw[if_neg q]
omit hT in
theorem b9m {h:Int} (hh:h≤9223372036854775807):b0Z (sO s) h=some (decide (12≤(ob s h).Strong)):=by
 unfold b0Z a1V;obtain⟨e,h1,h2⟩:=O3 hR hh;rw[a4G s (by have:=a1r hR;omega) hh,h1,Option.map_some,d1G,d1G];rfl
omit hT in
theorem c65 {k:Nat} (hk:k<(lv s).length):(lv s)[k]≤9223372036854775807:=by
 have:=a4s hR (List.getElem_mem hk);omega
theorem c5v(hB:SB s):a57 s t=some (hld s t):=by
 unfold a57;simp only[jn];have h24:=E3 hR;rw[a2b hR,d1G,D3 (lv s) (λb x=>if decide (0<rst s t x∨12≤(ob s x).Strong) then b ++ [x] else b) id (λk b=>b.length≤k) (by omega) (by simp) (λk hk b hI=>?_) (λb _=>by simp),d1G]
 ·rw[foldl_filter];rfl
 ·have hm:=List.getElem_mem hk;have hle:=c65 hR hk;simp only[Int.ofNat_lt,hk,decide_true,if_true,n7 hk,d1G];rw[b2S hR hm,d1G];unfold a58 a6G D0;rw[c6h hR hT hB hle,d1G,d1G];by_cases q:0<rst s t (lv s)[k]
  ·rw[decide_eq_true (show rst s t (lv s)[k] > 0 from q)];simp only[show ((true==false):Bool)=false from rfl,b4F,d1G,Bool.true_or,if_true];rw[x8 (by omega) (by simp;omega),d1G,k8,if_pos (decide_eq_true (.inl q))];exact⟨rfl,by simp;omega⟩
  ·rw[decide_eq_false (show ¬rst s t (lv s)[k] > 0 from q)];simp only[beq_self_eq_true,a2S,d1G,Bool.false_or];by_cases q2:12≤(ob s (lv s)[k]).Strong
   ·rw[if_pos (decide_eq_true q2),x8 (by omega) (by simp;omega),d1G,k8,if_pos (decide_eq_true (.inr q2))];exact⟨rfl,by simp;omega⟩
   ·rw[if_neg (by simpa using q2),k8,if_neg (by simp only[decide_eq_true_eq];exact λc=>c.elim q q2)];exact⟨rfl,by omega⟩
theorem c1e(hB:SB s):b3a (sO s) (t.map J3)=some (hld s t):=by
 unfold b3a;simp only[jn];have h24:=E3 hR;rw[a8Y hR,d1G,D3 (lv s) (λb x=>if decide (0<rst s t x∨12≤(ob s x).Strong) then b ++ [x] else b) id (λk b=>b.length≤k) (by omega) (by simp) (λk hk b hI=>?_) (λb _=>by simp),d1G]
 ·rw[foldl_filter];rfl
 ·have hle:=c65 hR hk;simp only[Int.ofNat_lt,hk,decide_true,if_true,n7 hk,d1G];rw[c1t hR hT hB hle,d1G];by_cases q:0<rst s t (lv s)[k]
  ·rw[decide_eq_true (show rst s t (lv s)[k] > 0 from q)];simp only[show ((true==false):Bool)=false from rfl,b4F,d1G,Bool.true_or,if_true];rw[x8 (by omega) (by simp;omega),d1G,k8,if_pos (decide_eq_true (.inl q))];exact⟨rfl,by simp;omega⟩
  ·rw[decide_eq_false (show ¬rst s t (lv s)[k] > 0 from q)];simp only[beq_self_eq_true,a2S,d1G,Bool.false_or];rw[b9m hR hle,d1G];by_cases q2:12≤(ob s (lv s)[k]).Strong
   ·rw[if_pos (decide_eq_true q2),x8 (by omega) (by simp;omega),d1G,k8,if_pos (decide_eq_true (.inr q2))];exact⟨rfl,by simp;omega⟩
   ·rw[if_neg (by simpa using q2),k8,if_neg (by simp only[decide_eq_true_eq];exact λc=>c.elim q q2)];exact⟨rfl,by omega⟩
omit hT in
theorem b9Y:(hld s t).length≤24:=Nat.le_trans (List.length_filter_le ..) (E3 hR)
omit hR hT in
theorem b1Z {h:Int}:h∈hld s t↔h∈lv s∧(0<rst s t h∨12≤(ob s h).Strong):=by
 unfold hld;rw[List.mem_filter,decide_eq_true_eq]
omit hT in
theorem c8c:LB (hld s t):=λx hx=>by have:=a4s hR (b1Z.1 hx).1;omega
theorem b8I(hTB:TB t)(hF:FB s)(hB:SB s):a0u s t=some (fls s t (hld s t)):=by
 unfold a0u;have:=b9Y hR (t:=t);rw[c5v hR hT hB,d1G,c2T hR hT hTB hF (c8c hR) (by omega)];rfl
theorem b5u(hTB:TB t)(hB:SB s):a65 (sO s) (t.map J3)=some (fls s t (hld s t)):=by
 unfold a65;have:=b9Y hR (t:=t);rw[c1e hR hT hB,d1G,b8E hR hT hTB (by omega)];rfl
end
end Go.Sh
namespace Go.Sh
abbrev TQ:=c5
def tad(q:TQ)(t:g7):TQ × Int:=if q.Cap≤q.L.length then (q,4) else (⟨q.L ++ [t],q.Cap⟩,0)
def tnx(q:TQ):TQ × g7 × Int:=match q.L with
 | []=>(q,⟨0,0,0⟩,10)
 | t::l=>(⟨l,q.Cap⟩,t,0)
theorem c7g{q:TQ}(t:g7)(h:q.L.length≤1000):a7r q t=some (tad q t):=by
 unfold tad;unfold a7r N4 F8 C7;simp only[d1G];by_cases c:q.Cap≤q.L.length
 ·rw[if_pos (by simpa using c),if_pos c,d1G]
 ·rw[if_neg (by simpa using c),if_neg c];have e:cut q.L 0 (q.L.length:Int)=some q.L:=by
   have:=a8S (xs:=q.L) (i:=0) (j:=q.L.length) (Nat.zero_le _) (Nat.le_refl _);simpa using this
  rw[e,d1G,d1G,x8 (by omega) (by simp;omega),d1G,d1G]
theorem b6s{q:TQ}:a01 q=some (tnx q):=by
 unfold tnx;unfold a01 a0g V6 F8 C7;simp only[d1G];cases hl:q.L with
 | nil=>
  have e:cut ([]:List g7) 0 0=some []:=rfl;simp[e]
 | cons t l=>
  have hm:(if (if (((t::l).length:Nat):Int)<1 then (((t::l).length:Nat):Int) else 1) > 0 then (if (((t::l).length:Nat):Int)<1 then (((t::l).length:Nat):Int) else 1) else 0)=1:=by
   rw[if_neg (show ¬(((t::l).length:Nat):Int)<1 by simp;omega)];simp
  rw[hm];have e1:cut (t::l) 0 1=some [t]:=by
   have:=a8S (xs:=t::l) (i:=0) (j:=1) (Nat.zero_le _) (by simp);simpa using this
  have e2:cut (t::l) 1 (((t::l).length:Nat):Int)=some l:=by
   have:=a8S (xs:=t::l) (i:=1) (j:=(t::l).length) (by simp) (Nat.le_refl _);simpa using this
  rw[e1,e2];simp[ix]
theorem c6u{q:TQ}{w:Int}(h:q.L.length≤1000):a3L q w=some (q.L.any λt=>t.Kind==2&&t.At==w):=by
 unfold a3L b2g;simp only[jn,d1G];refine a1S q.L.length (λk=>(q.L.take k).any (λt=>t.Kind==2&&t.At==w)=false) (by omega) (by simp) ?_ (λhl=>⟨.inr (),by simp,by rw[List.take_length] at hl;rw[hl]⟩);intro k hk hP;simp only[Int.ofNat_lt,hk,decide_true,if_true,n7 hk,d1G];rw[List.take_succ_eq_append_getElem hk,List.any_append,hP,Bool.false_or];by_cases c:(q.L[k].Kind==2)=true
 ·rw[c,if_pos (by decide)];by_cases d:(q.L[k].At==w)=true
  ·right;rw[d,if_pos rfl];refine⟨.inl true,rfl,?_⟩;simp only[Option.some.injEq];symm
   rw[List.any_eq_true];exact⟨_,List.getElem_mem hk,by rw[c,d];rfl⟩
  ·have d:(q.L[k].At==w)=false:=by simpa using d
   left;rw[d,if_neg (by decide),k8];exact⟨rfl,by simp[d]⟩
 ·have c:(q.L[k].Kind==2)=false:=by simpa using c
  left;rw[c,if_neg (by decide),k8];exact⟨rfl,by simp[c]⟩
end Go.Sh
namespace Go.Sh
def tkR(t:g7):N6:=⟨t.Kind,t.At,t.Prog⟩
def tqR(q:TQ):B9:=⟨q.L.map tkR,q.Cap⟩
theorem c7b{q:TQ}(t:g7)(h:q.L.length≤1000):a5P (tqR q) (tkR t)=some (tqR (tad q t).1,(tad q t).2):=by
 unfold a5P tad;have hl:(tqR q).L.length=q.L.length:=by simp[tqR]
 by_cases c:q.Cap≤q.L.length
 ·rw[if_pos (by simp[hl];exact c),if_pos c]
 ·rw[if_neg (by simp[hl];exact Int.not_le.1 c),if_neg c,J2 (by omega) (by rw[hl];omega),d1G,x8 (by omega) (by simp[hl];omega),d1G];simp[tqR]
theorem c8U{q:TQ}:b3c (tqR q)=some (tqR (tnx q).1,tkR (tnx q).2.1,(tnx q).2.2):=by
 unfold b3c tnx;obtain⟨L,C⟩:=q;cases L with
 | nil=>simp[tqR,tkR]
 | cons t l=>
  rw[if_neg (by simp[tqR];omega)];have e:cut (tqR ⟨t::l,C⟩).L 1 (((tqR ⟨t::l,C⟩).L.length:Nat):Int)=some (l.map tkR):=by
   have:=a8S (xs:=(tqR ⟨t::l,C⟩).L) (i:=1) (j:=(tqR ⟨t::l,C⟩).L.length) (by simp[tqR]) (Nat.le_refl _);rw[show (1:Int)=((1:Nat):Int) from rfl,this,List.take_length];simp[tqR]
  rw[e];simp[ix,tqR]
theorem c6e{q:TQ}{w:Int}(h:q.L.length≤1000):a7Q (tqR q) w=some (q.L.any λt=>t.Kind==2&&t.At==w):=by
 unfold a7Q;have hl:(tqR q).L.length=q.L.length:=by simp[tqR]
 simp only[jn,hl];refine a1S q.L.length (λk=>(q.L.take k).any (λt=>t.Kind==2&&t.At==w)=false) (by omega) (by simp) ?_ (λhl=>⟨.inr (),by simp,by rw[List.take_length] at hl;rw[hl]⟩);intro k hk hP;have e:ix (tqR q).L (k:Int)=some (tkR q.L[k]):=by rw[show (tqR q).L=q.L.map tkR from rfl,a0y,n7 hk];rfl
 simp only[Int.ofNat_lt,hk,decide_true,if_true,e,d1G];rw[List.take_succ_eq_append_getElem hk,List.any_append,hP,Bool.false_or];by_cases c:(q.L[k].Kind==2&&q.L[k].At==w)=true
 ·right;rw[show ((tkR q.L[k]).Kind==2&&(tkR q.L[k]).At==w)=true from c,if_pos rfl];refine⟨.inl true,rfl,?_⟩;simp only[Option.some.injEq];symm
  rw[List.any_eq_true];exact⟨_,List.getElem_mem hk,c⟩
 ·have c:(q.L[k].Kind==2&&q.L[k].At==w)=false:=by simpa using c
  left;rw[show ((tkR q.L[k]).Kind==2&&(tkR q.L[k]).At==w)=false from c,if_neg (by decide),k8];exact⟨rfl,by simp[c]⟩
end Go.Sh
namespace Go.Sh
abbrev Hp:=b6
abbrev wS(x:Hp)(s:a7):Hp:=⟨s,x.Roots,x.a8,x.T,x.Q⟩
abbrev wR(x:Hp)(l:List Int):Hp:=⟨x.S,l,x.a8,x.T,x.Q⟩
abbrev wC(x:Hp)(l:List c7):Hp:=⟨x.S,x.Roots,l,x.T,x.Q⟩
abbrev wT(x:Hp)(t:Tb):Hp:=⟨x.S,x.Roots,x.a8,t,x.Q⟩
abbrev wQ(x:Hp)(q:TQ):Hp:=⟨x.S,x.Roots,x.a8,x.T,q⟩
def nmg(l:List c7)(h:Int):Nat:=l.countP λc=>(h != 0)&&(c.Target==h)
def b3X(q:TQ):List Int:=(q.L.filter (·.Kind==1)).map (·.At)
def wts(q:TQ)(w:Int):Bool:=q.L.any λt=>t.Kind==2&&t.At==w
def otr(x:Hp):List Int:=nz x.Roots++b3X x.Q
noncomputable def nms(x:Hp)(h:Int):Nat:=inn x.S h+own x.T h+V7 (otr x) h
def D8(s:a7)(i:Nat)(c:b7):a7:=⟨⟨s.S.a8.set i c,s.S.Last⟩,s.Serial⟩
theorem T8(s:a7)(i:Nat)(c:b7):(D8 s i c).S.a8.length=s.S.a8.length:=by simp[D8]
theorem H6{s:a7}{i:Nat}(hi:i<s.S.a8.length)(c:b7)(j:Nat):ce (D8 s i c) j=if j=i then c else ce s j:=a4H hi _ _ j
theorem SR.D8{s:a7}(hR:SR s){i:Nat}(hi:i<s.S.a8.length){c:b7}(h1:0≤c.State∧c.State≤3∧0≤c.Gen∧c.Gen≤s.S.Last)(h2:¬Th c→c0Q (oo c.Val))(h3:Th c→OkO s c.Val∧Th (ce s i)∧c.Val.Serial=(ce s i).Val.Serial):SR (D8 s i c):=by
 have key:∀j,Th (ce (Sh.D8 s i c) j)→Th (ce s j)∧(ce (Sh.D8 s i c) j).Val.Serial=(ce s j).Val.Serial:=λj hj=>by
  rw[H6 hi] at hj ⊢;split at hj
  ·rename_i e;subst e;rw[if_pos rfl];exact (h3 hj).2
  ·rename_i e;rw[if_neg e];exact⟨hj,rfl⟩
 refine⟨by rw[T8];exact hR.len,hR.l0,hR.l9,hR.Z9,λj hj=>?_,λj hj hn=>?_,λj hj hn=>?_,λj k hj hk a b e=>?_⟩
 ·rw[T8] at hj;rw[H6 hi];split;·exact h1
  ·exact hR.cell j hj
 ·rw[T8] at hj;rw[H6 hi] at hn ⊢;split at hn
  ·rename_i e;rw[if_pos e];exact h2 hn
  ·rename_i e;rw[if_neg e];exact hR.no j hj hn
 ·rw[T8] at hj;rw[H6 hi] at hn ⊢;split at hn
  ·rename_i e;rw[if_pos e];have:=(h3 hn).1;exact⟨this.s1,this.s2,this.st,this.wk,this.p1,this.p2,this.fl⟩
  ·rename_i e;rw[if_neg e];have:=hR.ok j hj hn;exact⟨this.s1,this.s2,this.st,this.wk,this.p1,this.p2,this.fl⟩
 ·rw[T8] at hj hk;obtain⟨a1,a2⟩:=key j a;obtain⟨b1,b2⟩:=key k b;rw[a2,b2] at e;exact hR.dif j k hj hk a1 b1 e
theorem c2j{s:a7}{i:Nat}(hi:i<s.S.a8.length)(c:b7){h:Int}{j:Nat}(hj:j≠i):T9 (D8 s i c) h j↔T9 s h j:=by
 unfold T9;rw[T8,H6 hi,if_neg hj]
theorem b1V{s:a7}{i:Nat}(hi:i<s.S.a8.length)(c:b7){h:Int}{j:Nat}(hj:j≠i):At (D8 s i c) h j↔At s h j:=by
 unfold At;rw[T8,H6 hi,if_neg hj]
theorem b98{s:a7}(hR:SR s){i:Nat}(hi:i<s.S.a8.length){c:b7}(hc:c.State≠1)(hR':SR (D8 s i c)):lv (D8 s i c)=(lv s).filter λh=>decide (A7 h≠i):=by
 have hno:∀h,¬At (D8 s i c) h i:=λh q=>by
  have:=q.2.1;rw[H6 hi,if_pos rfl] at this;exact hc this
 refine c3h hR hR' _ (λh=>?_) (λh j k q q'=>?_)
 ·rw[decide_eq_true_iff];constructor
  ·rintro⟨j,hj⟩;have hne:j≠i:=λe=>hno h (e▸hj);have:=(b1V hi c hne).1 hj;exact⟨⟨j,this⟩,by rw[this.d.A7 hR];exact hne⟩
  ·rintro⟨⟨j,hj⟩,hp⟩;rw[hj.d.A7 hR] at hp;exact⟨j,(b1V hi c hp).2 hj⟩
 ·have hne:j≠i:=λe=>hno h (e▸q);have q2:=(b1V hi c hne).1 q;have:=T9.one hR q2.d q'.d;subst this;rw[H6 hi,if_neg hne]
theorem c0d{s:a7}(hR:SR s){i:Nat}(hi:i<s.S.a8.length){c:b7}(hR':SR (D8 s i c)){k:Int}(hk:k∈lv s)(hp:A7 k≠i):ob (D8 s i c) k=ob s k:=by
 have q:=u4 hR hk;rw[M5 hR' ((b1V hi c hp).2 q),M5 hR q,H6 hi,if_neg hp]
structure Kn (s s':a7):Prop where
 sr:SR s'
 len:s'.S.a8.length=s.S.a8.length
 lv:lv s'=lv s
 ad:∀k i,T9 s' k i↔T9 s k i
 ob:∀k,k∈Sh.lv s→∃n m,ob s' k=⟨(ob s k).Serial,n,m,(ob s k).Prog,(ob s k).Started,(ob s k).Fields⟩
theorem Kin.kn{s s':a7}(hR:SR s)(k:Kin s s'):Kn s s':=⟨k.sr,k.len,k.lv,k.ad,λh hh=>by
 obtain⟨n,e⟩:=k.ob h (by have:=G4 hR hh;omega);exact⟨n,_,e⟩⟩
theorem Kn.inn{s s':a7}(k:Kn s s')(h:Int):inn s' h=inn s h:=by
 unfold Sh.inn;rw[k.lv];congr 1;refine List.map_congr_left λx hx=>?_;obtain⟨n,m,e⟩:=k.ob x hx;unfold Sh.outs;rw[e]
structure HpS (x:Hp):Prop where
 sr:SR x.S
 hr:HR x.T
 r6:x.Roots.length=6
 c6:x.a8.length=6
 cap:x.Q.Cap=30
 q30:x.Q.L.length≤30
 tk:∀t∈x.Q.L,0≤t.Prog∧t.Prog≤5∧((t.Kind=1∧t.At∈lv x.S∧(ob x.S t.At).Started=true)∨(t.Kind=2∧0≤t.At∧t.At≤5))
 td:x.Q.L.Pairwise λa b=>¬(a.Kind=b.Kind∧a.At=b.At)
 rt:∀h∈x.Roots,h=0∨h∈lv x.S
 fl:∀h∈lv x.S,∀v∈(ob x.S h).Fields,v=0∨v∈lv x.S
 pr:∀k v,Has x.T k v→k∈lv x.S∧v∈lv x.S
 cl:∀i (hi:i<x.a8.length),-1≤x.a8[i].Call∧x.a8[i].Call≤5∧(x.a8[i].Target=0→x.a8[i].Intact=false)∧(x.a8[i].Target≠0→∃p,T9 x.S x.a8[i].Target p)∧(x.a8[i].Intact=true→x.a8[i].Target∈lv x.S∧wts x.Q i=false)
def Wk(x:Hp):Prop:=∀i,i<x.S.S.a8.length→Th (ce x.S i)→(ce x.S i).Val.Weak=(nmg x.a8 (1+(i:Int)+32*(ce x.S i).Gen):Int)∧((ce x.S i).State=2→1≤(ce x.S i).Val.Weak∧(ce x.S i).Val.Fields = []∧(ce x.S i).Val.Strong=0)
def a0P(x:Hp)(L:List Int):Prop:=∀h∈lv x.S,(ob x.S h).Strong<12→(ob x.S h).Strong=((nms x h+V7 L h:Nat):Int)
structure K1 (x:Hp):Prop where
 sh:HpS x
 wk:Wk x
 fair:a0P x []
theorem HpS.of{x:Hp}(h:HpS x){s':a7}(hS:SR s')(hl:lv s'=lv x.S)(hd:∀k i,T9 x.S k i→T9 s' k i)(hst:∀k∈lv x.S,(ob x.S k).Started=true→(ob s' k).Started=true)(hfl:∀k∈lv x.S,∀v∈(ob s' k).Fields,v=0∨v∈lv x.S):HpS (wS x s'):=by
 refine⟨hS,h.hr,h.r6,h.c6,h.cap,h.q30,λt ht=>?_,h.td,λk hk=>?_,λk hk=>?_,λk v hkv=>?_,λi hi=>?_⟩
 ·obtain⟨a,b,c⟩:=h.tk t ht;refine⟨a,b,?_⟩;rcases c with ⟨c1,c2,c3⟩ | c;·exact .inl ⟨c1,by rw[hl];exact c2,hst _ c2 c3⟩
  ·exact .inr c
 ·dsimp only;rw[hl];exact h.rt k hk
 ·dsimp only at hk ⊢;rw[hl] at hk ⊢;exact hfl k hk
 ·dsimp only;rw[hl];exact h.pr k v hkv
 ·obtain⟨a,b,c,d,e⟩:=h.cl i hi;refine⟨a,b,c,λq=>?_,λq=>?_⟩
  ·obtain⟨p,hp⟩:=d q;exact⟨p,hd _ _ hp⟩
  ·dsimp only;rw[hl];exact e q
theorem HpS.kn{x:Hp}(h:HpS x){s':a7}(k:Kn x.S s'):HpS (wS x s'):=by
 refine h.of k.sr k.lv (λj i q=>(k.ad j i).2 q) (λj hj q=>?_) (λj hj=>?_)
 ·obtain⟨n,m,e⟩:=k.ob j hj;rw[e];exact q
 ·obtain⟨n,m,e⟩:=k.ob j hj;rw[e];exact h.fl j hj
theorem HpS.kin{x:Hp}(h:HpS x){s':a7}(k:Kin x.S s'):HpS (wS x s'):=h.kn (k.kn h.sr)
theorem Wk.kin{x:Hp}(h:Wk x){s':a7}(k:Kin x.S s'):Wk (wS x s'):=by
 intro i hi ht;dsimp only at hi ht ⊢;rw[k.len] at hi;obtain⟨a,b,c,d,e⟩:=k.ce i hi;unfold Th at ht;rw[a] at ht;obtain⟨f,g⟩:=h i hi ht;rw[a,b,c];refine⟨f,λq=>?_⟩;have e':=e (by omega);rw[←c,e'];exact g q
theorem HpS.roots{x:Hp}(h:HpS x){l:List Int}(hl:l.length=6)(hr:∀v∈l,v=0∨v∈lv x.S):HpS (wR x l):=⟨h.sr,h.hr,hl,h.c6,h.cap,h.q30,h.tk,h.td,hr,h.fl,h.pr,h.cl⟩
theorem HpS.table{x:Hp}(h:HpS x){t:Tb}(hr:HR t)(hp:∀k v,Has t k v→k∈lv x.S∧v∈lv x.S):HpS (wT x t):=⟨h.sr,hr,h.r6,h.c6,h.cap,h.q30,h.tk,h.td,h.rt,h.fl,hp,h.cl⟩
def Q2(c:Int):Int:=if 12≤c then 12 else if c<0 then 1 else c+1
def a4D(c:Int):Int:=if 12≤c then 12 else if c<1 then c else c-1
theorem B1{c:Int}(h:0≤c):0≤Q2 c:=by unfold Q2;split <;> (try split) <;> omega
theorem K5{c:Int}(h:0≤c):0≤a4D c:=by unfold a4D;split <;> (try split) <;> omega
noncomputable def stO(x:Hp)(h:Int)(f:Int→Int):Hp:=if h∈lv x.S then wS x (seO x.S h (stg (ob x.S h) (f (ob x.S h).Strong))) else x
noncomputable def A1(x:Hp)(h:Int):Hp:=stO x h Q2
noncomputable def M6(x:Hp)(h:Int):Hp:=stO x h a4D
theorem b3r(x:Hp)(h:Int)(f:Int→Int):stO x h f=wS x (stO x h f).S:=by
 unfold stO;split <;> rfl
theorem b06(x:Hp)(h:Int):A1 x h=wS x (A1 x h).S:=b3r x h Q2
theorem c82(x:Hp)(h:Int):M6 x h=wS x (M6 x h).S:=b3r x h a4D
section
variable{x:Hp}(hR:SR x.S)(h:Int){f:Int→Int}(hf:∀c,0≤c→0≤f c)
include hR hf
theorem D2:Kin x.S (stO x h f).S:=by
 unfold stO;split
 ·rename_i q;exact c5D hR q (hf _ (H0 hR q).st)
 ·exact Kin.refl hR
theorem b1c{k:Int}(hk:k∈lv x.S):(ob (stO x h f).S k).Strong=if k=h then f (ob x.S k).Strong else (ob x.S k).Strong:=by
 unfold stO;split
 ·rename_i q;dsimp only;have ho:OkO x.S (stg (ob x.S h) (f (ob x.S h).Strong)):=by
   have:=H0 hR q;exact⟨this.s1,this.s2,hf _ this.st,this.wk,this.p1,this.p2,this.fl⟩
  rw[a10 (o:=stg (ob x.S h) (f (ob x.S h).Strong)) hR q rfl ho (by have:=G4 hR hk;omega)];split;·rename_i e;subst e;rfl
  ·rfl
 ·rename_i q;rw[if_neg];intro e;subst e;exact q hk
theorem b2f(k:Int):nms (stO x h f) k=nms x k:=by
 rw[b3r];unfold nms otr;dsimp only;rw[(D2 hR h hf).inn hR]
end
theorem HpS.st{x:Hp}(h:HpS x)(k:Int){f:Int→Int}(hf:∀c,0≤c→0≤f c):HpS (stO x k f):=by
 rw[b3r];exact h.kin (D2 h.sr k hf)
theorem Wk.st{x:Hp}(h:Wk x)(hR:SR x.S)(k:Int){f:Int→Int}(hf:∀c,0≤c→0≤f c):Wk (stO x k f):=by
 rw[b3r];exact h.kin (D2 hR k hf)
theorem M4(h:Int):V7 [] h=0:=by unfold V7;split <;> rfl
theorem D4(v:Int)(L:List Int)(h:Int):V7 (v::L) h=V7 L h+if v=h∧h≠0 then 1 else 0:=by
 unfold V7;by_cases h0:h=0
 ·simp[h0]
 ·rw[if_neg h0,if_neg h0,List.count_cons];by_cases e:v=h
  ·simp[e,h0]
  ·simp[e]
theorem b7N{x:Hp}(hR:SR x.S){L:List Int}(hf:a0P x L)(v:Int):a0P (A1 x v) (v::L):=by
 intro h hh hlt;unfold A1 at hh hlt ⊢;rw[(D2 hR v λc=>B1).lv] at hh;rw[b1c hR v (λc=>B1) hh] at hlt ⊢;rw[b2f hR v λc=>B1,D4];have h0:h≠0:=λe=>a8e hR (e▸hh);have hp:=(H0 hR hh).st;by_cases e:h=v
 ·subst e;rw[if_pos rfl] at hlt ⊢;have:=hf h hh (by unfold Q2 at hlt;split at hlt <;> omega);rw[if_pos ⟨rfl,h0⟩];unfold Q2 at hlt ⊢;split at hlt;·omega
  ·rename_i q;rw[if_neg q,if_neg (by omega)];omega
 ·rw[if_neg e] at hlt ⊢;rw[if_neg (λq=>e q.1.symm)];exact hf h hh hlt
theorem b0a{x:Hp}(hR:SR x.S){L:List Int}{v:Int}(hf:a0P x (v::L)):a0P (M6 x v) L:=by
 intro h hh hlt;unfold M6 at hh hlt ⊢;rw[(D2 hR v λc=>K5).lv] at hh;rw[b1c hR v (λc=>K5) hh] at hlt ⊢;rw[b2f hR v λc=>K5];have h0:h≠0:=λe=>a8e hR (e▸hh);have hp:=(H0 hR hh).st;by_cases e:h=v
 ·subst e;rw[if_pos rfl] at hlt ⊢;have:=hf h hh (by unfold a4D at hlt;split at hlt <;> omega);rw[D4,if_pos ⟨rfl,h0⟩] at this;unfold a4D at hlt ⊢;split at hlt;·omega
  ·rename_i q;rw[if_neg q,if_neg (by omega)];omega
 ·rw[if_neg e] at hlt ⊢;have:=hf h hh hlt;rw[D4,if_neg (λq=>e q.1.symm)] at this;exact this
theorem a0P.mv{x x':Hp}{L L':List Int}(hf:a0P x L)(hl:lv x'.S=lv x.S)(hs:∀h∈lv x.S,(ob x'.S h).Strong=(ob x.S h).Strong)(hn:∀h∈lv x.S,nms x' h+V7 L' h=nms x h+V7 L h):a0P x' L':=by
 intro h hh hlt;rw[hl] at hh;rw[hs h hh] at hlt ⊢;rw[hf h hh hlt,hn h hh]
end Go.Sh
namespace Go.Sh
theorem b2h:∀ {l:List Int} {r:Nat} (hr:r<l.length) (h k:Int),V7 (l.set r h) k+V7 [l.getD r 0] k=V7 l k+V7 [h] k
 | [],_,hr,_,_=>by simp at hr
 | a::l,0,_,h,k=>by
  rw[List.set_cons_zero,List.getD_cons_zero,D4 h l,D4 a l,D4 a [],D4 h [],M4];omega
 | a::l,r+1,hr,h,k=>by
  rw[List.set_cons_succ,List.getD_cons_succ,D4 a,D4 a l];have:=b2h (l:=l) (r:=r) (by simpa using hr) h k;omega
theorem a9b{x x1:Hp}(hx:K1 x){old new:Int}(h1:HpS (A1 x new)→Wk (A1 x new)→HpS x1∧Wk x1)
  (hl:lv x1.S=lv (A1 x new).S)(hs:∀h∈lv x.S,(ob x1.S h).Strong=(ob (A1 x new).S h).Strong)(hn:∀h∈lv x.S,nms x1 h+V7 [old] h=nms x h+V7 [new] h):K1 (M6 x1 old):=by
 have l1:lv (A1 x new).S=lv x.S:=(D2 hx.sh.sr new λc=>B1).lv;have f1:a0P (A1 x new) [new]:=b7N hx.sh.sr hx.fair new;obtain⟨h2,w2⟩:=h1 (hx.sh.st new λc=>B1) (hx.wk.st hx.sh.sr new λc=>B1);have f2:a0P x1 [old]:=f1.mv hl (λh hh=>hs h (l1▸hh)) λh hh=>by
  rw[hn h (l1▸hh)];unfold A1;rw[b2f hx.sh.sr new λc=>B1]
 exact⟨h2.st _ λc=>K5,w2.st h2.sr _ λc=>K5,b0a h2.sr f2⟩
noncomputable def D1(x:Hp)(r:Nat)(h:Int):Hp:=M6 (wR (A1 x h) (x.Roots.set r h)) (x.Roots.getD r 0)
theorem X5{x:Hp}(hx:K1 x){r:Nat}(hr:r<6){h:Int}(hh:h=0∨h∈lv x.S):K1 (D1 x r h):=by
 have l1:lv (A1 x h).S=lv x.S:=(D2 hx.sh.sr h λc=>B1).lv;refine a9b hx (λa b=>⟨a.roots (by rw[List.length_set];exact hx.sh.r6) (λv hv=>?_),b⟩) rfl (λ_ _=>rfl) (λk hk=>?_)
 ·rw[l1];rcases List.mem_or_eq_of_mem_set hv with q | q
  ·exact hx.sh.rt v q
  ·exact q▸hh
 ·have hi:=(D2 hx.sh.sr h λc=>B1).inn hx.sh.sr k;rw[b06];unfold nms otr;dsimp only;rw[show inn (A1 x h).S k=inn x.S k from hi,H4,H4,b1f,b1f];have:=b2h (l:=x.Roots) (r:=r) (by rw[hx.sh.r6];exact hr) h k;omega
theorem c0J{α:Type}:∀ {l:List α} (hn:l.Nodup) {a:α} (ha:a∈l) (f g:α→Nat) (h:∀x∈l,x≠a→f x=g x),(l.map g).sum+f a=(l.map f).sum+g a
 | [],_,_,ha,_,_,_=>by cases ha
 | b::l,hn,a,ha,f,g,h=>by
  rw[List.nodup_cons] at hn;rw[List.map_cons,List.map_cons,List.sum_cons,List.sum_cons];rcases List.mem_cons.1 ha with e | e
  ·subst e;have:l.map g=l.map f:=List.map_congr_left λx hx=>(h x (List.mem_cons_of_mem _ hx) λe=>hn.1 (e▸hx)).symm;rw[this];omega
  ·have:=c0J hn.2 e f g λx hx=>h x (List.mem_cons_of_mem _ hx);have:=h b (List.mem_cons_self ..) λq=>hn.1 (q▸e);omega
abbrev flg(o:l4)(l:List Int):l4:=⟨o.Serial,o.Strong,o.Weak,o.Prog,o.Started,l⟩
theorem b90{s:a7}(hR:SR s){h:Int}(hh:h∈lv s){o:l4}(hs:o.Serial=(ob s h).Serial)(ho:OkO s o)(y:Int):inn (seO s h o) y+V7 (ob s h).Fields y=inn s y+V7 o.Fields y:=by
 have hle:=G4 hR hh;have:=c0J (a9Q (p8.2 hR)) hh (λx=>V7 (outs s x) y) (λx=>V7 (outs (seO s h o) x) y) λx hx hne=>by
  have:=G4 hR hx;unfold outs;rw[a10 hR hh hs ho (by omega),if_neg hne]
 have e:V7 (outs (seO s h o) h) y=V7 o.Fields y:=by
  unfold outs;rw[a10 hR hh hs ho (by omega),if_pos rfl,b1f]
 have e2:V7 (outs s h) y=V7 (ob s h).Fields y:=b1f _ _;rw[e,e2] at this;unfold inn;rw[a2M hR hh hs ho];exact this
noncomputable def a0D(x:Hp)(h:Int)(k:Nat)(v:Int):Hp:=M6 (wS (A1 x v) (seO (A1 x v).S h (flg (ob (A1 x v).S h) ((ob x.S h).Fields.set k v)))) ((ob x.S h).Fields.getD k 0)
theorem b5p{x:Hp}(hx:K1 x){h:Int}(hh:h∈lv x.S){k:Nat}(hk:k<(ob x.S h).Fields.length){v:Int}(hv:v=0∨v∈lv x.S):K1 (a0D x h k v):=by
 have kin:=D2 hx.sh.sr v (f:=Q2) λc=>B1;have l1:lv (A1 x v).S=lv x.S:=kin.lv;have hR1:SR (A1 x v).S:=kin.sr;have hh1:h∈lv (A1 x v).S:=by rw[l1];exact hh
 have hle:=G4 hx.sh.sr hh;have hof:(ob (A1 x v).S h).Fields=(ob x.S h).Fields:=by
  obtain⟨n,e⟩:=kin.ob h (by omega);show (ob (stO x v Q2).S h).Fields=_;rw[e]
 have ho:OkO (A1 x v).S (flg (ob (A1 x v).S h) ((ob x.S h).Fields.set k v)):=by
  have:=H0 hR1 hh1;refine⟨this.s1,this.s2,this.st,this.wk,this.p1,this.p2,?_⟩;have h4:=this.fl;rw[hof] at h4;simpa using h4
 have hob:∀j,j∈lv x.S→ob (seO (A1 x v).S h (flg (ob (A1 x v).S h) ((ob x.S h).Fields.set k v))) j=if j=h then flg (ob (A1 x v).S h) ((ob x.S h).Fields.set k v) else ob (A1 x v).S j:=λj hj=>by
  have:=G4 hx.sh.sr hj;exact a10 (o:=flg (ob (A1 x v).S h) ((ob x.S h).Fields.set k v)) hR1 hh1 rfl ho (by omega)
 refine a9b hx (λa b=>⟨?_,?_⟩) (a2M (o:=flg (ob (A1 x v).S h) ((ob x.S h).Fields.set k v)) hR1 hh1 rfl ho) (λj hj=>?_) (λj hj=>?_)
 ·refine a.of (a0h (o:=flg (ob (A1 x v).S h) ((ob x.S h).Fields.set k v)) hR1 hh1 rfl ho) (a2M (o:=flg (ob (A1 x v).S h) ((ob x.S h).Fields.set k v)) hR1 hh1 rfl ho) (λj i q=>(b9k (o:=flg (ob (A1 x v).S h) ((ob x.S h).Fields.set k v)) hR1 hh1 rfl ho).2 q) (λj hj q=>?_) (λj hj u hu=>?_)
  ·rw[hob j (l1▸hj)];split;·rename_i e;subst e;exact q
   ·exact q
  ·rw[hob j (l1▸hj)] at hu;split at hu
   ·rename_i e;subst e;rcases List.mem_or_eq_of_mem_set hu with q | q
    ·exact a.fl j hj u (by rw[hof];exact q)
    ·rw[l1,q];exact hv
   ·exact a.fl j hj u hu
 ·intro i hi ht;dsimp only at hi ht ⊢;have hp:=u4 hR1 hh1;unfold seO at hi;rw[J4] at hi;have hce:=b6j (o:=flg (ob (A1 x v).S h) ((ob x.S h).Fields.set k v)) hR1 hh1 rfl ho i;rw[hce] at ht ⊢;split at ht
  ·rename_i e;subst e;rw[if_pos rfl];have:=b _ hp.1 (.inl hp.2.1);dsimp only;refine⟨?_,λq=>absurd q (by rw[hp.2.1];decide)⟩;rw[←this.1,M5 hR1 hp]
  ·rename_i e;rw[if_neg e];exact b i hi ht
 ·rw[hob j hj];split;·rename_i e;subst e;rfl
  ·rfl
 ·have hi:=b90 (o:=flg (ob (A1 x v).S h) ((ob x.S h).Fields.set k v)) hR1 hh1 rfl ho j;have hi2:=kin.inn hx.sh.sr j;have hi2:inn (A1 x v).S j=inn x.S j:=hi2;rw[hi2,hof] at hi;dsimp only at hi;have:=b2h hk v j;have hrest:A1 x v=wS x (A1 x v).S:=b06 x v;unfold nms otr;dsimp only;rw[show (A1 x v).T=x.T by rw[hrest],show (A1 x v).Roots=x.Roots by rw[hrest],show (A1 x v).Q=x.Q by rw[hrest]];omega
theorem c3Q{t:Tb}(hT:HR t){k v:Int}{r:Tb × Int × Int}(h:P8 t k v=some r)(h0:r.2.2=0):HR r.1∧(∀y,own r.1 y+V7 [r.2.1] y=own t y+V7 [v] y)∧∀k' v',Has r.1 k' v'→Has t k' v'∨(k'=k∧v'=v∧v≠0):=by
 obtain⟨r',e1,e2,_,e3⟩:=b9l hT k v;rw[h] at e1;cases e1;refine⟨e2,?_⟩;have hos:∀(i:Nat) (p:b8) (y:Int),i<t.length→own (t.set i p) y+(if (pt t i).State=1∧(pt t i).Val=y∧y≠0 then 1 else 0)=own t y+if p.State=1∧p.Val=y∧y≠0 then 1 else 0:=λi p y hi=>by
  have key:∀q:b8,(if ((q.State==1)&&((y != 0)&&(q.Val==y)))=true then 1 else 0:Nat)=if q.State=1∧q.Val=y∧y≠0 then 1 else 0:=λq=>by
   by_cases c:q.State=1∧q.Val=y∧y≠0
   ·rw[if_pos c,if_pos (by simp[c.1,c.2.1,c.2.2])]
   ·rw[if_neg c,if_neg (by simp only[Bool.and_eq_true,beq_iff_eq,bne_iff_ne,ne_eq];exact λq=>c ⟨q.1,q.2.2,q.2.1⟩)]
  have:=c0j hi p y;rw[key,key] at this;exact this
 rcases e3 with ⟨_,rfl⟩ | ⟨hk,hv,⟨i,hi,rfl⟩ | ⟨hn,rfl⟩⟩ | ⟨hk,hv,⟨i,hi,rfl⟩ | ⟨d,hn,hd,hf,hp,rfl⟩ | ⟨hn,ha,rfl⟩⟩;·simp at h0
 ·refine⟨λy=>?_,λk' v' q=>.inl ((b2x hT hi k' v').1 q).2⟩;have:=hos i ⟨2,0,0⟩ y hi.1;rw[D4,D4,M4];subst hv;dsimp only at this ⊢;rw[if_neg (show ¬((2:Int)=1∧(0:Int)=y∧y≠0) by omega)] at this;rw[if_neg (show ¬((0:Int)=y∧y≠0) by omega)];simp only[hi.2.1,true_and] at this;omega
 ·refine⟨λy=>?_,λk' v' q=>.inl q⟩;rw[hv]
 ·refine⟨λy=>?_,λk' v' q=>?_⟩
  ·have:=hos i ⟨1,k,v⟩ y hi.1;rw[D4,D4,M4];simp only[hi.2.1,true_and] at this;dsimp only;omega
  ·rcases (b5V hT (.old i hi) rfl k' v').1 q with ⟨a,b⟩ | ⟨_,b⟩;·exact .inr ⟨a,b,hv⟩
   ·exact .inl b
 ·refine⟨λy=>?_,λk' v' q=>?_⟩
  ·have:=hos d ⟨1,k,v⟩ y hd;rw[D4,D4,M4];dsimp only;rw[if_neg (show ¬((0:Int)=y∧y≠0) by omega)];simp only[hf,false_and,true_and,if_false] at this;omega
  ·rcases (b5V hT hp rfl k' v').1 q with ⟨a,b⟩ | ⟨_,b⟩;·exact .inr ⟨a,b,hv⟩
   ·exact .inl b
 ·simp at h0
noncomputable def a4P(x:Hp)(v:Int)(t:Tb)(old:Int):Hp:=M6 (wT (A1 x v) t) old
theorem b7u{x:Hp}(hx:K1 x){k v:Int}(hk:k∈lv x.S)(hv:v=0∨v∈lv x.S){r:Tb × Int × Int}(h:P8 x.T k v=some r)(h0:r.2.2=0):K1 (a4P x v r.1 r.2.1):=by
 have kin:=D2 hx.sh.sr v (f:=Q2) λc=>B1;have l1:lv (A1 x v).S=lv x.S:=kin.lv;obtain⟨p1,p2,p3⟩:=c3Q hx.sh.hr h h0;refine a9b hx (λa b=>⟨a.table p1 λk' v' q=>?_,b⟩) rfl (λ_ _=>rfl) (λj hj=>?_)
 ·rw[l1];rcases p3 k' v' q with q | ⟨rfl,rfl,hne⟩
  ·exact hx.sh.pr k' v' q
  ·exact⟨hk,hv.resolve_left hne⟩
 ·have hi2:inn (A1 x v).S j=inn x.S j:=kin.inn hx.sh.sr j;have hrest:A1 x v=wS x (A1 x v).S:=b06 x v;unfold nms otr;dsimp only;rw[show (A1 x v).Roots=x.Roots by rw[hrest],show (A1 x v).Q=x.Q by rw[hrest],hi2];have:=p2 j;omega
end Go.Sh
namespace Go.Sh
instance(s:a7)(h:Int)(i:Nat):Decidable (T9 s h i):=by unfold T9;infer_instance
abbrev wkg(o:l4)(n:Int):l4:=⟨o.Serial,o.Strong,n,o.Prog,o.Started,o.Fields⟩
def mkA(s:a7)(i:Nat)(d:Int):a7:=a1l s i (wkg (ce s i).Val ((ce s i).Val.Weak+d))
def gvA(s:a7)(i:Nat):a7:=D8 s i (if (ce s i).Gen=s.S.Last then ⟨3,(ce s i).Gen,z0⟩ else ⟨0,(ce s i).Gen+1,z0⟩)
def hdl(s:a7)(i:Nat):Int:=1+(i:Int)+32*(ce s i).Gen
theorem b9J{s:a7}{i:Nat}(hi:i<s.S.a8.length)(ht:Th (ce s i)):T9 s (hdl s i) i:=⟨hi,ht,rfl⟩
theorem b1Y{s:a7}(hR:SR s){i:Nat}(hi:i<s.S.a8.length):1≤hdl s i:=by
 have:=hR.cell i hi;unfold hdl;omega
section
variable{s:a7}(hR:SR s){i:Nat}(hi:i<s.S.a8.length)(ht:Th (ce s i))
include hR hi ht
theorem b2U{d:Int}(hd:0≤(ce s i).Val.Weak+d):SR (mkA s i d):=by
 have:=hR.ok i hi ht;exact hR.put hi ht rfl ⟨this.s1,this.s2,this.st,hd,this.p1,this.p2,this.fl⟩
theorem a2H(d:Int)(j:Nat):ce (mkA s i d) j=if j=i then ⟨(ce s i).State,(ce s i).Gen,wkg (ce s i).Val ((ce s i).Val.Weak+d)⟩ else ce s j:=a5n hi _ j
theorem a5D{d:Int}(hd:0≤(ce s i).Val.Weak+d):Kn s (mkA s i d):=by
 have hS:=b2U hR hi ht hd;refine⟨hS,J4 ..,c3g hR hi rfl hS,λk j=>b1U hi _,λk hk=>?_⟩;have q:=u4 hR hk;rw[M5 hS ((b2r hi _).2 q),M5 hR q,a2H hR hi ht];split
 ·rename_i e;rw[e];exact⟨_,_,rfl⟩
 ·exact⟨_,_,rfl⟩
theorem a5E{d:Int}(hd:0≤(ce s i).Val.Weak+d){k:Int}(hk:k∈lv s):(ob (mkA s i d) k).Strong=(ob s k).Strong:=by
 have hS:=b2U hR hi ht hd;have q:=u4 hR hk;rw[M5 hS ((b2r hi _).2 q),M5 hR q,a2H hR hi ht];split
 ·rename_i e;rw[e]
 ·rfl
omit ht in
theorem b5z:SR (gvA s i):=by
 have hc:=hR.cell i hi;have no:c0Q (oo z0):=⟨rfl,rfl,rfl,rfl,rfl,rfl⟩;unfold gvA;split;·exact hR.D8 hi ⟨by simp,by simp,hc.2.2.1,hc.2.2.2⟩ (λ_=>no) (λq=>absurd q (by unfold Th;simp))
 ·refine hR.D8 hi ⟨by simp,by simp,?_,?_⟩ (λ_=>no) (λq=>absurd q (by unfold Th;simp));·show 0≤(ce s i).Gen+1;omega
  ·show (ce s i).Gen+1≤s.S.Last;omega
omit hR ht in
theorem b5w:∃c,(c.State=0∨c.State=3)∧gvA s i=D8 s i c∧∀j,ce (gvA s i) j=if j=i then c else ce s j:=by
 unfold gvA;split;·exact⟨_,.inr rfl,rfl,λj=>H6 hi _ j⟩
 ·exact⟨_,.inl rfl,rfl,λj=>H6 hi _ j⟩
omit ht in
theorem b5x (h2:(ce s i).State=2):lv (gvA s i)=lv s:=by
 obtain⟨c,c1,c2,_⟩:=b5w (s:=s) hi;have hS:=b5z hR hi;rw[c2] at hS ⊢;rw[b98 hR hi (by omega) hS,List.filter_eq_self];intro h hh;rw[decide_eq_true_iff];intro e;have:=(u4 hR hh).2.1;rw[e] at this;omega
omit ht in
theorem b5y (h2:(ce s i).State=2) {k:Int} (hk:k∈lv s):ob (gvA s i) k=ob s k:=by
 obtain⟨c,c1,c2,_⟩:=b5w (s:=s) hi;have hS:=b5z hR hi;rw[c2] at hS ⊢;refine c0d hR hi hS hk λe=>?_;have:=(u4 hR hk).2.1;rw[e] at this;omega
omit ht in
theorem c77 {k:Int} {j:Nat}:T9 (gvA s i) k j↔T9 s k j∧j≠i:=by
 obtain⟨c,c1,c2,c3⟩:=b5w (s:=s) hi;by_cases e:j=i
 ·subst e;constructor
  ·rintro⟨_,h,_⟩;rw[c3,if_pos rfl] at h;unfold Th at h;omega
  ·rintro⟨_,h⟩;exact absurd rfl h
 ·rw[c2,c2j hi c e];simp[e]
theorem c5u(h2:(ce s i).State=2)(y:Int):inn (gvA s i) y=inn s y:=by
 unfold inn;rw[b5x hR hi h2];congr 1;refine List.map_congr_left λx hx=>?_;unfold outs;rw[b5y hR hi h2 hx]
end
def mkd(x:Hp)(h:Int)(d:Int):Hp:=if T9 x.S h (A7 h) then wS x (mkA x.S (A7 h) d) else x
def a7s(x:Hp)(h:Int):Hp:=
 if T9 x.S h (A7 h) then
  (if (ce x.S (A7 h)).State=2∧(ce x.S (A7 h)).Val.Weak=1 then wS x (gvA (mkA x.S (A7 h) (-1)) (A7 h)) else wS x (mkA x.S (A7 h) (-1)))
 else x
abbrev wcl(h call:Int):c7:=⟨h,h != 0,call⟩
def tgt(x:Hp)(w:Nat):Int:=(x.a8.getD w ⟨0,false,0⟩).Target
def a1G(x:Hp)(w:Nat)(h call:Int):Hp:=a7s (mkd (wC x (x.a8.set w (wcl h call))) h 1) (tgt x w)
theorem c5N{l:List c7}{w:Nat}(hw:w<l.length)(c:c7){k:Int}(hk:k≠0):nmg (l.set w c) k+(if l[w].Target=k then 1 else 0)=nmg l k+if c.Target=k then 1 else 0:=by
 unfold nmg;rw[List.countP_set hw];have e:∀d:c7,(((k != 0)&&(d.Target==k))=true)=(d.Target=k):=λd=>by simp[hk]
 simp only[e];have:(if l[w].Target=k then 1 else 0)≤l.countP λc=>(k != 0)&&(c.Target==k):=by
  split
  ·rename_i q;exact List.countP_pos_iff.2 ⟨l[w],List.getElem_mem hw,by simp[q,hk]⟩
  ·exact Nat.zero_le _
 omega
theorem a9V{l:List c7}{i:Nat}(hi:i<l.length)(h0:l[i].Target≠0):0<nmg l l[i].Target:=List.countP_pos_iff.2 ⟨l[i],List.getElem_mem hi,by simp[h0]⟩
theorem b76{x:Hp}(hx:K1 x){w:Nat}(hw:w<6){h call:Int}(hh:h=0∨h∈lv x.S)(hc : -1≤call∧call≤5)(hq:wts x.Q w=false):K1 (a1G x w h call):=by
 have hR:=hx.sh.sr;have hwl:w<x.a8.length:=by rw[hx.sh.c6];exact hw
 have htg:tgt x w=x.a8[w].Target:=by
  unfold tgt;rw[List.getD_eq_getElem?_getD,List.getElem?_eq_getElem hwl];rfl
 have s1:HpS (wC x (x.a8.set w (wcl h call))):=by
  have:=hx.sh;refine⟨this.sr,this.hr,this.r6,by simpa using this.c6,this.cap,this.q30,this.tk,this.td,this.rt,this.fl,this.pr,λi hi=>?_⟩;dsimp only at hi ⊢;rw[List.getElem_set];rw[List.length_set] at hi;split
  ·rename_i e;subst e;dsimp only;refine⟨hc.1,hc.2,λq=>by simp[q],λq=>?_,λq=>?_⟩;·exact⟨_,(u4 hR (hh.resolve_left q)).d⟩
   ·have q:h≠0:=by simpa using q
    exact⟨hh.resolve_left q,hq⟩
  ·exact this.cl i hi
 have k2:∃s2,mkd (wC x (x.a8.set w (wcl h call))) h 1=wS (wC x (x.a8.set w (wcl h call))) s2∧Kn x.S s2∧(∀k∈lv x.S,(ob s2 k).Strong=(ob x.S k).Strong) ∧
   ∀i,i<x.S.S.a8.length→(ce s2 i).State=(ce x.S i).State∧(ce s2 i).Gen=(ce x.S i).Gen∧(ce s2 i).Val.Fields=(ce x.S i).Val.Fields∧(ce s2 i).Val.Strong=(ce x.S i).Val.Strong∧(Th (ce x.S i)→(ce s2 i).Val.Weak=(ce x.S i).Val.Weak+if h=hdl x.S i then 1 else 0):=by
  unfold mkd;rcases hh with h0 | hh
  ·have hno:¬T9 x.S h (A7 h):=λq=>by have:=q.rng hR;omega
   rw[if_neg hno];refine⟨x.S,rfl,(Kin.refl hR).kn hR,λ_ _=>rfl,λi hi=>⟨rfl,rfl,rfl,rfl,λht=>?_⟩⟩;have:=b1Y hR hi;rw[if_neg (by omega)];omega
  ·have hp:=u4 hR hh;have hwk:=(hR.ok _ hp.1 (.inl hp.2.1)).wk;rw[if_pos hp.d];refine⟨_,rfl,a5D hR hp.1 (.inl hp.2.1) (by omega),λk hk=>a5E hR hp.1 (.inl hp.2.1) (by omega) hk,λi hi=>?_⟩;rw[a2H hR hp.1 (.inl hp.2.1)];split
   ·rename_i e;subst e;refine⟨rfl,rfl,rfl,rfl,λ_=>?_⟩;rw[if_pos (show h=hdl x.S (A7 h) from hp.2.2)]
   ·rename_i e;refine⟨rfl,rfl,rfl,rfl,λht=>?_⟩;rw[if_neg];·omega
    ·intro q;exact e (T9.one hR (q▸b9J hi ht) hp.d)
 obtain⟨s2,e2,kn2,st2,ce2⟩:=k2;have hR2:=kn2.sr;have len2:=kn2.len;have hS2:HpS (wS (wC x (x.a8.set w (wcl h call))) s2):=s1.kn kn2;have hdl2:∀i,i<x.S.S.a8.length→hdl s2 i=hdl x.S i:=λi hi=>by unfold hdl;rw[(ce2 i hi).2.1]
 have th2:∀i,i<x.S.S.a8.length→(Th (ce s2 i)↔Th (ce x.S i)):=λi hi=>by unfold Th;rw[(ce2 i hi).1]
 have wk2:∀i,i<x.S.S.a8.length→Th (ce x.S i)→(ce s2 i).Val.Weak=(nmg (x.a8.set w (wcl h call)) (hdl x.S i):Int)+if tgt x w=hdl x.S i then 1 else 0:=λi hi ht=>by
  have h0:hdl x.S i≠0:=by have:=b1Y hR hi;omega
  have:=c5N hwl (wcl h call) h0;rw[(ce2 i hi).2.2.2.2 ht,(hx.wk i hi ht).1,htg];dsimp only at this;unfold hdl at this ⊢;by_cases a:h=1+(i:Int)+32*(ce x.S i).Gen <;> by_cases b:x.a8[w].Target=1+(i:Int)+32*(ce x.S i).Gen
  ·rw[if_pos a,if_pos b] at *;omega
  ·rw[if_pos a,if_neg b] at *;omega
  ·rw[if_neg a,if_pos b] at *;omega
  ·rw[if_neg a,if_neg b] at *;omega
 have dd2:∀i,i<x.S.S.a8.length→(ce s2 i).State=2→(ce s2 i).Val.Fields = []∧(ce s2 i).Val.Strong=0:=λi hi q=>by
  obtain⟨a,_,b,c,_⟩:=ce2 i hi;rw[a] at q;rw[b,c];exact ((hx.wk i hi (.inr q)).2 q).2
 have nms2:∀k,nms (wS (wC x (x.a8.set w (wcl h call))) s2) k=nms x k:=λk=>by
  unfold nms otr;dsimp only;rw[kn2.inn]
 have fair2:a0P (wS (wC x (x.a8.set w (wcl h call))) s2) []:=hx.fair.mv kn2.lv st2 λk _=>by rw[nms2]
 unfold a1G;rw[e2];unfold a7s;dsimp only;by_cases hold:tgt x w=0
 ·have hno:¬T9 s2 (tgt x w) (A7 (tgt x w)):=λq=>by have:=q.rng hR2;omega
  rw[if_neg hno];refine⟨hS2,λi hi ht=>?_,fair2⟩;dsimp only at hi ht ⊢;rw[len2] at hi;have ht':=(th2 i hi).1 ht;have h0:=b1Y hR hi;have hw2:=wk2 i hi ht';rw[if_neg (by omega)] at hw2;rw[show (1+(i:Int)+32*(ce s2 i).Gen)=hdl x.S i from hdl2 i hi];refine⟨by omega,λq=>⟨?_,dd2 i hi q⟩⟩;have q':(ce x.S i).State=2:=by rw[←(ce2 i hi).1];exact q
  have:=((hx.wk i hi ht').2 q').1;rw[(ce2 i hi).2.2.2.2 ht'];split <;> omega
 ·obtain⟨p,hp⟩:∃p,T9 x.S (tgt x w) p:=by
   rw[htg] at hold ⊢;exact (hx.sh.cl w hwl).2.2.2.1 hold
  have hpp:=hp.A7 hR;have hp2:T9 s2 (tgt x w) p:=(kn2.ad _ _).2 hp;have hth:tgt x w=hdl x.S p:=hp.2.2;rw[hpp,if_pos hp2];have hpl2:=hp2.1;have hw2:=wk2 p hp.1 hp.2.1;rw[if_pos hth] at hw2;have hd:0≤(ce s2 p).Val.Weak+(-1):=by omega
  have kn3:=a5D hR2 hpl2 hp2.2.1 hd;have hR3:=kn3.sr;have ce3:=a2H hR2 hpl2 hp2.2.1 (-1);have hS3:HpS (wS (wC x (x.a8.set w (wcl h call))) (mkA s2 p (-1))):=hS2.kn kn3;have fair3:a0P (wS (wC x (x.a8.set w (wcl h call))) (mkA s2 p (-1))) []:=fair2.mv kn3.lv (λk hk=>a5E hR2 hpl2 hp2.2.1 hd hk) λk _=>by
   unfold nms otr;dsimp only;rw[kn3.inn]
  have wk3:∀i,i<x.S.S.a8.length→Th (ce x.S i)→(ce (mkA s2 p (-1)) i).Val.Weak=(nmg (x.a8.set w (wcl h call)) (hdl x.S i):Int):=λi hi ht=>by
   rw[ce3];by_cases e:i=p
   ·subst e;rw[if_pos rfl];dsimp only;omega
   ·rw[if_neg e,wk2 i hi ht,if_neg];·omega
    ·intro q;exact e (T9.one hR (q▸b9J hi ht) hp)
  have cs3:∀i,(ce (mkA s2 p (-1)) i).State=(ce s2 i).State∧(ce (mkA s2 p (-1)) i).Gen=(ce s2 i).Gen∧(ce (mkA s2 p (-1)) i).Val.Fields=(ce s2 i).Val.Fields∧(ce (mkA s2 p (-1)) i).Val.Strong=(ce s2 i).Val.Strong:=λi=>by
   rw[ce3];split
   ·rename_i e;subst e;exact⟨rfl,rfl,rfl,rfl⟩
   ·exact⟨rfl,rfl,rfl,rfl⟩
  by_cases hg:(ce s2 p).State=2∧(ce s2 p).Val.Weak=1
  ·-- the slot is given back
   rw[if_pos hg];have hpl3:p<(mkA s2 p (-1)).S.a8.length:=by rw[kn3.len];exact hpl2
   have h23:(ce (mkA s2 p (-1)) p).State=2:=by rw[(cs3 p).1];exact hg.1
   have hn0:nmg (x.a8.set w (wcl h call)) (tgt x w)=0:=by rw[hth];omega
   have hlv:=b5x hR3 hpl3 h23;have hob:=λk hk=>b5y (k:=k) hR3 hpl3 h23 hk;obtain⟨c,c1,c2,c3⟩:=b5w (s:=mkA s2 p (-1)) hpl3;refine⟨⟨b5z hR3 hpl3,hS3.hr,hS3.r6,hS3.c6,hS3.cap,hS3.q30,λt htt=>?_,hS3.td,λv hv=>?_,λv hv u hu=>?_,λk v hkv=>?_,λi hi=>?_⟩,λi hi ht=>?_,?_⟩
   ·obtain⟨a,b,d⟩:=hS3.tk t htt;refine⟨a,b,?_⟩;dsimp only at d ⊢;rw[hlv];rcases d with ⟨d1,d2,d3⟩ | d;·exact .inl ⟨d1,d2,by rw[hob _ d2];exact d3⟩
    ·exact .inr d
   ·dsimp only;rw[hlv];exact hS3.rt v hv
   ·dsimp only at hv hu ⊢;rw[hlv] at hv ⊢;rw[hob _ hv] at hu;exact hS3.fl v hv u hu
   ·dsimp only;rw[hlv];exact hS3.pr k v hkv
   ·obtain⟨a1,a2,a3,a4,a5⟩:=hS3.cl i hi;refine⟨a1,a2,a3,λq=>?_,λq=>?_⟩
    ·obtain⟨j,hj⟩:=a4 q;refine⟨j,(c77 hR3 hpl3).2 ⟨hj,λe=>?_⟩⟩;subst e;have e1:=(kn2.ad _ _).1 ((kn3.ad _ _).1 hj);have e2:(x.a8.set w (wcl h call))[i].Target=tgt x w:=e1.2.2.trans hp.2.2.symm;have:=a9V hi q;dsimp only at this;rw[e2] at this;omega
    ·dsimp only;rw[hlv];exact a5 q
   ·dsimp only at hi ht ⊢;rw[show (gvA (mkA s2 p (-1)) p).S.a8.length=x.S.S.a8.length by rw[c2,T8,kn3.len,len2]] at hi;rw[c3] at ht ⊢;split at ht;·unfold Th at ht;omega
    ·rename_i e;rw[if_neg e];have ht':Th (ce x.S i):=(th2 i hi).1 (by unfold Th at ht ⊢;rw[(cs3 i).1] at ht;exact ht);have:=wk3 i hi ht';rw[show (1+(i:Int)+32*(ce (mkA s2 p (-1)) i).Gen)=hdl x.S i by rw[(cs3 i).2.1];exact hdl2 i hi];refine⟨this,λq=>?_⟩;rw[(cs3 i).1] at q;rw[(cs3 i).2.2.1,(cs3 i).2.2.2,ce3,if_neg e];refine⟨?_,dd2 i hi q⟩;have q':(ce x.S i).State=2:=by rw[←(ce2 i hi).1];exact q
     have:=((hx.wk i hi ht').2 q').1;rw[(ce2 i hi).2.2.2.2 ht'];split <;> omega
   ·refine fair3.mv hlv (λk hk=>by rw[hob k hk]) λk _=>?_;unfold nms otr;dsimp only;rw[c5u hR3 hpl3 (.inr h23) h23]
  ·rw[if_neg hg];refine⟨hS3,λi hi ht=>?_,fair3⟩;dsimp only at hi ht ⊢;rw[kn3.len,len2] at hi;have ht':Th (ce x.S i):=(th2 i hi).1 (by unfold Th at ht ⊢;rw[(cs3 i).1] at ht;exact ht);have:=wk3 i hi ht';rw[show (1+(i:Int)+32*(ce (mkA s2 p (-1)) i).Gen)=hdl x.S i by rw[(cs3 i).2.1];exact hdl2 i hi];refine⟨this,λq=>?_⟩;rw[(cs3 i).1] at q;rw[(cs3 i).2.2.1,(cs3 i).2.2.2];refine⟨?_,dd2 i hi q⟩;rw[ce3];split
   ·rename_i e;subst e;dsimp only;have:(ce s2 i).Val.Weak≠1:=λq2=>hg ⟨q,q2⟩;omega
   ·have q':(ce x.S i).State=2:=by rw[←(ce2 i hi).1];exact q
    have:=((hx.wk i hi ht').2 q').1;rw[(ce2 i hi).2.2.2.2 ht'];split <;> omega
end Go.Sh
namespace Go.Sh
def wcR(c:c7):E1:=⟨c.Target,c.Intact,c.Call⟩
def hO(x:Hp):g5:=⟨sO x.S,x.Roots,x.a8.map wcR,x.T.map J3,tqR x.Q⟩
structure HB (x:Hp):Prop where
 sb:SB x.S
 fb:FB x.S
 rb:LB x.Roots
 cb:∀c∈x.a8,c.Target≤9223372036854775807
 tb:TB x.T
 qb:∀t∈x.Q.L,t.At≤9223372036854775807
theorem c3e{β:Type}{b:Nat}{f:Int × List β→Option ((Int × List β) ⊕ List β)}(n:Nat)(g:Nat→β)(hb:0<b)(h:n*b≤140737488355328)
  (hs:∀(k:Nat) acc,k<n→f ((k:Int),acc)=(app b acc [g k]).bind λv=>some (.inl (s6 ((k:Int)+1),v)))(he:∀acc,f ((n:Int),acc)=some (.inr acc)):lp f (0,[])=some ((List.range n).map g):=by
 have hl:n*1≤n*b:=Nat.mul_le_mul_left _ hb;refine a4f (a2G n (λk l=>l=(List.range k).map g) (λe=>e=(List.range n).map g) (by omega) (by simp) ?_ ?_)
 ·rintro k l hk rfl;have h3:(k+1)*b≤n*b:=Nat.mul_le_mul_right _ hk;refine .inl ⟨(List.range (k+1)).map g,?_,rfl⟩;rw[hs k _ hk,x8 hb (by simp;omega),d1G,k8,List.range_succ,List.map_append];rfl
 ·rintro l rfl;exact⟨_,he _,rfl⟩
theorem c4j{s:a7}(hR:SR s){h:Int}(hh:h∈lv s):seO s h (ob s h)=s:=by
 have q:=u4 hR hh;unfold seO a1l;rw[M5 hR q];have e:s.S.a8.set (A7 h) ⟨(ce s (A7 h)).State,(ce s (A7 h)).Gen,(ce s (A7 h)).Val⟩=s.S.a8:=by
  rw[show (⟨(ce s (A7 h)).State,(ce s (A7 h)).Gen,(ce s (A7 h)).Val⟩:b7)=ce s (A7 h) from rfl,C4 q.1];exact List.set_getElem_self q.1
 rw[e]
section
variable{x:Hp}(hR:SR x.S)
include hR
theorem c3a{h:Int}(hh:h≤9223372036854775807):a33 x h=some (decide (h∈lv x.S)):=by
 unfold a33;obtain⟨e,h1,h2⟩:=O3 (p8.2 hR) hh;rw[h1,d1G];congr 1;rw[Bool.eq_iff_iff,beq_iff_eq,decide_eq_true_iff,h2]
theorem b11{h:Int}(hh:h≤9223372036854775807):a3g (hO x) h=some (decide (h∈lv x.S)):=by
 unfold a3g;obtain⟨e,h1,h2⟩:=O3 (p8.2 hR) hh;rw[show (hO x).S=sO x.S from rfl,a4G x.S (by have:=hR.len;omega) hh,h1,Option.map_some,d1G];congr 1;rw[Bool.eq_iff_iff,beq_iff_eq,decide_eq_true_iff,h2]
theorem a1T{h:Int}(hh:h≤9223372036854775807):H8 x h=some (decide (h=0∨h∈lv x.S)):=by
 unfold H8;by_cases q:h=0
 ·subst q;simp[y8]
 ·have e:(h==0)=false:=by simpa using q
  rw[e];simp only[beq_self_eq_true,a2S,Bool.false_or];rw[c3a hR hh,d1G];simp[q]
theorem a9T{h:Int}(hh:h≤9223372036854775807):a3h (hO x) h=some (decide (h=0∨h∈lv x.S)):=by
 unfold a3h;by_cases q:h=0
 ·subst q;simp[y8]
 ·have e:(h==0)=false:=by simpa using q
  rw[e];simp only[beq_self_eq_true,a2S,Bool.false_or];rw[b11 hR hh,d1G];simp[q]
theorem c8g{c:Int}(hc:c≤9223372036854775807):a7z c=some (Q2 c):=by
 unfold a7z a3o D0 Q2;simp only[d1G];by_cases q:12≤c
 ·rw[if_pos (by simpa using q),if_pos q,d1G]
 ·rw[if_neg (by simpa using q),if_neg q,d1G];by_cases q2:c<0
  ·rw[if_pos (show 0 > c from q2),if_pos q2];rfl
  ·rw[if_neg (show ¬0 > c from q2),if_neg q2,B8 (by omega) (by omega)]
theorem b7b{c:Int}(hc:c≤9223372036854775807):b19 c=some (Q2 c):=by
 unfold b19 a1V Q2;simp only[d1G];by_cases q:12≤c
 ·rw[if_pos (by simpa using q),if_pos q]
 ·rw[if_neg (by simpa using q),if_neg q];by_cases q2:c<0
  ·rw[if_pos (by simpa using q2),if_pos q2]
  ·rw[if_neg (by simpa using q2),if_neg q2,B8 (by omega) (by omega)]
omit hR in
theorem c3X {s:a7} (hR:SR s) {h:Int} (hh:h∈lv s) {n:Int} (hn:0≤n):H3 s h (stg (ob s h) n)=some (seO s h (stg (ob s h) n),0):=by
 have:=H0 hR hh;exact b0e (o:=stg (ob s h) n) hR hh rfl ⟨this.s1,this.s2,hn,this.wk,this.p1,this.p2,this.fl⟩
omit hR in
theorem b0f {s:a7} (hR:SR s) {h:Int} (hh:h∈lv s) {o:l4} (hs:o.Serial=(ob s h).Serial) (ho:OkO s o):K9 (sO s) h (oo o)=some (sO (seO s h o),0):=by
 have:=G4 hR hh;rw[c4l s hR.len (by omega) o,b0e hR hh hs ho];rfl
theorem a4V{h:Int}(hh:h≤9223372036854775807)(hB:∀k∈lv x.S,(ob x.S k).Strong≤9223372036854775807):X0 x h=some (A1 x h):=by
 unfold X0 Q0 A1 stO;obtain⟨e,h1,h2⟩:=O3 (p8.2 hR) hh;rw[h1,d1G];by_cases q:h∈lv x.S
 ·have e0:=h2.2 q;subst e0;rw[if_pos q,c8g hR (hB h q)];simp only[beq_self_eq_true,if_true,d1G];have:=c3X hR q (B1 (H0 hR q).st);rw[this];rfl
 ·have:(e==0)=false:=by simpa using λc=>q (h2.1 c)
  rw[this,if_neg q];rfl
theorem a7f{h:Int}(hh:h≤9223372036854775807)(hB:∀k∈lv x.S,(ob x.S k).Strong≤9223372036854775807):a0M (hO x) h=some (hO (A1 x h)):=by
 unfold a0M a5Q A1 stO;obtain⟨e,h1,h2⟩:=O3 (p8.2 hR) hh;have hg:D6 (hO x).S h=some (oo (ob x.S h),e):=by
  rw[show (hO x).S=sO x.S from rfl,a4G x.S (by have:=hR.len;omega) hh,h1];rfl
 rw[hg,d1G];by_cases q:h∈lv x.S
 ·have e0:=h2.2 q;subst e0;have hs:b19 (oo (ob x.S h),(0:Int)).1.Strong=some (Q2 (ob x.S h).Strong):=b7b hR (hB h q);rw[if_pos q,hs,d1G];simp only[d1G,bne_self_eq_false,Bool.false_eq_true,if_false];have ok:=H0 hR q;have:=b0f (o:=stg (ob x.S h) (Q2 (ob x.S h).Strong)) hR q rfl ⟨ok.s1,ok.s2,B1 ok.st,ok.wk,ok.p1,ok.p2,ok.fl⟩;rw[show K9 (hO x).S h ⟨(oo (ob x.S h)).Serial,Q2 (ob x.S h).Strong,(oo (ob x.S h)).Weak,(oo (ob x.S h)).Prog,(oo (ob x.S h)).Started,(oo (ob x.S h)).Fields⟩=_ from this];rfl
 ·have he:(e != 0)=true:=by simpa using λc=>q (h2.1 c)
  have hb:(oo (ob x.S h)).Strong≤9223372036854775807:=by
   rw[a8B (p8.2 hR) hh q];decide
  rw[b7b hR hb,d1G,d1G];simp only[he,if_true];rw[if_neg q];rfl
omit hR in
theorem c7Q (c:Int) (h1 : -1000000≤c):a1d c=some (a4D c):=by
 unfold a1d b0z a1M D0 a4D;simp only[d1G];by_cases q:12≤c
 ·rw[if_pos (by simpa using q),if_pos q];rfl
 ·rw[if_neg (by simpa using q),if_neg q];by_cases q2:c<1
  ·rw[if_pos (by simpa using q2),if_pos q2];rfl
  ·rw[if_neg (by simpa using q2),if_neg q2,B8 (by omega) (by omega)];rfl
theorem a1Y{h:Int}(hh:h≤9223372036854775807):A2 x h=some (M6 x h):=by
 unfold A2 J6 M6 stO;obtain⟨e,h1,h2⟩:=O3 (p8.2 hR) hh;rw[h1,d1G];by_cases q:h∈lv x.S
 ·have e0:=h2.2 q;subst e0;have ok:=H0 hR q;rw[if_pos q,c7Q _ (by have:=ok.st;dsimp only;omega)];simp only[beq_self_eq_true,if_true,d1G];have:=c3X hR q (K5 ok.st);rw[this];rfl
 ·have:(e==0)=false:=by simpa using λc=>q (h2.1 c)
  rw[this,if_neg q];rfl
theorem a3i{h:Int}(hh:h≤9223372036854775807):C8 (hO x) h=some (hO (M6 x h)):=by
 unfold C8 a5Q M6 stO;obtain⟨e,h1,h2⟩:=O3 (p8.2 hR) hh;have hg:D6 (hO x).S h=some (oo (ob x.S h),e):=by
  rw[show (hO x).S=sO x.S from rfl,a4G x.S (by have:=hR.len;omega) hh,h1];rfl
 rw[hg,d1G];by_cases q:h∈lv x.S
 ·have e0:=h2.2 q;subst e0;have ok:=H0 hR q;have put:∀n,0≤n→K9 (hO x).S h ⟨(oo (ob x.S h)).Serial,n,(oo (ob x.S h)).Weak,(oo (ob x.S h)).Prog,(oo (ob x.S h)).Started,(oo (ob x.S h)).Fields⟩=some (sO (seO x.S h (stg (ob x.S h) n)),0):=λn hn=>
   b0f (o:=stg (ob x.S h) n) hR q rfl ⟨ok.s1,ok.s2,hn,ok.wk,ok.p1,ok.p2,ok.fl⟩
  have hs:(oo (ob x.S h)).Strong=(ob x.S h).Strong:=rfl;rw[if_pos q];unfold b5Z a1V a4D;simp only[d1G,hs];by_cases q1:12≤(ob x.S h).Strong
  ·rw[if_pos (by simpa using q1),if_pos q1];simp only[d1G,bne_self_eq_false,Bool.false_eq_true,if_false];rw[put 12 (by decide)];rfl
  ·rw[if_neg (by simpa using q1),if_neg q1];by_cases q2:(ob x.S h).Strong<1
   ·rw[if_pos (by simpa using q2),if_pos q2];simp only[d1G,show ((11:Int) != 0)=true from rfl,if_true];rw[show stg (ob x.S h) (ob x.S h).Strong=ob x.S h from rfl,c4j hR q]
   ·rw[if_neg (by simpa using q2),if_neg q2,B8 (by omega) (by have:=ok.st;omega)];simp only[d1G,bne_self_eq_false,Bool.false_eq_true,if_false];rw[put _ (by omega)];rfl
 ·have he:(e != 0)=true:=by simpa using λc=>q (h2.1 c)
  rw[if_neg q,a8B (p8.2 hR) hh q];unfold b5Z a1V;simp only[d1G];rfl
end
theorem c1H{x:Hp}(hR:SR x.S)(hB:SB x.S):∀k∈lv x.S,(ob x.S k).Strong≤9223372036854775807:=λk hk=>(b1e (p8.2 hR) hB hk).2
end Go.Sh
