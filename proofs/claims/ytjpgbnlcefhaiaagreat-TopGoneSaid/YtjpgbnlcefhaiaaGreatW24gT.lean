/-
 Several texts of one kind, one behind the other.
-/
import Derived.Test.YtjpgbnlcefhaiaaGreatW24gSh
import Derived.Test.YtjpgbnlcefhaiaaGreatW24gSh1
import Derived.Test.YtjpgbnlcefhaiaaGreatW24gSh
import Derived.Test.YtjpgbnlcefhaiaaGreatW24gSh
import Derived.Test.YtjpgbnlcefhaiaaGreatW24gSh
set_option linter.unusedVariables false
set_option linter.unusedSimpArgs false
set_option linter.unusedSectionVars false
namespace Go.Sh
def Hnd(h:Int):Prop:=1≤h∧(h-1) % 32<24∧(h-1) / 32≤9
instance(h:Int):Decidable (Hnd h):=by unfold Hnd;infer_instance
theorem b3d{h:Int}(q:Hnd h):1≤h∧h≤320:=by unfold Hnd at q;omega
theorem a6Z{i g:Int}(h1:0≤i)(h2:i<24)(h3:0≤g)(h4:g≤9):a01 i g=some (1+i+32*g):=by
 unfold a01;rw[if_neg (by simp;omega)];rw[show r8 (i*1)=i by rw[a3f];omega,show r8 (1+i)=1+i by rw[a3f];omega,show r8 (g*32)=32*g by rw[a3f];omega,show r8 (1+i+32*g)=1+i+32*g by rw[a3f];omega]
theorem a7b{i g:Int}:a43 i g=some (if 0≤i∧i<24∧0≤g∧g≤9 then 1+i+32*g else 0):=by
 unfold a43;split;·rename_i h;rw[if_neg (by simp at h;omega)]
 ·rename_i h;have h:0≤i∧i<24∧0≤g∧g≤9:=by simp at h;omega
  rw[if_pos h];rw[show r8 (1+i)=1+i by rw[a3f];omega,show r8 (32*g)=32*g by rw[a3f];omega,show r8 (1+i+32*g)=1+i+32*g by rw[a3f];omega]
theorem a6p{h:Int}(hh:h≤9223372036854775807):a1m h=some (if Hnd h then ((h-1) % 32,(h-1) / 32,true) else (-1,-1,false)):=by
 unfold a1m;split
 ·rename_i q;rw[if_neg (by unfold Hnd;simp at q;omega)]
 ·rename_i q;have q:1≤h:=by simpa using q
  rw[B0 (n:=h-1),a79 (by omega) (by omega),d2P,b2p (by omega) (by omega) (by omega),d2P,b2p (by omega) (by omega) (by omega),d2P,Int.ediv_one];split
  ·rename_i q2;rw[if_neg (by unfold Hnd;simp at q2;omega)]
  ·rename_i q2;rw[if_pos (by unfold Hnd;simp at q2;omega)]
theorem a3E{h:Int}(hh:h≤9223372036854775807):a2x h=some (if Hnd h then (h-1) % 32 else -1):=by
 unfold a2x;rw[a6p hh,d2P];split <;> rfl
theorem a4E{h:Int}(hh:h≤9223372036854775807):a3D h=some (if Hnd h then (h-1) / 32 else -1):=by
 unfold a3D;rw[a6p hh,d2P];split <;> rfl
theorem b0d{h:Int}:a7V h=some (decide (Hnd h)):=by
 unfold a7V;split
 ·rename_i q;rw[decide_eq_false (by unfold Hnd;simp at q;omega)]
 ·rename_i q;have q:1≤h∧h≤400:=by simp at q;omega
  rw[B0 (n:=h-1),a79 (by omega) (by omega),d2P,b2p (by omega) (by omega) (by omega),d2P,a7b,d2P];congr 1;by_cases k:Hnd h
  ·rw[decide_eq_true k,if_pos (by unfold Hnd at k;omega)];simp;omega
  ·rw[decide_eq_false k,if_neg (by unfold Hnd at k;omega)];simp;omega
theorem a7d{h:Int}:a7c h=some (if Hnd h then (h-1) % 32 else -1):=by
 unfold a7c;rw[b0d,d2P];by_cases k:Hnd h
 ·have:=b3d k;rw[decide_eq_true k,if_neg (by simp),if_pos k,B0 (n:=h-1),a79 (by omega) (by omega),d2P]
 ·rw[decide_eq_false k,if_pos (by simp),if_neg k]
theorem b9C{h:Int}:b6p h=some (if Hnd h then (h-1) / 32 else -1):=by
 unfold b6p;rw[b0d,d2P];by_cases k:Hnd h
 ·have:=b3d k;rw[decide_eq_true k,if_neg (by simp),if_pos k,B0 (n:=h-1),b2p (by omega) (by omega) (by omega),d2P]
 ·rw[decide_eq_false k,if_pos (by simp),if_neg k]
end Go.Sh
namespace Go.Sh
theorem b94(a b:List Int)(ha:a.length<4611686018427387904):b3z a b=some (decide (a=b)):=by
 unfold b3z;by_cases hl:a.length=b.length
 ·rw[if_neg (by simp[hl])];simp only[jn];refine a14 a.length (λk=>∀j (h1:j<a.length) (h2:j<b.length),j<k→a[j]=b[j]) ha (λ_ _ _ h=>by omega) (λk hk hP=>?_) (λhP=>?_)
  ·have hk2:k<b.length:=by omega
   simp only[Int.ofNat_lt,hk,decide_true,if_true,n8 hk,n8 hk2,d2P];by_cases e:a[k]=b[k]
   ·refine .inl ⟨?_,λj h1 h2 hj=>?_⟩;·rw[if_neg (by simpa using e),k8]
    ·rcases Nat.lt_or_ge j k with q | q
     ·exact hP j h1 h2 q
     ·have:j=k:=by omega
      subst this;exact e
   ·refine .inr ⟨.inl false,by rw[if_pos (by simpa using e)],?_⟩;simp only;rw[decide_eq_false (λq=>e (by subst q;rfl))]
  ·refine⟨.inr (),by simp,?_⟩;simp only;rw[decide_eq_true (List.ext_getElem hl λi h1 h2=>hP i h1 h2 h1)]
 ·rw[if_pos (by rw[bne_iff_ne];omega)];rw[decide_eq_false (λq=>hl (by rw[q]))]
end Go.Sh
namespace Go.Sh
abbrev z0:l4:=⟨0,0,0,0,false,[]⟩
structure SlO (s:c4):Prop where
 len:s.a8.length≤24
 l0:0≤s.Last
 l9:s.Last≤9
 cell:∀i (h:i<s.a8.length),0≤s.a8[i].State∧s.a8[i].State≤3∧0≤s.a8[i].Gen∧s.a8[i].Gen≤s.Last
theorem a5m{s:c4}{i:Int}{k:Nat}{c:b7}(hi:i=k)(hk:k<s.a8.length)(hl:s.a8.length≤24):A8 s i c=some ⟨s.a8.set k c,s.Last⟩:=by
 subst hi;unfold A8 r9;rw[J8 (by omega) (by omega),d2P,n8 hk,d2P,Int.toNat_natCast]
theorem b6U{s:c4}(hR:SlO s)(v:l4) :
  (∃i,∃h:i<s.a8.length,s.a8[i].State=0∧(∀j (hj:j<i),s.a8[j].State≠0)∧G2 s v=some (⟨s.a8.set i ⟨1,s.a8[i].Gen,v⟩,s.Last⟩,1+i+32*s.a8[i].Gen,0)) ∨
  ((∀i (h:i<s.a8.length),s.a8[i].State≠0)∧G2 s v=some (s,0,4)):=by
 have hlen:=hR.len;by_cases q:∃i,∃h:i<s.a8.length,s.a8[i].State=0
 ·obtain⟨i,⟨hi,h0⟩,hmin⟩:=a0J (p:=λi=>∃h:i<s.a8.length,s.a8[i].State=0) q;left;refine⟨i,hi,h0,λj hj=>λe=>by have:=hmin j ⟨by omega,e⟩;omega,?_⟩;unfold G2;simp only[jn,K6,d2P];have hc:=hR.cell i hi;refine a14 s.a8.length (λk=>k≤i) (by omega) (by omega) (λk hk hP=>?_) (λhP=>by omega);rcases Nat.lt_or_ge k i with g | g
  ·refine .inl ⟨?_,g⟩;have:s.a8[k].State≠0:=λe=>by have:=hmin k ⟨hk,e⟩;omega
   simp only[Int.ofNat_lt,hk,decide_true,if_true,n8 hk,d2P];rw[if_neg (by simpa using this),k8]
  ·have:k=i:=by omega
   subst this;refine .inr ⟨.inl _,?_,rfl⟩;simp only[Int.ofNat_lt,hk,decide_true,if_true,n8 hk,d2P,h0,a5m rfl hk hlen];rw[a6Z (by omega) (by omega) hc.2.2.1 (by have:=hR.l9;omega)];simp
 ·right;refine⟨λi h e=>q ⟨i,h,e⟩,?_⟩;unfold G2;simp only[jn,K6,d2P];refine a14 s.a8.length (λk=>True) (by omega) trivial (λk hk _=>?_) (λhP=>⟨.inr (),by simp,rfl⟩);refine .inl ⟨?_,trivial⟩;have:s.a8[k].State≠0:=λe=>q ⟨k,hk,e⟩;simp only[Int.ofNat_lt,hk,decide_true,if_true,n8 hk,d2P];rw[if_neg (by simpa using this),k8]
def b0G(s:c4)(h:Int)(i:Nat):Prop:=∃hi:i<s.a8.length,Hnd h∧(h-1) % 32=i∧s.a8[i].Gen=(h-1) / 32∧(s.a8[i].State=1∨s.a8[i].State=2)
theorem a1k(s:c4){h:Int}(hh:h≤9223372036854775807) :
  (∃i,b0G s h i∧p7 s h=some ((i:Int),0))∨((∀i,¬b0G s h i)∧p7 s h=some (-1,if h=0 then 2 else 3)):=by
 unfold p7;by_cases h0:h=0
 ·right;subst h0;exact⟨λi ⟨_,h1,_⟩=>by unfold Hnd at h1;omega,by simp⟩
 ·rw[if_neg (by simpa using h0),a3E hh,d2P,if_neg h0];by_cases hd:Hnd h
  ·rw[if_pos hd];have hd':=hd;unfold Hnd at hd';obtain⟨k,hk⟩:∃k:Nat,(h-1) % 32=k:=⟨((h-1) % 32).toNat,by omega⟩;rw[hk];by_cases hl:k<s.a8.length
   ·rw[if_neg (by simp;omega),n8 hl,d2P,a4E hh,d2P,if_pos hd];by_cases g:s.a8[k].Gen=(h-1) / 32∧(s.a8[k].State=1∨s.a8[k].State=2)
    ·left;refine⟨k,⟨hl,hd,hk,g⟩,?_⟩;rw[if_neg];simp;omega
    ·right;refine⟨λi ⟨hi,_,h2,h3⟩=>?_,?_⟩
     ·have:i=k:=by omega
      subst this;exact g h3
     ·rw[if_pos];simp;omega
   ·right;refine⟨λi ⟨hi,_,h2,h3⟩=>by omega,?_⟩;rw[if_pos (by simp;omega)]
  ·right;refine⟨λi ⟨hi,h1,_⟩=>hd h1,?_⟩;rw[if_neg hd,if_pos (by simp)]
theorem a7M{s:c4}{h:Int}{i:Nat}(hf:b0G s h i):p7 s h=some ((i:Int),0):=by
 have hh:=b3d hf.2.1;rcases a1k s (h:=h) (by omega) with ⟨j,h1,h2⟩ | ⟨h1,_⟩
 ·obtain⟨_,_,e1,_⟩:=hf;obtain⟨_,_,e2,_⟩:=h1;have:i=j:=by omega
  subst this;exact h2
 ·exact absurd hf (h1 i)
theorem b0V{s:c4}{h:Int}(hh:h≤9223372036854775807)(hf:∀i,¬b0G s h i):p7 s h=some (-1,if h=0 then 2 else 3):=by
 rcases a1k s hh with ⟨j,h1,_⟩ | ⟨_,h2⟩;·exact absurd h1 (hf j)
 ·exact h2
theorem a2v(h:Int):(if h=0 then 2 else 3:Int)≠0:=by split <;> omega
theorem b7y{s:c4}{h:Int}{i:Nat}(hf:b0G s h i):∃hi:i<s.a8.length,B5 s h=some (if s.a8[i].State=2 then (z0,3) else (s.a8[i].Val,0)):=by
 refine⟨hf.1,?_⟩;unfold B5;rw[a7M hf,d2P,if_neg (by simp),n8 hf.1,d2P];split <;> rename_i q
 ·rw[if_pos (by simpa using q)]
 ·rw[if_neg (by simpa using q)]
theorem c3p{s:c4}{h:Int}(hh:h≤9223372036854775807)(hf:∀i,¬b0G s h i):B5 s h=some (z0,if h=0 then 2 else 3):=by
 unfold B5;rw[b0V hh hf,d2P,if_pos (by simpa using a2v h)]
theorem b8l{s:c4}{h:Int}{v:l4}{i:Nat}(hl:s.a8.length≤24)(hf:b0G s h i):∃hi:i<s.a8.length,H4 s h v=some (⟨s.a8.set i ⟨s.a8[i].State,s.a8[i].Gen,v⟩,s.Last⟩,0):=by
 refine⟨hf.1,?_⟩;unfold H4;rw[a7M hf,d2P,if_neg (by simp),n8 hf.1,d2P,a5m rfl hf.1 hl,d2P]
theorem c4P{s:c4}{h:Int}{v:l4}(hh:h≤9223372036854775807)(hf:∀i,¬b0G s h i):H4 s h v=some (s,if h=0 then 2 else 3):=by
 unfold H4;rw[b0V hh hf,d2P,if_pos (by simpa using a2v h)]
end Go.Sh
namespace Go.Sh
def oo(o:l4):L3:=⟨o.Serial,o.Strong,o.Weak,o.Prog,o.Started,o.Fields⟩
def cO(c:b7):F8:=⟨c.State,c.Gen,oo c.Val⟩
def sO(s:a7):o0:=⟨s.S.a8.map cO,s.S.Last,s.Serial⟩
def Sm(s:a7):Prop:=s.S.a8.length≤30∧∀i (h:i<s.S.a8.length),s.S.a8[i].Val.Fields.length≤10
instance(s:a7):Decidable (Sm s):=by unfold Sm;infer_instance
def plc(i:Nat)(c:F8):K4:=⟨c.State,c.Gen,(i:Int)⟩
def pl(t:o0):E4:=⟨t.a8.mapIdx plc,t.Last⟩
theorem a4o(t:o0)(h:t.a8.length≤1000):R2 t=some (pl t):=by
 unfold R2;simp only[jn];refine L1 t.a8.length (λk acc=>acc=(t.a8.mapIdx plc).take k) (by omega) (by simp) (λk acc hk hP=>?_) (λacc hP=>?_)
 ·subst hP;refine .inl ⟨_,?_,rfl⟩;simp only[Int.ofNat_lt,hk,decide_true,if_true,n8 hk,d2P];rw[x4 (by omega) (by simp;omega),d2P,k8];have e:(t.a8.mapIdx plc).take (k+1)=(t.a8.mapIdx plc).take k ++ [plc k t.a8[k]]:=by
   rw[List.take_add_one,List.getElem?_eq_getElem (by simpa using hk)];simp
  rw[e];rfl
 ·subst hP;rw[List.take_of_length_le (by simp)];exact⟨t.a8.mapIdx plc,by simp only[Int.lt_irrefl,decide_false,Bool.false_eq_true,if_false],rfl⟩
def Thr(c:F8):Prop:=c.State=1∨c.State=2
instance(c:F8):Decidable (Thr c):=by unfold Thr;infer_instance
def d0z(t:o0)(o:L3):Prop:=1≤o.Serial∧o.Serial≤t.Serial∧0≤o.Strong∧0≤o.Weak ∧ -1≤o.Prog∧o.Prog≤5∧o.Fields.length≤4
def c1r(o:L3):Prop:=o.Serial=0∧o.Strong=0∧o.Weak=0∧o.Prog=0∧o.Started=false∧o.Fields.length=0
structure RtR (t:o0):Prop where
 len:t.a8.length≤24
 l0:0≤t.Last
 l9:t.Last≤9
 T3:0≤t.Serial
 cell:∀i (h:i<t.a8.length),0≤t.a8[i].State∧t.a8[i].State≤3∧0≤t.a8[i].Gen∧t.a8[i].Gen≤t.Last
 no:∀i (h:i<t.a8.length),¬Thr t.a8[i]→c1r t.a8[i].Val
 ok:∀i (h:i<t.a8.length),Thr t.a8[i]→d0z t t.a8[i].Val
 dif:∀i (h:i<t.a8.length) k (hk:k<i),Thr t.a8[i]→Thr t.a8[k]→t.a8[k].Val.Serial≠t.a8[i].Val.Serial
end Go.Sh
namespace Go.Sh
theorem b8o{c:Int→Int→Option Int}{xs:List Int}(key:Int→Int)(hc:∀x y,∃r,c x y=some r∧(r<0↔key x<key y))(hl:xs.length<4611686018427387904) :
  ∃ys,b1s c xs=some ys∧ys.Perm xs∧ys.Pairwise (λa b=>key a≤key b):=by
 have hlt:∀x y,Go.Proofs.ltOf (λx y=>(c x y).getD 0) x y=decide (key x<key y):=λx y=>by
  obtain⟨r,h1,h2⟩:=hc x y;show decide ((c x y).getD 0<0)=_;rw[h1,Option.getD_some];exact decide_eq_decide.2 h2
 have hO:Go.Sort.SWO (Go.Proofs.ltOf λx y=>(c x y).getD 0):=by
  refine⟨λx=>?_,λx y z=>?_,λx y z=>?_⟩;·rw[hlt];simp
  ·rw[hlt,hlt,hlt];simp;omega
  ·rw[hlt,hlt,hlt];simp;omega
 have hcond:(∀x y,(c x y).isSome=true)∧Go.Sort.SWO (Go.Proofs.ltOf λx y=>(c x y).getD 0)∧xs.length<4611686018427387904:=⟨λx y=>by
  obtain⟨r,h1,_⟩:=hc x y;rw[h1];rfl,hO,hl⟩
 unfold b1s;rw[if_pos hcond];refine⟨_,rfl,?_⟩;obtain⟨⟨p1,p2,p3⟩,p4⟩:=Go.Sort.pdq_sorts (Go.Proofs.ltOf λx y=>(c x y).getD 0) hO xs.toArray 0 xs.length (Go.Lib.bitLen xs.length) true true (Nat.zero_le _) (by simp) (Or.inl rfl);generalize Go.Sort.pdq (Go.Proofs.ltOf λx y=>(c x y).getD 0) xs.toArray 0 xs.length (Go.Lib.bitLen xs.length) true true=d at p1 p2 p3 p4 ⊢;have hs:d.size=xs.length:=by simpa using p1
 refine⟨?_,?_⟩
 ·have e1:d.extract 0 xs.length=d:=by rw[←hs];exact Array.extract_size
  have e2:xs.toArray.extract 0 xs.length=xs.toArray:=by
   simp
  rw[e1,e2] at p3;simpa using p3
 ·rw[List.pairwise_iff_getElem];intro i j hi hj hij;have hi':i<d.size:=by simpa using hi
  have hj':j<d.size:=by simpa using hj
  have:=p4 i j (Nat.zero_le _) hij (by omega);rw[hlt,getElem!_pos d j hj',getElem!_pos d i hi'] at this;have:=of_decide_eq_false this;simp only[Array.getElem_toList];omega
def V7:Nat→List b7→List Int
 | _,[]=>[]
 | k,c::r=>(if c.State=1 then [1+(k:Int)+32*c.Gen] else [])++V7 (k+1) r
theorem a7Q(c:b7):∀(k:Nat) (xs:List b7),V7 k (xs ++ [c])=V7 k xs++(if c.State=1 then [1+((k+xs.length:Nat):Int)+32*c.Gen] else [])
 | k,[]=>by simp[V7]
 | k,x::r=>by
  simp only[List.cons_append,V7,a7Q c (k+1) r,List.append_assoc,List.length_cons];rw[show k+1+r.length=k+(r.length+1) by omega]
theorem a4V:∀(k:Nat) (xs:List b7),(V7 k xs).length≤xs.length
 | _,[]=>by simp[V7]
 | k,c::r=>by
  have:=a4V (k+1) r;simp only[V7,List.length_append,List.length_cons];split <;> simp <;> omega
theorem a63{h:Int}:∀ {k:Nat} {xs:List b7},h∈V7 k xs↔∃i,∃hi:i<xs.length,xs[i].State=1∧h=1+((k+i:Nat):Int)+32*xs[i].Gen
 | k,[]=>by simp[V7]
 | k,c::r=>by
  simp only[V7,List.mem_append,a63 (k:=k+1) (xs:=r)];constructor
  ·rintro (q | ⟨i,hi,q1,q2⟩)
   ·by_cases hc:c.State=1
    ·rw[if_pos hc] at q;exact⟨0,by simp,by simpa using hc,by simpa using q⟩
    ·rw[if_neg hc] at q;cases q
   ·exact⟨i+1,by simpa using hi,by simpa using q1,by simp only[List.getElem_cons_succ];rw[q2,show k+1+i=k+(i+1) by omega]⟩
  ·rintro⟨i,hi,q1,q2⟩;cases i with
   | zero=>
    left;simp only[List.getElem_cons_zero] at q1 q2;rw[if_pos q1];simp[q2]
   | succ i=>
    right;simp only[List.getElem_cons_succ] at q1 q2;exact⟨i,by simpa using hi,q1,by rw[q2,show k+1+i=k+(i+1) by omega]⟩
def sk(cs:List b7)(h:Int):Int:=match cs[((h-1) % 32).toNat]? with
 | some c=>c.Val.Serial
 | none=>0
theorem b8n{cs:List b7}{i:Nat}{g:Int}(h:i<cs.length)(h32:cs.length≤32):sk cs (1+(i:Int)+32*g)=cs[i].Val.Serial:=by
 unfold sk;have:((1+(i:Int)+32*g-1) % 32).toNat=i:=by omega
 rw[this,List.getElem?_eq_getElem h]
structure Slb (cs:List b7):Prop where
 len:cs.length≤24
 gen:∀i (h:i<cs.length),0≤cs[i].Gen∧cs[i].Gen≤9
theorem b40{s:a7}(hR:Slb s.S.a8):∃l,B8 s=some l∧l.Perm (V7 0 s.S.a8)∧l.Pairwise (λa b=>sk s.S.a8 a≤sk s.S.a8 b):=by
 have hlen:=hR.len;unfold B8;simp only[jn];have hh:=a4V 0 s.S.a8;have hloop:∃e:List (Int × Int) × List Int,lp (S:=Int × (List (Int × Int)) × (List Int)) (E:=((List (Int × Int)) × (List Int))) (λ((s23,s24,s25):Int × (List (Int × Int)) × (List Int))=>
   if (decide (s23<(s.S.a8.length:Int))) then
    ((ix s.S.a8 s23).bind λv35=>
     if (v35.State==1) then
      (a01 s23 v35.Gen).bind λv36=>
      (app 8 s25 [v36]).bind λv37=>
      some (.inl (r8 (s23+1),(n9 s24 v36 v35.Val.Serial),v37))
     else
     some (.inl (r8 (s23+1),s24,s25)))
   else
   some (.inr (s24,s25))) (0,[],[])=some e∧e.2=V7 0 s.S.a8∧∀h∈e.2,y8 e.1 h=some (sk s.S.a8 h):=by
  refine a13 (T:=List (Int × Int) × List Int) s.S.a8.length (λk e=>e.2=V7 0 (s.S.a8.take k)∧∀h∈e.2,y8 e.1 h=some (sk s.S.a8 h)) (λe:List (Int × Int) × List Int=>e.2=V7 0 s.S.a8∧∀h∈e.2,y8 e.1 h=some (sk s.S.a8 h)) (by omega) ⟨by simp[V7],by simp⟩ (λk e hk hP=>?_) (λe hP=>?_)
  ·obtain⟨h1,h2⟩:=hP;obtain⟨m,l⟩:=e;simp only at h1 h2;left;have hc:=hR.gen k hk;have hl:l.length≤24:=by rw[h1];have:=a4V 0 (s.S.a8.take k);simp at this;omega
   have et:s.S.a8.take (k+1)=s.S.a8.take k ++ [s.S.a8[k]]:=by rw[List.take_add_one,List.getElem?_eq_getElem hk];rfl
   have el:(s.S.a8.take k).length=k:=by simp;omega
   by_cases q:s.S.a8[k].State=1
   ·refine⟨(n9 m (1+(k:Int)+32*s.S.a8[k].Gen) s.S.a8[k].Val.Serial,l ++ [1+(k:Int)+32*s.S.a8[k].Gen]),?_,?_,?_⟩
    ·simp only[Int.ofNat_lt,hk,decide_true,if_true,n8 hk,d2P,q,beq_self_eq_true];rw[a6Z (by omega) (by omega) hc.1 hc.2,d2P,x4 (by omega) (by simp;omega),d2P,k8]
    ·simp only;rw[et,a7Q,if_pos q,el,h1,Nat.zero_add]
    ·intro h hh;simp only[List.mem_append,List.mem_singleton] at hh ⊢;rw[a7R];rcases hh with hh | rfl
     ·split;·rename_i e;rw[e,b8n hk (by omega)]
      ·exact h2 h hh
     ·rw[if_pos rfl,b8n hk (by omega)]
   ·refine⟨(m,l),?_,?_,h2⟩
    ·simp only[Int.ofNat_lt,hk,decide_true,if_true,n8 hk,d2P];rw[if_neg (by simpa using q),k8]
    ·simp only;rw[et,a7Q,if_neg q,h1,List.append_nil]
  ·obtain⟨h1,h2⟩:=hP;obtain⟨m,l⟩:=e;refine⟨(m,l),by simp only[Int.lt_irrefl,decide_false,Bool.false_eq_true,if_false],?_,h2⟩;simpa using h1
 obtain⟨⟨m,l⟩,e1,e2,e3⟩:=hloop;rw[show lp _ _=_ from e1,d2P];simp only at e2 e3 ⊢;subst e2;obtain⟨ys,q1,q2,q3⟩:=b8o (c:=λp q=>a3e p q m) (xs:=V7 0 s.S.a8) (λh=>(y8 m h).getD 0) (λx y=>by
  unfold a3e a2M a0t;simp only[d2P,bne_self_eq_false,Bool.false_eq_true,if_false];generalize (y8 m x).getD 0=a;generalize (y8 m y).getD 0=b;by_cases h1:a<b
  ·rw[decide_eq_true h1];exact⟨-1,rfl,by simp[h1]⟩
  ·rw[decide_eq_false h1];by_cases h2:a > b
   ·rw[decide_eq_true h2];exact⟨1,rfl,by simp[h1]⟩
   ·rw[decide_eq_false h2];exact⟨0,rfl,by simp[h1]⟩) (by omega)
 refine⟨ys,by rw[q1];rfl,q2,q3.imp_of_mem λ{a b} ha hb hab=>?_⟩;rw[e3 a (q2.mem_iff.1 ha),e3 b (q2.mem_iff.1 hb)] at hab;simpa using hab
theorem a6d{key:Int→Int}:∀ {l m:List Int},l.Perm m→l.Pairwise (λa b=>key a≤key b)→m.Pairwise (λa b=>key a≤key b)→(∀a∈l,∀b∈l,key a=key b→a=b)→l=m
 | [],m,hp,_,_,_=>(List.nil_perm.1 hp).symm
 | a::l,[],hp,_,_,_=>by simp at hp
 | a::l,b::m,hp,h1,h2,hk=>by
  have ha:=List.pairwise_cons.1 h1;have hb:=List.pairwise_cons.1 h2;have e:a=b:=by
   have m1:b∈a::l:=hp.mem_iff.2 (List.mem_cons_self ..);have m2:a∈b::m:=hp.mem_iff.1 (List.mem_cons_self ..);rcases List.mem_cons.1 m1 with q | q
   ·exact q.symm
   ·rcases List.mem_cons.1 m2 with q' | q'
    ·exact q'
    ·exact hk a (List.mem_cons_self ..) b m1 (Int.le_antisymm (ha.1 b q) (hb.1 a q'))
  subst e;rw[a6d (List.perm_cons a |>.1 hp) ha.2 hb.2 λx hx y hy=>hk x (List.mem_cons_of_mem _ hx) y (List.mem_cons_of_mem _ hy)]
end Go.Sh
namespace Go.Sh
theorem A2(s:a7):(sO s).a8.length=s.S.a8.length:=by simp[sO]
theorem c1e(s:a7)(i:Int):ix (sO s).a8 i=(ix s.S.a8 i).map cO:=a0F cO s.S.a8 i
theorem a0R(t:o0):(pl t).a8.length=t.a8.length:=by simp[pl]
theorem b7Z{t:o0}{k:Nat}(h:k<t.a8.length):ix (pl t).a8 k=some (plc k t.a8[k]):=by
 rw[n8 (by simpa[pl] using h)];simp[pl]
theorem b0U(s:a7){h:Int}(hh:h≤9223372036854775807):N9 (pl (sO s)) h=p7 s.S h:=by
 unfold N9 p7;rw[a7d,a3E hh,b9C,a4E hh];simp only[d2P,a0R,A2];generalize (if Hnd h then (h-1) % 32 else -1:Int)=v;generalize (if Hnd h then (h-1) / 32 else -1:Int)=g;split;·rfl
 ·split;·rfl
  ·rename_i q;have q:0≤v∧v<s.S.a8.length:=by simp at q;omega
   obtain⟨k,rfl⟩:∃k:Nat,v=k:=⟨v.toNat,by omega⟩;have hk:k<s.S.a8.length:=by omega
   rw[b7Z (by rw[A2];exact hk),n8 hk];simp only[d2P,plc,sO,List.getElem_map,cO]
theorem c4O(s:a7)(hl:s.S.a8.length≤24){h:Int}(hh:h≤9223372036854775807)(o:l4):L4 (sO s) h (oo o)=(H5 s h o).map λp=>(sO p.1,p.2):=by
 unfold L4 H5;rw[a4o _ (by rw[A2];omega),d2P,b0U s hh];rcases a1k s.S hh with ⟨i,hf,e⟩ | ⟨hf,e⟩
 ·obtain⟨hi,e2⟩:=b8l (v:=o) hl hf;rw[e,e2];simp only[d2P,bne_self_eq_false,Bool.false_eq_true,if_false,Option.map_some];unfold a2F;rw[J8 (by omega) (by rw[A2];omega),d2P,n8 (by rw[A2];exact hi),d2P];simp[sO,cO,oo,List.map_set]
 ·rw[e,c4P hh hf];simp only[d2P];rw[if_pos (by simpa using a2v h)];rfl
end Go.Sh
namespace Go.Sh
theorem a1D{s:a7}(h:RtR (sO s)):s.S.a8.length≤24:=by have:=h.len;rwa [A2] at this
theorem b6F{s:a7}(h:RtR (sO s))(i:Nat)(hi:i<s.S.a8.length):0≤s.S.a8[i].State∧s.S.a8[i].State≤3∧0≤s.S.a8[i].Gen∧s.S.a8[i].Gen≤s.S.Last:=by
 have:=h.cell i (by rw[A2];exact hi);simpa[sO,cO] using this
theorem b6G{s:a7}(h:RtR (sO s)):Slb s.S.a8:=⟨a1D h,λi hi=>by have:=b6F h i hi;have h9:s.S.Last≤9:=h.l9;omega⟩
theorem c4H{s:a7}(h:RtR (sO s))(i:Nat)(hi:i<s.S.a8.length)(ht:s.S.a8[i].State=1∨s.S.a8[i].State=2):d0z (sO s) (oo s.S.a8[i].Val):=by
 have:=h.ok i (by rw[A2];exact hi);simp only[sO,List.getElem_map,cO,Thr] at this;exact this ht
theorem c4G{s:a7}(h:RtR (sO s)){i j:Nat}(hi:i<s.S.a8.length)(hj:j<s.S.a8.length)(a:s.S.a8[i].State=1∨s.S.a8[i].State=2)(b:s.S.a8[j].State=1∨s.S.a8[j].State=2)(e:s.S.a8[i].Val.Serial=s.S.a8[j].Val.Serial):i=j:=by
 have key:∀i (hi:i<s.S.a8.length) j (hj:j<i),(s.S.a8[i].State=1∨s.S.a8[i].State=2)→(s.S.a8[j].State=1∨s.S.a8[j].State=2)→s.S.a8[j].Val.Serial≠s.S.a8[i].Val.Serial:=λi hi j hj a b=>by
  have:=h.dif i (by rw[A2];exact hi) j hj;simp only[sO,List.getElem_map,cO,Thr,oo] at this;exact this a b
 rcases Nat.lt_trichotomy i j with q | q | q
 ·exact absurd e (key j hj i q b a)
 ·exact q
 ·exact absurd e.symm (key i hi j q a b)
theorem a4U{s:a7}(hR:RtR (sO s)){x:Int}(hx:x∈V7 0 s.S.a8):∃i,∃hi:i<s.S.a8.length,s.S.a8[i].State=1∧x=1+(i:Int)+32*s.S.a8[i].Gen∧b0G s.S x i∧sk s.S.a8 x=s.S.a8[i].Val.Serial∧r7 s x=some (s.S.a8[i].Val,0):=by
 obtain⟨i,hi,h1,h2⟩:=a63.1 hx;rw[Nat.zero_add] at h2;have hl:=(a1D hR);have hc:=(b6G hR).gen i hi;have hf:b0G s.S x i:=⟨hi,by unfold Hnd;omega,by omega,by omega,.inl h1⟩;refine⟨i,hi,h1,h2,hf,by rw[h2];exact b8n hi (by omega),?_⟩;obtain⟨_,e⟩:=b7y hf;unfold r7;rw[e,if_neg (by omega)];rfl
theorem c3m{s:a7}{x:Int}{i:Nat}(hf:b0G s.S x i)(h1:∀hi:i<s.S.a8.length,s.S.a8[i].State=1):x∈V7 0 s.S.a8:=by
 obtain⟨hi,q1,q2,q3,_⟩:=hf;refine a63.2 ⟨i,hi,h1 hi,?_⟩;unfold Hnd at q1;rw[Nat.zero_add];omega
theorem b6N{s:a7}(hR:RtR (sO s)){x y:Int}(hx:x∈V7 0 s.S.a8)(hy:y∈V7 0 s.S.a8)(e:sk s.S.a8 x=sk s.S.a8 y):x=y:=by
 obtain⟨i,hi,a1,a2,_,a4,_⟩:=a4U hR hx;obtain⟨j,hj,b1,b2,_,b4,_⟩:=a4U hR hy;have:=(c4G hR) hi hj (.inl a1) (.inl b1) (by rw[←a4,←b4];exact e);subst this;rw[a2,b2]
theorem a5J:∀(k:Nat) (cs:List b7),k+cs.length≤32→(V7 k cs).Nodup
 | _,[],_=>List.nodup_nil
 | k,c::r,h=>by
  simp only[List.length_cons] at h;unfold V7;rw[List.nodup_append];refine⟨by split <;> simp,a5J (k+1) r (by omega),λa ha b hb e=>?_⟩;split at ha
  ·simp only[List.mem_singleton] at ha;subst ha;subst e;obtain⟨i,hi,h1,h2⟩:=a63.1 hb;have:((1+(k:Int)+32*c.Gen)-1) % 32=((1+((k+1+i:Nat):Int)+32*r[i].Gen)-1) % 32:=by rw[h2]
   omega
  ·cases ha
theorem c0E{s:a7}(hR:RtR (sO s)):∃l,B8 s=some l∧l.Perm (V7 0 s.S.a8)∧l.Pairwise (λa b=>sk s.S.a8 a<sk s.S.a8 b):=by
 obtain⟨l,h1,h2,h3⟩:=b40 (b6G hR);refine⟨l,h1,h2,?_⟩;have hn:l.Nodup:=h2.nodup_iff.2 (a5J 0 _ (by have:=(a1D hR);omega));have:=List.Pairwise.and h3 hn;refine this.imp_of_mem λ{a b} ha hb ⟨q1,q2⟩=>?_;rcases Int.lt_or_eq_of_le q1 with q | q
 ·exact q
 ·exact absurd (b6N hR (h2.mem_iff.1 ha) (h2.mem_iff.1 hb) q) q2
end Go.Sh
namespace Go.Sh
theorem a9Y:∀(k:Nat) (cs:List b7) (i:Nat) (c:b7) (hi:i<cs.length),cs[i].State≠1→c.State=1→(V7 k (cs.set i c)).Perm ((1+((k+i:Nat):Int)+32*c.Gen)::V7 k cs)
 | _,[],i,_,hi,_,_=>by simp at hi
 | k,d::r,0,c,hi,h1,h2=>by
  simp only[List.getElem_cons_zero] at h1;simp only[List.set_cons_zero,V7,if_pos h2,if_neg h1,List.nil_append,Nat.add_zero];exact List.Perm.refl _
 | k,d::r,i+1,c,hi,h1,h2=>by
  simp only[List.getElem_cons_succ] at h1;simp only[List.set_cons_succ,V7];have:=a9Y (k+1) r i c (by simpa using hi) h1 h2;rw[show k+1+i=k+(i+1) by omega] at this;exact (List.Perm.append_left _ this).trans List.perm_middle
theorem c98{cs:List b7}{i:Nat}{c:b7}{x:Int}(h:((x-1) % 32).toNat≠i):sk (cs.set i c) x=sk cs x:=by
 unfold sk;rw[List.getElem?_set_ne (by omega)]
theorem b9m{s:a7}(hR:RtR (sO s)){i:Nat}(hi:i<s.S.a8.length)(h0:s.S.a8[i].State=0)(o:l4)(ho:o.Serial=s.Serial+1){l:List Int}(hl:B8 s=some l) :
  B8 ⟨⟨s.S.a8.set i ⟨1,s.S.a8[i].Gen,o⟩,s.S.Last⟩,s.Serial+1⟩=some (l ++ [1+(i:Int)+32*s.S.a8[i].Gen]):=by
 obtain⟨l',e,l1,l2⟩:=c0E hR;rw[hl] at e;cases e;have hlen:=a1D hR;have hsl:Slb (s.S.a8.set i ⟨1,s.S.a8[i].Gen,o⟩):=⟨by simpa using hlen,λj hj=>by
  rw[List.getElem_set];have:=(b6G hR).gen;split;·exact this i hi
  ·exact this j (by simpa using hj)⟩
 obtain⟨m,m1,m2,m3⟩:=b40 (s:=⟨⟨s.S.a8.set i ⟨1,s.S.a8[i].Gen,o⟩,s.S.Last⟩,s.Serial+1⟩) hsl;have hp:=a9Y 0 s.S.a8 i ⟨1,s.S.a8[i].Gen,o⟩ hi (by omega) rfl;rw[Nat.zero_add] at hp;have hold:∀x∈l,sk (s.S.a8.set i ⟨1,s.S.a8[i].Gen,o⟩) x=sk s.S.a8 x∧sk s.S.a8 x≤s.Serial:=λx hx=>by
  obtain⟨j,hj,a1,a2,a3,a4,_⟩:=a4U hR (l1.mem_iff.1 hx);refine⟨c98 ?_,?_⟩
  ·obtain⟨_,_,q,_⟩:=a3;intro e;have:j=i:=by omega
   subst this;omega
  ·rw[a4];exact (c4H hR j hj (.inl a1)).2.1
 have hnew:sk (s.S.a8.set i ⟨1,s.S.a8[i].Gen,o⟩) (1+(i:Int)+32*s.S.a8[i].Gen)=s.Serial+1:=by
  rw[b8n (by simpa using hi) (by simp;omega)];simp[ho]
 rw[m1];congr 1;refine a6d (key:=sk (s.S.a8.set i ⟨1,s.S.a8[i].Gen,o⟩)) ?_ m3 ?_ ?_
 ·refine m2.trans (hp.trans ?_);refine List.Perm.trans (List.Perm.cons _ l1.symm) ?_;exact (List.perm_append_singleton _ _).symm
 ·rw[List.pairwise_append];refine⟨l2.imp_of_mem λ{a b} ha hb hab=>?_,by simp,λa ha b hb=>?_⟩;·rw[(hold a ha).1,(hold b hb).1];omega
  ·rw[List.mem_singleton] at hb;subst hb;rw[hnew,(hold a ha).1];have:=(hold a ha).2;omega
 ·have hm:∀a∈m,a∈l∨a=1+(i:Int)+32*s.S.a8[i].Gen:=λa ha=>by
   have:=hp.mem_iff.1 (m2.mem_iff.1 ha);rcases List.mem_cons.1 this with q | q
   ·exact .inr q
   ·exact .inl (l1.mem_iff.2 q)
  intro a ha b hb hab;rcases hm a ha with qa | rfl <;> rcases hm b hb with qb | rfl
  ·rw[(hold a qa).1,(hold b qb).1] at hab;exact b6N hR (l1.mem_iff.1 qa) (l1.mem_iff.1 qb) hab
  ·rw[(hold a qa).1,hnew] at hab;have:=(hold a qa).2;omega
  ·rw[(hold b qb).1,hnew] at hab;have:=(hold b qb).2;omega
  ·rfl
end Go.Sh
namespace Go.Sh
theorem d1f(n last:Int):∃a,a3s n last=some a∧b6r n last=some (sO a)∧RtR (sO a)∧a.S.a8.length≤24∧∀i (h:i<a.S.a8.length),a.S.a8[i].Val.Fields.length≤4:=by
 unfold a3s b6r T4 c0X;by_cases h:0≤n∧n≤24∧0≤last∧last≤9
 ·obtain⟨h1,h2,h3,h4⟩:=h;obtain⟨k,rfl⟩:∃k:Nat,n=k:=⟨n.toNat,by omega⟩;rw[if_neg (by simp;omega),if_neg (by simp;omega),a69 (by omega) (by omega),a69 (by omega) (by omega)];simp only[d2P,List.length_replicate];rw[a69 (by omega) (by omega)];refine⟨_,rfl,?_,?_,by simp;omega,λi h=>by simp⟩;·simp[sO,cO,oo]
  ·refine⟨by simp[sO];omega,h3,h4,by simp[sO],λi h=>?_,λi h=>?_,λi h q=>?_,λi h k hk q=>?_⟩;·simp[sO,cO];omega
   ·simp[sO,cO,oo,c1r]
   ·exfalso;simp[sO,cO,oo,Thr] at q
   ·exfalso;simp[sO,cO,oo,Thr] at q
 ·rw[if_pos (by simp;omega),if_pos (by simp;omega)];simp only[d2P,List.length_nil];rw[show mk 80 ((0:Nat):Int) (⟨0,0,⟨0,0,0,0,false,[]⟩⟩:F8)=some [] from rfl];refine⟨_,rfl,rfl,⟨by simp[sO],by simp[sO],by simp[sO],by simp[sO],?_,?_,?_,?_⟩,by simp,λi h=>by simp at h⟩ <;> (intro i h;simp[sO] at h)
end Go.Sh
namespace Go.Sh
noncomputable def lv(s:a7):List Int:=(B8 s).getD []
def ob(s:a7)(h:Int):l4:=((r7 s h).getD (z0,0)).1
def outs(s:a7)(h:Int):List Int:=nz (ob s h).Fields
def FB(s:a7):Prop:=∀c∈s.S.a8,∀x∈c.Val.Fields,x≤9223372036854775807
section
variable{s:a7}(hR:RtR (sO s))
include hR
theorem a4j:B8 s=some (lv s)∧(lv s).Perm (V7 0 s.S.a8)∧(lv s).Pairwise (λa b=>sk s.S.a8 a<sk s.S.a8 b):=by
 obtain⟨l,h1,h2,h3⟩:=c0E hR;have:lv s=l:=by unfold lv;rw[h1];rfl
 rw[this];exact⟨h1,h2,h3⟩
theorem a1r:B8 s=some (lv s):=(a4j hR).1
theorem b00{h:Int}:h∈lv s↔h∈V7 0 s.S.a8:=(a4j hR).2.1.mem_iff
theorem D4:(lv s).length≤24:=by
 rw[(a4j hR).2.1.length_eq];exact Nat.le_trans (a4V 0 s.S.a8) (a1D hR)
theorem a96:(lv s).Nodup:=(a4j hR).2.1.nodup_iff.2 (a5J 0 _ (by have:=(a1D hR);omega))
theorem b3k{h:Int}(hh:h∈lv s):r7 s h=some (ob s h,0):=by
 obtain⟨i,hi,_,_,_,_,e⟩:=a4U hR ((b00 hR).1 hh);unfold ob;rw[e];rfl
theorem b6c{h:Int}(hh:h∈lv s):∃i,∃hi:i<s.S.a8.length,s.S.a8[i].State=1∧h=1+(i:Int)+32*s.S.a8[i].Gen∧b0G s.S h i∧ob s h=s.S.a8[i].Val:=by
 obtain⟨i,hi,h1,h2,h3,_,e⟩:=a4U hR ((b00 hR).1 hh);refine⟨i,hi,h1,h2,h3,?_⟩;unfold ob;rw[e];rfl
theorem a4F{h:Int}(hh:h∈lv s):1≤h∧h≤320:=by
 obtain⟨i,hi,_,_,hf,_⟩:=b6c hR hh;exact b3d hf.2.1
theorem c7R{h:Int}(hh:h≤9223372036854775807)(hn:h∉lv s):∃e,e≠0∧r7 s h=some (z0,e):=by
 rcases a1k s.S hh with ⟨i,hf,_⟩ | ⟨hf,_⟩
 ·obtain⟨hi,e⟩:=b7y hf;unfold r7;rw[e];by_cases h2:s.S.a8[i].State=2
  ·rw[if_pos h2];exact⟨3,by decide,rfl⟩
  ·exact absurd ((b00 hR).2 (c3m hf λ_=>hf.2.2.2.2.resolve_right h2)) hn
 ·unfold r7;rw[c3p hh hf];exact⟨_,a2v h,rfl⟩
theorem a8I{h:Int}(hh:h≤9223372036854775807)(hn:h∉lv s):ob s h=z0:=by
 obtain⟨e,_,h1⟩:=c7R hR hh hn;unfold ob;rw[h1];rfl
theorem O8{h:Int}(hh:h≤9223372036854775807):∃e,r7 s h=some (ob s h,e)∧(e=0↔h∈lv s):=by
 by_cases q:h∈lv s
 ·exact⟨0,b3k hR q,by simp[q]⟩
 ·obtain⟨e,h0,h1⟩:=c7R hR hh q;refine⟨e,?_,by simp[h0,q]⟩;rw[h1,a8I hR hh q]
theorem c0R{h:Int}(hh:h≤9223372036854775807)(hn:h∉lv s):outs s h = []:=by
 unfold outs;rw[a8I hR hh hn];rfl
theorem b6g(h:Int)(hh:h≤9223372036854775807):(ob s h).Fields.length≤4:=by
 by_cases q:h∈lv s
 ·obtain⟨i,hi,h1,_,_,e⟩:=b6c hR q;rw[e];exact (c4H hR i hi (.inl h1)).2.2.2.2.2.2
 ·rw[a8I hR hh q];exact Nat.zero_le _
theorem a40(h:Int)(hh:h≤9223372036854775807):(outs s h).length≤4:=Nat.le_trans (c3V _) (b6g hR h hh)
theorem c6J(hF:FB s){h x:Int}(hh:h≤9223372036854775807)(hx:x∈outs s h):x≤9223372036854775807:=by
 by_cases q:h∈lv s
 ·obtain⟨i,hi,h1,_,_,e⟩:=b6c hR q;unfold outs at hx;rw[e] at hx;exact hF _ (List.getElem_mem hi) x (a5S.1 hx).1
 ·rw[c0R hR hh q] at hx;cases hx
end
theorem c6K{s:a7}{h x:Int}(hx:x∈outs s h):x≠0:=(a5S.1 hx).2
theorem a4S(s:a7)(hl:s.S.a8.length≤1000){h:Int}(hh:h≤9223372036854775807):E0 (sO s) h=(r7 s h).map λp=>(oo p.1,p.2):=by
 unfold E0 r7 B5 b2q;rw[a4o _ (by rw[A2];exact hl),d2P,b0U s hh];rcases a1k s.S hh with ⟨i,hf,e⟩ | ⟨hf,e⟩
 ·rw[e];have hi:=hf.1;simp only[d2P,bne_self_eq_false,Bool.false_eq_true,if_false];rw[b7Z (by rw[A2];exact hi),n8 hi];simp only[d2P,plc,sO,List.getElem_map,cO];split;·rfl
  ·simp only[d2P,bne_self_eq_false,Bool.false_eq_true,if_false];rw[n8 (by simpa using hi)];simp[cO,oo]
 ·rw[e];simp only[d2P];have hne:((if h=0 then 2 else 3:Int) != 0)=true:=by simpa using a2v h
  simp only[hne,if_true,d2P];rfl
end Go.Sh
namespace Go.Sh
theorem c4Q{s:a7}(hR:RtR (sO s)){l:List Int}(hl:∀x∈l,x∈lv s)(hn:l.length≤100) :
  ∃m,a9g (sO s) l=some m∧m.Perm l∧m.Pairwise (λa b=>sk s.S.a8 a≤sk s.S.a8 b):=by
 have hfind:∀x∈l,∃i:Nat,∃hi:i<s.S.a8.length,N9 (pl (sO s)) x=some ((i:Int),0)∧s.S.a8[i].Val.Serial=sk s.S.a8 x:=λx hx=>by
  obtain⟨i,hi,_,_,hf,h4,_⟩:=a4U hR ((b00 hR).1 (hl x hx));refine⟨i,hi,?_,h4.symm⟩;rw[b0U s (by have:=b3d hf.2.1;omega),a7M hf]
 unfold a9g;rw[J8 (by omega) (by omega),d2P];simp only[jn];let K:List Int→Nat→Int:=λo a=>sk s.S.a8 (o.getD a 0)
 have hplain:=a4o (sO s) (by rw[A2];have:=a1D hR;omega);have inner:∀(n:Nat) (o:List Int),n<l.length→o.Perm l→(∀a b,a<b→b≤n→b≠n→K o a≤K o b) →
   ∃o',lp (S:=Int × (List Int)) (E:=(List Int)) (λ((s58,s59):Int × (List Int))=>
      if (decide (s58 > 0)) then
       (R2 (sO s)).bind λv62=>
       (ix s59 (r8 (s58-1))).bind λv63=>
       (N9 v62 v63).bind λv64=>
       (ix s59 s58).bind λv65=>
       (N9 v62 v65).bind λv66=>
       (z6 (((decide (v64.1<0))||(decide (v66.1<0)))==false) (⟨0,0,⟨0,0,0,0,false,[]⟩⟩:F8) (ix (sO s).a8 v64.1)).bind λv67=>
       (z6 (((decide (v64.1<0))||(decide (v66.1<0)))==false) (⟨0,0,⟨0,0,0,0,false,[]⟩⟩:F8) (ix (sO s).a8 v66.1)).bind λv68=>
       if (((decide (v64.1<0))||(decide (v66.1<0)))||(decide (v67.Val.Serial≤v68.Val.Serial))) then
        some (.inr s59)
       else
       (ix (s59.set (s58).toNat v63) (r8 (s58-1))).bind λv69=>
       some (.inl (r8 (s58-1),((s59.set (s58).toNat v63).set (r8 (s58-1)).toNat v65)))
      else
      some (.inr s59)) ((n:Int),o)=some o'∧o'.Perm l∧∀a b,a<b→b≤n→K o' a≤K o' b:=by
  intro n o hn' hp hk;have hbn:(n:Int).toNat<4611686018427387904:=by rw[Int.toNat_natCast];omega
  refine a9a (s0:=((n:Int),o)) (λq=>∃k:Nat,q.1=(k:Int)∧k≤n∧q.2.Perm l∧∀a b,a<b→b≤n→b≠k→K q.2 a≤K q.2 b) (λo'=>o'.Perm l∧∀a b,a<b→b≤n→K o' a≤K o' b) (λq=>q.1.toNat) ⟨n,rfl,Nat.le_refl _,hp,hk⟩ hbn ?_;rintro⟨_,o⟩ ⟨k,rfl,hkn,hp,hk⟩;simp only at hp hk ⊢;have hol:o.length=l.length:=hp.length_eq;rcases Nat.eq_zero_or_pos k with rfl | hpos
  ·right;refine⟨o,by rw[if_neg (by simp)],hp,λa b h1 h2=>hk a b h1 h2 (by omega)⟩
  ·obtain⟨j,rfl⟩:∃j,k=j+1:=⟨k-1,by omega⟩;have hj1:j+1<o.length:=by omega
   have hj:j<o.length:=by omega
   have ew:r8 (((j+1:Nat):Int)-1)=(j:Int):=by rw[B0 (by omega) (by omega)];omega
   obtain⟨ia,hia,fa,ka⟩:=hfind o[j] (hp.mem_iff.1 (List.getElem_mem hj));obtain⟨ib,hib,fb,kb⟩:=hfind o[j+1] (hp.mem_iff.1 (List.getElem_mem hj1));have ea:ix (sO s).a8 (ia:Int)=some (cO s.S.a8[ia]):=by rw[c1e,n8 hia];rfl
   have eb:ix (sO s).a8 (ib:Int)=some (cO s.S.a8[ib]):=by rw[c1e,n8 hib];rfl
   have hneg:((decide ((ia:Int)<0))||(decide ((ib:Int)<0)))=false:=by simp
   have hpos':decide (((j+1:Nat):Int) > 0)=true:=by simp
   simp only[hpos',if_true,hplain,ew,n8 hj,n8 hj1,d2P,fa,fb,hneg,beq_self_eq_true,a4n,ea,eb,Bool.false_or,cO,oo,ka,kb,Int.toNat_natCast];have Kj:K o j=sk s.S.a8 o[j]:=by simp[K,List.getD,List.getElem?_eq_getElem hj]
   have Kj1:K o (j+1)=sk s.S.a8 o[j+1]:=by simp[K,List.getD,List.getElem?_eq_getElem hj1]
   by_cases hle:sk s.S.a8 o[j]≤sk s.S.a8 o[j+1]
   ·right;refine⟨o,by rw[if_pos (by simpa using hle)],hp,λa b h1 h2=>?_⟩;by_cases e:b=j+1
    ·subst e;rcases Nat.lt_or_ge a j with q | q
     ·have:=hk a j q (by omega) (by omega);omega
     ·have:a=j:=by omega
      subst this;omega
    ·exact hk a b h1 h2 e
   ·left;refine⟨_,by rw[if_neg (by simpa using hle),n8 (by simpa using hj)];rfl,⟨j,rfl,by omega,?_,λa b h1 h2 h3=>?_⟩,by show (j:Int).toNat<((j+1:Nat):Int).toNat;omega⟩;·exact (List.set_set_perm hj1 hj).trans hp
    ·have hK:∀c,K ((o.set (j+1) o[j]).set j o[j+1]) c=if c=j then K o (j+1) else if c=j+1 then K o j else K o c:=λc=>by
      simp only[K,List.getD,List.getElem?_set,List.length_set];by_cases c1:c=j
      ·subst c1;simp[hj,List.getElem?_eq_getElem hj1]
      ·by_cases c2:c=j+1
       ·subst c2;simp[hj1,List.getElem?_eq_getElem hj]
       ·rw[if_neg (by omega),if_neg (by omega),if_neg c1,if_neg c2]
     show K ((o.set (j+1) o[j]).set ((j:Nat):Int).toNat o[j+1]) a≤K ((o.set (j+1) o[j]).set ((j:Nat):Int).toNat o[j+1]) b;rw[Int.toNat_natCast,hK,hK];by_cases a1:a=j
     ·subst a1;rw[if_pos rfl];by_cases b2:b=a+1
      ·subst b2;rw[if_neg (by omega),if_pos rfl];omega
      ·rw[if_neg (by omega),if_neg b2];exact hk (a+1) b (by omega) h2 b2
     ·rw[if_neg a1];by_cases a2:a=j+1
      ·subst a2;rw[if_pos rfl,if_neg (by omega),if_neg (by omega)];exact hk j b (by omega) h2 (by omega)
      ·rw[if_neg a2,if_neg h3];by_cases b2:b=j+1
       ·subst b2;rw[if_pos rfl];exact hk a j (by omega) (by omega) (by omega)
       ·rw[if_neg b2];exact hk a b h1 h2 b2
 have outer:∃m,(lp (S:=Int × (List Int)) (E:=(List Int)) (λ((s38,s39):Int × (List Int))=>
   if (decide (s38<(s39.length:Int))) then
     (lp (S:=Int × (List Int)) (E:=(List Int)) (λ((s58,s59):Int × (List Int))=>
      if (decide (s58 > 0)) then
       (R2 (sO s)).bind λv62=>
       (ix s59 (r8 (s58-1))).bind λv63=>
       (N9 v62 v63).bind λv64=>
       (ix s59 s58).bind λv65=>
       (N9 v62 v65).bind λv66=>
       (z6 (((decide (v64.1<0))||(decide (v66.1<0)))==false) (⟨0,0,⟨0,0,0,0,false,[]⟩⟩:F8) (ix (sO s).a8 v64.1)).bind λv67=>
       (z6 (((decide (v64.1<0))||(decide (v66.1<0)))==false) (⟨0,0,⟨0,0,0,0,false,[]⟩⟩:F8) (ix (sO s).a8 v66.1)).bind λv68=>
       if (((decide (v64.1<0))||(decide (v66.1<0)))||(decide (v67.Val.Serial≤v68.Val.Serial))) then
        some (.inr s59)
       else
       (ix (s59.set (s58).toNat v63) (r8 (s58-1))).bind λv69=>
       some (.inl (r8 (s58-1),((s59.set (s58).toNat v63).set (r8 (s58-1)).toNat v65)))
      else
      some (.inr s59)) (s38,s39)).bind λe57=>
     some (.inl (r8 (s38+1),e57))
   else
   some (.inr s39)) (1,l))=some m∧m.Perm l∧m.Pairwise (λa b=>sk s.S.a8 a≤sk s.S.a8 b):=by
  have hb1:l.length+1-(1:Int).toNat<4611686018427387904:=by omega
  refine a9a (s0:=((1:Int),l)) (λq=>∃k:Nat,q.1=(k:Int)∧(k≤l.length∨k=1)∧1≤k∧q.2.Perm l∧∀a b,a<b→b<k→K q.2 a≤K q.2 b) (λ(o':List Int)=>o'.Perm l∧o'.Pairwise (λa b=>sk s.S.a8 a≤sk s.S.a8 b)) (λq=>l.length+1-q.1.toNat) ⟨1,rfl,.inr rfl,by omega,List.Perm.refl _,λa b h1 h2=>by omega⟩ hb1 ?_;rintro⟨_,o⟩ ⟨k,rfl,hkl,hk1,hp,hk⟩;simp only at hp hk ⊢;have hol:o.length=l.length:=hp.length_eq;rcases Nat.lt_or_ge k l.length with h1 | h1
  ·left;obtain⟨o',e1,e2,e3⟩:=inner k o h1 hp λa b x1 x2 x3=>hk a b x1 (by omega);refine⟨(((k+1:Nat):Int),o'),?_,⟨k+1,rfl,by omega,by omega,e2,λa b x1 x2=>e3 a b x1 (by omega)⟩,by show l.length+1-((k+1:Nat):Int).toNat<l.length+1-(k:Int).toNat;omega⟩;rw[if_pos (by simp;omega),e1,d2P,k8 (by omega)]
  ·right;refine⟨o,by rw[if_neg (by simp;omega)],hp,?_⟩;rw[List.pairwise_iff_getElem];intro i j hi hj hij;have:=hk i j hij (by omega);simpa[K,List.getD,List.getElem?_eq_getElem hi,List.getElem?_eq_getElem hj] using this
 obtain⟨m,e1,e2,e3⟩:=outer;exact⟨m,by rw[show lp _ _=_ from e1];rfl,e2,e3⟩
theorem a89{s:a7}(hR:RtR (sO s)):a1A (sO s)=some (lv s):=by
 have hlen:=a1D hR;unfold a1A;simp only[jn];have hloop:lp (S:=Int × (List Int)) (E:=(List Int)) (λ((s18,s19):Int × (List Int))=>
   if (decide (s18<((sO s).a8.length:Int))) then
     (ix (sO s).a8 s18).bind λv27=>
     if (v27.State==1) then
      (a43 s18 v27.Gen).bind λv28=>
      (app 8 s19 [v28]).bind λv29=>
      some (.inl (r8 (s18+1),v29))
     else
     some (.inl (r8 (s18+1),s19))
   else
   some (.inr s19)) (0,[])=some (V7 0 s.S.a8):=by
  refine a4t (a13 (T:=List Int) s.S.a8.length (λk l=>l=V7 0 (s.S.a8.take k)) (λe=>e=V7 0 s.S.a8) (by omega) (by simp[V7]) (λk l hk hP=>?_) (λl hP=>?_))
  ·subst hP;left;have hc:=(b6G hR).gen k hk;have hl:=a4V 0 (s.S.a8.take k);have et:s.S.a8.take (k+1)=s.S.a8.take k ++ [s.S.a8[k]]:=by rw[List.take_add_one,List.getElem?_eq_getElem hk];rfl
   have el:(s.S.a8.take k).length=k:=by simp;omega
   refine⟨_,?_,rfl⟩;simp only[A2,Int.ofNat_lt,hk,decide_true,if_true,c1e,n8 hk,Option.map_some,d2P,cO];rw[et,a7Q,el,Nat.zero_add];by_cases q:s.S.a8[k].State=1
   ·rw[if_pos (by simpa using q),if_pos q,a7b,d2P,if_pos (by omega),x4 (by omega) (by simp;omega),d2P,k8]
   ·rw[if_neg (by simpa using q),if_neg q,k8,List.append_nil]
  ·subst hP;refine⟨_,by simp only[A2,Int.lt_irrefl,decide_false,Bool.false_eq_true,if_false];rfl,by simp⟩
 rw[show lp _ _=_ from hloop,d2P];obtain⟨m,h1,h2,h3⟩:=c4Q hR (l:=V7 0 s.S.a8) (λx hx=>(b00 hR).2 hx) (by have:=a4V 0 s.S.a8;omega);rw[h1,d2P];congr 1;obtain⟨_,l2,l3⟩:=a4j hR;exact a6d (key:=sk s.S.a8) (h2.trans l2.symm) h3 (l3.imp λh=>by omega) λa ha b hb e=>b6N hR (h2.mem_iff.1 ha) (h2.mem_iff.1 hb) e
end Go.Sh
namespace Go.Sh
theorem b7Q(v:List Int)(h:v.length≤1000000):a3t v=some (nz v):=by
 unfold a3t a8j;simp only[jn,d2P];rw[D7 v (λb x=>if x != 0 then b ++ [x] else b) id (λk b=>b.length≤k) (by omega) (by simp) (λk hk b hb=>?_) (λb _=>?_)]
 ·simp only[d2P,id];rw[foldl_filter];rfl
 ·simp only[Int.ofNat_lt,hk,decide_true,if_true,n8 hk,d2P];by_cases q:(v[k] != 0)=true
  ·rw[if_pos (by simpa using q),if_pos q,x4 (by omega) (by simp;omega),d2P,k8];exact⟨rfl,by simp;omega⟩
  ·rw[if_neg (by simpa using q),if_neg q,k8];exact⟨rfl,by omega⟩
 ·simp only[Int.lt_irrefl,decide_false,Bool.false_eq_true,if_false];rfl
theorem b3o(v:List Int)(h:v.length≤1000000):a3l v=some (nz v):=by
 unfold a3l;simp only[jn];rw[D7 v (λb x=>if x != 0 then b ++ [x] else b) id (λk b=>b.length≤k) (by omega) (by simp) (λk hk b hb=>?_) (λb _=>?_)]
 ·simp only[d2P,id];rw[foldl_filter];rfl
 ·simp only[Int.ofNat_lt,hk,decide_true,if_true,n8 hk,d2P];by_cases q:(v[k] != 0)=true
  ·rw[if_pos q,if_pos q,x4 (by omega) (by simp;omega),d2P,k8];exact⟨rfl,by simp;omega⟩
  ·rw[if_neg q,if_neg q,k8];exact⟨rfl,by omega⟩
 ·simp only[Int.lt_irrefl,decide_false,Bool.false_eq_true,if_false];rfl
theorem a9k(l:List Int)(h:Int)(hl:l.length≤1000000):a3n l h=some (W0 l h:Int):=by
 unfold a3n;simp only[jn];rw[b42 l (λ(b:Int) x=>if (x==h&&h != 0) then b+1 else b) id (λk b=>0≤b∧b≤k) (by omega) (by simp) (λk hk b hb=>?_) (λb _=>?_)]
 ·simp only[d2P,id];rw[b1E];simp
 ·simp only[Int.ofNat_lt,hk,decide_true,if_true,n8 hk,d2P];by_cases q:(l[k]==h&&h != 0)=true
  ·rw[if_pos q,if_pos q,k8,B0 (n:=b+1) (by omega) (by omega)];exact⟨rfl,by omega⟩
  ·rw[if_neg q,if_neg q,k8];exact⟨rfl,by omega⟩
 ·simp only[Int.lt_irrefl,decide_false,Bool.false_eq_true,if_false];rfl
noncomputable def inn(s:a7)(h:Int):Nat:=((lv s).map λx=>W0 (outs s x) h).sum
theorem c0H{s:a7}(hR:RtR (sO s)){k:Nat}(hk:k<(lv s).length):(lv s)[k]≤9223372036854775807:=by
 have:=a4F hR (List.getElem_mem hk);omega
section
variable{s:a7}(hR:RtR (sO s))
include hR
theorem c4f{h:Int}(hh:h≤9223372036854775807):a48 s h=some (outs s h):=by
 obtain⟨e,h1,_⟩:=O8 hR hh;unfold a48;rw[h1,d2P,b7Q _ (by have:=b6g hR h hh;simp only;omega)];rfl
theorem b7V{h:Int}(hh:h≤9223372036854775807):b2t (sO s) h=some (outs s h):=by
 unfold b2t;rw[a4S s (by have:=a1D hR;omega) hh];obtain⟨e,h1,h2⟩:=O8 hR hh;rw[h1];simp only[Option.map_some,d2P];by_cases q:e=0
 ·subst q;rw[if_neg (by simp),b3o _ (by have:=b6g hR h hh;simp only[oo];omega)];rfl
 ·rw[if_pos (by simpa using q),c0R hR hh (λq'=>q (h2.2 q'))]
theorem b9i(h:Int):inn s h≤96:=by
 have:=b6S (λx=>W0 (outs s x) h) 4 (lv s) λx hx=>Nat.le_trans (b9V _ _) (a40 hR x (by have:=a4F hR hx;omega));have:=D4 hR;unfold inn;omega
theorem d03(h:Int):b2x s h=some (inn s h:Int):=by
 unfold b2x a54;simp only[jn,d2P];rw[show B8 s=_ from a1r hR,d2P];have hl:=D4 hR;rw[D7 (lv s) (λ(b:Int) x=>b+(W0 (outs s x) h:Int)) id (λk b=>0≤b∧b≤4*k) (by omega) (by simp) (λk hk b hb=>?_) (λb _=>?_)]
 ·simp only[d2P,id];have:=a86 (λx=>W0 (outs s x) h) (lv s) 0;rw[show ((0:Nat):Int)=0 from rfl] at this;rw[this,Nat.zero_add];rfl
 ·have ho:=c4f hR (c0H hR hk);have hol:=a40 hR _ (c0H hR hk);have ht:=b9V (outs s (lv s)[k]) h;simp only[Int.ofNat_lt,hk,decide_true,if_true,n8 hk,d2P,ho];rw[D7 (outs s (lv s)[k]) (λ(b:Int) x=>if (x==h&&h != 0) then b+1 else b) id (λj c=>b≤c∧c≤b+j) (by omega) (by simp) (λj hj c hc=>?_) (λc _=>?_)]
  ·simp only[d2P,id];rw[b1E,k8];exact⟨rfl,by omega⟩
  ·simp only[Int.ofNat_lt,hj,decide_true,if_true,n8 hj,d2P];have hne:=c6K (List.getElem_mem hj);by_cases q:(outs s (lv s)[k])[j]=h
   ·have e2:((outs s (lv s)[k])[j]==h&&h != 0)=true:=by simp only[Bool.and_eq_true,beq_iff_eq,bne_iff_ne];omega
    rw[e2,if_pos (by simpa using q),if_pos rfl,k8,B0 (n:=c+1) (by omega) (by omega)];exact⟨rfl,by omega⟩
   ·have e2:((outs s (lv s)[k])[j]==h&&h != 0)=false:=by rw[Bool.eq_false_iff];simp only[ne_eq,Bool.and_eq_true,beq_iff_eq,bne_iff_ne];omega
    rw[e2,if_neg (by simpa using q),k8];exact⟨rfl,by simp;omega⟩
  ·simp only[Int.lt_irrefl,decide_false,Bool.false_eq_true,if_false];rfl
 ·simp only[Int.lt_irrefl,decide_false,Bool.false_eq_true,if_false];rfl
theorem c6c(h:Int):b9D (sO s) h=some (inn s h:Int):=by
 unfold b9D;simp only[jn,a89 hR,d2P];have hl:=D4 hR;rw[b42 (lv s) (λ(b:Int) x=>b+(W0 (outs s x) h:Int)) id (λk b=>0≤b∧b≤4*k) (by omega) (by simp) (λk hk b hb=>?_) (λb _=>?_)]
 ·simp only[d2P,id];have:=a86 (λx=>W0 (outs s x) h) (lv s) 0;rw[show ((0:Nat):Int)=0 from rfl] at this;rw[this,Nat.zero_add];rfl
 ·have hol:=a40 hR _ (c0H hR hk);have ht:=b9V (outs s (lv s)[k]) h;simp only[Int.ofNat_lt,hk,decide_true,if_true,n8 hk,d2P,b7V hR (c0H hR hk)];rw[a9k _ _ (by omega),d2P,k8,B0 (by omega) (by omega)];exact⟨rfl,by omega⟩
 ·simp only[Int.lt_irrefl,decide_false,Bool.false_eq_true,if_false];rfl
end
end Go.Sh
namespace Go.Sh
section
variable{s:a7}(hR:RtR (sO s))(hF:FB s)
include hR hF
end
theorem a9I{α:Type}(p:α→Bool):∀l:List α,l.length=(l.filter p).length+(l.filter λx => !p x).length
 | []=>rfl
 | x::l=>by
  have:=a9I p l;by_cases h:p x
  ·simp[h];omega
  ·simp[h];omega
theorem d04{s:a7}(hR:RtR (sO s)){l:List Int}(hp:l.Perm (V7 0 s.S.a8))(hs:l.Pairwise (λa b=>sk s.S.a8 a<sk s.S.a8 b)):lv s=l:=by
 obtain⟨_,l2,l3⟩:=a4j hR;exact a6d (key:=sk s.S.a8) (l2.trans hp.symm) (l3.imp λh=>by omega) (hs.imp λh=>by omega) λa ha b hb e=>b6N hR (l2.mem_iff.1 ha) (l2.mem_iff.1 hb) e
end Go.Sh
namespace Go.Sh
inductive Rch (s:a7) (l:List Int):Int→Prop
 | base {h:Int}:h∈l→h∈lv s→Rch s l h
 | step {a b:Int}:Rch s l a→b∈outs s a→b∈lv s→Rch s l b
open Classical in
noncomputable def rcd (s:a7) (l:List Int):List Int:=(lv s).filter λh=>decide (Rch s l h)
open Classical in
noncomputable def lst (s:a7) (l:List Int):List Int:=(lv s).filter λh=>decide (¬Rch s l h)
def Cl(s:a7)(l:List Int):Prop:=∀a∈l,∀b∈outs s a,b∈lv s→b∈l
def LB(l:List Int):Prop:=∀x∈l,x≤9223372036854775807
theorem Rch.live{s:a7}{l:List Int}{h:Int}(q:Rch s l h):h∈lv s:=by cases q <;> assumption
open Classical in
theorem W9 {s:a7} {l:List Int} {h:Int}:h∈rcd s l↔Rch s l h:=by
 unfold rcd;rw[List.mem_filter];exact⟨λq=>of_decide_eq_true q.2,λq=>⟨q.live,decide_eq_true q⟩⟩
theorem c0Z{s:a7}(hR:RtR (sO s))(l:List Int):(rcd s l).length≤24:=Nat.le_trans (List.length_filter_le ..) (D4 hR)
theorem c9W(s:a7)(l:List Int):Cl s (rcd s l):=λa ha b hb hl=>W9.2 (.step (W9.1 ha) hb hl)
theorem Rch.least{s:a7}{l m:List Int}(hc:Cl s m)(hl:∀x∈l,x∈lv s→x∈m){h:Int}(q:Rch s l h):h∈m:=by
 induction q with
 | base h1 h2=>exact hl _ h1 h2
 | step _ h1 h2 ih=>exact hc _ ih _ h1 h2
theorem Rch.mono{s:a7}{l m:List Int}(hl:∀x∈l,x∈lv s→Rch s m x){h:Int}(q:Rch s l h):Rch s m h:=by
 induction q with
 | base h1 h2=>exact hl _ h1 h2
 | step _ h1 h2 ih=>exact .step ih h1 h2
theorem b5g{s:a7}{l m:List Int}(h:∀x,Rch s l x↔Rch s m x):rcd s l=rcd s m:=by
 unfold rcd;exact List.filter_congr λx _=>decide_eq_decide.2 (h x)
theorem filter_lt{α:Type}{p q:α→Bool}:∀ {l:List α},(∀x∈l,p x=true→q x=true)→∀x∈l,q x=true→p x=false→(l.filter p).length<(l.filter q).length
 | [],_,x,hx,_,_=>by cases hx
 | y::l,h,x,hx,h1,h2=>by
  have hle:(l.filter p).length≤(l.filter q).length:=by
   have h':∀x∈l,p x=true→q x=true:=λx hx=>h x (List.mem_cons_of_mem _ hx);clear h hx;induction l with
   | nil=>simp
   | cons z l ih=>
    have:=ih λx hx=>h' x (List.mem_cons_of_mem _ hx);have hz:=h' z (List.mem_cons_self ..);simp only[List.filter_cons];by_cases a:p z=true
    ·rw[if_pos a,if_pos (hz a)];simp only[List.length_cons];omega
    ·rw[if_neg a];split <;> (try simp only[List.length_cons]) <;> omega
  rcases List.mem_cons.1 hx with rfl | hx'
  ·simp only[List.filter_cons,h1,h2,if_true,Bool.false_eq_true,if_false,List.length_cons];omega
  ·have:=filter_lt (λx hx=>h x (List.mem_cons_of_mem _ hx)) x hx' h1 h2;have hy:=h y (List.mem_cons_self ..);simp only[List.filter_cons];by_cases a:p y=true
   ·rw[if_pos a,if_pos (hy a)];simp only[List.length_cons];omega
   ·rw[if_neg a];split <;> (try simp only[List.length_cons]) <;> omega
theorem a3J{l m:List Int}(hn:l.Nodup)(h:∀x∈l,x∈m):l.length≤m.length:=by
 induction l generalizing m with
 | nil=>simp
 | cons x l ih=>
  rw[List.nodup_cons] at hn;have hx:=h x (List.mem_cons_self ..);have:=ih (m:=m.erase x) hn.2 λy hy=>(List.mem_erase_of_ne (λe=>hn.1 (by subst e;exact hy))).2 (h y (List.mem_cons_of_mem _ hy));rw[List.length_erase_of_mem hx] at this;have:0<m.length:=List.length_pos_of_mem hx;simp only[List.length_cons];omega
section
variable{s:a7}(hR:RtR (sO s))
include hR
theorem c1N{h:Int}(hh:h≤9223372036854775807):a0c s h=some (decide (h∈lv s)):=by
 obtain⟨e,h1,h2⟩:=O8 hR hh;unfold a0c;rw[h1,d2P];congr 1;rw[Bool.eq_iff_iff,beq_iff_eq,decide_eq_true_iff];exact h2
abbrev Mk(m:List (Int × Bool))(x:Int):Prop:=(y8 m x).getD false=true
noncomputable def unm(s:a7)(m:List (Int × Bool)):Nat:=((lv s).filter λx => !(y8 m x).getD false).length
omit hR in
theorem b04 (m:List (Int × Bool)) (x y:Int):Mk (n9 m x true) y↔y=x∨Mk m y:=by
 unfold Mk;rw[a7R];by_cases q:y=x
 ·simp[q]
 ·simp[q]
omit hR in
theorem c7h {m:List (Int × Bool)} {x:Int} (hx:x∈lv s) (hm:¬Mk m x):unm s (n9 m x true)<unm s m:=by
 unfold unm;refine filter_lt (λy _ h=>?_) x hx (by simpa[Mk] using hm) ?_
 ·by_cases q:Mk m y
  ·have:=(b04 m x y).2 (.inr q);unfold Mk at this;rw[this] at h;cases h
  ·simpa[Mk] using q
 ·have:=(b04 m x x).2 (.inl rfl);unfold Mk at this;rw[this];rfl
structure b8L (s:a7) (l:List Int) (q:g9) (m:List (Int × Bool)):Prop where
 nd:q.L.Nodup
 cap:q.Cap=((lv s).length:Int)
 mkd:∀x∈q.L,Mk m x
 rc:∀x,Mk m x→Rch s l x
omit hR in
theorem b8L.room {l:List Int} {q:g9} {m:List (Int × Bool)} (h:b8L s l q m) {x:Int} (hx:x∈lv s) (hm:¬Mk m x):q.L.length<(lv s).length:=by
 have:(x::q.L).length≤(lv s).length:=a3J (List.nodup_cons.2 ⟨λk=>hm (h.mkd x k),h.nd⟩) λy hy=>by
  rcases List.mem_cons.1 hy with rfl | k
  ·exact hx
  ·exact (h.rc y (h.mkd y k)).live
 simp only[List.length_cons] at this;omega
omit hR in
theorem c6P {q:g9} {x:Int} (h:(q.L.length:Int)<q.Cap) (h2:q.L.length≤1000):M2 q x=some (⟨q.L ++ [x],q.Cap⟩,0):=by
 unfold M2 I5 M3;rw[d2P,if_neg (by simp;omega)];have:=a83 (xs:=q.L) (i:=0) (j:=q.L.length) (by omega) (Nat.le_refl _);rw[show ((0:Nat):Int)=0 from rfl] at this;rw[this];simp only[List.take_length,List.drop_zero,d2P];rw[x4 (by omega) (by simp;omega)];rfl
omit hR in
theorem c9L {x:Int} {r:List Int} {c:Int} (h2:r.length≤1000):a0y ⟨x::r,c⟩=some (⟨r,c⟩,x,0):=by
 unfold a0y a2T I5 M3;simp only[d2P,List.length_cons];have e:(if (if (((r.length+1:Nat):Int))<1 then (((r.length+1:Nat):Int)) else 1) > 0 then (if (((r.length+1:Nat):Int))<1 then (((r.length+1:Nat):Int)) else 1) else 0:Int)=((1:Nat):Int):=by
  rw[if_neg (show ¬(((r.length+1:Nat):Int)<1) by omega)];rfl
 rw[e];have h1:=a83 (xs:=x::r) (i:=0) (j:=1) (by omega) (by simp);have h3:=a83 (xs:=x::r) (i:=1) (j:=r.length+1) (by omega) (by simp);rw[show ((0:Nat):Int)=0 from rfl] at h1;rw[h1,h3];simp only[d2P];have e1:List.drop 0 (List.take 1 (x::r)) = [x]:=by simp
 have e2:List.drop 1 (List.take (r.length+1) (x::r))=r:=by simp
 rw[e1,e2];rfl
abbrev b72(s:a7)(xs:List Int):Int × g9 × (List (Int × Bool))→Option ((Int × g9 × (List (Int × Bool))) ⊕ (g9 × (List (Int × Bool)))):=
 λ(s114,s115,s116)=>
   if (decide (s114<(xs.length:Int))) then
     (ix xs s114).bind λv126=>
     (a0c s v126).bind λv127=>
     if (v127==true) then
      if (!((y8 s116 v126).getD (false:Bool))) then
       (M2 s115 v126).bind λv128=>
       some (.inl (r8 (s114+1),v128.1,(n9 s116 v126 true)))
      else
      some (.inl (r8 (s114+1),s115,s116))
     else
     some (.inl (r8 (s114+1),s115,s116))
   else
   some (.inr (s115,s116))
theorem b5e{l xs:List Int}{q:g9}{m:List (Int × Bool)}(hxs:LB xs)(hlen:xs.length≤1000000)(h0:b8L s l q m)(hr:∀x∈xs,x∈lv s→Rch s l x) :
  ∃q' m',lp (b72 s xs) (0,q,m)=some (q',m')∧b8L s l q' m'∧(∀x,Mk m' x↔Mk m x∨x∈xs∧x∈lv s)∧(∀x,Mk m' x→Mk m x∨x∈q'.L)∧(∀x∈q.L,x∈q'.L)∧2*unm s m'+q'.L.length≤2*unm s m+q.L.length:=by
 have:=a13 (f:=b72 s xs) (t0:=(q,m)) xs.length (λk t=>b8L s l t.1 t.2∧(∀x,Mk t.2 x↔Mk m x∨x∈xs.take k∧x∈lv s)∧(∀x,Mk t.2 x→Mk m x∨x∈t.1.L)∧(∀x∈q.L,x∈t.1.L)∧2*unm s t.2+t.1.L.length≤2*unm s m+q.L.length)
  (λt=>b8L s l t.1 t.2∧(∀x,Mk t.2 x↔Mk m x∨x∈xs∧x∈lv s)∧(∀x,Mk t.2 x→Mk m x∨x∈t.1.L)∧(∀x∈q.L,x∈t.1.L)∧2*unm s t.2+t.1.L.length≤2*unm s m+q.L.length) (by omega)
  ⟨h0,λx=>by simp,λx h=>.inl h,λx h=>h,Nat.le_refl _⟩ (λk t hk hP=>?_) (λt hP=>?_)
 ·obtain⟨⟨q',m'⟩,h1,h2⟩:=this;exact⟨q',m',h1,h2⟩
 ·obtain⟨q1,m1⟩:=t;obtain⟨p1,p2,p3,p4,p5⟩:=hP;simp only at p1 p2 p3 p4 p5;left;have hle:=hxs _ (List.getElem_mem hk);have ht:∀x,x∈xs.take (k+1)↔x∈xs.take k∨x=xs[k]:=λx=>by rw[List.take_succ_eq_append_getElem hk,List.mem_append,List.mem_singleton]
  simp only[b72,Int.ofNat_lt,hk,decide_true,if_true,n8 hk,d2P,c1N hR hle];by_cases hv:xs[k]∈lv s
  ·rw[if_pos (by simpa using hv)];by_cases hm:Mk m1 xs[k]
   ·rw[if_neg (by rw[show (y8 m1 xs[k]).getD false=true from hm];decide),k8];refine⟨(q1,m1),rfl,p1,λx=>?_,p3,p4,p5⟩;rw[p2,ht];constructor
    ·rintro (a | ⟨a,b⟩);·exact .inl a
     ·exact .inr ⟨.inl a,b⟩
    ·rintro (a | ⟨a | rfl,b⟩);·exact .inl a
     ·exact .inr ⟨a,b⟩
     ·exact (p2 _).1 hm
   ·have hm':(y8 m1 xs[k]).getD false=false:=by simpa[Mk] using hm
    have hroom:=p1.room hv hm;have hl24:=D4 hR;rw[if_pos (by rw[hm'];decide),c6P (by rw[p1.cap];omega) (by omega),d2P,k8];refine⟨(⟨q1.L ++ [xs[k]],q1.Cap⟩,n9 m1 xs[k] true),rfl,⟨?_,p1.cap,λx hx=>?_,λx hx=>?_⟩,λx=>?_,λx hx=>?_,λx hx=>?_,?_⟩
    ·simp only;rw[List.nodup_append];refine⟨p1.nd,by simp,λa ha b hb e=>?_⟩;rw[List.mem_singleton] at hb;subst hb;subst e;exact hm (p1.mkd _ ha)
    ·simp only[List.mem_append,List.mem_singleton] at hx;rw[b04];rcases hx with a | a
     ·exact .inr (p1.mkd x a)
     ·exact .inl a
    ·rcases (b04 m1 xs[k] x).1 hx with rfl | a
     ·exact hr _ (List.getElem_mem hk) hv
     ·exact p1.rc x a
    ·simp only;rw[b04,p2,ht];constructor
     ·rintro (rfl | a | ⟨a,b⟩);·exact .inr ⟨.inr rfl,hv⟩
      ·exact .inl a
      ·exact .inr ⟨.inl a,b⟩
     ·rintro (a | ⟨a | a,b⟩);·exact .inr (.inl a)
      ·exact .inr (.inr ⟨a,b⟩)
      ·exact .inl a
    ·simp only[List.mem_append,List.mem_singleton];rcases (b04 m1 xs[k] x).1 hx with a | a
     ·exact .inr (.inr a)
     ·rcases p3 x a with b | b
      ·exact .inl b
      ·exact .inr (.inl b)
    ·simp only[List.mem_append];exact .inl (p4 x hx)
    ·have:=c7h hv hm;simp only[List.length_append,List.length_singleton];omega
  ·rw[if_neg (by simpa using hv),k8];refine⟨(q1,m1),rfl,p1,λx=>?_,p3,p4,p5⟩;rw[p2,ht];constructor
   ·rintro (a | ⟨a,b⟩);·exact .inl a
    ·exact .inr ⟨.inl a,b⟩
   ·rintro (a | ⟨a | rfl,b⟩);·exact .inl a
    ·exact .inr ⟨a,b⟩
    ·exact absurd b hv
 ·obtain⟨q1,m1⟩:=t;refine⟨(q1,m1),?_,?_⟩;·simp only[b72,Int.lt_irrefl,decide_false,Bool.false_eq_true,if_false]
  ·simpa using hP
theorem b5p(hF:FB s){l:List Int}(hl:LB l)(hlen:l.length≤1000000):∃m,a1B s l=some m∧∀x,Mk m x↔Rch s l x:=by
 unfold a1B a2n;simp only[jn,a1r hR,d2P];have h24:=D4 hR;obtain⟨q0,m0,e0,i0,i1,i2,i3,i4⟩:=b5e hR (l:=l) (xs:=l) (q:=⟨[],((lv s).length:Int)⟩) (m:=[]) hl hlen ⟨List.nodup_nil,rfl,(λx hx=>by cases hx),(λx hx=>by simp[Mk,y8] at hx)⟩ (λx h1 h2=>.base h1 h2);rw[show lp _ _=_ from e0,d2P];simp only;have hu:unm s []≤24:=Nat.le_trans (List.length_filter_le ..) h24;obtain⟨m,h1,h2⟩:=a9a (s0:=(q0,m0)) (f:=λ((s70,s71):g9 × (List (Int × Bool)))=>
    (I5 s70).bind λv74=>
    if (decide (v74 > 0)) then
     (a0y s70).bind λv75=>
     (a48 s v75.2.1).bind λv76=>
      (lp (b72 s v76) (0,v75.1,s71)).bind λe97=>
      (some (.inl (e97.1,e97.2)):Option ((g9 × List (Int × Bool)) ⊕ List (Int × Bool)))
    else
    some (.inr s71)) (λt=>b8L s l t.1 t.2∧(∀x∈l,x∈lv s→Mk t.2 x)∧∀a,Mk t.2 a→a∈t.1.L∨∀b∈outs s a,b∈lv s→Mk t.2 b) (λm=>∀x,Mk m x↔Rch s l x) (λt=>2*unm s t.2+t.1.L.length)
   ⟨i0,λx h1 h2=>(i1 x).2 (.inr ⟨h1,h2⟩),λa ha=>.inl ((i2 a ha).resolve_left (by simp[Mk,y8]))⟩ (by show 2*unm s m0+q0.L.length<_;simp only[List.length_nil] at i4;omega) (by
   rintro⟨q,m⟩ ⟨p1,p2,p3⟩;simp only at p1 p2 p3 ⊢;have hq:=a3J p1.nd λx hx=>(p1.rc x (p1.mkd x hx)).live;unfold I5;rw[d2P];cases hqL:q.L with
   | nil=>
    right;refine⟨m,by rw[if_neg (by simp)],λx=>⟨p1.rc x,λh=>?_⟩⟩;induction h with
    | base a b=>exact p2 _ a b
    | step _ a b ih=>
     rcases p3 _ ih with c | c
     ·rw[hqL] at c;cases c
     ·exact c _ a b
   | cons a r=>
    left;have hqe:q=⟨a::r,q.Cap⟩:=by rw[←hqL]
    have hal:a∈lv s:=(p1.rc a (p1.mkd a (by rw[hqL];exact List.mem_cons_self ..))).live;have ha:a≤9223372036854775807:=by have:=a4F hR hal;omega
    have hnd:=p1.nd;rw[hqL] at hnd hq;simp only[List.length_cons] at hq;obtain⟨q',m',e1,j0,j1,j2,j3,j4⟩:=b5e hR (l:=l) (xs:=outs s a) (q:=⟨r,q.Cap⟩) (m:=m) (λx hx=>c6J hR hF ha hx) (by have:=a40 hR a ha;omega) ⟨(List.nodup_cons.1 hnd).2,p1.cap,λx hx=>p1.mkd x (by rw[hqL];exact List.mem_cons_of_mem _ hx),p1.rc⟩ (λx h1 h2=>.step (p1.rc a (p1.mkd a (by rw[hqL];exact List.mem_cons_self ..))) h1 h2);refine⟨(q',m'),?_,⟨j0,λx h1 h2=>(j1 x).2 (.inl (p2 x h1 h2)),λb hb=>?_⟩,?_⟩
    ·rw[if_pos (by simp),hqe,c9L (by omega),d2P];simp only;rw[c4f hR ha,d2P,e1,d2P]
    ·simp only at hb ⊢;rcases j2 b hb with c | c
     ·rcases p3 b c with d | d
      ·rw[hqL] at d;rcases List.mem_cons.1 d with rfl | d
       ·exact .inr λy h1 h2=>(j1 y).2 (.inr ⟨h1,h2⟩)
       ·exact .inl (j3 b d)
      ·exact .inr λy h1 h2=>(j1 y).2 (.inl (d y h1 h2))
     ·exact .inl c
    ·show 2*unm s m'+q'.L.length<2*unm s m+(a::r).length;simp only[List.length_cons] at j4 ⊢;omega)
 refine⟨m,?_,h2⟩;rw[show lp _ _=_ from h1];rfl
end
end Go.Sh
namespace Go.Sh
theorem c3y(l:List Int)(x:Int)(hl:l.length≤1000000):∃r:Int,O2 l x=some r∧(0≤r↔x∈l):=by
 unfold O2;simp only[jn];by_cases h:x∈l
 ·obtain⟨i,hi,e⟩:=List.mem_iff_getElem.1 h;obtain⟨j,⟨hj,ej⟩,hmin⟩:=a0J (p:=λi=>∃hi:i<l.length,l[i]=x) ⟨i,hi,e⟩;refine⟨(j:Int),?_,by simp[h]⟩;refine a14 l.length (λk=>k≤j) (by omega) (Nat.zero_le _) (λk hk hP=>?_) (λhP=>by omega);simp only[Int.ofNat_lt,hk,decide_true,if_true,n8 hk,d2P];rcases Nat.lt_or_ge k j with q | q
  ·refine .inl ⟨?_,q⟩;rw[if_neg (by
    rw[beq_iff_eq];intro e;have:=hmin k ⟨hk,e.symm⟩;omega),k8]
  ·have:k=j:=by omega
   subst this;exact .inr ⟨_,by rw[if_pos (by simpa using ej.symm)],rfl⟩
 ·refine⟨-1,?_,by simp[h]⟩;refine a14 l.length (λk=>True) (by omega) trivial (λk hk hP=>.inl ⟨?_,trivial⟩) (λhP=>⟨.inr (),by simp,rfl⟩);simp only[Int.ofNat_lt,hk,decide_true,if_true,n8 hk,d2P];rw[if_neg (by
   rw[beq_iff_eq];intro e;exact h (e▸List.getElem_mem hk)),k8]
theorem contains_eq(l:List Int)(x:Int)(hl:l.length≤1000000):C9 l x=some (decide (x∈l)):=by
 obtain⟨r,h1,h2⟩:=c3y l x hl;unfold C9;rw[h1,d2P];congr 1;exact decide_eq_decide.2 h2
theorem a9S(l:List Int)(x:Int)(hl:l.length≤1000000):a7W l x=some (decide (x≠0∧x∈l)):=by
 unfold a7W;rw[a9k l x hl,d2P];congr 1;rw[decide_eq_decide,←a1H];omega
open Classical in
theorem b8t (all l:List Int) (b:Bool) (ha:all.length≤1000000) (hl:l.length≤1000000) (h0:∀x∈all,x≠0):a7X all l b=some (all.filter λx=>decide (x∈l)==b):=by
 unfold a7X;simp only[jn];rw[D7 all (λacc x=>if decide (x∈l)==b then acc ++ [x] else acc) id (λk acc=>acc.length≤k) (by omega) (by simp) (λk hk acc hb=>?_) (λb _=>?_)]
 ·simp only[d2P,id];rw[foldl_filter];rfl
 ·simp only[Int.ofNat_lt,hk,decide_true,if_true,n8 hk,d2P,a9S _ _ hl];have e:decide (all[k]≠0∧all[k]∈l)=decide (all[k]∈l):=decide_eq_decide.2 ⟨λq=>q.2,λq=>⟨h0 _ (List.getElem_mem hk),q⟩⟩;rw[e];by_cases q:(decide (all[k]∈l)==b)=true
  ·rw[if_pos q,if_pos q,x4 (by omega) (by simp;omega),d2P,k8];exact⟨rfl,by simp;omega⟩
  ·rw[if_neg q,if_neg q,k8];exact⟨rfl,by omega⟩
 ·simp only[Int.lt_irrefl,decide_false,Bool.false_eq_true,if_false];rfl
section
variable{s:a7}(hR:RtR (sO s))
include hR
theorem c0I:∀x∈lv s,x≠0:=λx hx=>by have:=a4F hR hx;omega
open Classical in
theorem c0t (hF:FB s) {l:List Int} (hl:LB l) (hlen:l.length≤1000000):a3P s l=some (rcd s l):=by
 obtain⟨m,h1,h2⟩:=b5p hR hF hl hlen;unfold a3P O9 a3a;rw[h1,d2P];simp only[jn,a1r hR,d2P];have h24:=D4 hR;rw[D7 (lv s) (λacc x=>if decide (Rch s l x) then acc ++ [x] else acc) id (λk acc=>acc.length≤k) (by omega) (by simp) (λk hk acc hb=>?_) (λb _=>?_)]
 ·simp only[d2P,id];rw[foldl_filter];rfl
 ·simp only[Int.ofNat_lt,hk,decide_true,if_true,n8 hk,d2P];by_cases q:Rch s l (lv s)[k]
  ·rw[if_pos ((h2 _).2 q),if_pos (by simpa using q),x4 (by omega) (by simp;omega),d2P,k8];exact⟨rfl,by simp;omega⟩
  ·rw[if_neg (λk=>q ((h2 _).1 k)),if_neg (by simpa using q),k8];exact⟨rfl,by omega⟩
 ·simp only[Int.lt_irrefl,decide_false,Bool.false_eq_true,if_false];rfl
open Classical in
theorem c6m (hF:FB s) {l:List Int} (hl:LB l) (hlen:l.length≤1000000):a52 s l=some (lst s l):=by
 obtain⟨m,h1,h2⟩:=b5p hR hF hl hlen;unfold a52 P0 a3b;rw[h1,d2P];simp only[jn,a1r hR,d2P];have h24:=D4 hR;rw[D7 (lv s) (λacc x=>if decide (¬Rch s l x) then acc ++ [x] else acc) id (λk acc=>acc.length≤k) (by omega) (by simp) (λk hk acc hb=>?_) (λb _=>?_)]
 ·simp only[d2P,id];rw[foldl_filter];rfl
 ·simp only[Int.ofNat_lt,hk,decide_true,if_true,n8 hk,d2P];by_cases q:Rch s l (lv s)[k]
  ·have e:(y8 m (lv s)[k]).getD false=true:=(h2 _).2 q;rw[if_neg (by rw[e];decide),if_neg (by simpa using q),k8];exact⟨rfl,by omega⟩
  ·have e:(y8 m (lv s)[k]).getD false=false:=by
    have:¬Mk m (lv s)[k]:=λk=>q ((h2 _).1 k);simpa[Mk] using this
   rw[if_pos (by rw[e];decide),if_pos (by simpa using q),x4 (by omega) (by simp;omega),d2P,k8];exact⟨rfl,by simp;omega⟩
 ·simp only[Int.lt_irrefl,decide_false,Bool.false_eq_true,if_false];rfl
def grow(s:a7)(all seen:List Int):List Int:=all.filter λx=>decide (x∈seen++seen.flatMap (outs s))
def Y0(s:a7)(all seen:List Int):Nat→List Int
 | 0=>seen
 | k+1=>grow s all (Y0 s all seen k)
omit hR in
theorem a87 (all seen:List Int) (k:Nat):Y0 s all seen (k+1)=grow s all (Y0 s all seen k):=rfl
omit hR in
theorem a9R {all seen:List Int} {x:Int}:x∈grow s all seen↔x∈all∧(x∈seen∨∃a∈seen,x∈outs s a):=by
 unfold grow;rw[List.mem_filter,decide_eq_true_iff,List.mem_append,List.mem_flatMap]
open Classical in
omit hR in
theorem c3u (l:List Int):Y0 s (lv s) ((lv s).filter λx=>decide (x∈l)==true) (lv s).length=rcd s l:=by
 have hsub:∀k x,x∈Y0 s (lv s) ((lv s).filter λx=>decide (x∈l)==true) k→Rch s l x:=by
  intro k;induction k with
  | zero=>
   intro x hx;have:=List.mem_filter.1 (show x∈(lv s).filter λx=>decide (x∈l)==true from hx);exact .base (by simpa using this.2) this.1
  | succ k ih=>
   intro x hx;rw[a87,a9R] at hx;rcases hx.2 with q | ⟨a,q1,q2⟩
   ·exact ih x q
   ·exact .step (ih a q1) q2 hx.1
 have hall:∀k x,x∈Y0 s (lv s) ((lv s).filter λx=>decide (x∈l)==true) k→x∈lv s:=λk x hx=>(hsub k x hx).live;have hfil:∀k,∃p:Int→Bool,Y0 s (lv s) ((lv s).filter λx=>decide (x∈l)==true) k=(lv s).filter p:=by
  intro k;cases k with
  | zero=>exact⟨_,rfl⟩
  | succ k=>exact⟨_,rfl⟩
 have hinc:∀k x,x∈Y0 s (lv s) ((lv s).filter λx=>decide (x∈l)==true) k→x∈Y0 s (lv s) ((lv s).filter λx=>decide (x∈l)==true) (k+1):=λk x hx=>a9R.2 ⟨hall k x hx,.inl hx⟩;have key:∀k,Cl s (Y0 s (lv s) ((lv s).filter λx=>decide (x∈l)==true) k)∨k≤(Y0 s (lv s) ((lv s).filter λx=>decide (x∈l)==true) k).length:=by
  intro k;induction k with
  | zero=>exact .inr (Nat.zero_le _)
  | succ k ih=>
   by_cases hc:Cl s (Y0 s (lv s) ((lv s).filter λx=>decide (x∈l)==true) k)
   ·left;have:∀x,x∈Y0 s (lv s) ((lv s).filter λx=>decide (x∈l)==true) (k+1)↔x∈Y0 s (lv s) ((lv s).filter λx=>decide (x∈l)==true) k:=λx=>⟨λhx=>by
     rw[a87,a9R] at hx;rcases hx.2 with q | ⟨a,q1,q2⟩
     ·exact q
     ·exact hc a q1 x q2 hx.1,hinc k x⟩
    intro a ha b hb hbl;exact (this b).2 (hc a ((this a).1 ha) b hb hbl)
   ·right;have hk:=ih.resolve_left hc;obtain⟨b,hb1,hb2,hb3⟩:∃b,b∈lv s∧b∈Y0 s (lv s) ((lv s).filter λx=>decide (x∈l)==true) (k+1)∧b∉Y0 s (lv s) ((lv s).filter λx=>decide (x∈l)==true) k:=by
     refine Classical.byContradiction λq=>hc λa ha b hb hbl=>Classical.byContradiction λq2=>q ⟨b,hbl,a9R.2 ⟨hbl,.inr ⟨a,ha,hb⟩⟩,q2⟩
    obtain⟨p,hp⟩:=hfil k;obtain⟨p',hp'⟩:=hfil (k+1);have hi:=hinc k;rw[hp] at hi hb3 hk;rw[hp'] at hi hb2 ⊢;have:=filter_lt (p:=p) (q:=p') (l:=lv s) (λx hx h=>(List.mem_filter.1 (hi x (List.mem_filter.2 ⟨hx,h⟩))).2) b hb1 (List.mem_filter.1 hb2).2 (by
     cases h:p b;·rfl
     ·exact absurd (List.mem_filter.2 ⟨hb1,h⟩) hb3)
    omega
 have hcl:Cl s (Y0 s (lv s) ((lv s).filter λx=>decide (x∈l)==true) (lv s).length):=by
  rcases key (lv s).length with q | q
  ·exact q
  ·obtain⟨p,hp⟩:=hfil (lv s).length;rw[hp] at q ⊢;have:(lv s).filter p=lv s:=List.filter_eq_self.2 λx hx=>by
    cases h:p x
    ·have:=filter_lt (p:=p) (q:=λ_=>true) (l:=lv s) (λ_ _ _=>rfl) x hx rfl h;rw[List.filter_eq_self.2 (λ_ _=>rfl)] at this;omega
    ·rfl
   rw[this];exact λ_ _ _ _ h=>h
 have hbase:∀k x,x∈l→x∈lv s→x∈Y0 s (lv s) ((lv s).filter λx=>decide (x∈l)==true) k:=by
  intro k;induction k with
  | zero=>intro x h1 h2;exact List.mem_filter.2 ⟨h2,by simpa using h1⟩
  | succ k ih=>intro x h1 h2;exact hinc k x (ih x h1 h2)
 have hiff:∀x,x∈Y0 s (lv s) ((lv s).filter λx=>decide (x∈l)==true) (lv s).length↔Rch s l x:=λx=>⟨hsub _ x,λq=>Rch.least hcl (hbase _) q⟩;obtain⟨p,hp⟩:=hfil (lv s).length;rw[hp];unfold rcd;refine List.filter_congr λx hx=>?_;have:=hiff x;rw[hp,List.mem_filter] at this;rw[Bool.eq_iff_iff,decide_eq_true_iff,←this];exact⟨λh=>⟨hx,h⟩,λh=>h.2⟩
open Classical in
theorem b4R {l:List Int} (hlen:l.length≤1000000):a7f (sO s) l=some (rcd s l):=by
 unfold a7f;have h24:=D4 hR;rw[a89 hR,d2P,b8t _ _ _ (by omega) hlen (c0I hR),d2P];simp only[jn];have hg:∀k,(Y0 s (lv s) ((lv s).filter λx=>decide (x∈l)==true) k).length≤24∧∀x∈Y0 s (lv s) ((lv s).filter λx=>decide (x∈l)==true) k,x∈lv s:=by
  intro k;cases k with
  | zero=>exact⟨Nat.le_trans (List.length_filter_le ..) h24,λx hx=>(List.mem_filter.1 (show x∈(lv s).filter λx=>decide (x∈l)==true from hx)).1⟩
  | succ k=>exact⟨Nat.le_trans (List.length_filter_le ..) h24,λx hx=>(List.mem_filter.1 (show x∈(lv s).filter _ from hx)).1⟩
 refine a0w (p:=λk=>(Y0 s (lv s) ((lv s).filter λx=>decide (x∈l)==true) k,(k:Int))) rfl (lv s).length (λ_=>True) (by omega) trivial (λk hk _=>.inl ⟨?_,trivial⟩) (λ_=>⟨_,by simp only[Int.lt_irrefl,decide_false,Bool.false_eq_true,if_false];rfl,by rw[c3u l]⟩);obtain⟨g1,g2⟩:=hg k;simp only[Int.ofNat_lt,hk,decide_true,if_true];rw[J8 (by omega) (by omega),d2P];generalize hS:Y0 s (lv s) ((lv s).filter λx=>decide (x∈l)==true) k=S at g1 g2;have hSle:∀x∈S,x≤9223372036854775807:=λx hx=>by have:=a4F hR (g2 x hx);omega
 have hflat:∀T:List Int,T.length≤24→(∀x∈T,x≤9223372036854775807)→(T.flatMap (outs s)).length≤96:=λT h1 h2=>by
  rw[List.length_flatMap];have:=b6S (λx=>(outs s x).length) 4 T λx hx=>a40 hR x (h2 x hx);omega
 rw[D7 S (λacc x=>acc++outs s x) id (λj acc=>acc.length≤S.length+4*j) (by omega) (by simp) (λj hj acc hb=>?_) (λb _=>?_)]
 ·simp only[d2P,id];rw[a10,b8t _ _ _ (by omega) (by
   have:=hflat S g1 hSle;simp only[List.length_append];omega) (c0I hR),d2P,k8,a87,hS]
  unfold grow;congr 3;refine List.filter_congr λx _=>?_;rw[Bool.eq_iff_iff];simp
 ·have ho:=a40 hR _ (hSle _ (List.getElem_mem hj));simp only[Int.ofNat_lt,hj,decide_true,if_true,n8 hj,d2P,b7V hR (hSle _ (List.getElem_mem hj))];rw[x4 (by omega) (by omega),d2P,k8];exact⟨rfl,by simp;omega⟩
 ·simp only[Int.lt_irrefl,decide_false,Bool.false_eq_true,if_false];rfl
end
end Go.Sh
namespace Go.Sh
abbrev Tb:=List b8
abbrev J9(p:b8):o8:=⟨p.State,p.Key,p.Val⟩
def pt(t:Tb)(j:Nat):b8:=t.getD j ⟨0,0,0⟩
theorem b1G{t:Tb}{j:Nat}(h:j<t.length):pt t j=t[j]:=by unfold pt;rw[List.getD_eq_getElem?_getD,List.getElem?_eq_getElem h];rfl
theorem b4X{t:Tb}{j:Nat}(h:j<t.length):ix t (j:Int)=some (pt t j):=by rw[n8 h,b1G h]
theorem b3u{t:Tb}{i:Nat}(h:i<t.length)(p:b8)(j:Nat):pt (t.set i p) j=if j=i then p else pt t j:=by
 unfold pt;rw[List.getD_eq_getElem?_getD,List.getD_eq_getElem?_getD,List.getElem?_set];by_cases e:i=j
 ·subst e;simp[h]
 ·rw[if_neg e,if_neg (Ne.symm e)]
def hm(n:Nat)(k:Int):Nat:=(r8 ((r8 (5*k))+1) % (n:Int)).toNat
theorem c3w{n:Nat}(h:1≤n)(k:Int):hm n k<n:=by
 unfold hm;have h1:=Int.emod_nonneg (r8 ((r8 (5*k))+1)) (show (n:Int)≠0 by omega);have h2:=Int.emod_lt_of_pos (r8 ((r8 (5*k))+1)) (show (0:Int)<n by omega);omega
theorem b2h{n:Nat}(h:1≤n)(h2:n≤1000)(k:Int):Z3 n k=some (hm n k:Int):=by
 unfold Z3 hm;rw[if_neg (by simp;omega)];generalize r8 ((r8 (5*k))+1)=a;have hp:=Int.emod_nonneg a (show (n:Int)≠0 by omega);have hl:=Int.emod_lt_of_pos a (show (0:Int)<n by omega);unfold rem;rw[if_neg (by omega),d2P,Int.toNat_of_nonneg hp];rw[Int.tmod_eq_emod];split;·rw[show a % (n:Int)-((0:Nat):Int)=a % n by simp,if_neg (by simp;omega)]
 ·have:((n:Int).natAbs:Int)=n:=by simp
  rw[this];rw[if_pos (by simp;omega),B0 (by omega) (by omega)];congr 1;omega
def pos(n:Nat)(k:Int)(d:Nat):Nat:=(hm n k+d) % n
theorem a2S{n:Nat}(h:1≤n)(k:Int)(d:Nat):pos n k d<n:=Nat.mod_lt _ h
theorem c74{n:Nat}(h:1≤n)(h8:n≤8):n=1∨n=2∨n=3∨n=4∨n=5∨n=6∨n=7∨n=8:=by omega
theorem c3S{n m i:Nat}(h:1≤n)(h8:n≤8)(hm:m<n)(hi:i<n):∃d,d<n∧(m+d) % n=i:=by
 refine⟨(i+n-m) % n,Nat.mod_lt _ h,?_⟩;rcases c74 h h8 with rfl | rfl | rfl | rfl | rfl | rfl | rfl | rfl <;> omega
theorem c6s{n m d d':Nat}(h:1≤n)(h8:n≤8)(hd:d<n)(hd':d'<n)(e:(m+d) % n=(m+d') % n):d=d':=by
 rcases c74 h h8 with rfl | rfl | rfl | rfl | rfl | rfl | rfl | rfl <;> omega
theorem b70{n:Nat}(h:1≤n)(h8:n≤8)(k:Int){i:Nat}(hi:i<n):∃d,d<n∧pos n k d=i:=c3S h h8 (c3w h k) hi
theorem c6N{n:Nat}(h:1≤n)(h8:n≤8){k:Int}{d d':Nat}(hd:d<n)(hd':d'<n)(e:pos n k d=pos n k d'):d=d':=c6s h h8 hd hd' e
structure HR (t:Tb):Prop where
 l1:1≤t.length
 l8:t.length≤8
 st:∀i,i<t.length→((pt t i).State=0∨(pt t i).State=1∨(pt t i).State=2)∧((pt t i).State≠1→(pt t i).Key=0∧(pt t i).Val=0)
 uq:∀i j,i<t.length→j<t.length→(pt t i).State=1→(pt t j).State=1→(pt t i).Key=(pt t j).Key→i=j
 rd:∀i,i<t.length→(pt t i).State=1→∀d,d<t.length→(∀d',d'≤d→pos t.length (pt t i).Key d'≠i)→(pt t (pos t.length (pt t i).Key d)).State≠0
def Fk(t:Tb)(k:Int)(i:Nat):Prop:=i<t.length∧(pt t i).State=1∧(pt t i).Key=k
instance(t:Tb)(k:Int)(i:Nat):Decidable (Fk t k i):=by unfold Fk;infer_instance
theorem step_eq{n:Nat}(h:1≤n)(h2:n≤1000)(k:Int){d:Nat}(hd:d<n):rem (r8 ((hm n k:Int)+d)) n=some ((pos n k d:Nat):Int):=by
 have:=c3w h k;rw[B0 (by omega) (by omega),a79 (by omega) (by omega)];unfold pos;simp[Int.natCast_emod]
theorem b4O{t:Tb}(h1:1≤t.length)(h8:t.length≤8)(k:Int) :
  (∃d,d<t.length∧(∀j,j<d→(pt t (pos t.length k j)).State≠0∧¬Fk t k (pos t.length k j))∧Fk t k (pos t.length k d)∧U5 t k=some ((pos t.length k d:Nat):Int)) ∨
  (∃d,d≤t.length∧(∀j,j<d→(pt t (pos t.length k j)).State≠0∧¬Fk t k (pos t.length k j))∧(d=t.length∨(pt t (pos t.length k d)).State=0)∧U5 t k=some (-1)):=by
 unfold U5;simp only[jn,a3i,d2P];generalize hq:(lp (S:=Int) (E:=Int ⊕ Unit) _ 0)=q;have body:∀d:Nat,d<t.length→(if (decide ((d:Int)<(t.length:Int))) then
    (Z3 (t.length:Int) k).bind λv14=>
    (rem (r8 (v14+d)) (t.length:Int)).bind λv15=>
    (ix t v15).bind λv16=>
    if (v16.State==0) then
     some (.inr (.inr ()))
    else
    if ((v16.State==1)&&(v16.Key==k)) then
     some (.inr (.inl v15))
    else
    some (.inl (r8 ((d:Int)+1)))
   else
   some (.inr (.inr ())):Option (Int ⊕ (Int ⊕ Unit)))=if (pt t (pos t.length k d)).State=0 then some (.inr (.inr ())) else if Fk t k (pos t.length k d) then some (.inr (.inl ((pos t.length k d:Nat):Int))) else some (.inl ((d+1:Nat):Int)):=λd hd=>by
  have hp:=a2S h1 k d;rw[if_pos (by simpa using hd),b2h h1 (by omega),d2P,step_eq h1 (by omega) k hd,d2P,b4X hp,d2P,k8 (by omega)];by_cases a:(pt t (pos t.length k d)).State=0
  ·rw[if_pos (by simpa using a),if_pos a]
  ·rw[if_neg (by simpa using a),if_neg a];by_cases b:Fk t k (pos t.length k d)
   ·rw[if_pos (by simp[b.2.1,b.2.2]),if_pos b]
   ·rw[if_neg (by simp;exact λh1 h2=>b ⟨hp,h1,h2⟩),if_neg b]
 have key:=b43 (f:=λ(s12:Int)=>if (decide (s12<(t.length:Int))) then
    (Z3 (t.length:Int) k).bind λv14=>
    (rem (r8 (v14+s12)) (t.length:Int)).bind λv15=>
    (ix t v15).bind λv16=>
    if (v16.State==0) then
     some (.inr (.inr ()))
    else
    if ((v16.State==1)&&(v16.Key==k)) then
     some (.inr (.inl v15))
    else
    some (.inl (r8 (s12+1)))
   else
   some (.inr (.inr ()))) t.length (λd=>∀j,j<d→(pt t (pos t.length k j)).State≠0∧¬Fk t k (pos t.length k j))
   (λ(e:Int ⊕ Unit)=>(∃d,d<t.length∧(∀j,j<d→(pt t (pos t.length k j)).State≠0∧¬Fk t k (pos t.length k j))∧Fk t k (pos t.length k d)∧e = .inl ((pos t.length k d:Nat):Int)) ∨
    (∃d,d≤t.length∧(∀j,j<d→(pt t (pos t.length k j)).State≠0∧¬Fk t k (pos t.length k j))∧(d=t.length∨(pt t (pos t.length k d)).State=0)∧e = .inr ())) (by omega) (λj hj=>by omega)
   (λd hd hP=>by
    rw[body d hd];by_cases a:(pt t (pos t.length k d)).State=0
    ·rw[if_pos a];exact .inr ⟨_,rfl,.inr ⟨d,by omega,hP,.inr a,rfl⟩⟩
    ·rw[if_neg a];by_cases b:Fk t k (pos t.length k d)
     ·rw[if_pos b];exact .inr ⟨_,rfl,.inl ⟨d,hd,hP,b,rfl⟩⟩
     ·rw[if_neg b];refine .inl ⟨rfl,λj hj=>?_⟩;rcases Nat.lt_or_ge j d with q | q
      ·exact hP j q
      ·have:j=d:=by omega
       subst this;exact⟨a,b⟩)
   (λhP=>⟨.inr (),by simp,.inr ⟨t.length,Nat.le_refl _,hP,.inl rfl,rfl⟩⟩)
 obtain⟨e,he,hQ⟩:=key;rw[he] at hq;subst hq;rcases hQ with ⟨d,a1,a2,a3,rfl⟩ | ⟨d,a1,a2,a3,rfl⟩;·exact .inl ⟨d,a1,a2,a3,rfl⟩
 ·exact .inr ⟨d,a1,a2,a3,rfl⟩
theorem a5E{t:Tb}(hR:HR t){k:Int}{i:Nat}(hi:Fk t k i):U5 t k=some (i:Int):=by
 obtain⟨di,hdi,hpi⟩:=b70 hR.l1 hR.l8 k hi.1;have road:∀d,d<di→(pt t (pos t.length k d)).State≠0:=λd hd=>by
  have:=hR.rd i hi.1 hi.2.1 d (by omega) (λd' hd' e=>by
   rw[hi.2.2] at e;have:=c6N hR.l1 hR.l8 (by omega) hdi (e.trans hpi.symm);omega)
  rwa [hi.2.2] at this
 rcases b4O hR.l1 hR.l8 k with ⟨d,a1,a2,a3,a4⟩ | ⟨d,a1,a2,a3,a4⟩;·rw[a4,hR.uq _ i (a2S hR.l1 k d) hi.1 a3.2.1 hi.2.1 (by rw[a3.2.2,hi.2.2])]
 ·exfalso;rcases Nat.lt_or_ge di d with q | q
  ·exact (a2 di q).2 (by rw[hpi];exact hi)
  ·rcases a3 with rfl | a3
   ·omega
   ·rcases Nat.lt_or_ge d di with q' | q'
    ·exact road d q' a3
    ·have:d=di:=by omega
     subst this;rw[hpi,hi.2.1] at a3;cases a3
theorem a4d{t:Tb}(h1:1≤t.length)(h8:t.length≤8){k:Int}(hi:∀i,¬Fk t k i):U5 t k=some (-1):=by
 rcases b4O h1 h8 k with ⟨d,a1,a2,a3,a4⟩ | ⟨d,a1,a2,a3,a4⟩;·exact absurd a3 (hi _)
 ·exact a4
theorem b1C(t:Tb)(k:Int):(∃i,Fk t k i)∨∀i,¬Fk t k i:=by
 by_cases h:∃i,Fk t k i
 ·exact .inl h
 ·exact .inr λi hi=>h ⟨i,hi⟩
theorem b35{t:Tb}{i:Nat}(h8:t.length≤1000)(hi:i<t.length)(p:b8):a02 t (i:Int) p=some (t.set i p):=by
 unfold a02 B6;rw[J8 (by omega) (by omega),d2P,n8 hi,d2P,Int.toNat_natCast]
inductive b1S (t:Tb) (k v:Int):Tb × Int→Prop
 | old (i:Nat) (hi:Fk t k i):b1S t k v (t.set i ⟨1,k,v⟩,0)
 | new (d:Nat) (hn:∀i,¬Fk t k i) (hd:d<t.length) (hb:∀j,j<d→(pt t (pos t.length k j)).State=1) (hf:(pt t (pos t.length k d)).State≠1):b1S t k v (t.set (pos t.length k d) ⟨1,k,v⟩,0)
 | full (hn:∀i,¬Fk t k i) (ha:∀i,i<t.length→(pt t i).State=1):b1S t k v (t,8)
theorem b9z{t:Tb}(hR:HR t)(k v:Int):∃r,a62 t k v=some r∧b1S t k v r:=by
 have h1:=hR.l1;have h8:=hR.l8;unfold a62;rcases b1C t k with ⟨i,hi⟩ | hn
 ·rw[a5E hR hi,d2P,if_pos (by simp),b35 (by omega) hi.1];exact⟨_,rfl,.old i hi⟩
 ·rw[a4d h1 h8 hn,d2P,if_neg (by decide)];simp only[jn,a3i,d2P];have key:=b43 (f:=λ(s15:Int)=>
   if (decide (s15<(t.length:Int))) then
    (Z3 (t.length:Int) k).bind λv17=>
    (rem (r8 (v17+s15)) (t.length:Int)).bind λv18=>
    (ix t v18).bind λv19=>
    if (v19.State != 1) then
     (a02 t v18 (⟨1,k,v⟩:b8)).bind λv20=>
     some (Sum.inr (.inl (v20,(0:Int))))
    else
    some (.inl (r8 (s15+1)))
   else
   some (.inr (.inr ()))) t.length (λd=>∀j,j<d→(pt t (pos t.length k j)).State=1)
   (λ(e:(Tb × Int) ⊕ Unit)=>(∃r,e = .inl r∧b1S t k v r)∨(e = .inr ()∧b1S t k v (t,8))) (by omega) (λj hj=>by omega)
   (λd hd hP=>by
    have hp:=a2S h1 k d;rw[if_pos (by simpa using hd),b2h h1 (by omega),d2P,step_eq h1 (by omega) k hd,d2P,b4X hp,d2P];by_cases a:(pt t (pos t.length k d)).State=1
    ·rw[if_neg (by simpa using a),k8 (by omega)];refine .inl ⟨rfl,λj hj=>?_⟩;rcases Nat.lt_or_ge j d with q | q
     ·exact hP j q
     ·have:j=d:=by omega
      subst this;exact a
    ·rw[if_pos (by simpa using a),b35 (by omega) hp,d2P];exact .inr ⟨_,rfl,.inl ⟨_,rfl,.new d hn hd hP a⟩⟩)
   (λhP=>⟨.inr (),by simp,.inr ⟨rfl,.full hn λi hi=>by
    obtain⟨d,hd,rfl⟩:=b70 h1 h8 k hi;exact hP d hd⟩⟩)
  obtain⟨e,he,hQ⟩:=key;rw[he,d2P];rcases hQ with ⟨r,rfl,hr⟩ | ⟨rfl,hr⟩;·exact⟨r,rfl,hr⟩
  ·exact⟨_,rfl,hr⟩
theorem b9e{t:Tb}(hR:HR t){k:Int}{i:Nat}(hi:Fk t k i):J0 t k=some ((pt t i).Val,0):=by
 unfold J0;rw[a5E hR hi,d2P,if_neg (by simp),b4X hi.1,d2P]
theorem b9d{t:Tb}(hR:HR t){k:Int}(hi:∀i,¬Fk t k i):J0 t k=some (0,9):=by
 unfold J0;rw[a4d hR.l1 hR.l8 hi,d2P,if_pos (by decide)]
theorem a7L{t:Tb}(hR:HR t){k:Int}{i:Nat}(hi:Fk t k i):U4 t k=some (t.set i ⟨2,0,0⟩,(pt t i).Val,0):=by
 have:=hR.l8;unfold U4;rw[a5E hR hi,d2P,if_neg (by simp),b35 (by omega) hi.1,d2P,b4X hi.1,d2P]
theorem a7K{t:Tb}(hR:HR t){k:Int}(hi:∀i,¬Fk t k i):U4 t k=some (t,0,9):=by
 unfold U4;rw[a4d hR.l1 hR.l8 hi,d2P,if_pos (by decide)]
theorem HR.set{t:Tb}(hR:HR t){i:Nat}(hi:i<t.length){p:b8}(h0:p.State=1∨p=⟨2,0,0⟩)
  (hu:p.State=1→∀j,j≠i→¬Fk t p.Key j)(hr:p.State=1→∀d,d<t.length→(∀d',d'≤d→pos t.length p.Key d'≠i)→(pt t (pos t.length p.Key d)).State≠0):HR (t.set i p):=by
 have hnz:p.State≠0:=by
  rcases h0 with h | rfl
  ·omega
  ·simp
 refine⟨by simpa using hR.l1,by simpa using hR.l8,λj hj=>?_,λj j' hj hj' s1 s2 hk=>?_,λj hj s1 d hd hne=>?_⟩ <;> simp only[List.length_set] at *
 ·rw[b3u hi];split
  ·rcases h0 with h | rfl
   ·exact⟨.inr (.inl h),λq=>absurd h q⟩
   ·exact⟨.inr (.inr rfl),λ_=>⟨rfl,rfl⟩⟩
  ·exact hR.st j hj
 ·rw[b3u hi] at s1 s2 hk;rw[b3u hi] at hk;by_cases e1:j=i <;> by_cases e2:j'=i
  ·rw[e1,e2]
  ·rw[if_pos e1] at s1 hk;rw[if_neg e2] at s2 hk;exact absurd ⟨hj',s2,hk.symm⟩ (hu s1 j' e2)
  ·rw[if_neg e1] at s1 hk;rw[if_pos e2] at s2 hk;exact absurd ⟨hj,s1,hk⟩ (hu s2 j e1)
  ·rw[if_neg e1] at s1 hk;rw[if_neg e2] at s2 hk;exact hR.uq j j' hj hj' s1 s2 hk
 ·simp only[b3u hi] at s1 hne ⊢;by_cases e1:j=i
  ·simp only[if_pos e1] at s1 hne ⊢;split;·exact hnz
   ·exact hr s1 d hd (by rw[←e1];exact hne)
  ·simp only[if_neg e1] at s1 hne ⊢;split;·exact hnz
   ·exact hR.rd j hj s1 d hd hne
theorem a9e{t:Tb}(hR:HR t){k v:Int}{r:Tb × Int}(h:b1S t k v r):HR r.1:=by
 cases h with
 | old i hi=>
  refine hR.set hi.1 (.inl rfl) (λ_ j hj q=>hj (hR.uq j i q.1 hi.1 q.2.1 hi.2.1 (q.2.2.trans hi.2.2.symm))) λ_ d hd hne=>?_;have:=hR.rd i hi.1 hi.2.1 d hd (by rw[hi.2.2];exact hne);rwa [hi.2.2] at this
 | new d hn hd hb hf=>
  refine hR.set (a2S hR.l1 k d) (.inl rfl) (λ_ j _=>hn j) λ_ d' hd' hne=>?_;rcases Nat.lt_or_ge d' d with q | q
  ·have:=hb d' q;simp only;omega
  ·exact absurd rfl (hne d q)
 | full hn ha=>exact hR
theorem a4a{t:Tb}(hR:HR t){i:Nat}(hi:i<t.length):HR (t.set i ⟨2,0,0⟩):=hR.set hi (.inr rfl) (λq=>by cases q) λq=>by cases q
end Go.Sh
namespace Go.Sh
theorem ixm{t:Tb}{j:Nat}(h:j<t.length):ix (t.map J9) (j:Int)=some (J9 (pt t j)):=by rw[a0F,b4X h];rfl
theorem c4x{t:Tb}(h8:t.length≤1000){k:Int}{i:Nat}(hi:Fk t k i)(hf:∀j,j<i→¬Fk t k j):a2G (t.map J9) k=some (i:Int):=by
 unfold a2G;simp only[jn];refine a14 t.length (λj=>j≤i) (by omega) (Nat.zero_le _) (λj hj hP=>?_) (λhP=>by have:=hi.1;omega);rw[if_pos (by simpa using hj),ixm hj,d2P];by_cases e:j=i
 ·subst e;exact .inr ⟨.inl (j:Int),by rw[if_pos (by simp[J9,hi.2.1,hi.2.2])],rfl⟩
 ·have:=hf j (by omega);refine .inl ⟨by rw[if_neg (by simp[J9];exact λh1 h2=>this ⟨hj,h1,h2⟩),k8 (by omega)],by omega⟩
theorem c4w{t:Tb}(h8:t.length≤1000){k:Int}(hf:∀j,¬Fk t k j):a2G (t.map J9) k=some (-1):=by
 unfold a2G;simp only[jn];refine a14 t.length (λj=>True) (by omega) trivial (λj hj hP=>?_) (λhP=>⟨.inr (),by simp,rfl⟩);rw[if_pos (by simpa using hj),ixm hj,d2P];refine .inl ⟨by rw[if_neg (by simp[J9];exact λh1 h2=>hf j ⟨hj,h1,h2⟩),k8 (by omega)],trivial⟩
theorem c3k{t:Tb}{k:Int}(h:∃i,Fk t k i):∃i,Fk t k i∧∀j,j<i→¬Fk t k j:=by
 obtain⟨i,h1,h2⟩:=a0J h;exact⟨i,h1,λj hj q=>by have:=h2 j q;omega⟩
theorem b5n{t:Tb}{i:Nat}(h8:t.length≤1000)(hi:i<t.length)(p:b8):a2H (t.map J9) (i:Int) (J9 p)=some ((t.set i p).map J9):=by
 unfold a2H;rw[J8 (by omega) (by simp;omega),d2P,ixm hi,d2P,Int.toNat_natCast,List.map_set]
theorem b8c:b79=Z3:=rfl
theorem c7Z{n:Nat}(h1:1≤n)(h8:n≤8)(k:Int)(d:Nat):rem (r8 (((pos n k d:Nat):Int)+1)) n=some ((pos n k (d+1):Nat):Int):=by
 have:=a2S h1 k d;rw[B0 (by omega) (by omega),a79 (by omega) (by omega)];unfold pos;congr 1;have:((hm n k+d) % n+1) % n=(hm n k+(d+1)) % n:=by rw[Nat.mod_add_mod];rfl
 rw[←this];simp[Int.natCast_emod]
theorem b71{n:Nat}(h1:1≤n)(k:Int):pos n k 0=hm n k:=by
 unfold pos;rw[Nat.add_zero,Nat.mod_eq_of_lt (c3w h1 k)]
end Go.Sh
namespace Go.Sh
def Has(t:Tb)(k v:Int):Prop:=∃i,Fk t k i∧(pt t i).Val=v
theorem c9b{t:Tb}{k:Int}:(∀v,¬Has t k v)↔∀i,¬Fk t k i:=by
 constructor;·intro h i hi;exact h _ ⟨i,hi,rfl⟩
 ·rintro h v ⟨i,hi,_⟩;exact h i hi
theorem c9c(t:Tb)(k:Int):(∃v,Has t k v)∨∀v,¬Has t k v:=by
 by_cases h:∃v,Has t k v
 ·exact .inl h
 ·exact .inr λv hv=>h ⟨v,hv⟩
theorem Has.fn{t:Tb}(hR:HR t){k v v':Int}(h:Has t k v)(h':Has t k v'):v=v':=by
 obtain⟨i,a,rfl⟩:=h;obtain⟨j,b,rfl⟩:=h';rw[hR.uq i j a.1 b.1 a.2.1 b.2.1 (a.2.2.trans b.2.2.symm)]
theorem c0v{t:Tb}(hR:HR t){k v:Int}(h:Has t k v):J0 t k=some (v,0):=by
 obtain⟨i,a,rfl⟩:=h;exact b9e hR a
theorem c1K{t:Tb}(hR:HR t){k:Int}(h:∀v,¬Has t k v):J0 t k=some (0,9):=b9d hR (c9b.1 h)
theorem b53{t:Tb}{i:Nat}(hi:i<t.length){k v:Int}(p:b8)(h:∀j,j≠i→Fk t p.Key j→p.State≠1)(k' v':Int) :
  Has (t.set i p) k' v'↔(p.State=1∧p.Key=k'∧p.Val=v')∨∃j,j≠i∧Fk t k' j∧(pt t j).Val=v':=by
 unfold Has Fk;simp only[List.length_set,b3u hi];constructor
 ·rintro⟨j,⟨h1,h2,h3⟩,h4⟩;by_cases e:j=i
  ·rw[if_pos e] at h2 h3 h4;exact .inl ⟨h2,h3,h4⟩
  ·rw[if_neg e] at h2 h3 h4;exact .inr ⟨j,e,⟨h1,h2,h3⟩,h4⟩
 ·rintro (⟨h1,h2,h3⟩ | ⟨j,e,⟨h1,h2,h3⟩,h4⟩);·exact⟨i,by simp[hi,h1,h2,h3]⟩
  ·exact⟨j,by simp[e,h1,h2,h3,h4]⟩
theorem b6o{t:Tb}(hR:HR t){k v:Int}{r:Tb × Int}(h:b1S t k v r)(h0:r.2=0)(k' v':Int):Has r.1 k' v'↔(k'=k∧v'=v)∨(k'≠k∧Has t k' v'):=by
 cases h with
 | old i hi=>
  rw[b53 (k:=k) (v:=v) hi.1 _ (λj hj q=>absurd (hR.uq j i q.1 hi.1 q.2.1 hi.2.1 (q.2.2.trans hi.2.2.symm)) hj)];constructor
  ·rintro (⟨_,rfl,rfl⟩ | ⟨j,e,h1,h2⟩);·exact .inl ⟨rfl,rfl⟩
   ·refine .inr ⟨λq=>?_,j,h1,h2⟩;subst q;exact e (hR.uq j i h1.1 hi.1 h1.2.1 hi.2.1 (h1.2.2.trans hi.2.2.symm))
  ·rintro (⟨rfl,rfl⟩ | ⟨e,j,h1,h2⟩);·exact .inl ⟨rfl,rfl,rfl⟩
   ·refine .inr ⟨j,λq=>?_,h1,h2⟩;subst q;exact e (h1.2.2.symm.trans hi.2.2)
 | new d hn hd hb hf=>
  rw[b53 (k:=k) (v:=v) (a2S hR.l1 k d) _ (λj hj q=>absurd q (hn j))];constructor
  ·rintro (⟨_,rfl,rfl⟩ | ⟨j,e,h1,h2⟩);·exact .inl ⟨rfl,rfl⟩
   ·refine .inr ⟨λq=>?_,j,h1,h2⟩;subst q;exact hn j h1
  ·rintro (⟨rfl,rfl⟩ | ⟨e,j,h1,h2⟩);·exact .inl ⟨rfl,rfl,rfl⟩
   ·refine .inr ⟨j,λq=>?_,h1,h2⟩;subst q;exact hf h1.2.1
 | full hn ha=>cases h0
theorem b2Y{t:Tb}(hR:HR t){k:Int}{i:Nat}(hi:Fk t k i)(k' v':Int):Has (t.set i ⟨2,0,0⟩) k' v'↔k'≠k∧Has t k' v':=by
 rw[b53 (k:=k) (v:=0) hi.1 _ (λj hj q=>by simp)];constructor
 ·rintro (⟨h,_⟩ | ⟨j,e,h1,h2⟩);·cases h
  ·refine⟨λq=>?_,j,h1,h2⟩;subst q;exact e (hR.uq j i h1.1 hi.1 h1.2.1 hi.2.1 (h1.2.2.trans hi.2.2.symm))
 ·rintro⟨e,j,h1,h2⟩;refine .inr ⟨j,λq=>?_,h1,h2⟩;subst q;exact e (h1.2.2.symm.trans hi.2.2)
def keys(t:Tb):List Int:=(t.filter (·.State==1)).map (·.Key)
theorem b22{α β:Type}(p:α→Bool)(f:α→β)(l:List α)(k:Nat)(h:k<l.length):((l.take (k+1)).filter p).map f=((l.take k).filter p).map f++(if p l[k] then [f l[k]] else []):=by
 rw[List.take_succ_eq_append_getElem h,List.filter_append,List.map_append];congr 1;simp only[List.filter_cons,List.filter_nil];split <;> rfl
theorem keys_eq{t:Tb}(h:t.length≤1000):a4T t=some (keys t):=by
 unfold a4T keys;simp only[jn];refine L1 t.length (λk l=>l=((t.take k).filter (·.State==1)).map (·.Key)) (by omega) (by simp) ?_ (λl hl=>⟨_,by simp;rfl,by rw[hl,List.take_length]⟩);rintro k l hk rfl;left;rw[b22 _ _ _ _ hk];rw[if_pos (by simpa using hk),n8 hk,d2P,k8 (by omega)];have hle:(List.map (·.Key) (List.filter (·.State==1) (List.take k t))).length≤1000:=by
  rw[List.length_map];exact Nat.le_trans (List.length_filter_le ..) (by simp;omega)
 by_cases c:(t[k].State==1)=true
 ·rw[if_pos c,if_pos c,x4 (by omega) (by simp only[List.length_cons,List.length_nil];omega),d2P];exact⟨_,rfl,rfl⟩
 ·rw[if_neg c,if_neg c];exact⟨_,rfl,by simp⟩
theorem c4z{t:Tb}(h:t.length≤1000):b3C (t.map J9)=some (keys t):=by
 unfold b3C keys;simp only[jn];refine L1 t.length (λk l=>l=((t.take k).filter (·.State==1)).map (·.Key)) (by omega) (by simp) ?_ (λl hl=>⟨_,by simp;rfl,by rw[hl,List.take_length]⟩);rintro k l hk rfl;left;rw[b22 _ _ _ _ hk];rw[if_pos (by simpa using hk),a0F,n8 hk,Option.map_some,d2P,k8 (by omega)];have hle:(List.map (·.Key) (List.filter (·.State==1) (List.take k t))).length≤1000:=by
  rw[List.length_map];exact Nat.le_trans (List.length_filter_le ..) (by simp;omega)
 by_cases c:(t[k].State==1)=true
 ·rw[if_pos (by simpa[J9] using c),if_pos c,x4 (by omega) (by simp only[List.length_cons,List.length_nil];omega),d2P];exact⟨_,rfl,rfl⟩
 ·rw[if_neg (by simpa[J9] using c),if_neg c];exact⟨_,rfl,by simp⟩
theorem b6B{t:Tb}(hR:HR t)(k:Int):a2G (t.map J9) k=U5 t k:=by
 have h8:=hR.l8;rcases b1C t k with ⟨i,hi⟩ | hn
 ·rw[a5E hR hi];obtain⟨f,hf1,hf2⟩:=c3k ⟨i,hi⟩;rw[c4x (by omega) hf1 hf2,hR.uq f i hf1.1 hi.1 hf1.2.1 hi.2.1 (hf1.2.2.trans hi.2.2.symm)]
 ·rw[a4d hR.l1 hR.l8 hn,c4w (by omega) hn]
theorem c4y{t:Tb}(hR:HR t)(k:Int):b0g (t.map J9) k=J0 t k:=by
 unfold b0g J0;rw[b6B hR];rcases b1C t k with ⟨i,hi⟩ | hn;·rw[a5E hR hi,d2P,d2P,if_neg (by simp),if_neg (by simp),ixm hi.1,b4X hi.1];rfl
 ·rw[a4d hR.l1 hR.l8 hn];rfl
theorem c4v{t:Tb}(hR:HR t)(k:Int):a7g (t.map J9) k=(U4 t k).map λr=>(r.1.map J9,r.2):=by
 have h8:=hR.l8;rcases b1C t k with ⟨i,hi⟩ | hn
 ·rw[a7L hR hi];unfold a7g;rw[b6B hR,a5E hR hi,d2P,if_neg (by simp)];have:=b5n (t:=t) (by omega) hi.1 ⟨2,0,0⟩;dsimp only[J9] at this;rw[this,d2P,ixm hi.1];rfl
 ·rw[a7K hR hn];unfold a7g;rw[b6B hR,a4d hR.l1 hR.l8 hn];rfl
theorem d1v{t:Tb}(hR:HR t)(k v:Int){r:Tb × Int}(h:b1S t k v r):b6u (t.map J9) k v=some (r.1.map J9,r.2):=by
 have h1:=hR.l1;have h8:=hR.l8;unfold b6u;rw[b6B hR];have hw:∀i,i<t.length→a2H (t.map J9) (i:Int) ⟨1,k,v⟩=some ((t.set i ⟨1,k,v⟩).map J9):=λi hi=>b5n (t:=t) (by omega) hi ⟨1,k,v⟩;cases h with
 | old i hi=>
  rw[a5E hR hi,d2P,if_pos (by simp),hw i hi.1];rfl
 | new d hn hd hb hf=>
  rw[a4d h1 h8 hn,d2P,if_neg (by decide),List.length_map,b8c,b2h h1 (by omega),d2P];simp only[jn];rw[←b71 h1 k];obtain⟨e,he,hQ⟩:=b6b (f:=λ((s15,s16):Int × Int)=>
   if (decide (s16<(t.length:Int))) then
    (ix (t.map J9) s15).bind λv19=>
    if (v19.State != 1) then
     (a2H (t.map J9) s15 (⟨1,k,v⟩:o8)).bind λv20=>
     some (Sum.inr (Sum.inl (β:=Unit) (v20,(0:Int))))
    else
    (rem (r8 (s15+1)) (t.length:Int)).bind λv21=>
    some (Sum.inl (v21,r8 (s16+1)))
   else
   some (Sum.inr (Sum.inr ()))) (λd=>(((pos t.length k d:Nat):Int),(d:Int))) d (λ_=>True) (λe=>e = .inl ((t.set (pos t.length k d) ⟨1,k,v⟩).map J9,0)) (by omega) trivial (λj hj _=>by
    have hp:=a2S h1 k j;dsimp only;rw[if_pos (by simp;omega),ixm hp,d2P,if_neg (by simpa[J9] using hb j hj),c7Z h1 h8,d2P,k8 (by omega)];exact .inl ⟨rfl,trivial⟩) (λ_=>by
    have hp:=a2S h1 k d;dsimp only;rw[if_pos (by simpa using hd),ixm hp,d2P,if_pos (by simpa[J9] using hf),hw _ hp];exact⟨_,rfl,rfl⟩)
  have he':lp _ (((pos t.length k 0:Nat):Int),(0:Int))=some e:=he;rw[he',hQ];rfl
 | full hn ha=>
  rw[a4d h1 h8 hn,d2P,if_neg (by decide),List.length_map,b8c,b2h h1 (by omega),d2P];simp only[jn];rw[←b71 h1 k];obtain⟨e,he,hQ⟩:=b6b (f:=λ((s15,s16):Int × Int)=>
   if (decide (s16<(t.length:Int))) then
    (ix (t.map J9) s15).bind λv19=>
    if (v19.State != 1) then
     (a2H (t.map J9) s15 (⟨1,k,v⟩:o8)).bind λv20=>
     some (Sum.inr (Sum.inl (β:=Unit) (v20,(0:Int))))
    else
    (rem (r8 (s15+1)) (t.length:Int)).bind λv21=>
    some (Sum.inl (v21,r8 (s16+1)))
   else
   some (Sum.inr (Sum.inr ()))) (λd=>(((pos t.length k d:Nat):Int),(d:Int))) t.length (λ_=>True) (λe=>e = .inr ()) (by omega) trivial (λj hj _=>by
    have hp:=a2S h1 k j;dsimp only;rw[if_pos (by simp;omega),ixm hp,d2P,if_neg (by simpa[J9] using ha _ hp),c7Z h1 h8,d2P,k8 (by omega)];exact .inl ⟨rfl,trivial⟩) (λ_=>⟨.inr (),by simp,rfl⟩)
  have he':lp _ (((pos t.length k 0:Nat):Int),(0:Int))=some e:=he;rw[he',hQ];rfl
theorem b3v{t:Tb}{k v:Int}{r:Tb × Int}(h:b1S t k v r):r.1.length=t.length:=by cases h <;> simp
end Go.Sh
namespace Go.Sh
theorem a3H(t:Tb):(keys t).length=t.countP (·.State==1):=by
 unfold keys;rw[List.length_map,List.countP_eq_length_filter]
theorem a92{t:Tb}{i:Nat}(h:i<t.length)(p:b8):(keys (t.set i p)).length+(if (pt t i).State=1 then 1 else 0)=(keys t).length+if p.State=1 then 1 else 0:=by
 rw[a3H,a3H,List.countP_set h,b1G h];simp only[beq_iff_eq];have:(if t[i].State=1 then 1 else 0)≤t.countP λc=>c.State==1:=by
  split
  ·rename_i e;exact List.countP_pos_iff.2 ⟨t[i],List.getElem_mem h,by simpa using e⟩
  ·exact Nat.zero_le _
 omega
theorem c1O{t:Tb}(h:∀i,i<t.length→(pt t i).State=1):(keys t).length=t.length:=by
 rw[a3H,List.countP_eq_length];intro a ha;obtain⟨i,hi,rfl⟩:=List.getElem_of_mem ha;have:=h i hi;rw[b1G hi] at this;simpa using this
theorem c6i{t:Tb}{i:Nat}(hi:i<t.length)(h:(pt t i).State≠1):(keys t).length<t.length:=by
 have h1:(keys t).length≤t.length:=by rw[a3H];exact List.countP_le_length
 rcases Nat.lt_or_ge (keys t).length t.length with q | q
 ·exact q
 ·exfalso;have e:(keys t).length=t.length:=by omega
  rw[a3H,List.countP_eq_length] at e;have:=e t[i] (List.getElem_mem hi);rw[b1G hi] at h;exact h (by simpa using this)
structure TM {V:Type} (φ:V→Int→Prop) (t:Tb) (m:List (Int × V)):Prop where
 R:HR t
 nd:(m.map (·.1)).Nodup
 len:(keys t).length=m.length
 has:∀k,(∀v,Has t k v→∃u,y8 m k=some u∧φ u v)∧((y8 m k).isSome=true→∃v,Has t k v)
theorem TM.some{V:Type}{φ:V→Int→Prop}{t:Tb}{m:List (Int × V)}(h:TM φ t m)(k:Int):(∃v u,Has t k v∧y8 m k=some u∧φ u v)∨(y8 m k=none∧∀v,¬Has t k v):=by
 rcases c9c t k with ⟨v,hv⟩ | hn
 ·obtain⟨u,h1,h2⟩:=(h.has k).1 v hv;exact .inl ⟨v,u,hv,h1,h2⟩
 ·refine .inr ⟨?_,hn⟩;cases hq:y8 m k with
  | none=>rfl
  | some u=>
   obtain⟨v,hv⟩:=(h.has k).2 (by rw[hq];rfl);exact absurd hv (hn v)
theorem TM.put{V:Type}{φ:V→Int→Prop}{t:Tb}{m:List (Int × V)}(h:TM φ t m)(k v:Int)(u:V)(hφ:φ u v):∃r,a62 t k v = .some r∧r.1.length=t.length∧((r.2=0∧TM φ r.1 (n9 m k u)∧((y8 m k).isSome=true∨m.length<t.length))∨(r=(t,8)∧(y8 m k)=none∧m.length=t.length)):=by
 obtain⟨r,hr,hp⟩:=b9z h.R k v;refine⟨r,hr,b3v hp,?_⟩;have hRr:=a9e h.R hp;by_cases h0:r.2=0
 ·left;have hh:=b6o h.R hp h0;have hmem:∀k',(∀w,Has r.1 k' w→∃x,y8 (n9 m k u) k' = .some x∧φ x w)∧((y8 (n9 m k u) k').isSome=true→∃w,Has r.1 k' w):=λk'=>by
   rw[a7R];by_cases e:k'=k
   ·subst e;rw[if_pos rfl];refine⟨λw hw=>?_,λ_=>⟨v,(hh _ _).2 (.inl ⟨rfl,rfl⟩)⟩⟩;rcases (hh _ _).1 hw with ⟨_,rfl⟩ | ⟨q,_⟩;·exact⟨u,rfl,hφ⟩
    ·exact absurd rfl q
   ·rw[if_neg e];refine⟨λw hw=>?_,λq=>?_⟩
    ·rcases (hh _ _).1 hw with ⟨q,_⟩ | ⟨_,q⟩;·exact absurd q e
     ·exact (h.has k').1 w q
    ·obtain⟨w,hw⟩:=(h.has k').2 q;exact⟨w,(hh _ _).2 (.inr ⟨e,hw⟩)⟩
  have hlen:(keys r.1).length=(n9 m k u).length∧((y8 m k).isSome=true∨m.length<t.length):=by
   rw[c3T];cases hp with
   | old i hi=>
    have h1:(y8 m k).isSome=true:=by
     obtain⟨x,h1,_⟩:=(h.has k).1 _ ⟨i,hi,rfl⟩;rw[h1];rfl
    have:=a92 hi.1 ⟨1,k,v⟩;rw[if_pos hi.2.1,if_pos rfl,h.len] at this;rw[if_pos h1];exact⟨by simp only;omega,.inl h1⟩
   | new d hn hd hb hf=>
    have h1:(y8 m k)=none:=by
     rcases h.some k with ⟨w,x,hw,_⟩ | ⟨q,_⟩
     ·obtain⟨i,hi,_⟩:=hw;exact absurd hi (hn i)
     ·exact q
    have hlt:=a2S h.R.l1 k d;have:=a92 hlt ⟨1,k,v⟩;rw[if_neg hf,if_pos rfl,h.len] at this;rw[h1];have h2:=c6i hlt hf;rw[h.len] at h2;exact⟨by simpa using this,.inr h2⟩
   | full hn ha=>cases h0
  exact⟨h0,⟨hRr,b9o h.nd k u,hlen.1,hmem⟩,hlen.2⟩
 ·right;cases hp with
  | old i hi=>exact absurd rfl h0
  | new d hn hd hb hf=>exact absurd rfl h0
  | full hn ha=>
   refine⟨rfl,?_,?_⟩
   ·rcases h.some k with ⟨w,x,hw,_⟩ | ⟨q,_⟩
    ·obtain⟨i,hi,_⟩:=hw;exact absurd hi (hn i)
    ·exact q
   ·rw[←h.len,c1O ha]
theorem TM.drop{V:Type}{φ:V→Int→Prop}{t:Tb}{m:List (Int × V)}(h:TM φ t m)(k:Int):(∃r v u,U4 t k = .some (r,v,0)∧r.length=t.length∧y8 m k = .some u∧φ u v∧TM φ r (b02 m k))∨(U4 t k = .some (t,0,9)∧y8 m k=none∧b02 m k=m):=by
 rcases b1C t k with ⟨i,hi⟩ | hn
 ·left;obtain⟨u,h1,h2⟩:=(h.has k).1 _ ⟨i,hi,rfl⟩;refine⟨_,_,u,a7L h.R hi,by simp,h1,h2,a4a h.R hi.1,(c3N m k).nodup h.nd,?_,λk'=>?_⟩
  ·have:=a92 hi.1 ⟨2,0,0⟩;rw[if_pos hi.2.1,if_neg (by decide),h.len] at this;rw[c3M,h1];simp only[Option.isSome_some,if_true];omega
  ·have hh:=b2Y h.R hi;rw[c1S h.nd];by_cases e:k'=k
   ·subst e;rw[if_pos rfl];exact⟨λw hw=>absurd rfl ((hh _ _).1 hw).1,λq=>by cases q⟩
   ·rw[if_neg e];refine⟨λw hw=>(h.has k').1 w ((hh _ _).1 hw).2,λq=>?_⟩;obtain⟨w,hw⟩:=(h.has k').2 q;exact⟨w,(hh _ _).2 ⟨e,hw⟩⟩
 ·right;have h1:y8 m k=none:=by
   rcases h.some k with ⟨w,x,hw,_⟩ | ⟨q,_⟩
   ·obtain⟨i,hi,_⟩:=hw;exact absurd hi (hn i)
   ·exact q
  refine⟨a7K h.R hn,h1,?_⟩;have:∀(l:List (Int × V)),y8 l k=none→b02 l k=l:=by
   intro l;induction l with
   | nil=>intro _;rfl
   | cons p l ih=>
    intro q;unfold y8 at q;unfold b02;by_cases e:k=p.1
    ·rw[if_pos (by simpa using e)] at q;cases q
    ·rw[if_neg (by simpa using e)] at q;rw[if_neg (by simpa using e),ih q]
  exact this m h1
theorem c9s{n:Nat}(h1:1≤n)(h8:n≤8):a9W (n:Int)=some (List.replicate n ⟨0,0,0⟩):=by
 unfold a9W;rw[if_neg (by simp;omega),a69 (by omega) (by omega)];rfl
theorem b3t{n j:Nat}:pt (List.replicate n ⟨0,0,0⟩) j=⟨0,0,0⟩:=by
 unfold pt;rw[List.getD_eq_getElem?_getD,List.getElem?_replicate];split <;> rfl
theorem d0k{V:Type}(φ:V→Int→Prop){n:Nat}(h1:1≤n)(h8:n≤8):TM φ (List.replicate n ⟨0,0,0⟩) []:=by
 refine⟨⟨by simpa using h1,by simpa using h8,λi hi=>?_,λi j hi hj s=>?_,λi hi s=>?_⟩,by simp,?_,λk=>⟨λv hv=>?_,λq=>by cases q⟩⟩;·rw[b3t];exact⟨.inl rfl,λ_=>⟨rfl,rfl⟩⟩
 ·rw[b3t] at s;cases s
 ·rw[b3t] at s;cases s
 ·rw[a3H,List.countP_replicate];rfl
 ·obtain⟨i,hi,_⟩:=hv;have:=hi.2.1;rw[b3t] at this;cases this
end Go.Sh
namespace Go.Sh
abbrev pp(p:l6):a3L:=⟨p.Key,p.Val⟩
def prs(t:Tb):List l6:=(t.filter (·.State==1)).map λp=>⟨p.Key,p.Val⟩
theorem a91(t:Tb):keys t=(prs t).map (·.Key):=by
 unfold keys prs;rw[List.map_map];rfl
theorem a0a(t:Tb):(prs t).length=(keys t).length:=by rw[a91,List.length_map]
theorem a4I{t:Tb}(h:t.length≤8):(prs t).length≤8:=by
 rw[a0a,a3H];exact Nat.le_trans List.countP_le_length h
theorem a27{t:Tb}{p:l6}:p∈prs t↔Has t p.Key p.Val:=by
 unfold prs Has;rw[List.mem_map];constructor
 ·rintro⟨q,hq,rfl⟩;obtain⟨h1,h2⟩:=List.mem_filter.1 hq;obtain⟨i,hi,rfl⟩:=List.getElem_of_mem h1;refine⟨i,⟨hi,?_,?_⟩,?_⟩ <;> rw[b1G hi]
  simpa using h2
 ·rintro⟨i,⟨hi,h1,h2⟩,h3⟩;rw[b1G hi] at h1 h2 h3;refine⟨t[i],List.mem_filter.2 ⟨List.getElem_mem hi,by simpa using h1⟩,?_⟩;cases p;simp at h2 h3 ⊢;exact⟨h2,h3⟩
theorem b6n{t:Tb}(hR:HR t){j:Nat}(h:j<(prs t).length):J0 t (prs t)[j].Key=some ((prs t)[j].Val,0):=c0v hR (a27.1 (List.getElem_mem h))
theorem c7x{E R:Type}{x:Option E}{r:E}{κ:E→Option R}{y:Option R}(h:x=some r)(hy:κ r=y):((x.bind λe=>some e).bind κ)=y:=by rw[h];exact hy
theorem c4k{t:Tb}(hR:HR t):a4c t=some (prs t):=by
 have h8:=hR.l8;have hp:=a4I h8;unfold a4c x8 a0Z a2k;simp only[jn,d2P];rw[keys_eq (by omega),d2P];refine c7x (a4t (a13 (prs t).length (λk l=>l=(prs t).take k) (λe=>e=prs t) (by omega) (by simp) ?_ ?_)) rfl
 ·rintro k l hk rfl;refine .inl ⟨_,?_,rfl⟩;dsimp only;rw[if_pos (by rw[←a0a];simpa using hk),n8 (by rw[←a0a];exact hk),d2P];have e:(keys t)[k]'(by rw[←a0a];exact hk)=(prs t)[k].Key:=by simp[a91]
  rw[e,b6n hR hk,d2P,if_pos (by trivial),x4 (by omega) (by simp;omega),d2P,k8 (by omega),List.take_succ_eq_append_getElem hk]
 ·rintro l rfl;exact⟨_,by rw[←a0a];simp;rfl,by simp⟩
theorem b5j{t:Tb}(hR:HR t):a7Y (t.map J9)=some ((prs t).map pp):=by
 have h8:=hR.l8;have hp:=a4I h8;unfold a7Y;simp only[jn];rw[c4z (by omega),d2P];refine L1 (prs t).length (λk l=>l=((prs t).take k).map pp) (by omega) (by simp) ?_ (λl hl=>⟨_,by rw[←a0a];simp;rfl,by rw[hl,List.take_length]⟩);rintro k l hk rfl;refine .inl ⟨_,?_,rfl⟩;rw[if_pos (by rw[←a0a];simpa using hk),n8 (by rw[←a0a];exact hk),d2P];have e:(keys t)[k]'(by rw[←a0a];exact hk)=(prs t)[k].Key:=by simp[a91]
 rw[e,c4y hR,b6n hR hk,d2P,x4 (by omega) (by simp;omega),d2P,k8 (by omega),List.take_succ_eq_append_getElem hk,List.map_append];rfl
def own(t:Tb)(h:Int):Nat:=(prs t).countP λp=>(h != 0)&&(p.Val==h)
theorem c4g{t:Tb}(hR:HR t)(h:Int):a4b t h=some (own t h:Int):=by
 have h8:=hR.l8;have hp:=a4I h8;unfold a4b x6 a0Z a2j;simp only[jn,d2P];rw[keys_eq (by omega),d2P];refine c7x (r:=(prs t).filter λp=>(h != 0)&&(p.Val==h)) (a4t (a13 (prs t).length (λk l=>l=((prs t).take k).filter λp=>(h != 0)&&(p.Val==h)) (λe=>e=(prs t).filter λp=>(h != 0)&&(p.Val==h)) (by omega) (by simp) ?_ ?_)) (by unfold own;rw[List.countP_eq_length_filter])
 ·rintro k l hk rfl;refine .inl ⟨((prs t).take (k+1)).filter λp=>(h != 0)&&(p.Val==h),?_,rfl⟩;dsimp only;rw[if_pos (by rw[←a0a];simpa using hk),n8 (by rw[←a0a];exact hk),d2P];have e:(keys t)[k]'(by rw[←a0a];exact hk)=(prs t)[k].Key:=by simp[a91]
  have hle:(((prs t).take k).filter λp=>(h != 0)&&(p.Val==h)).length≤8:=Nat.le_trans (List.length_filter_le ..) (by simp;omega);rw[e,b6n hR hk,d2P,k8 (by omega),List.take_succ_eq_append_getElem hk,List.filter_append,List.filter_cons,List.filter_nil];by_cases c:((h != 0)&&((prs t)[k].Val==h))=true
  ·rw[if_pos c,if_pos c,x4 (by omega) (by simp only[List.length_cons,List.length_nil];omega),d2P]
  ·rw[if_neg c,if_neg c,List.append_nil]
 ·rintro l rfl;exact⟨_,by rw[←a0a];simp;rfl,by simp⟩
theorem c18{t:Tb}(hR:HR t)(h:Int):b1e (t.map J9) h=some (own t h:Int):=by
 have h8:=hR.l8;have hp:=a4I h8;unfold b1e;simp only[jn];rw[b5j hR,d2P,List.length_map];refine c0G (λs=>∃k:Nat,k≤(prs t).length∧s.2=(k:Int)∧s.1=((((prs t).take k).countP λp=>(h != 0)&&(p.Val==h):Nat):Int)) (λs=>(prs t).length+1-s.2.toNat) ⟨0,by omega,rfl,by simp⟩ (by simp;omega) ?_;rintro⟨_,_⟩ ⟨k,hk,rfl,rfl⟩;dsimp only;by_cases hlt:k<(prs t).length
 ·left;rw[if_pos (by simpa using hlt),a0F,n8 hlt,Option.map_some,d2P,k8 (n:=k) (by omega)];have hle:(((prs t).take k).countP λp=>(h != 0)&&(p.Val==h))≤8:=Nat.le_trans List.countP_le_length (by simp;omega);have hstep:(((prs t).take (k+1)).countP λp=>(h != 0)&&(p.Val==h))=(((prs t).take k).countP λp=>(h != 0)&&(p.Val==h))+if ((h != 0)&&((prs t)[k].Val==h))=true then 1 else 0:=by
   rw[List.take_succ_eq_append_getElem hlt,List.countP_append,List.countP_cons,List.countP_nil,Nat.zero_add]
  by_cases c:((h != 0)&&((prs t)[k].Val==h))=true
  ·rw[if_pos (by simp only[Bool.and_eq_true] at c ⊢;exact⟨c.2,c.1⟩),k8 (by omega)];rw[if_pos c] at hstep;exact⟨_,rfl,⟨k+1,by omega,rfl,by rw[hstep]⟩,by simp;omega⟩
  ·rw[if_neg (by simp only[Bool.and_eq_true] at c ⊢;exact λq=>c ⟨q.2,q.1⟩)];rw[if_neg c] at hstep;exact⟨_,rfl,⟨k+1,by omega,rfl,by rw[hstep];rfl⟩,by simp;omega⟩
 ·right;have:k=(prs t).length:=by omega
  subst this;exact⟨_,by rw[if_neg (by simp)],by rw[List.take_length];rfl⟩
theorem b9Q{t:Tb}(hR:HR t)(k v:Int):∃r,Q2 t k v=some r∧HR r.1∧r.1.length=t.length ∧
  ((k=0∧r=(t,0,2))∨(k≠0∧v=0∧((∃i,Fk t k i∧r=(t.set i ⟨2,0,0⟩,(pt t i).Val,0))∨((∀i,¬Fk t k i)∧r=(t,0,0)))) ∨
   (k≠0∧v≠0∧((∃i,Fk t k i∧r=(t.set i ⟨1,k,v⟩,(pt t i).Val,0))∨(∃d,(∀i,¬Fk t k i)∧d<t.length∧(pt t d).State≠1∧b1S t k v (t.set d ⟨1,k,v⟩,0)∧r=(t.set d ⟨1,k,v⟩,0,0))∨((∀i,¬Fk t k i)∧(∀i,i<t.length→(pt t i).State=1)∧r=(t,0,8))))):=by
 unfold Q2;by_cases hk:k=0
 ·rw[if_pos (by simpa using hk)];exact⟨_,rfl,hR,rfl,.inl ⟨hk,rfl⟩⟩
 ·rw[if_neg (by simpa using hk)];obtain⟨g,hg,hgv⟩:∃g,J0 t k=some g∧((∃i,Fk t k i∧g=((pt t i).Val,0))∨((∀i,¬Fk t k i)∧g=(0,9))):=by
   rcases b1C t k with ⟨i,hi⟩ | hn;·exact⟨_,b9e hR hi,.inl ⟨i,hi,rfl⟩⟩
   ·exact⟨_,b9d hR hn,.inr ⟨hn,rfl⟩⟩
  rw[hg,d2P];by_cases hv:v=0
  ·rw[if_pos (by simpa using hv)];rcases hgv with ⟨i,hi,rfl⟩ | ⟨hn,rfl⟩
   ·rw[a7L hR hi,d2P];exact⟨_,rfl,a4a hR hi.1,by simp,.inr (.inl ⟨hk,hv,.inl ⟨i,hi,rfl⟩⟩)⟩
   ·rw[a7K hR hn,d2P];exact⟨_,rfl,hR,rfl,.inr (.inl ⟨hk,hv,.inr ⟨hn,rfl⟩⟩)⟩
  ·rw[if_neg (by simpa using hv)];obtain⟨r,hr,hp⟩:=b9z hR k v;rw[hr,d2P];have hRr:=a9e hR hp;have hl:=b3v hp;have hp':=hp;cases hp with
   | old i hi=>
    rcases hgv with ⟨j,hj,rfl⟩ | ⟨hn,rfl⟩
    ·rw[hR.uq j i hj.1 hi.1 hj.2.1 hi.2.1 (hj.2.2.trans hi.2.2.symm)];exact⟨_,rfl,hRr,hl,.inr (.inr ⟨hk,hv,.inl ⟨i,hi,rfl⟩⟩)⟩
    ·exact absurd hi (hn i)
   | new d hn hd hb hf=>
    rcases hgv with ⟨j,hj,rfl⟩ | ⟨_,rfl⟩;·exact absurd hj (hn j)
    ·exact⟨_,rfl,hRr,hl,.inr (.inr ⟨hk,hv,.inr (.inl ⟨_,hn,a2S hR.l1 k d,hf,hp',rfl⟩)⟩)⟩
   | full hn ha=>exact⟨_,rfl,hR,rfl,.inr (.inr ⟨hk,hv,.inr (.inr ⟨hn,ha,rfl⟩)⟩)⟩
theorem c2a{t:Tb}(hR:HR t)(k v:Int):∃r,Q2 t k v=some r∧HR r.1∧r.1.length=t.length∧b6v (t.map J9) k v=some (r.1.map J9,r.2) ∧
  ((k=0∧r=(t,0,2))∨(k≠0∧v=0∧((∃i,Fk t k i∧r=(t.set i ⟨2,0,0⟩,(pt t i).Val,0))∨((∀i,¬Fk t k i)∧r=(t,0,0)))) ∨
   (k≠0∧v≠0∧((∃i,Fk t k i∧r=(t.set i ⟨1,k,v⟩,(pt t i).Val,0))∨(∃d,(∀i,¬Fk t k i)∧d<t.length∧(pt t d).State≠1∧b1S t k v (t.set d ⟨1,k,v⟩,0)∧r=(t.set d ⟨1,k,v⟩,0,0))∨((∀i,¬Fk t k i)∧(∀i,i<t.length→(pt t i).State=1)∧r=(t,0,8))))):=by
 unfold Q2 b6v;by_cases hk:k=0
 ·rw[if_pos (by simpa using hk),if_pos (by simpa using hk)];exact⟨_,rfl,hR,rfl,rfl,.inl ⟨hk,rfl⟩⟩
 ·rw[if_neg (by simpa using hk),if_neg (by simpa using hk),c4y hR];obtain⟨g,hg,hgv⟩:∃g,J0 t k=some g∧((∃i,Fk t k i∧g=((pt t i).Val,0))∨((∀i,¬Fk t k i)∧g=(0,9))):=by
   rcases b1C t k with ⟨i,hi⟩ | hn;·exact⟨_,b9e hR hi,.inl ⟨i,hi,rfl⟩⟩
   ·exact⟨_,b9d hR hn,.inr ⟨hn,rfl⟩⟩
  rw[hg,d2P,d2P];by_cases hv:v=0
  ·rw[if_pos (by simpa using hv),if_pos (by simpa using hv),c4v hR];rcases hgv with ⟨i,hi,rfl⟩ | ⟨hn,rfl⟩
   ·rw[a7L hR hi,d2P];exact⟨_,rfl,a4a hR hi.1,by simp,rfl,.inr (.inl ⟨hk,hv,.inl ⟨i,hi,rfl⟩⟩)⟩
   ·rw[a7K hR hn,d2P];exact⟨_,rfl,hR,rfl,rfl,.inr (.inl ⟨hk,hv,.inr ⟨hn,rfl⟩⟩)⟩
  ·rw[if_neg (by simpa using hv),if_neg (by simpa using hv)];obtain⟨r,hr,hp⟩:=b9z hR k v;rw[hr,d2P,d1v hR k v hp,d2P];have hRr:=a9e hR hp;have hl:=b3v hp;have hp':=hp;cases hp with
   | old i hi=>
    rcases hgv with ⟨j,hj,rfl⟩ | ⟨hn,rfl⟩
    ·rw[hR.uq j i hj.1 hi.1 hj.2.1 hi.2.1 (hj.2.2.trans hi.2.2.symm)];exact⟨_,rfl,hRr,hl,rfl,.inr (.inr ⟨hk,hv,.inl ⟨i,hi,rfl⟩⟩)⟩
    ·exact absurd hi (hn i)
   | new d hn hd hb hf=>
    rcases hgv with ⟨j,hj,rfl⟩ | ⟨_,rfl⟩;·exact absurd hj (hn j)
    ·exact⟨_,rfl,hRr,hl,rfl,.inr (.inr ⟨hk,hv,.inr (.inl ⟨_,hn,a2S hR.l1 k d,hf,hp',rfl⟩)⟩)⟩
   | full hn ha=>exact⟨_,rfl,hR,rfl,rfl,.inr (.inr ⟨hk,hv,.inr (.inr ⟨hn,ha,rfl⟩)⟩)⟩
theorem b5c(t:Tb)(h:Int):own t h=t.countP λp=>(p.State==1)&&((h != 0)&&(p.Val==h)):=by
 unfold own prs;rw[List.countP_map,List.countP_filter];congr 1;funext p
 simp[Bool.and_comm]
theorem c0V{t:Tb}{i:Nat}(hi:i<t.length)(p:b8)(h:Int):own (t.set i p) h+(if (((pt t i).State==1)&&((h != 0)&&((pt t i).Val==h)))=true then 1 else 0)=own t h+if ((p.State==1)&&((h != 0)&&(p.Val==h)))=true then 1 else 0:=by
 rw[b5c,b5c,List.countP_set hi,b1G hi];have:(if ((t[i].State==1)&&((h != 0)&&(t[i].Val==h)))=true then 1 else 0)≤t.countP λp=>(p.State==1)&&((h != 0)&&(p.Val==h)):=by
  split
  ·rename_i e;exact List.countP_pos_iff.2 ⟨t[i],List.getElem_mem hi,e⟩
  ·exact Nat.zero_le _
 omega
theorem b9u{t:Tb}(h8:t.length≤8)(h:Int):own t h≤8:=Nat.le_trans List.countP_le_length (a4I h8)
end Go.Sh
namespace Go.Sh
end Go.Sh
namespace Go.Sh
theorem b8G{t:Tb}(hR:HR t)(ks:List Int)(hks:ks.length≤1000):∃a had,L6 t ks=some (a,had)∧HR a∧a.length=t.length∧had.length≤ks.length∧a4q (t.map J9) ks=some (a.map J9,had) ∧
  (∀k v,Has a k v↔k∉ks∧Has t k v)∧(keys a).length+had.length=(keys t).length∧(∀k v,k∈ks→Has t k v→v∈had)∧∀y,own a y+W0 had y=own t y:=by
 have key:∀n,n≤ks.length→∃a had,HR a∧a.length=t.length∧had.length≤n∧(∀k v,Has a k v↔k∉ks.take n∧Has t k v)∧(keys a).length+had.length=(keys t).length∧(∀k v,k∈ks.take n→Has t k v→v∈had)∧(∀y,own a y+W0 had y=own t y) ∧
   ∃f:Nat→Tb × List Int,f 0=(t,[])∧f n=(a,had)∧∀j,(hj:j<n)→HR (f j).1∧(f j).2.length≤j∧((∃i,∃hjk:j<ks.length,Fk (f j).1 ks[j] i∧f (j+1)=((f j).1.set i ⟨2,0,0⟩,(f j).2 ++ [(pt (f j).1 i).Val]))∨((∀i,∀hjk:j<ks.length,¬Fk (f j).1 ks[j] i)∧f (j+1)=f j)):=by
  intro n;induction n with
  | zero=>exact λ_=>⟨t,[],hR,rfl,by simp,by simp,by simp,by simp,λy=>by unfold W0;split <;> simp,λ_=>(t,[]),rfl,rfl,λj hj=>by omega⟩
  | succ n ih=>
   intro hn;obtain⟨a,had,h1,h2,h3,h4,h5,h6,h7,f,f0,fn,fs⟩:=ih (by omega);have hlt:n<ks.length:=by omega
   have htk:∀k,k∈ks.take (n+1)↔k∈ks.take n∨k=ks[n]:=λk=>by
    rw[List.take_succ_eq_append_getElem hlt,List.mem_append,List.mem_singleton]
   rcases b1C a ks[n] with ⟨i,hi⟩ | hno
   ·have hd:=b2Y h1 hi;refine⟨a.set i ⟨2,0,0⟩,had ++ [(pt a i).Val],a4a h1 hi.1,by simpa using h2,by simp;omega,λk v=>?_,?_,λk v hk hv=>?_,λy=>?_,λj=>if j=n+1 then (a.set i ⟨2,0,0⟩,had ++ [(pt a i).Val]) else f j,by simp[f0],by simp,λj hj=>?_⟩
    ·rw[hd,h4,htk];constructor;·rintro⟨q1,q2,q3⟩;exact⟨λq=>q.elim q2 q1,q3⟩
     ·rintro⟨q1,q2⟩;exact⟨λq=>q1 (.inr q),λq=>q1 (.inl q),q2⟩
    ·have:=a92 hi.1 ⟨2,0,0⟩;rw[if_pos hi.2.1,if_neg (by decide)] at this;simp only[List.length_append,List.length_cons,List.length_nil];omega
    ·rw[List.mem_append];rcases (htk k).1 hk with q | q
     ·exact .inl (h6 k v q hv)
     ·subst q;by_cases q':ks[n]∈ks.take n
      ·exact .inl (h6 _ v q' hv)
      ·have:=(h4 _ _).2 ⟨q',hv⟩;rw[this.fn h1 ⟨i,hi,rfl⟩];exact .inr (by simp)
    ·have:=c0V hi.1 ⟨2,0,0⟩ y;have h7':=h7 y;rw[H6];have e:W0 [(pt a i).Val] y=if (((pt a i).State==1)&&((y != 0)&&((pt a i).Val==y)))=true then 1 else 0:=by
      rw[hi.2.1];unfold W0;by_cases y0:y=0
      ·simp[y0]
      ·by_cases e:(pt a i).Val=y
       ·simp[y0,e]
       ·simp[y0,e]
     rw[e];rw[if_neg (show ¬((((2:Int)==1)&&((y != 0)&&((0:Int)==y)))=true) by simp)] at this;omega
    ·rcases Nat.lt_or_ge j n with q | q
     ·have:=fs j q;dsimp only;rw[if_neg (by omega),if_neg (by omega)];exact this
     ·have:j=n:=by omega
      subst this;dsimp only;rw[if_neg (by omega),if_pos rfl,fn];exact⟨h1,h3,.inl ⟨i,hlt,hi,rfl⟩⟩
   ·refine⟨a,had,h1,h2,by omega,λk v=>?_,h5,λk v hk hv=>?_,h7,λj=>if j=n+1 then (a,had) else f j,by simp[f0],by simp,λj hj=>?_⟩
    ·rw[h4,htk];constructor
     ·rintro⟨q1,q2⟩;refine⟨λq=>q.elim q1 λq=>?_,q2⟩;subst q;obtain⟨i,hi,_⟩:=(h4 _ _).2 ⟨q1,q2⟩;exact hno i hi
     ·rintro⟨q1,q2⟩;exact⟨λq=>q1 (.inl q),q2⟩
    ·rcases (htk k).1 hk with q | q
     ·exact h6 k v q hv
     ·subst q;by_cases q':ks[n]∈ks.take n
      ·exact h6 _ v q' hv
      ·obtain⟨i,hi,_⟩:=(h4 _ _).2 ⟨q',hv⟩;exact absurd hi (hno i)
    ·rcases Nat.lt_or_ge j n with q | q
     ·have:=fs j q;dsimp only;rw[if_neg (by omega),if_neg (by omega)];exact this
     ·have:j=n:=by omega
      subst this;dsimp only;rw[if_neg (by omega),if_pos rfl,fn];exact⟨h1,h3,.inr ⟨λi _=>hno i,rfl⟩⟩
 obtain⟨a,had,h1,h2,h3,h4,h5,h6,h7,f,f0,fn,fs⟩:=key ks.length (Nat.le_refl _);rw[List.take_length] at h4 h6;refine⟨a,had,?_,h1,h2,h3,?_,h4,h5,h6,h7⟩
 ·unfold L6;simp only[jn];refine a0w (λj=>((f j).1,(j:Int),(f j).2)) (by rw[f0];rfl) ks.length (λ_=>True) (by omega) trivial (λj hj _=>?_) (λ_=>⟨(a,had),by dsimp only;rw[if_neg (by simp),fn],rfl⟩);obtain⟨g1,g2,g3⟩:=fs j hj;left;refine⟨?_,trivial⟩;dsimp only;rw[if_pos (by simpa using hj),n8 hj,d2P,k8 (by omega)];rcases g3 with ⟨i,_,hi,e⟩ | ⟨hno,e⟩
  ·rw[a7L g1 hi,d2P,e];dsimp only;rw[if_pos (by decide),x4 (by omega) (by simp;omega),d2P]
  ·rw[a7K g1 (λi=>hno i hj),d2P,e];dsimp only;rw[if_neg (by decide)]
 ·unfold a4q;simp only[jn];refine a0w (λj=>((f j).1.map J9,(j:Int),(f j).2)) (by rw[f0];rfl) ks.length (λ_=>True) (by omega) trivial (λj hj _=>?_) (λ_=>⟨(a.map J9,had),by dsimp only;rw[if_neg (by simp),fn],rfl⟩);obtain⟨g1,g2,g3⟩:=fs j hj;left;refine⟨?_,trivial⟩;dsimp only;rw[if_pos (by simpa using hj),n8 hj,d2P,k8 (by omega),c4v g1];rcases g3 with ⟨i,_,hi,e⟩ | ⟨hno,e⟩
  ·rw[a7L g1 hi,Option.map_some,d2P,e];dsimp only;rw[if_pos (by decide),x4 (by omega) (by simp;omega),d2P]
  ·rw[a7K g1 (λi=>hno i hj),Option.map_some,d2P,e];dsimp only;rw[if_neg (by decide)]
end Go.Sh
namespace Go.Sh
end Go.Sh
namespace Go.Sh
inductive a0j (s:a7) (t:Tb) (l:List Int):Int→Prop
 | base {h:Int}:h∈l→h∈lv s→a0j s t l h
 | step {a b:Int}:a0j s t l a→b∈outs s a→b∈lv s→a0j s t l b
 | pair {k v:Int}:Has t k v→a0j s t l k→v∈lv s→a0j s t l v
open Classical in
noncomputable def frc (s:a7) (t:Tb) (l:List Int):List Int:=(lv s).filter λh=>decide (a0j s t l h)
open Classical in
noncomputable def fls (s:a7) (t:Tb) (l:List Int):List Int:=(lv s).filter λh=>decide (¬a0j s t l h)
noncomputable def owd(s:a7)(t:Tb)(l:List Int):List Int:=((prs t).filter λp=>decide (p.Key∈l∧p.Key∈lv s∧p.Val∈lv s)).map (·.Val)
def TB(t:Tb):Prop:=∀p∈t,p.Key≤9223372036854775807∧p.Val≤9223372036854775807
def PCl(s:a7)(t:Tb)(l:List Int):Prop:=∀k v,Has t k v→k∈l→k∈lv s→v∈lv s→v∈l
theorem TB.has{t:Tb}(h:TB t){k v:Int}(q:Has t k v):k≤9223372036854775807∧v≤9223372036854775807:=by
 obtain⟨i,⟨h1,_,h2⟩,h3⟩:=q;rw[b1G h1] at h2 h3;have:=h _ (List.getElem_mem h1);rw[h2,h3] at this;exact this
theorem a0j.live{s:a7}{t:Tb}{l:List Int}{h:Int}(q:a0j s t l h):h∈lv s:=by cases q <;> assumption
open Classical in
theorem a5F {s:a7} {t:Tb} {l:List Int} {h:Int}:h∈frc s t l↔a0j s t l h:=by
 unfold frc;rw[List.mem_filter];exact⟨λq=>of_decide_eq_true q.2,λq=>⟨q.live,decide_eq_true q⟩⟩
theorem b5W{s:a7}(hR:RtR (sO s))(t:Tb)(l:List Int):(frc s t l).length≤24:=Nat.le_trans (List.length_filter_le ..) (D4 hR)
theorem c8Y{s:a7}(hR:RtR (sO s))(t:Tb)(l:List Int):LB (frc s t l):=λx hx=>by have:=a4F hR (a5F.1 hx).live;omega
theorem c9X{s:a7}(hR:RtR (sO s))(l:List Int):LB (rcd s l):=λx hx=>by have:=a4F hR (W9.1 hx).live;omega
theorem c8X(s:a7)(t:Tb)(l:List Int):Cl s (frc s t l):=λa ha b hb hl=>a5F.2 (.step (a5F.1 ha) hb hl)
theorem a0j.least{s:a7}{t:Tb}{l m:List Int}(hc:Cl s m)(hp:PCl s t m)(hl:∀x∈l,x∈lv s→x∈m){h:Int}(q:a0j s t l h):h∈m:=by
 induction q with
 | base h1 h2=>exact hl _ h1 h2
 | step _ h1 h2 ih=>exact hc _ ih _ h1 h2
 | pair h1 h2 h3 ih=>exact hp _ _ h1 ih h2.live h3
theorem a0j.mono{s:a7}{t u:Tb}{l m:List Int}(ht:∀k v,Has t k v→Has u k v)(hl:∀x∈l,x∈lv s→a0j s u m x){h:Int}(q:a0j s t l h):a0j s u m h:=by
 induction q with
 | base h1 h2=>exact hl _ h1 h2
 | step _ h1 h2 ih=>exact .step ih h1 h2
 | pair h1 _ h3 ih=>exact .pair (ht _ _ h1) ih h3
theorem Rch.d2i{s:a7}(t:Tb){l:List Int}{h:Int}(q:Rch s l h):a0j s t l h:=by
 induction q with
 | base h1 h2=>exact .base h1 h2
 | step _ h1 h2 ih=>exact .step ih h1 h2
theorem b0c{s:a7}{t:Tb}{l:List Int}{v:Int}:v∈owd s t l↔∃k,Has t k v∧k∈l∧k∈lv s∧v∈lv s:=by
 unfold owd;rw[List.mem_map];constructor
 ·rintro⟨p,hp,rfl⟩;obtain⟨h1,h2⟩:=List.mem_filter.1 hp;exact⟨p.Key,a27.1 h1,of_decide_eq_true h2⟩
 ·rintro⟨k,h1,h2⟩;exact⟨⟨k,v⟩,List.mem_filter.2 ⟨a27.2 h1,decide_eq_true h2⟩,rfl⟩
theorem b6j{s:a7}{t:Tb}{l:List Int}:(∀v∈owd s t l,v∈l)↔PCl s t l:=by
 constructor;·exact λh k v h1 h2 h3 h4=>h v (b0c.2 ⟨k,h1,h2,h3,h4⟩)
 ·intro h v hv;obtain⟨k,h1,h2,h3,h4⟩:=b0c.1 hv;exact h k v h1 h2 h3 h4
theorem b6k{s:a7}{t:Tb}(hT:HR t)(l:List Int):(owd s t l).length≤8:=by
 unfold owd;rw[List.length_map];exact Nat.le_trans (List.length_filter_le ..) (a4I hT.l8)
theorem c9H{s:a7}(hR:RtR (sO s))(t:Tb)(l:List Int):LB (owd s t l):=λx hx=>by
 obtain⟨_,_,_,_,h⟩:=b0c.1 hx;have:=a4F hR h;omega
noncomputable def E8(s:a7)(t:Tb)(l:List Int):Nat→List Int
 | 0=>rcd s l
 | k+1=>rcd s (E8 s t l k++owd s t (E8 s t l k))
section
variable{s:a7}{t:Tb}{l:List Int}
theorem b1m(k:Nat):E8 s t l (k+1)=rcd s (E8 s t l k++owd s t (E8 s t l k)):=rfl
theorem a5a(k:Nat):∃m,E8 s t l k=rcd s m:=by
 cases k with
 | zero=>exact⟨_,rfl⟩
 | succ k=>exact⟨_,rfl⟩
theorem c6Z(k:Nat):Cl s (E8 s t l k):=by
 obtain⟨m,e⟩:=a5a (s:=s) (t:=t) (l:=l) k;rw[e];exact c9W s m
theorem c14(k:Nat){x:Int}(h:x∈E8 s t l k):x∈lv s:=by
 obtain⟨m,e⟩:=a5a (s:=s) (t:=t) (l:=l) k;rw[e] at h;exact (W9.1 h).live
theorem b8e(k:Nat){x:Int}(h:x∈E8 s t l k):x∈E8 s t l (k+1):=W9.2 (.base (List.mem_append.2 (.inl h)) (c14 k h))
theorem c13(k:Nat):∀x∈l,x∈lv s→x∈E8 s t l k:=by
 induction k with
 | zero=>exact λx h1 h2=>W9.2 (.base h1 h2)
 | succ k ih=>exact λx h1 h2=>b8e k (ih x h1 h2)
theorem c4C(k:Nat):∀x∈E8 s t l k,a0j s t l x:=by
 induction k with
 | zero=>exact λx h=>(W9.1 h).d2i t
 | succ k ih=>
  intro x h;have:=W9.1 h;induction this with
  | base h1 h2=>
   rcases List.mem_append.1 h1 with q | q
   ·exact ih _ q
   ·obtain⟨k',q1,q2,q3,q4⟩:=b0c.1 q;exact .pair q1 (ih _ q2) q4
  | step h0 h1 h2 ih2=>exact .step (ih2 (W9.2 h0)) h1 h2
theorem b5h{k:Nat}(h:PCl s t (E8 s t l k)):E8 s t l k=frc s t l:=by
 obtain⟨m,e⟩:=a5a (s:=s) (t:=t) (l:=l) k;have hm:∀x,Rch s m x↔a0j s t l x:=λx=>by
  rw[←W9,←e];exact⟨c4C k x,λq=>q.least (c6Z k) h (c13 k)⟩
 rw[e];unfold rcd frc;exact List.filter_congr λx _=>decide_eq_decide.2 (hm x)
theorem b9I{k:Nat}(h:PCl s t (E8 s t l k)):E8 s t l (k+1)=E8 s t l k:=by
 obtain⟨m,e⟩:=a5a (s:=s) (t:=t) (l:=l) k;rw[b1m];have h':=b6j.2 h;rw[e] at h' ⊢;refine b5g λx=>⟨λq=>?_,λq=>.base (List.mem_append.2 (.inl (W9.2 q))) q.live⟩;refine q.mono λy hy _=>?_;rcases List.mem_append.1 hy with c | c
 ·exact W9.1 c
 ·exact W9.1 (h' y c)
theorem b1l{k:Nat}(h:¬PCl s t (E8 s t l k)):((prs t).filter λp=>decide (p.Val∈E8 s t l k)).length<((prs t).filter λp=>decide (p.Val∈E8 s t l (k+1))).length:=by
 obtain⟨v,hv,hn⟩:∃v,v∈owd s t (E8 s t l k)∧v∉E8 s t l k:=Classical.byContradiction λq=>h (b6j.1 λv hv=>Classical.byContradiction λq2=>q ⟨v,hv,q2⟩);obtain⟨k',h1,h2,h3,h4⟩:=b0c.1 hv;refine filter_lt (λp _ hp=>?_) ⟨k',v⟩ (a27.2 h1) ?_ ?_
 ·rw[decide_eq_true_iff] at hp ⊢;exact b8e k hp
 ·rw[decide_eq_true_iff];exact W9.2 (.base (List.mem_append.2 (.inr hv)) h4)
 ·exact decide_eq_false hn
theorem b0q(s:a7)(t:Tb)(l:List Int):∃n,n≤(prs t).length∧PCl s t (E8 s t l n)∧∀j,j<n→¬PCl s t (E8 s t l j):=by
 have key:∀k,(∃j,j≤k∧PCl s t (E8 s t l j))∨k<((prs t).filter λp=>decide (p.Val∈E8 s t l (k+1))).length:=by
  intro k;induction k with
  | zero=>
   by_cases h:PCl s t (E8 s t l 0)
   ·exact .inl ⟨0,Nat.le_refl _,h⟩
   ·have:=b1l h;exact .inr (by omega)
  | succ k ih=>
   rcases ih with ⟨j,h1,h2⟩ | ih;·exact .inl ⟨j,by omega,h2⟩
   ·by_cases h:PCl s t (E8 s t l (k+1))
    ·exact .inl ⟨k+1,Nat.le_refl _,h⟩
    ·have:=b1l h;exact .inr (by omega)
 obtain⟨j,h1,h2⟩:∃j,j≤(prs t).length∧PCl s t (E8 s t l j):=by
  rcases key (prs t).length with q | q
  ·exact q
  ·have:=List.length_filter_le (λp:l6=>decide (p.Val∈E8 s t l ((prs t).length+1))) (prs t);omega
 obtain⟨n,hn,hmin⟩:=a0J (p:=λj=>PCl s t (E8 s t l j)) ⟨j,h2⟩;exact⟨n,Nat.le_trans (hmin j h2) h1,hn,λi hi q=>by have:=hmin i q;omega⟩
end
noncomputable def rnd(s:a7)(t:Tb)(l:List Int):Nat:=Classical.choose (b0q s t l)
theorem c4B(s:a7)(t:Tb)(l:List Int):rnd s t l≤(prs t).length:=(Classical.choose_spec (b0q s t l)).1
theorem b8d(s:a7)(t:Tb)(l:List Int):PCl s t (E8 s t l (rnd s t l)):=(Classical.choose_spec (b0q s t l)).2.1
theorem c09(s:a7)(t:Tb)(l:List Int){j:Nat}(h:j<rnd s t l):¬PCl s t (E8 s t l j):=(Classical.choose_spec (b0q s t l)).2.2 j h
section
variable{s:a7}(hR:RtR (sO s)){t:Tb}(hT:HR t)(hTB:TB t)
include hR hT hTB
omit hT hTB in
theorem b41 {h:Int} (hh:h≤9223372036854775807):a3B h s=some (decide (h∈lv s)):=by
 obtain⟨e,h1,h2⟩:=O8 hR hh;unfold a3B;rw[h1,d2P];congr 1;rw[Bool.eq_iff_iff,beq_iff_eq,decide_eq_true_iff];exact h2
omit hT hTB in
theorem b3j {h:Int} (hh:h≤9223372036854775807):a7Z (sO s) h=some (decide (h∈lv s)):=by
 obtain⟨e,h1,h2⟩:=O8 hR hh;unfold a7Z;rw[a4S s (by have:=a1D hR;omega) hh,h1];simp only[Option.map_some,d2P];congr 1;rw[Bool.eq_iff_iff,beq_iff_eq,decide_eq_true_iff];exact h2
theorem c0T{l:List Int}(hl:l.length≤1000000):a9K s t l=some (owd s t l):=by
 unfold a9K;simp only[jn,c4k hT,d2P];have h8:=a4I hT.l8;rw[D7 ((prs t)) (λb p=>b++(if decide (p.Key∈l∧p.Key∈lv s∧p.Val∈lv s) then [p.Val] else [])) id (λk b=>b.length≤k) (by omega) (by simp) (λk hk b hb=>?_) (λb _=>?_)]
 ·simp only[d2P,id];rw[a10];congr 1;unfold owd;rw[List.nil_append];generalize prs t=P;induction P with
  | nil=>rfl
  | cons p P ih=>
   rw[List.flatMap_cons,List.filter_cons,ih];by_cases q:p.Key∈l∧p.Key∈lv s∧p.Val∈lv s
   ·simp[q]
   ·simp[q]
 ·have hb':=hTB.has (a27.1 (List.getElem_mem hk));simp only[Int.ofNat_lt,hk,decide_true,if_true,n8 hk,d2P,contains_eq _ _ hl];rw[b41 hR hb'.1,b41 hR hb'.2];by_cases q1:(prs t)[k].Key∈l
  ·rw[decide_eq_true q1];simp only[beq_self_eq_true,a4n,d2P,Bool.true_and];by_cases q2:(prs t)[k].Key∈lv s
   ·rw[decide_eq_true q2];simp only[beq_self_eq_true,a4n,d2P,Bool.true_and];by_cases q3:(prs t)[k].Val∈lv s
    ·rw[if_pos (by simpa using q3),x4 (by omega) (by simp;omega),d2P,k8,if_pos (by simp[q1,q2,q3])];exact⟨rfl,by simp;omega⟩
    ·rw[if_neg (by simpa using q3),k8,if_neg (by simp[q3]),List.append_nil];exact⟨rfl,by omega⟩
   ·rw[decide_eq_false q2];simp only[show ((false==true):Bool)=false from rfl,b5a,d2P,Bool.false_and,Bool.false_eq_true,if_false];rw[k8,if_neg (by simp[q2]),List.append_nil];exact⟨rfl,by omega⟩
  ·rw[decide_eq_false q1];simp only[show ((false==true):Bool)=false from rfl,b5a,d2P,Bool.false_and,Bool.false_eq_true,if_false];rw[k8,if_neg (by simp[q1]),List.append_nil];exact⟨rfl,by omega⟩
 ·simp only[Int.lt_irrefl,decide_false,Bool.false_eq_true,if_false];rfl
theorem c1L{l:List Int}(hl:l.length≤1000000):b0h (sO s) (t.map J9) l=some (owd s t l):=by
 unfold b0h;simp only[jn,b5j hT,d2P];have h8:=a4I hT.l8;rw[D7 ((prs t)) (λb p=>b++(if decide (p.Key∈l∧p.Key∈lv s∧p.Val∈lv s) then [p.Val] else [])) id (λk b=>b.length≤k) (by omega) (by simp) (λk hk b hb=>?_) (λb _=>?_)]
 ·simp only[d2P,id];rw[a10];congr 1;unfold owd;rw[List.nil_append];generalize prs t=P;induction P with
  | nil=>rfl
  | cons p P ih=>
   rw[List.flatMap_cons,List.filter_cons,ih];by_cases q:p.Key∈l∧p.Key∈lv s∧p.Val∈lv s
   ·simp[q]
   ·simp[q]
 ·have hb':=hTB.has (a27.1 (List.getElem_mem hk));have hk':k<((prs t).map pp).length:=by simpa using hk
  have eix:ix ((prs t).map pp) (k:Int)=some (pp (prs t)[k]):=by rw[a0F,n8 hk];rfl
  simp only[List.length_map,Int.ofNat_lt,hk,decide_true,if_true,eix,d2P,a9S _ _ hl,pp];rw[b3j hR hb'.1,b3j hR hb'.2];simp only[d2P];by_cases q1:(prs t)[k].Key∈lv s
  ·rw[decide_eq_true q1];simp only[beq_self_eq_true,a4n,d2P,Bool.true_and];have h0:=c0I hR _ q1;by_cases q2:(prs t)[k].Key∈l
   ·rw[decide_eq_true (show (prs t)[k].Key≠0∧(prs t)[k].Key∈l from ⟨h0,q2⟩)];simp only[beq_self_eq_true,a4n,d2P,Bool.true_and];by_cases q3:(prs t)[k].Val∈lv s
    ·rw[if_pos (by simpa using q3),x4 (by omega) (by simp;omega),d2P,k8,if_pos (by simp[q1,q2,q3])];exact⟨rfl,by simp;omega⟩
    ·rw[if_neg (by simpa using q3),k8,if_neg (by simp[q3]),List.append_nil];exact⟨rfl,by omega⟩
   ·rw[decide_eq_false (show ¬((prs t)[k].Key≠0∧(prs t)[k].Key∈l) from λq=>q2 q.2)];simp only[show ((false==true):Bool)=false from rfl,b5a,d2P,Bool.false_and,Bool.false_eq_true,if_false];rw[k8,if_neg (by simp[q2]),List.append_nil];exact⟨rfl,by omega⟩
  ·rw[decide_eq_false q1];simp only[show ((false==true):Bool)=false from rfl,b5a,d2P,Bool.false_and,Bool.false_eq_true,if_false];rw[k8,if_neg (by simp[q1]),List.append_nil];exact⟨rfl,by omega⟩
 ·simp only[List.length_map,Int.lt_irrefl,decide_false,Bool.false_eq_true,if_false];rfl
theorem c3t(hF:FB s){l:List Int}(hl:LB l)(hlen:l.length≤1000000):a7N s t l=some (frc s t l,(rnd s t l:Int)):=by
 unfold a7N;rw[c0t hR hF hl hlen,d2P];simp only[jn];have hn:=c4B s t l;have h8:=a4I hT.l8;have hstep:∀k,∃m,E8 s t l k=rcd s m:=a5a;refine a0w (p:=λk=>(E8 s t l k,(k:Int))) rfl (rnd s t l) (λ_=>True) (by omega) trivial (λk hk _=>.inl ⟨?_,trivial⟩) (λ_=>?_)
 ·obtain⟨m,hm⟩:=hstep k;have hlk:(E8 s t l k).length≤24:=by rw[hm];exact c0Z hR m
  have hlb:LB (E8 s t l k):=by rw[hm];exact c9X hR m
  have hno:=c09 s t l hk;simp only;rw[c0T hR hT hTB (by omega),d2P];have ho:=b6k (s:=s) hT (E8 s t l k);obtain⟨j,⟨hj,hjn⟩,hmin⟩:=a0J (p:=λj=>∃hj:j<(owd s t (E8 s t l k)).length,(owd s t (E8 s t l k))[j]∉E8 s t l k) (by
   refine Classical.byContradiction λq=>hno (b6j.1 λv hv=>Classical.byContradiction λq2=>?_);obtain⟨j,hj,e⟩:=List.mem_iff_getElem.1 hv;exact q ⟨j,hj,by rw[e];exact q2⟩)
  refine a14 (owd s t (E8 s t l k)).length (λi=>i≤j) (by omega) (Nat.zero_le _) (λi hi hP=>?_) (λhP=>by omega);simp only[Int.ofNat_lt,hi,decide_true,if_true,n8 hi,d2P];rw[contains_eq _ _ (by omega),d2P];rcases Nat.lt_or_ge i j with q | q
  ·refine .inl ⟨?_,q⟩;have:(owd s t (E8 s t l k))[i]∈E8 s t l k:=Classical.byContradiction λq2=>by have:=hmin i ⟨hi,q2⟩;omega
   rw[if_neg (by simp[this]),k8]
  ·have:i=j:=by omega
   subst this;refine .inr ⟨.inl (E8 s t l (k+1),((k+1:Nat):Int)),?_,rfl⟩;rw[if_pos (by simp[hjn]),x4 (by omega) (by omega),d2P,c0t hR hF (λx hx=>by
    rcases List.mem_append.1 hx with q | q
    ·exact c9H hR t _ x q
    ·exact hlb x q) (by simp;omega),d2P,k8,b1m]
   rw[b5g (l:=owd s t (E8 s t l k)++E8 s t l k) (m:=E8 s t l k++owd s t (E8 s t l k)) λx=>⟨λq=>q.mono λy hy hyl=>.base (List.mem_append.2 (List.mem_append.1 hy).symm) hyl,λq=>q.mono λy hy hyl=>.base (List.mem_append.2 (List.mem_append.1 hy).symm) hyl⟩]
 ·have hst:=b8d s t l;have hfr:=b5h hst;refine⟨(frc s t l,(rnd s t l:Int)),?_,rfl⟩;simp only;rw[hfr] at hst ⊢;have hfl:=b5W hR t l;rw[c0T hR hT hTB (by omega),d2P];have ho:=b6k (s:=s) hT (frc s t l);refine a14 (owd s t (frc s t l)).length (λ_=>True) (by omega) trivial (λi hi _=>.inl ⟨?_,trivial⟩) (λ_=>⟨.inr (),by simp,rfl⟩);have:=b6j.2 hst _ (List.getElem_mem hi);simp only[Int.ofNat_lt,hi,decide_true,if_true,n8 hi,d2P];rw[contains_eq _ _ (by omega),d2P,if_neg (by simp[this]),k8]
theorem b8g{l:List Int}(hlen:l.length≤1000000):a9h (sO s) (t.map J9) l=some (frc s t l,(rnd s t l:Int)):=by
 unfold a9h;rw[b4R hR hlen,d2P];simp only[jn];have hn:=c4B s t l;have h8:=a4I hT.l8;have hone:∀k,a7f (sO s) (E8 s t l k++owd s t (E8 s t l k))=some (E8 s t l (k+1))∧(E8 s t l k).length≤24∧(owd s t (E8 s t l k)).length≤8∧b0h (sO s) (t.map J9) (E8 s t l k)=some (owd s t (E8 s t l k)):=λk=>by
  obtain⟨m,hm⟩:=a5a (s:=s) (t:=t) (l:=l) k;have hlk:(E8 s t l k).length≤24:=by rw[hm];exact c0Z hR m
  have ho:=b6k (s:=s) hT (E8 s t l k);exact⟨by rw[b4R hR (by simp;omega),b1m],hlk,ho,c1L hR hT hTB (by omega)⟩
 refine a0w (p:=λk=>(E8 s t l k,(k:Int))) rfl (rnd s t l) (λ_=>True) (by omega) trivial (λk hk _=>.inl ⟨?_,trivial⟩) (λ_=>?_)
 ·obtain⟨h1,h2,h3,h4⟩:=hone k;obtain⟨_,h2',_,_⟩:=hone (k+1);have hne:E8 s t l (k+1)≠E8 s t l k:=λe=>by
   have:=b1l (c09 s t l hk);rw[e] at this;omega
  simp only;rw[if_pos (by simp;omega),J8 (by omega) (by omega),d2P,h4,d2P,x4 (by omega) (by omega),d2P,h1,d2P,b94 _ _ (by omega),d2P,if_neg (by simpa using hne),k8]
 ·obtain⟨h1,h2,h3,h4⟩:=hone (rnd s t l);obtain⟨_,h2',_,_⟩:=hone (rnd s t l+1);have hst:=b8d s t l;refine⟨.inl (frc s t l,(rnd s t l:Int)),?_,rfl⟩;simp only;rw[if_pos (by simp;omega),J8 (by omega) (by omega),d2P,h4,d2P,x4 (by omega) (by omega),d2P,h1,d2P,b94 _ _ (by omega),d2P,if_pos (by simpa using b9I hst),b5h hst]
theorem c3h(hF:FB s){l:List Int}(hl:LB l)(hlen:l.length≤1000000):a9J s t l=some (frc s t l):=by
 unfold a9J;rw[c3t hR hT hTB hF hl hlen];rfl
theorem b85{l:List Int}(hlen:l.length≤1000000):b3D (sO s) (t.map J9) l=some (frc s t l):=by
 unfold b3D;rw[b8g hR hT hTB hlen];rfl
omit hT hTB hR in
theorem c6X {l:List Int} {x:Int}:Rch s (frc s t l) x↔a0j s t l x:=by
 constructor
 ·intro q;exact a5F.1 (Rch.least (c8X s t l) (λx h _=>h) q)
 ·exact λq=>.base (a5F.2 q) q.live
theorem c3l(hF:FB s){l:List Int}(hl:LB l)(hlen:l.length≤1000000):a6X s t l=some (fls s t l):=by
 unfold a6X;rw[c3h hR hT hTB hF hl hlen,d2P,c6m hR hF (c8Y hR t l) (by have:=b5W hR t l;omega),d2P];congr 1;unfold lst fls;exact List.filter_congr λx _=>decide_eq_decide.2 (not_congr c6X)
open Classical in
theorem b88 {l:List Int} (hlen:l.length≤1000000):b3E (sO s) (t.map J9) l=some (fls s t l):=by
 unfold b3E;have h24:=D4 hR;have hfl:=b5W hR t l;rw[b85 hR hT hTB hlen,d2P,a89 hR,d2P];simp only[jn];rw[D7 (lv s) (λacc x=>if decide (¬a0j s t l x) then acc ++ [x] else acc) id (λk acc=>acc.length≤k) (by omega) (by simp) (λk hk acc hb=>?_) (λb _=>?_)]
 ·simp only[d2P,id];rw[foldl_filter];rfl
 ·simp only[Int.ofNat_lt,hk,decide_true,if_true,n8 hk,d2P];rw[a9S _ _ (by omega),d2P];have h0:=c0I hR _ (List.getElem_mem hk);by_cases q:a0j s t l (lv s)[k]
  ·have e:(lv s)[k]∈frc s t l:=a5F.2 q;rw[if_neg (by simp[e,h0]),if_neg (by simpa using q),k8];exact⟨rfl,by omega⟩
  ·have e:(lv s)[k]∉frc s t l:=λh=>q (a5F.1 h);rw[if_pos (by simp[e]),if_pos (by simpa using q),x4 (by omega) (by simp;omega),d2P,k8];exact⟨rfl,by simp;omega⟩
 ·simp only[Int.lt_irrefl,decide_false,Bool.false_eq_true,if_false];rfl
end
end Go.Sh
namespace Go.Sh
end Go.Sh
namespace Go.Sh
end Go.Sh
namespace Go.Sh
section
variable(s:a7)(hF:FB s)(t:Tb)(hTB:TB t)
include hF hTB
end
end Go.Sh
namespace Go.Sh
def ce(s:a7)(i:Nat):b7:=s.S.a8.getD i ⟨0,0,z0⟩
theorem B3{s:a7}{i:Nat}(h:i<s.S.a8.length):ce s i=s.S.a8[i]:=by
 unfold ce;rw[List.getD_eq_getElem?_getD,List.getElem?_eq_getElem h];rfl
theorem b7H{s:a7}{i:Nat}(h:i<s.S.a8.length):ix s.S.a8 (i:Int)=some (ce s i):=by rw[n8 h,B3 h]
def Th(c:b7):Prop:=c.State=1∨c.State=2
instance(c:b7):Decidable (Th c):=by unfold Th;infer_instance
structure OkO (s:a7) (o:l4):Prop where
 s1:1≤o.Serial
 s2:o.Serial≤s.Serial
 st:0≤o.Strong
 wk:0≤o.Weak
 p1 : -1≤o.Prog
 p2:o.Prog≤5
 fl:o.Fields.length≤4
structure SR (s:a7):Prop where
 len:s.S.a8.length≤24
 l0:0≤s.S.Last
 l9:s.S.Last≤9
 T3:0≤s.Serial
 cell:∀i,i<s.S.a8.length→0≤(ce s i).State∧(ce s i).State≤3∧0≤(ce s i).Gen∧(ce s i).Gen≤s.S.Last
 no:∀i,i<s.S.a8.length→¬Th (ce s i)→c1r (oo (ce s i).Val)
 ok:∀i,i<s.S.a8.length→Th (ce s i)→OkO s (ce s i).Val
 dif:∀i j,i<s.S.a8.length→j<s.S.a8.length→Th (ce s i)→Th (ce s j)→(ce s i).Val.Serial=(ce s j).Val.Serial→i=j
theorem p6{s:a7}:RtR (sO s)↔SR s:=by
 constructor
 ·intro h;refine⟨a1D h,h.l0,h.l9,h.T3,λi hi=>?_,λi hi hn=>?_,λi hi ht=>?_,λi j hi hj a b e=>?_⟩;·rw[B3 hi];exact b6F h i hi
  ·rw[B3 hi] at hn ⊢;have:=h.no i (by rw[A2];exact hi);simp only[sO,List.getElem_map] at this;exact this hn
  ·rw[B3 hi] at ht ⊢;obtain⟨a,b,c,d,e,f,g⟩:=c4H h i hi ht;exact⟨a,b,c,d,e,f,g⟩
  ·rw[B3 hi] at a e;rw[B3 hj] at b e;exact c4G h hi hj a b e
 ·intro h;refine⟨by rw[A2];exact h.len,h.l0,h.l9,h.T3,λi hi=>?_,λi hi hn=>?_,λi hi ht=>?_,λi hi k hk a b=>?_⟩
  ·rw[A2] at hi;have:=h.cell i hi;rw[B3 hi] at this;simpa[sO,cO] using this
  ·rw[A2] at hi;have:=h.no i hi;rw[B3 hi] at this;simp only[sO,List.getElem_map] at hn ⊢;exact this hn
  ·rw[A2] at hi;have:=h.ok i hi;rw[B3 hi] at this;simp only[sO,List.getElem_map] at ht ⊢;obtain⟨a,b,c,d,e,f,g⟩:=this ht;exact⟨a,b,c,d,e,f,g⟩
  ·rw[A2] at hi;have hk':k<s.S.a8.length:=by omega
   have:=h.dif i k hi hk';rw[B3 hi,B3 hk'] at this;simp only[sO,List.getElem_map,cO,oo] at a b ⊢;intro e;have:=this a b e.symm;omega
def At(s:a7)(h:Int)(i:Nat):Prop:=i<s.S.a8.length∧(ce s i).State=1∧h=1+(i:Int)+32*(ce s i).Gen
def U2(s:a7)(h:Int)(i:Nat):Prop:=i<s.S.a8.length∧Th (ce s i)∧h=1+(i:Int)+32*(ce s i).Gen
theorem At.d{s:a7}{h:Int}{i:Nat}(q:At s h i):U2 s h i:=⟨q.1,.inl q.2.1,q.2.2⟩
theorem U2.one{s:a7}(hR:SR s){h:Int}{i j:Nat}(q:U2 s h i)(q':U2 s h j):i=j:=by
 obtain⟨a1,_,a2⟩:=q;obtain⟨b1,_,b2⟩:=q';have:=hR.len;omega
theorem U2.rng{s:a7}(hR:SR s){h:Int}{i:Nat}(q:U2 s h i):1≤h∧h≤320:=by
 obtain⟨a1,_,a2⟩:=q;have:=hR.len;have:=hR.cell i a1;have:=hR.l9;omega
theorem b7O{s:a7}{h:Int}:h∈V7 0 s.S.a8↔∃i,At s h i:=by
 rw[a63];constructor
 ·rintro⟨i,hi,h1,h2⟩;refine⟨i,hi,by rw[B3 hi];exact h1,?_⟩;rw[B3 hi,h2,Nat.zero_add]
 ·rintro⟨i,hi,h1,h2⟩;rw[B3 hi] at h1 h2;exact⟨i,hi,h1,by rw[h2,Nat.zero_add]⟩
theorem a1q{s:a7}(hR:SR s){h:Int}:h∈lv s↔∃i,At s h i:=by rw[b00 (p6.2 hR),b7O]
theorem a85{s:a7}(hR:SR s){h:Int}{i:Nat}:b0G s.S h i↔U2 s h i:=by
 constructor
 ·rintro⟨hi,h1,h2,h3,h4⟩;unfold Hnd at h1;refine⟨hi,by rw[B3 hi];exact h4,?_⟩;rw[B3 hi];omega
 ·rintro⟨hi,h1,h2⟩;have l:=hR.len;have l9:=hR.l9;have c:=hR.cell i hi;rw[B3 hi] at h1 h2 c;exact⟨hi,by unfold Hnd;omega,by omega,by omega,h1⟩
theorem L5{s:a7}(hR:SR s){h:Int}{i:Nat}(q:At s h i):ob s h=(ce s i).Val:=by
 obtain⟨j,hj,h1,h2,_,e⟩:=b6c (p6.2 hR) ((a1q hR).2 ⟨i,q⟩);have:j=i:=U2.one hR ⟨hj,by rw[B3 hj];exact .inl h1,by rw[B3 hj];exact h2⟩ q.d;subst this;rw[e,B3 hj]
theorem c8z{s:a7}(hR:SR s){h:Int}{i:Nat}(q:At s h i):r7 s h=some ((ce s i).Val,0):=by
 rw[b3k (p6.2 hR) ((a1q hR).2 ⟨i,q⟩),L5 hR q]
theorem c2N{s:a7}(hR:SR s){h:Int}{i:Nat}(q:At s h i):sk s.S.a8 h=(ce s i).Val.Serial:=by
 have:=hR.len;have hi:=q.1;rw[q.2.2,b8n hi (by omega),B3 hi]
theorem a5v{s:a7}(hR:SR s){h:Int}{i:Nat}(q:U2 s h i):p7 s.S h=some ((i:Int),0):=a7M ((a85 hR).2 q)
theorem a8U{s:a7}(hR:SR s){h:Int}(hh:h≤9223372036854775807)(q:∀i,¬U2 s h i):p7 s.S h=some (-1,if h=0 then 2 else 3):=b0V hh λi hi=>q i ((a85 hR).1 hi)
theorem c3J{s s':a7}(hR:SR s)(hR':SR s')(P:Int→Bool)(hm:∀h,(∃i,At s' h i)↔(∃i,At s h i)∧P h=true)(hk:∀h i j,At s' h i→At s h j→(ce s' i).Val.Serial=(ce s j).Val.Serial):lv s'=(lv s).filter P:=by
 have hk':∀h∈lv s,P h=true→sk s'.S.a8 h=sk s.S.a8 h:=λh hh hp=>by
  obtain⟨j,hj⟩:=(a1q hR).1 hh;obtain⟨i,hi⟩:=(hm h).2 ⟨⟨j,hj⟩,hp⟩;rw[c2N hR' hi,c2N hR hj,hk h i j hi hj]
 refine d04 (p6.2 hR') ?_ ?_
 ·rw[List.perm_ext_iff_of_nodup ((a96 (p6.2 hR)).filter _) (a5J 0 _ (by have:=hR'.len;omega))];intro h;rw[List.mem_filter,a1q hR,b7O,hm h]
 ·refine ((a4j (p6.2 hR)).2.2.filter P).imp_of_mem λ{a b} ha hb hab=>?_;rw[List.mem_filter] at ha hb;rw[hk' a ha.1 ha.2,hk' b hb.1 hb.2];exact hab
theorem c6p{s s':a7}(hR:SR s)(hR':SR s')(hl:s'.S.a8.length=s.S.a8.length)(h1:∀i,i<s.S.a8.length→((ce s' i).State=1↔(ce s i).State=1)∧(ce s' i).Gen=(ce s i).Gen∧(ce s' i).Val.Serial=(ce s i).Val.Serial):lv s'=lv s:=by
 have ha:∀h i,At s' h i↔At s h i:=λh i=>by
  unfold At;rw[hl];constructor
  ·rintro⟨a,b,c⟩;obtain⟨x,y,z⟩:=h1 i a;exact⟨a,x.1 b,by rw[←y];exact c⟩
  ·rintro⟨a,b,c⟩;obtain⟨x,y,z⟩:=h1 i a;exact⟨a,x.2 b,by rw[y];exact c⟩
 rw[c3J hR hR' (λ_=>true) (λh=>by simp only[and_true];exact⟨λ⟨i,q⟩=>⟨i,(ha h i).1 q⟩,λ⟨i,q⟩=>⟨i,(ha h i).2 q⟩⟩) (λh i j q q'=>by
  have:=U2.one hR ((ha h i).1 q).d q'.d;subst this;exact (h1 i q'.1).2.2)]
 simp
def a1x(s:a7)(i:Nat)(o:l4):a7:=⟨⟨s.S.a8.set i ⟨(ce s i).State,(ce s i).Gen,o⟩,s.S.Last⟩,s.Serial⟩
theorem K0(s:a7)(i:Nat)(o:l4):(a1x s i o).S.a8.length=s.S.a8.length:=by simp[a1x]
theorem a2w{α:Type}{l:List α}{i:Nat}(hi:i<l.length)(c d:α)(j:Nat):(l.set i c).getD j d=if j=i then c else l.getD j d:=by
 rw[List.getD_eq_getElem?_getD,List.getD_eq_getElem?_getD,List.getElem?_set];by_cases h:j=i
 ·subst h;rw[if_pos rfl,if_pos hi,if_pos rfl];rfl
 ·rw[if_neg (Ne.symm h),if_neg h]
theorem a5x{s:a7}{i:Nat}(hi:i<s.S.a8.length)(o:l4)(j:Nat):ce (a1x s i o) j=if j=i then ⟨(ce s i).State,(ce s i).Gen,o⟩ else ce s j:=a2w hi _ _ j
theorem b3Y{s:a7}{i:Nat}(hi:i<s.S.a8.length)(o:l4)(j:Nat):(ce (a1x s i o) j).State=(ce s j).State∧(ce (a1x s i o) j).Gen=(ce s j).Gen:=by
 rw[a5x hi];split;·rename_i q;subst q;exact⟨rfl,rfl⟩
 ·exact⟨rfl,rfl⟩
theorem b18{s:a7}{i:Nat}(hi:i<s.S.a8.length)(o:l4){h:Int}{j:Nat}:U2 (a1x s i o) h j↔U2 s h j:=by
 unfold U2 Th;rw[K0,(b3Y hi o j).1,(b3Y hi o j).2]
theorem b2M{s:a7}{i:Nat}(hi:i<s.S.a8.length)(o:l4){h:Int}{j:Nat}:At (a1x s i o) h j↔At s h j:=by
 unfold At;rw[K0,(b3Y hi o j).1,(b3Y hi o j).2]
theorem b6L{s:a7}(hR:SR s){h:Int}{i:Nat}(q:U2 s h i)(o:l4):H5 s h o=some (a1x s i o,0):=by
 obtain⟨hi,e⟩:=b8l (v:=o) hR.len ((a85 hR).2 q);unfold H5;rw[e];simp[a1x,B3 hi]
theorem SR.put{s:a7}(hR:SR s){i:Nat}(hi:i<s.S.a8.length)(ht:Th (ce s i)){o:l4}(hs:o.Serial=(ce s i).Val.Serial)(ho:OkO s o):SR (a1x s i o):=by
 have hst:=b3Y hi o;have hse:∀j,(ce (a1x s i o) j).Val.Serial=(ce s j).Val.Serial:=λj=>by
  rw[a5x hi];split;·rename_i q;subst q;exact hs
  ·rfl
 refine⟨by rw[K0];exact hR.len,hR.l0,hR.l9,hR.T3,λj hj=>?_,λj hj hn=>?_,λj hj hn=>?_,λj k hj hk a b e=>?_⟩
 ·rw[K0] at hj;rw[(hst j).1,(hst j).2];exact hR.cell j hj
 ·rw[K0] at hj;unfold Th at hn;rw[(hst j).1] at hn;rw[a5x hi];split;·rename_i q;subst q;exact absurd ht hn
  ·exact hR.no j hj hn
 ·rw[K0] at hj;unfold Th at hn;rw[(hst j).1] at hn;rw[a5x hi];split;·exact⟨ho.s1,ho.s2,ho.st,ho.wk,ho.p1,ho.p2,ho.fl⟩
  ·have:=hR.ok j hj hn;exact⟨this.s1,this.s2,this.st,this.wk,this.p1,this.p2,this.fl⟩
 ·rw[K0] at hj hk;unfold Th at a b;rw[(hst j).1] at a;rw[(hst k).1] at b;rw[hse,hse] at e;exact hR.dif j k hj hk a b e
theorem c3H{s:a7}(hR:SR s){i:Nat}(hi:i<s.S.a8.length){o:l4}(hs:o.Serial=(ce s i).Val.Serial)(hR':SR (a1x s i o)):lv (a1x s i o)=lv s:=by
 refine c6p hR hR' (K0 ..) λj hj=>?_;rw[a5x hi];split;·rename_i q;subst q;exact⟨Iff.rfl,rfl,hs⟩
 ·exact⟨Iff.rfl,rfl,rfl⟩
theorem c9B{s:a7}(hR:SR s){h:Int}{i:Nat}(q:At s h i){o:l4}(hR':SR (a1x s i o)){k:Int}(hk:k≤9223372036854775807):ob (a1x s i o) k=if k=h then o else ob s k:=by
 by_cases e:k=h
 ·subst e;rw[if_pos rfl,L5 hR' ((b2M q.1 o).2 q),a5x q.1,if_pos rfl]
 ·rw[if_neg e];by_cases hl:∃j,At s k j
  ·obtain⟨j,hj⟩:=hl;rw[L5 hR' ((b2M q.1 o).2 hj),L5 hR hj,a5x q.1,if_neg];intro e2;subst e2;exact e (hj.2.2.trans q.2.2.symm)
  ·rw[a8I (p6.2 hR) hk (λq2=>hl ((a1q hR).1 q2)),a8I (p6.2 hR') hk λq2=>hl (by
    obtain⟨j,hj⟩:=(a1q hR').1 q2;exact⟨j,(b2M q.1 o).1 hj⟩)]
def B1(h:Int):Nat:=((h-1) % 32).toNat
theorem U2.B1{s:a7}(hR:SR s){h:Int}{i:Nat}(q:U2 s h i):B1 h=i:=by
 obtain⟨a,_,c⟩:=q;have:=hR.len;unfold Sh.B1;omega
def seO(s:a7)(h:Int)(o:l4):a7:=a1x s (B1 h) o
theorem u6{s:a7}(hR:SR s){h:Int}(hh:h∈lv s):At s h (B1 h):=by
 obtain⟨i,hi⟩:=(a1q hR).1 hh;rw[hi.d.B1 hR];exact hi
theorem H2{s:a7}(hR:SR s){h:Int}(hh:h∈lv s):OkO s (ob s h):=by
 have q:=u6 hR hh;rw[L5 hR q];exact hR.ok _ q.1 (.inl q.2.1)
theorem D5{s:a7}(hR:SR s){h:Int}(hh:h∈lv s):1≤h∧h≤320:=(u6 hR hh).d.rng hR
theorem a5N{s:a7}(hR:SR s):(0:Int)∉lv s:=λh=>by have:=D5 hR h;omega
section
variable{s:a7}(hR:SR s){h:Int}(hh:h∈lv s){o:l4}(hs:o.Serial=(ob s h).Serial)(ho:OkO s o)
include hR hh hs ho
theorem a0q:SR (seO s h o):=by
 have q:=u6 hR hh;exact hR.put q.1 (.inl q.2.1) (by rw[hs,L5 hR q]) ho
theorem a2V:lv (seO s h o)=lv s:=by
 have q:=u6 hR hh;exact c3H hR q.1 (by rw[hs,L5 hR q]) (a0q hR hh hs ho)
theorem a2d{k:Int}(hk:k≤9223372036854775807):ob (seO s h o) k=if k=h then o else ob s k:=c9B hR (u6 hR hh) (a0q hR hh hs ho) hk
theorem b0u:H5 s h o=some (seO s h o,0):=b6L hR (u6 hR hh).d o
theorem b9P{k:Int}{i:Nat}:U2 (seO s h o) k i↔U2 s k i:=b18 (u6 hR hh).1 o
theorem b6K(i:Nat):ce (seO s h o) i=if i=B1 h then ⟨(ce s i).State,(ce s i).Gen,o⟩ else ce s i:=by
 unfold seO;rw[a5x (u6 hR hh).1];split;·rename_i q;rw[q]
 ·rfl
end
abbrev stg(o:l4)(n:Int):l4:=⟨o.Serial,n,o.Weak,o.Prog,o.Started,o.Fields⟩
structure Kin (s s':a7):Prop where
 sr:SR s'
 len:s'.S.a8.length=s.S.a8.length
 last:s'.S.Last=s.S.Last
 T3:s'.Serial=s.Serial
 lv:lv s'=lv s
 ad:∀k i,U2 s' k i↔U2 s k i
 ob:∀k,k≤9223372036854775807→∃n,ob s' k=(stg (ob s k) (n))
 ce:∀i,i<s.S.a8.length→(ce s' i).State=(ce s i).State∧(ce s' i).Gen=(ce s i).Gen∧(ce s' i).Val.Weak=(ce s i).Val.Weak∧(ce s' i).Val.Fields=(ce s i).Val.Fields∧((ce s i).State≠1→ce s' i=ce s i)
theorem Kin.refl{s:a7}(hR:SR s):Kin s s:=⟨hR,rfl,rfl,rfl,rfl,λ_ _=>Iff.rfl,λk _=>⟨_,rfl⟩,λi _=>⟨rfl,rfl,rfl,rfl,λ_=>rfl⟩⟩
theorem Kin.trans{a b c:a7}(h:Kin a b)(q:Kin b c):Kin a c:=by
 refine⟨q.sr,q.len.trans h.len,q.last.trans h.last,q.T3.trans h.T3,q.lv.trans h.lv,λk i=>(q.ad k i).trans (h.ad k i),λk hk=>?_,λi hi=>?_⟩
 ·obtain⟨n,e⟩:=h.ob k hk;obtain⟨m,f⟩:=q.ob k hk;exact⟨m,by rw[f,e]⟩
 ·obtain⟨a1,a2,a3,a4,a5⟩:=h.ce i hi;obtain⟨b1,b2,b3,b4,b5⟩:=q.ce i (by rw[h.len];exact hi);refine⟨b1.trans a1,b2.trans a2,b3.trans a3,b4.trans a4,λhn=>?_⟩;rw[b5 (by rw[a1];exact hn),a5 hn]
theorem Kin.outs{s s':a7}(k:Kin s s'){h:Int}(hh:h≤9223372036854775807):outs s' h=outs s h:=by
 obtain⟨n,e⟩:=k.ob h hh;unfold Sh.outs;rw[e]
theorem Kin.inn{s s':a7}(hR:SR s)(k:Kin s s')(h:Int):inn s' h=inn s h:=by
 unfold Sh.inn;rw[k.lv];congr 1;refine List.map_congr_left λx hx=>?_;rw[k.outs (by have:=D5 hR hx;omega)]
theorem c6k{s:a7}(hR:SR s){h:Int}(hh:h∈lv s){n:Int}(hn:0≤n):Kin s (seO s h (stg (ob s h) (n))):=by
 have ho:OkO s (stg (ob s h) (n)):=by
  have:=H2 hR hh;exact⟨this.s1,this.s2,hn,this.wk,this.p1,this.p2,this.fl⟩
 have q:=u6 hR hh;refine⟨a0q hR hh rfl ho,K0 ..,rfl,rfl,a2V hR hh rfl ho,λk i=>b9P (o:=(stg (ob s h) (n))) hR hh rfl ho,λk hk=>?_,λi hi=>?_⟩
 ·rw[a2d (o:=(stg (ob s h) (n))) hR hh rfl ho hk];split;·rename_i e;subst e;exact⟨n,rfl⟩
  ·exact⟨_,rfl⟩
 ·rw[b6K (o:=(stg (ob s h) (n))) hR hh rfl ho];split
  ·rename_i e;subst e;rw[L5 hR q];exact⟨rfl,rfl,rfl,rfl,λhn=>absurd q.2.1 hn⟩
  ·exact⟨rfl,rfl,rfl,rfl,λ_=>rfl⟩
def SB(s:a7):Prop:=∀c∈s.S.a8,c.Val.Strong≤9223372036854775807
theorem d0Z{s:a7}:FB s↔∀i,i<s.S.a8.length→∀x∈(ce s i).Val.Fields,x≤9223372036854775807:=by
 constructor
 ·intro h i hi x hx;rw[B3 hi] at hx;exact h _ (List.getElem_mem hi) x hx
 ·intro h c hc x hx;obtain⟨i,hi,rfl⟩:=List.getElem_of_mem hc;exact h i hi x (by rw[B3 hi];exact hx)
theorem d1w{s:a7}:SB s↔∀i,i<s.S.a8.length→(ce s i).Val.Strong≤9223372036854775807:=by
 constructor
 ·intro h i hi;rw[B3 hi];exact h _ (List.getElem_mem hi)
 ·intro h c hc;obtain⟨i,hi,rfl⟩:=List.getElem_of_mem hc;have:=h i hi;rwa [B3 hi] at this
end Go.Sh
namespace Go.Sh
noncomputable def inr(s:a7)(t:Tb)(h:Int):Nat:=inn s h+own t h
noncomputable def rst(s:a7)(t:Tb)(h:Int):Int:=if h∈lv s then (ob s h).Strong-(inr s t h:Int) else 0
noncomputable def hld(s:a7)(t:Tb):List Int:=(lv s).filter λh=>decide (0<rst s t h∨12≤(ob s h).Strong)
def c7u(s:a7)(t:Tb)(l:List Int):Prop:=∀h∈lv s,(ob s h).Strong<12→rst s t h=(W0 l h:Int)
noncomputable instance(s:a7)(t:Tb)(l:List Int):Decidable (c7u s t l):=Classical.propDecidable _
section
variable{s:a7}(hR:RtR (sO s)){t:Tb}(hT:HR t)
include hR hT
theorem c3z(h:Int):a4v s t h=some (inr s t h:Int):=by
 unfold a4v;have h1:=b9i hR h;have h2:=b9u hT.l8 h;rw[d03 hR,d2P,c4g hT,d2P,B0 (by omega) (by omega)];unfold inr;simp
theorem b9j(h:Int):b1f (sO s) (t.map J9) h=some (inr s t h:Int):=by
 unfold b1f;have h1:=b9i hR h;have h2:=b9u hT.l8 h;rw[c6c hR,d2P,c18 hT,d2P,B0 (by omega) (by omega)];unfold inr;simp
theorem c3A(h:Int):inr s t h≤104:=by
 have h1:=b9i hR h;have h2:=b9u hT.l8 h;unfold inr;omega
omit hT in
theorem b1u (hB:SB s) {h:Int} (hh:h∈lv s):0≤(ob s h).Strong∧(ob s h).Strong≤9223372036854775807:=by
 obtain⟨i,hi⟩:=(a1q (p6.1 hR)).1 hh;rw[L5 (p6.1 hR) hi];refine⟨((p6.1 hR).ok i hi.1 (.inl hi.2.1)).st,?_⟩;rw[B3 hi.1];exact hB _ (List.getElem_mem _)
theorem c6Y(hB:SB s){h:Int}(hh:h≤9223372036854775807):a6j s t h=some (rst s t h):=by
 unfold a6j;obtain⟨e,h1,h2⟩:=O8 hR hh;rw[h1,d2P];by_cases q:h∈lv s
 ·have:=h2.2 q;subst this;have h3:=c3A hR hT h;have h4:=b1u hR hB q;rw[if_neg (by simp),c3z hR hT,d2P,B0 (by dsimp only;omega) (by dsimp only;omega)];unfold rst;rw[if_pos q]
 ·rw[if_pos (by simpa using λq2=>q (h2.1 q2))];unfold rst;rw[if_neg q]
theorem c11(hB:SB s){h:Int}(hh:h≤9223372036854775807):b3G (sO s) (t.map J9) h=some (rst s t h):=by
 unfold b3G;obtain⟨e,h1,h2⟩:=O8 hR hh;rw[a4S s (by have:=a1D hR;omega) hh,h1,Option.map_some,d2P];by_cases q:h∈lv s
 ·have:=h2.2 q;subst this;have h3:=c3A hR hT h;have h4:=b1u hR hB q;rw[if_neg (by simp),b9j hR hT,d2P];simp only[oo];rw[B0 (by omega) (by omega)];unfold rst;rw[if_pos q]
 ·rw[if_pos (by simpa using λq2=>q (h2.1 q2))];unfold rst;rw[if_neg q]
omit hT in
theorem b9T {h:Int} (hh:h≤9223372036854775807):b1g (sO s) h=some (decide (12≤(ob s h).Strong)):=by
 unfold b1g a18;obtain⟨e,h1,h2⟩:=O8 hR hh;rw[a4S s (by have:=a1D hR;omega) hh,h1,Option.map_some,d2P,d2P];rfl
omit hT in
theorem c7Q {k:Nat} (hk:k<(lv s).length):(lv s)[k]≤9223372036854775807:=by
 have:=a4F hR (List.getElem_mem hk);omega
theorem c6a(hB:SB s):a6h s t=some (hld s t):=by
 unfold a6h;simp only[jn];have h24:=D4 hR;rw[a1r hR,d2P,D7 (lv s) (λb x=>if decide (0<rst s t x∨12≤(ob s x).Strong) then b ++ [x] else b) id (λk b=>b.length≤k) (by omega) (by simp) (λk hk b hI=>?_) (λb _=>by simp),d2P]
 ·rw[foldl_filter];rfl
 ·have hm:=List.getElem_mem hk;have hle:=c7Q hR hk;simp only[Int.ofNat_lt,hk,decide_true,if_true,n8 hk,d2P];rw[b3k hR hm,d2P];unfold a6i a6S D6;rw[c6Y hR hT hB hle,d2P,d2P];by_cases q:0<rst s t (lv s)[k]
  ·rw[decide_eq_true (show rst s t (lv s)[k] > 0 from q)];simp only[show ((true==false):Bool)=false from rfl,b5a,d2P,Bool.true_or,if_true];rw[x4 (by omega) (by simp;omega),d2P,k8,if_pos (decide_eq_true (.inl q))];exact⟨rfl,by simp;omega⟩
  ·rw[decide_eq_false (show ¬rst s t (lv s)[k] > 0 from q)];simp only[beq_self_eq_true,a4n,d2P,Bool.false_or];by_cases q2:12≤(ob s (lv s)[k]).Strong
   ·rw[if_pos (decide_eq_true q2),x4 (by omega) (by simp;omega),d2P,k8,if_pos (decide_eq_true (.inr q2))];exact⟨rfl,by simp;omega⟩
   ·rw[if_neg (by simpa using q2),k8,if_neg (by simp only[decide_eq_true_eq];exact λc=>c.elim q q2)];exact⟨rfl,by omega⟩
theorem c1M(hB:SB s):b3F (sO s) (t.map J9)=some (hld s t):=by
 unfold b3F;simp only[jn];have h24:=D4 hR;rw[a89 hR,d2P,D7 (lv s) (λb x=>if decide (0<rst s t x∨12≤(ob s x).Strong) then b ++ [x] else b) id (λk b=>b.length≤k) (by omega) (by simp) (λk hk b hI=>?_) (λb _=>by simp),d2P]
 ·rw[foldl_filter];rfl
 ·have hle:=c7Q hR hk;simp only[Int.ofNat_lt,hk,decide_true,if_true,n8 hk,d2P];rw[c11 hR hT hB hle,d2P];by_cases q:0<rst s t (lv s)[k]
  ·rw[decide_eq_true (show rst s t (lv s)[k] > 0 from q)];simp only[show ((true==false):Bool)=false from rfl,b5a,d2P,Bool.true_or,if_true];rw[x4 (by omega) (by simp;omega),d2P,k8,if_pos (decide_eq_true (.inl q))];exact⟨rfl,by simp;omega⟩
  ·rw[decide_eq_false (show ¬rst s t (lv s)[k] > 0 from q)];simp only[beq_self_eq_true,a4n,d2P,Bool.false_or];rw[b9T hR hle,d2P];by_cases q2:12≤(ob s (lv s)[k]).Strong
   ·rw[if_pos (decide_eq_true q2),x4 (by omega) (by simp;omega),d2P,k8,if_pos (decide_eq_true (.inr q2))];exact⟨rfl,by simp;omega⟩
   ·rw[if_neg (by simpa using q2),k8,if_neg (by simp only[decide_eq_true_eq];exact λc=>c.elim q q2)];exact⟨rfl,by omega⟩
omit hT in
theorem c0y:(hld s t).length≤24:=Nat.le_trans (List.length_filter_le ..) (D4 hR)
omit hR hT in
theorem b2g {h:Int}:h∈hld s t↔h∈lv s∧(0<rst s t h∨12≤(ob s h).Strong):=by
 unfold hld;rw[List.mem_filter,decide_eq_true_eq]
omit hT in
theorem c9d:LB (hld s t):=λx hx=>by have:=a4F hR (b2g.1 hx).1;omega
theorem b9c(hTB:TB t)(hF:FB s)(hB:SB s):a0B s t=some (fls s t (hld s t)):=by
 unfold a0B;have:=c0y hR (t:=t);rw[c6a hR hT hB,d2P,c3l hR hT hTB hF (c9d hR) (by omega)];rfl
theorem b5X(hTB:TB t)(hB:SB s):a7h (sO s) (t.map J9)=some (fls s t (hld s t)):=by
 unfold a7h;have:=c0y hR (t:=t);rw[c1M hR hT hB,d2P,b88 hR hT hTB (by omega)];rfl
end
end Go.Sh
namespace Go.Sh
abbrev TQ:=c7
def tad(q:TQ)(t:g8):TQ × Int:=if q.Cap≤q.L.length then (q,4) else (⟨q.L ++ [t],q.Cap⟩,0)
def tnx(q:TQ):TQ × g8 × Int:=match q.L with
 | []=>(q,⟨0,0,0⟩,10)
 | t::l=>(⟨l,q.Cap⟩,t,0)
theorem c72{q:TQ}(t:g8)(h:q.L.length≤1000):a7B q t=some (tad q t):=by
 unfold tad;unfold a7B N8 G1 D2;simp only[d2P];by_cases c:q.Cap≤q.L.length
 ·rw[if_pos (by simpa using c),if_pos c,d2P]
 ·rw[if_neg (by simpa using c),if_neg c];have e:cut q.L 0 (q.L.length:Int)=some q.L:=by
   have:=a83 (xs:=q.L) (i:=0) (j:=q.L.length) (Nat.zero_le _) (Nat.le_refl _);simpa using this
  rw[e,d2P,d2P,x4 (by omega) (by simp;omega),d2P,d2P]
theorem b6T{q:TQ}:a08 q=some (tnx q):=by
 unfold tnx;unfold a08 a0p V8 G1 D2;simp only[d2P];cases hl:q.L with
 | nil=>
  have e:cut ([]:List g8) 0 0=some []:=rfl;simp[e]
 | cons t l=>
  have hm:(if (if (((t::l).length:Nat):Int)<1 then (((t::l).length:Nat):Int) else 1) > 0 then (if (((t::l).length:Nat):Int)<1 then (((t::l).length:Nat):Int) else 1) else 0)=1:=by
   rw[if_neg (show ¬(((t::l).length:Nat):Int)<1 by simp;omega)];simp
  rw[hm];have e1:cut (t::l) 0 1=some [t]:=by
   have:=a83 (xs:=t::l) (i:=0) (j:=1) (Nat.zero_le _) (by simp);simpa using this
  have e2:cut (t::l) 1 (((t::l).length:Nat):Int)=some l:=by
   have:=a83 (xs:=t::l) (i:=1) (j:=(t::l).length) (by simp) (Nat.le_refl _);simpa using this
  rw[e1,e2];simp[ix]
theorem c7d{q:TQ}{w:Int}(h:q.L.length≤1000):a3W q w=some (q.L.any λt=>t.Kind==2&&t.At==w):=by
 unfold a3W b2A;simp only[jn,d2P];refine a14 q.L.length (λk=>(q.L.take k).any (λt=>t.Kind==2&&t.At==w)=false) (by omega) (by simp) ?_ (λhl=>⟨.inr (),by simp,by rw[List.take_length] at hl;rw[hl]⟩);intro k hk hP;simp only[Int.ofNat_lt,hk,decide_true,if_true,n8 hk,d2P];rw[List.take_succ_eq_append_getElem hk,List.any_append,hP,Bool.false_or];by_cases c:(q.L[k].Kind==2)=true
 ·rw[c,if_pos (by decide)];by_cases d:(q.L[k].At==w)=true
  ·right;rw[d,if_pos rfl];refine⟨.inl true,rfl,?_⟩;simp only[Option.some.injEq];symm
   rw[List.any_eq_true];exact⟨_,List.getElem_mem hk,by rw[c,d];rfl⟩
  ·have d:(q.L[k].At==w)=false:=by simpa using d
   left;rw[d,if_neg (by decide),k8];exact⟨rfl,by simp[d]⟩
 ·have c:(q.L[k].Kind==2)=false:=by simpa using c
  left;rw[c,if_neg (by decide),k8];exact⟨rfl,by simp[c]⟩
end Go.Sh
namespace Go.Sh
def tkR(t:g8):O0:=⟨t.Kind,t.At,t.Prog⟩
def tqR(q:TQ):C3:=⟨q.L.map tkR,q.Cap⟩
theorem c7Y{q:TQ}(t:g8)(h:q.L.length≤1000):a5Z (tqR q) (tkR t)=some (tqR (tad q t).1,(tad q t).2):=by
 unfold a5Z tad;have hl:(tqR q).L.length=q.L.length:=by simp[tqR]
 by_cases c:q.Cap≤q.L.length
 ·rw[if_pos (by simp[hl];exact c),if_pos c]
 ·rw[if_neg (by simp[hl];exact Int.not_le.1 c),if_neg c,J8 (by omega) (by rw[hl];omega),d2P,x4 (by omega) (by simp[hl];omega),d2P];simp[tqR]
theorem c9V{q:TQ}:b3H (tqR q)=some (tqR (tnx q).1,tkR (tnx q).2.1,(tnx q).2.2):=by
 unfold b3H tnx;obtain⟨L,C⟩:=q;cases L with
 | nil=>simp[tqR,tkR]
 | cons t l=>
  rw[if_neg (by simp[tqR];omega)];have e:cut (tqR ⟨t::l,C⟩).L 1 (((tqR ⟨t::l,C⟩).L.length:Nat):Int)=some (l.map tkR):=by
   have:=a83 (xs:=(tqR ⟨t::l,C⟩).L) (i:=1) (j:=(tqR ⟨t::l,C⟩).L.length) (by simp[tqR]) (Nat.le_refl _);rw[show (1:Int)=((1:Nat):Int) from rfl,this,List.take_length];simp[tqR]
  rw[e];simp[ix,tqR]
theorem c6V{q:TQ}{w:Int}(h:q.L.length≤1000):a71 (tqR q) w=some (q.L.any λt=>t.Kind==2&&t.At==w):=by
 unfold a71;have hl:(tqR q).L.length=q.L.length:=by simp[tqR]
 simp only[jn,hl];refine a14 q.L.length (λk=>(q.L.take k).any (λt=>t.Kind==2&&t.At==w)=false) (by omega) (by simp) ?_ (λhl=>⟨.inr (),by simp,by rw[List.take_length] at hl;rw[hl]⟩);intro k hk hP;have e:ix (tqR q).L (k:Int)=some (tkR q.L[k]):=by rw[show (tqR q).L=q.L.map tkR from rfl,a0F,n8 hk];rfl
 simp only[Int.ofNat_lt,hk,decide_true,if_true,e,d2P];rw[List.take_succ_eq_append_getElem hk,List.any_append,hP,Bool.false_or];by_cases c:(q.L[k].Kind==2&&q.L[k].At==w)=true
 ·right;rw[show ((tkR q.L[k]).Kind==2&&(tkR q.L[k]).At==w)=true from c,if_pos rfl];refine⟨.inl true,rfl,?_⟩;simp only[Option.some.injEq];symm
  rw[List.any_eq_true];exact⟨_,List.getElem_mem hk,c⟩
 ·have c:(q.L[k].Kind==2&&q.L[k].At==w)=false:=by simpa using c
  left;rw[show ((tkR q.L[k]).Kind==2&&(tkR q.L[k]).At==w)=false from c,if_neg (by decide),k8];exact⟨rfl,by simp[c]⟩
end Go.Sh
namespace Go.Sh
abbrev Hp:=b6
abbrev wS(x:Hp)(s:a7):Hp:=⟨s,x.Roots,x.a8,x.T,x.Q⟩
abbrev wR(x:Hp)(l:List Int):Hp:=⟨x.S,l,x.a8,x.T,x.Q⟩
abbrev wC(x:Hp)(l:List c5):Hp:=⟨x.S,x.Roots,l,x.T,x.Q⟩
abbrev wT(x:Hp)(t:Tb):Hp:=⟨x.S,x.Roots,x.a8,t,x.Q⟩
abbrev wQ(x:Hp)(q:TQ):Hp:=⟨x.S,x.Roots,x.a8,x.T,q⟩
def nmg(l:List c5)(h:Int):Nat:=l.countP λc=>(h != 0)&&(c.Target==h)
def b3b(q:TQ):List Int:=(q.L.filter (·.Kind==1)).map (·.At)
def wts(q:TQ)(w:Int):Bool:=q.L.any λt=>t.Kind==2&&t.At==w
def otr(x:Hp):List Int:=nz x.Roots++b3b x.Q
noncomputable def nms(x:Hp)(h:Int):Nat:=inn x.S h+own x.T h+W0 (otr x) h
def E2(s:a7)(i:Nat)(c:b7):a7:=⟨⟨s.S.a8.set i c,s.S.Last⟩,s.Serial⟩
theorem U1(s:a7)(i:Nat)(c:b7):(E2 s i c).S.a8.length=s.S.a8.length:=by simp[E2]
theorem H9{s:a7}{i:Nat}(hi:i<s.S.a8.length)(c:b7)(j:Nat):ce (E2 s i c) j=if j=i then c else ce s j:=a2w hi _ _ j
theorem SR.E2{s:a7}(hR:SR s){i:Nat}(hi:i<s.S.a8.length){c:b7}(h1:0≤c.State∧c.State≤3∧0≤c.Gen∧c.Gen≤s.S.Last)(h2:¬Th c→c1r (oo c.Val))(h3:Th c→OkO s c.Val∧Th (ce s i)∧c.Val.Serial=(ce s i).Val.Serial):SR (E2 s i c):=by
 have key:∀j,Th (ce (Sh.E2 s i c) j)→Th (ce s j)∧(ce (Sh.E2 s i c) j).Val.Serial=(ce s j).Val.Serial:=λj hj=>by
  rw[H9 hi] at hj ⊢;split at hj
  ·rename_i e;subst e;rw[if_pos rfl];exact (h3 hj).2
  ·rename_i e;rw[if_neg e];exact⟨hj,rfl⟩
 refine⟨by rw[U1];exact hR.len,hR.l0,hR.l9,hR.T3,λj hj=>?_,λj hj hn=>?_,λj hj hn=>?_,λj k hj hk a b e=>?_⟩
 ·rw[U1] at hj;rw[H9 hi];split;·exact h1
  ·exact hR.cell j hj
 ·rw[U1] at hj;rw[H9 hi] at hn ⊢;split at hn
  ·rename_i e;rw[if_pos e];exact h2 hn
  ·rename_i e;rw[if_neg e];exact hR.no j hj hn
 ·rw[U1] at hj;rw[H9 hi] at hn ⊢;split at hn
  ·rename_i e;rw[if_pos e];have:=(h3 hn).1;exact⟨this.s1,this.s2,this.st,this.wk,this.p1,this.p2,this.fl⟩
  ·rename_i e;rw[if_neg e];have:=hR.ok j hj hn;exact⟨this.s1,this.s2,this.st,this.wk,this.p1,this.p2,this.fl⟩
 ·rw[U1] at hj hk;obtain⟨a1,a2⟩:=key j a;obtain⟨b1,b2⟩:=key k b;rw[a2,b2] at e;exact hR.dif j k hj hk a1 b1 e
theorem c2M{s:a7}{i:Nat}(hi:i<s.S.a8.length)(c:b7){h:Int}{j:Nat}(hj:j≠i):U2 (E2 s i c) h j↔U2 s h j:=by
 unfold U2;rw[U1,H9 hi,if_neg hj]
theorem b19{s:a7}{i:Nat}(hi:i<s.S.a8.length)(c:b7){h:Int}{j:Nat}(hj:j≠i):At (E2 s i c) h j↔At s h j:=by
 unfold At;rw[U1,H9 hi,if_neg hj]
theorem c0J{s:a7}(hR:SR s){i:Nat}(hi:i<s.S.a8.length){c:b7}(hc:c.State≠1)(hR':SR (E2 s i c)):lv (E2 s i c)=(lv s).filter λh=>decide (B1 h≠i):=by
 have hno:∀h,¬At (E2 s i c) h i:=λh q=>by
  have:=q.2.1;rw[H9 hi,if_pos rfl] at this;exact hc this
 refine c3J hR hR' _ (λh=>?_) (λh j k q q'=>?_)
 ·rw[decide_eq_true_iff];constructor
  ·rintro⟨j,hj⟩;have hne:j≠i:=λe=>hno h (e▸hj);have:=(b19 hi c hne).1 hj;exact⟨⟨j,this⟩,by rw[this.d.B1 hR];exact hne⟩
  ·rintro⟨⟨j,hj⟩,hp⟩;rw[hj.d.B1 hR] at hp;exact⟨j,(b19 hi c hp).2 hj⟩
 ·have hne:j≠i:=λe=>hno h (e▸q);have q2:=(b19 hi c hne).1 q;have:=U2.one hR q2.d q'.d;subst this;rw[H9 hi,if_neg hne]
theorem c0P{s:a7}(hR:SR s){i:Nat}(hi:i<s.S.a8.length){c:b7}(hR':SR (E2 s i c)){k:Int}(hk:k∈lv s)(hp:B1 k≠i):ob (E2 s i c) k=ob s k:=by
 have q:=u6 hR hk;rw[L5 hR' ((b19 hi c hp).2 q),L5 hR q,H9 hi,if_neg hp]
structure Kn (s s':a7):Prop where
 sr:SR s'
 len:s'.S.a8.length=s.S.a8.length
 lv:lv s'=lv s
 ad:∀k i,U2 s' k i↔U2 s k i
 ob:∀k,k∈Sh.lv s→∃n m,ob s' k=⟨(ob s k).Serial,n,m,(ob s k).Prog,(ob s k).Started,(ob s k).Fields⟩
theorem Kin.kn{s s':a7}(hR:SR s)(k:Kin s s'):Kn s s':=⟨k.sr,k.len,k.lv,k.ad,λh hh=>by
 obtain⟨n,e⟩:=k.ob h (by have:=D5 hR hh;omega);exact⟨n,_,e⟩⟩
theorem Kn.inn{s s':a7}(k:Kn s s')(h:Int):inn s' h=inn s h:=by
 unfold Sh.inn;rw[k.lv];congr 1;refine List.map_congr_left λx hx=>?_;obtain⟨n,m,e⟩:=k.ob x hx;unfold Sh.outs;rw[e]
structure HpS (x:Hp):Prop where
 sr:SR x.S
 hr:HR x.T
 r6:x.Roots.length=6
 c6:x.a8.length=6
 cap:x.Q.Cap=30
 q30:x.Q.L.length≤30
 tk:∀t∈x.Q.L,0≤t.Prog∧t.Prog≤5∧((t.Kind=1∧t.At∈lv x.S∧(ob x.S t.At).Started=true)∨(t.Kind=2∧0≤t.At∧t.At≤5))
 td:x.Q.L.Pairwise λa b=>¬(a.Kind=b.Kind∧a.At=b.At)
 rt:∀h∈x.Roots,h=0∨h∈lv x.S
 fl:∀h∈lv x.S,∀v∈(ob x.S h).Fields,v=0∨v∈lv x.S
 pr:∀k v,Has x.T k v→k∈lv x.S∧v∈lv x.S
 cl:∀i (hi:i<x.a8.length),-1≤x.a8[i].Call∧x.a8[i].Call≤5∧(x.a8[i].Target=0→x.a8[i].Intact=false)∧(x.a8[i].Target≠0→∃p,U2 x.S x.a8[i].Target p)∧(x.a8[i].Intact=true→x.a8[i].Target∈lv x.S∧wts x.Q i=false)
def Wk(x:Hp):Prop:=∀i,i<x.S.S.a8.length→Th (ce x.S i)→(ce x.S i).Val.Weak=(nmg x.a8 (1+(i:Int)+32*(ce x.S i).Gen):Int)∧((ce x.S i).State=2→1≤(ce x.S i).Val.Weak∧(ce x.S i).Val.Fields = []∧(ce x.S i).Val.Strong=0)
def a0X(x:Hp)(L:List Int):Prop:=∀h∈lv x.S,(ob x.S h).Strong<12→(ob x.S h).Strong=((nms x h+W0 L h:Nat):Int)
structure H7 (x:Hp):Prop where
 sh:HpS x
 wk:Wk x
 fair:a0X x []
theorem HpS.of{x:Hp}(h:HpS x){s':a7}(hS:SR s')(hl:lv s'=lv x.S)(hd:∀k i,U2 x.S k i→U2 s' k i)(hst:∀k∈lv x.S,(ob x.S k).Started=true→(ob s' k).Started=true)(hfl:∀k∈lv x.S,∀v∈(ob s' k).Fields,v=0∨v∈lv x.S):HpS (wS x s'):=by
 refine⟨hS,h.hr,h.r6,h.c6,h.cap,h.q30,λt ht=>?_,h.td,λk hk=>?_,λk hk=>?_,λk v hkv=>?_,λi hi=>?_⟩
 ·obtain⟨a,b,c⟩:=h.tk t ht;refine⟨a,b,?_⟩;rcases c with ⟨c1,c2,c3⟩ | c;·exact .inl ⟨c1,by rw[hl];exact c2,hst _ c2 c3⟩
  ·exact .inr c
 ·dsimp only;rw[hl];exact h.rt k hk
 ·dsimp only at hk ⊢;rw[hl] at hk ⊢;exact hfl k hk
 ·dsimp only;rw[hl];exact h.pr k v hkv
 ·obtain⟨a,b,c,d,e⟩:=h.cl i hi;refine⟨a,b,c,λq=>?_,λq=>?_⟩
  ·obtain⟨p,hp⟩:=d q;exact⟨p,hd _ _ hp⟩
  ·dsimp only;rw[hl];exact e q
theorem HpS.kn{x:Hp}(h:HpS x){s':a7}(k:Kn x.S s'):HpS (wS x s'):=by
 refine h.of k.sr k.lv (λj i q=>(k.ad j i).2 q) (λj hj q=>?_) (λj hj=>?_)
 ·obtain⟨n,m,e⟩:=k.ob j hj;rw[e];exact q
 ·obtain⟨n,m,e⟩:=k.ob j hj;rw[e];exact h.fl j hj
theorem HpS.kin{x:Hp}(h:HpS x){s':a7}(k:Kin x.S s'):HpS (wS x s'):=h.kn (k.kn h.sr)
theorem Wk.kin{x:Hp}(h:Wk x){s':a7}(k:Kin x.S s'):Wk (wS x s'):=by
 intro i hi ht;dsimp only at hi ht ⊢;rw[k.len] at hi;obtain⟨a,b,c,d,e⟩:=k.ce i hi;unfold Th at ht;rw[a] at ht;obtain⟨f,g⟩:=h i hi ht;rw[a,b,c];refine⟨f,λq=>?_⟩;have e':=e (by omega);rw[←c,e'];exact g q
theorem HpS.roots{x:Hp}(h:HpS x){l:List Int}(hl:l.length=6)(hr:∀v∈l,v=0∨v∈lv x.S):HpS (wR x l):=⟨h.sr,h.hr,hl,h.c6,h.cap,h.q30,h.tk,h.td,hr,h.fl,h.pr,h.cl⟩
theorem HpS.table{x:Hp}(h:HpS x){t:Tb}(hr:HR t)(hp:∀k v,Has t k v→k∈lv x.S∧v∈lv x.S):HpS (wT x t):=⟨h.sr,hr,h.r6,h.c6,h.cap,h.q30,h.tk,h.td,h.rt,h.fl,hp,h.cl⟩
def N3(c:Int):Int:=if 12≤c then 12 else if c<0 then 1 else c+1
def a2r(c:Int):Int:=if 12≤c then 12 else if c<1 then c else c-1
theorem A5{c:Int}(h:0≤c):0≤N3 c:=by unfold N3;split <;> (try split) <;> omega
theorem F1{c:Int}(h:0≤c):0≤a2r c:=by unfold a2r;split <;> (try split) <;> omega
noncomputable def stO(x:Hp)(h:Int)(f:Int→Int):Hp:=if h∈lv x.S then wS x (seO x.S h (stg (ob x.S h) (f (ob x.S h).Strong))) else x
noncomputable def A0(x:Hp)(h:Int):Hp:=stO x h N3
noncomputable def N5(x:Hp)(h:Int):Hp:=stO x h a2r
theorem b3V(x:Hp)(h:Int)(f:Int→Int):stO x h f=wS x (stO x h f).S:=by
 unfold stO;split <;> rfl
theorem b1n(x:Hp)(h:Int):A0 x h=wS x (A0 x h).S:=b3V x h N3
theorem c92(x:Hp)(h:Int):N5 x h=wS x (N5 x h).S:=b3V x h a2r
section
variable{x:Hp}(hR:SR x.S)(h:Int){f:Int→Int}(hf:∀c,0≤c→0≤f c)
include hR hf
theorem B7:Kin x.S (stO x h f).S:=by
 unfold stO;split
 ·rename_i q;exact c6k hR q (hf _ (H2 hR q).st)
 ·exact Kin.refl hR
theorem a7y{k:Int}(hk:k∈lv x.S):(ob (stO x h f).S k).Strong=if k=h then f (ob x.S k).Strong else (ob x.S k).Strong:=by
 unfold stO;split
 ·rename_i q;dsimp only;have ho:OkO x.S (stg (ob x.S h) (f (ob x.S h).Strong)):=by
   have:=H2 hR q;exact⟨this.s1,this.s2,hf _ this.st,this.wk,this.p1,this.p2,this.fl⟩
  rw[a2d (o:=stg (ob x.S h) (f (ob x.S h).Strong)) hR q rfl ho (by have:=D5 hR hk;omega)];split;·rename_i e;subst e;rfl
  ·rfl
 ·rename_i q;rw[if_neg];intro e;subst e;exact q hk
theorem b2z(k:Int):nms (stO x h f) k=nms x k:=by
 rw[b3V];unfold nms otr;dsimp only;rw[(B7 hR h hf).inn hR]
end
theorem HpS.st{x:Hp}(h:HpS x)(k:Int){f:Int→Int}(hf:∀c,0≤c→0≤f c):HpS (stO x k f):=by
 rw[b3V];exact h.kin (B7 h.sr k hf)
theorem Wk.st{x:Hp}(h:Wk x)(hR:SR x.S)(k:Int){f:Int→Int}(hf:∀c,0≤c→0≤f c):Wk (stO x k f):=by
 rw[b3V];exact h.kin (B7 hR k hf)
theorem M9(h:Int):W0 [] h=0:=by unfold W0;split <;> rfl
theorem D8(v:Int)(L:List Int)(h:Int):W0 (v::L) h=W0 L h+if v=h∧h≠0 then 1 else 0:=by
 unfold W0;by_cases h0:h=0
 ·simp[h0]
 ·rw[if_neg h0,if_neg h0,List.count_cons];by_cases e:v=h
  ·simp[e,h0]
  ·simp[e]
theorem b8h{x:Hp}(hR:SR x.S){L:List Int}(hf:a0X x L)(v:Int):a0X (A0 x v) (v::L):=by
 intro h hh hlt;unfold A0 at hh hlt ⊢;rw[(B7 hR v λc=>A5).lv] at hh;rw[a7y hR v (λc=>A5) hh] at hlt ⊢;rw[b2z hR v λc=>A5,D8];have h0:h≠0:=λe=>a5N hR (e▸hh);have hp:=(H2 hR hh).st;by_cases e:h=v
 ·subst e;rw[if_pos rfl] at hlt ⊢;have:=hf h hh (by unfold N3 at hlt;split at hlt <;> omega);rw[if_pos ⟨rfl,h0⟩];unfold N3 at hlt ⊢;split at hlt;·omega
  ·rename_i q;rw[if_neg q,if_neg (by omega)];omega
 ·rw[if_neg e] at hlt ⊢;rw[if_neg (λq=>e q.1.symm)];exact hf h hh hlt
theorem b0o{x:Hp}(hR:SR x.S){L:List Int}{v:Int}(hf:a0X x (v::L)):a0X (N5 x v) L:=by
 intro h hh hlt;unfold N5 at hh hlt ⊢;rw[(B7 hR v λc=>F1).lv] at hh;rw[a7y hR v (λc=>F1) hh] at hlt ⊢;rw[b2z hR v λc=>F1];have h0:h≠0:=λe=>a5N hR (e▸hh);have hp:=(H2 hR hh).st;by_cases e:h=v
 ·subst e;rw[if_pos rfl] at hlt ⊢;have:=hf h hh (by unfold a2r at hlt;split at hlt <;> omega);rw[D8,if_pos ⟨rfl,h0⟩] at this;unfold a2r at hlt ⊢;split at hlt;·omega
  ·rename_i q;rw[if_neg q,if_neg (by omega)];omega
 ·rw[if_neg e] at hlt ⊢;have:=hf h hh hlt;rw[D8,if_neg (λq=>e q.1.symm)] at this;exact this
theorem a0X.mv{x x':Hp}{L L':List Int}(hf:a0X x L)(hl:lv x'.S=lv x.S)(hs:∀h∈lv x.S,(ob x'.S h).Strong=(ob x.S h).Strong)(hn:∀h∈lv x.S,nms x' h+W0 L' h=nms x h+W0 L h):a0X x' L':=by
 intro h hh hlt;rw[hl] at hh;rw[hs h hh] at hlt ⊢;rw[hf h hh hlt,hn h hh]
end Go.Sh
namespace Go.Sh
theorem b2B:∀ {l:List Int} {r:Nat} (hr:r<l.length) (h k:Int),W0 (l.set r h) k+W0 [l.getD r 0] k=W0 l k+W0 [h] k
 | [],_,hr,_,_=>by simp at hr
 | a::l,0,_,h,k=>by
  rw[List.set_cons_zero,List.getD_cons_zero,D8 h l,D8 a l,D8 a [],D8 h [],M9];omega
 | a::l,r+1,hr,h,k=>by
  rw[List.set_cons_succ,List.getD_cons_succ,D8 a,D8 a l];have:=b2B (l:=l) (r:=r) (by simpa using hr) h k;omega
theorem a9l{x x1:Hp}(hx:H7 x){old new:Int}(h1:HpS (A0 x new)→Wk (A0 x new)→HpS x1∧Wk x1)
  (hl:lv x1.S=lv (A0 x new).S)(hs:∀h∈lv x.S,(ob x1.S h).Strong=(ob (A0 x new).S h).Strong)(hn:∀h∈lv x.S,nms x1 h+W0 [old] h=nms x h+W0 [new] h):H7 (N5 x1 old):=by
 have l1:lv (A0 x new).S=lv x.S:=(B7 hx.sh.sr new λc=>A5).lv;have f1:a0X (A0 x new) [new]:=b8h hx.sh.sr hx.fair new;obtain⟨h2,w2⟩:=h1 (hx.sh.st new λc=>A5) (hx.wk.st hx.sh.sr new λc=>A5);have f2:a0X x1 [old]:=f1.mv hl (λh hh=>hs h (l1▸hh)) λh hh=>by
  rw[hn h (l1▸hh)];unfold A0;rw[b2z hx.sh.sr new λc=>A5]
 exact⟨h2.st _ λc=>F1,w2.st h2.sr _ λc=>F1,b0o h2.sr f2⟩
noncomputable def A3(x:Hp)(r:Nat)(h:Int):Hp:=N5 (wR (A0 x h) (x.Roots.set r h)) (x.Roots.getD r 0)
theorem J2{x:Hp}(hx:H7 x){r:Nat}(hr:r<6){h:Int}(hh:h=0∨h∈lv x.S):H7 (A3 x r h):=by
 have l1:lv (A0 x h).S=lv x.S:=(B7 hx.sh.sr h λc=>A5).lv;refine a9l hx (λa b=>⟨a.roots (by rw[List.length_set];exact hx.sh.r6) (λv hv=>?_),b⟩) rfl (λ_ _=>rfl) (λk hk=>?_)
 ·rw[l1];rcases List.mem_or_eq_of_mem_set hv with q | q
  ·exact hx.sh.rt v q
  ·exact q▸hh
 ·have hi:=(B7 hx.sh.sr h λc=>A5).inn hx.sh.sr k;rw[b1n];unfold nms otr;dsimp only;rw[show inn (A0 x h).S k=inn x.S k from hi,H6,H6,b1v,b1v];have:=b2B (l:=x.Roots) (r:=r) (by rw[hx.sh.r6];exact hr) h k;omega
theorem c1k{α:Type}:∀ {l:List α} (hn:l.Nodup) {a:α} (ha:a∈l) (f g:α→Nat) (h:∀x∈l,x≠a→f x=g x),(l.map g).sum+f a=(l.map f).sum+g a
 | [],_,_,ha,_,_,_=>by cases ha
 | b::l,hn,a,ha,f,g,h=>by
  rw[List.nodup_cons] at hn;rw[List.map_cons,List.map_cons,List.sum_cons,List.sum_cons];rcases List.mem_cons.1 ha with e | e
  ·subst e;have:l.map g=l.map f:=List.map_congr_left λx hx=>(h x (List.mem_cons_of_mem _ hx) λe=>hn.1 (e▸hx)).symm;rw[this];omega
  ·have:=c1k hn.2 e f g λx hx=>h x (List.mem_cons_of_mem _ hx);have:=h b (List.mem_cons_self ..) λq=>hn.1 (q▸e);omega
abbrev flg(o:l4)(l:List Int):l4:=⟨o.Serial,o.Strong,o.Weak,o.Prog,o.Started,l⟩
theorem c0A{s:a7}(hR:SR s){h:Int}(hh:h∈lv s){o:l4}(hs:o.Serial=(ob s h).Serial)(ho:OkO s o)(y:Int):inn (seO s h o) y+W0 (ob s h).Fields y=inn s y+W0 o.Fields y:=by
 have hle:=D5 hR hh;have:=c1k (a96 (p6.2 hR)) hh (λx=>W0 (outs s x) y) (λx=>W0 (outs (seO s h o) x) y) λx hx hne=>by
  have:=D5 hR hx;unfold outs;rw[a2d hR hh hs ho (by omega),if_neg hne]
 have e:W0 (outs (seO s h o) h) y=W0 o.Fields y:=by
  unfold outs;rw[a2d hR hh hs ho (by omega),if_pos rfl,b1v]
 have e2:W0 (outs s h) y=W0 (ob s h).Fields y:=b1v _ _;rw[e,e2] at this;unfold inn;rw[a2V hR hh hs ho];exact this
noncomputable def a0K(x:Hp)(h:Int)(k:Nat)(v:Int):Hp:=N5 (wS (A0 x v) (seO (A0 x v).S h (flg (ob (A0 x v).S h) ((ob x.S h).Fields.set k v)))) ((ob x.S h).Fields.getD k 0)
theorem b5S{x:Hp}(hx:H7 x){h:Int}(hh:h∈lv x.S){k:Nat}(hk:k<(ob x.S h).Fields.length){v:Int}(hv:v=0∨v∈lv x.S):H7 (a0K x h k v):=by
 have kin:=B7 hx.sh.sr v (f:=N3) λc=>A5;have l1:lv (A0 x v).S=lv x.S:=kin.lv;have hR1:SR (A0 x v).S:=kin.sr;have hh1:h∈lv (A0 x v).S:=by rw[l1];exact hh
 have hle:=D5 hx.sh.sr hh;have hof:(ob (A0 x v).S h).Fields=(ob x.S h).Fields:=by
  obtain⟨n,e⟩:=kin.ob h (by omega);show (ob (stO x v N3).S h).Fields=_;rw[e]
 have ho:OkO (A0 x v).S (flg (ob (A0 x v).S h) ((ob x.S h).Fields.set k v)):=by
  have:=H2 hR1 hh1;refine⟨this.s1,this.s2,this.st,this.wk,this.p1,this.p2,?_⟩;have h4:=this.fl;rw[hof] at h4;simpa using h4
 have hob:∀j,j∈lv x.S→ob (seO (A0 x v).S h (flg (ob (A0 x v).S h) ((ob x.S h).Fields.set k v))) j=if j=h then flg (ob (A0 x v).S h) ((ob x.S h).Fields.set k v) else ob (A0 x v).S j:=λj hj=>by
  have:=D5 hx.sh.sr hj;exact a2d (o:=flg (ob (A0 x v).S h) ((ob x.S h).Fields.set k v)) hR1 hh1 rfl ho (by omega)
 refine a9l hx (λa b=>⟨?_,?_⟩) (a2V (o:=flg (ob (A0 x v).S h) ((ob x.S h).Fields.set k v)) hR1 hh1 rfl ho) (λj hj=>?_) (λj hj=>?_)
 ·refine a.of (a0q (o:=flg (ob (A0 x v).S h) ((ob x.S h).Fields.set k v)) hR1 hh1 rfl ho) (a2V (o:=flg (ob (A0 x v).S h) ((ob x.S h).Fields.set k v)) hR1 hh1 rfl ho) (λj i q=>(b9P (o:=flg (ob (A0 x v).S h) ((ob x.S h).Fields.set k v)) hR1 hh1 rfl ho).2 q) (λj hj q=>?_) (λj hj u hu=>?_)
  ·rw[hob j (l1▸hj)];split;·rename_i e;subst e;exact q
   ·exact q
  ·rw[hob j (l1▸hj)] at hu;split at hu
   ·rename_i e;subst e;rcases List.mem_or_eq_of_mem_set hu with q | q
    ·exact a.fl j hj u (by rw[hof];exact q)
    ·rw[l1,q];exact hv
   ·exact a.fl j hj u hu
 ·intro i hi ht;dsimp only at hi ht ⊢;have hp:=u6 hR1 hh1;unfold seO at hi;rw[K0] at hi;have hce:=b6K (o:=flg (ob (A0 x v).S h) ((ob x.S h).Fields.set k v)) hR1 hh1 rfl ho i;rw[hce] at ht ⊢;split at ht
  ·rename_i e;subst e;rw[if_pos rfl];have:=b _ hp.1 (.inl hp.2.1);dsimp only;refine⟨?_,λq=>absurd q (by rw[hp.2.1];decide)⟩;rw[←this.1,L5 hR1 hp]
  ·rename_i e;rw[if_neg e];exact b i hi ht
 ·rw[hob j hj];split;·rename_i e;subst e;rfl
  ·rfl
 ·have hi:=c0A (o:=flg (ob (A0 x v).S h) ((ob x.S h).Fields.set k v)) hR1 hh1 rfl ho j;have hi2:=kin.inn hx.sh.sr j;have hi2:inn (A0 x v).S j=inn x.S j:=hi2;rw[hi2,hof] at hi;dsimp only at hi;have:=b2B hk v j;have hrest:A0 x v=wS x (A0 x v).S:=b1n x v;unfold nms otr;dsimp only;rw[show (A0 x v).T=x.T by rw[hrest],show (A0 x v).Roots=x.Roots by rw[hrest],show (A0 x v).Q=x.Q by rw[hrest]];omega
theorem c4j{t:Tb}(hT:HR t){k v:Int}{r:Tb × Int × Int}(h:Q2 t k v=some r)(h0:r.2.2=0):HR r.1∧(∀y,own r.1 y+W0 [r.2.1] y=own t y+W0 [v] y)∧∀k' v',Has r.1 k' v'→Has t k' v'∨(k'=k∧v'=v∧v≠0):=by
 obtain⟨r',e1,e2,_,e3⟩:=b9Q hT k v;rw[h] at e1;cases e1;refine⟨e2,?_⟩;have hos:∀(i:Nat) (p:b8) (y:Int),i<t.length→own (t.set i p) y+(if (pt t i).State=1∧(pt t i).Val=y∧y≠0 then 1 else 0)=own t y+if p.State=1∧p.Val=y∧y≠0 then 1 else 0:=λi p y hi=>by
  have key:∀q:b8,(if ((q.State==1)&&((y != 0)&&(q.Val==y)))=true then 1 else 0:Nat)=if q.State=1∧q.Val=y∧y≠0 then 1 else 0:=λq=>by
   by_cases c:q.State=1∧q.Val=y∧y≠0
   ·rw[if_pos c,if_pos (by simp[c.1,c.2.1,c.2.2])]
   ·rw[if_neg c,if_neg (by simp only[Bool.and_eq_true,beq_iff_eq,bne_iff_ne,ne_eq];exact λq=>c ⟨q.1,q.2.2,q.2.1⟩)]
  have:=c0V hi p y;rw[key,key] at this;exact this
 rcases e3 with ⟨_,rfl⟩ | ⟨hk,hv,⟨i,hi,rfl⟩ | ⟨hn,rfl⟩⟩ | ⟨hk,hv,⟨i,hi,rfl⟩ | ⟨d,hn,hd,hf,hp,rfl⟩ | ⟨hn,ha,rfl⟩⟩;·simp at h0
 ·refine⟨λy=>?_,λk' v' q=>.inl ((b2Y hT hi k' v').1 q).2⟩;have:=hos i ⟨2,0,0⟩ y hi.1;rw[D8,D8,M9];subst hv;dsimp only at this ⊢;rw[if_neg (show ¬((2:Int)=1∧(0:Int)=y∧y≠0) by omega)] at this;rw[if_neg (show ¬((0:Int)=y∧y≠0) by omega)];simp only[hi.2.1,true_and] at this;omega
 ·refine⟨λy=>?_,λk' v' q=>.inl q⟩;rw[hv]
 ·refine⟨λy=>?_,λk' v' q=>?_⟩
  ·have:=hos i ⟨1,k,v⟩ y hi.1;rw[D8,D8,M9];simp only[hi.2.1,true_and] at this;dsimp only;omega
  ·rcases (b6o hT (.old i hi) rfl k' v').1 q with ⟨a,b⟩ | ⟨_,b⟩;·exact .inr ⟨a,b,hv⟩
   ·exact .inl b
 ·refine⟨λy=>?_,λk' v' q=>?_⟩
  ·have:=hos d ⟨1,k,v⟩ y hd;rw[D8,D8,M9];dsimp only;rw[if_neg (show ¬((0:Int)=y∧y≠0) by omega)];simp only[hf,false_and,true_and,if_false] at this;omega
  ·rcases (b6o hT hp rfl k' v').1 q with ⟨a,b⟩ | ⟨_,b⟩;·exact .inr ⟨a,b,hv⟩
   ·exact .inl b
 ·simp at h0
noncomputable def a41(x:Hp)(v:Int)(t:Tb)(old:Int):Hp:=N5 (wT (A0 x v) t) old
theorem b7Y{x:Hp}(hx:H7 x){k v:Int}(hk:k∈lv x.S)(hv:v=0∨v∈lv x.S){r:Tb × Int × Int}(h:Q2 x.T k v=some r)(h0:r.2.2=0):H7 (a41 x v r.1 r.2.1):=by
 have kin:=B7 hx.sh.sr v (f:=N3) λc=>A5;have l1:lv (A0 x v).S=lv x.S:=kin.lv;obtain⟨p1,p2,p3⟩:=c4j hx.sh.hr h h0;refine a9l hx (λa b=>⟨a.table p1 λk' v' q=>?_,b⟩) rfl (λ_ _=>rfl) (λj hj=>?_)
 ·rw[l1];rcases p3 k' v' q with q | ⟨rfl,rfl,hne⟩
  ·exact hx.sh.pr k' v' q
  ·exact⟨hk,hv.resolve_left hne⟩
 ·have hi2:inn (A0 x v).S j=inn x.S j:=kin.inn hx.sh.sr j;have hrest:A0 x v=wS x (A0 x v).S:=b1n x v;unfold nms otr;dsimp only;rw[show (A0 x v).Roots=x.Roots by rw[hrest],show (A0 x v).Q=x.Q by rw[hrest],hi2];have:=p2 j;omega
end Go.Sh
namespace Go.Sh
instance(s:a7)(h:Int)(i:Nat):Decidable (U2 s h i):=by unfold U2;infer_instance
abbrev wkg(o:l4)(n:Int):l4:=⟨o.Serial,o.Strong,n,o.Prog,o.Started,o.Fields⟩
def mkA(s:a7)(i:Nat)(d:Int):a7:=a1x s i (wkg (ce s i).Val ((ce s i).Val.Weak+d))
def gvA(s:a7)(i:Nat):a7:=E2 s i (if (ce s i).Gen=s.S.Last then ⟨3,(ce s i).Gen,z0⟩ else ⟨0,(ce s i).Gen+1,z0⟩)
def hdl(s:a7)(i:Nat):Int:=1+(i:Int)+32*(ce s i).Gen
theorem c0i{s:a7}{i:Nat}(hi:i<s.S.a8.length)(ht:Th (ce s i)):U2 s (hdl s i) i:=⟨hi,ht,rfl⟩
theorem b2f{s:a7}(hR:SR s){i:Nat}(hi:i<s.S.a8.length):1≤hdl s i:=by
 have:=hR.cell i hi;unfold hdl;omega
section
variable{s:a7}(hR:SR s){i:Nat}(hi:i<s.S.a8.length)(ht:Th (ce s i))
include hR hi ht
theorem b3m{d:Int}(hd:0≤(ce s i).Val.Weak+d):SR (mkA s i d):=by
 have:=hR.ok i hi ht;exact hR.put hi ht rfl ⟨this.s1,this.s2,this.st,hd,this.p1,this.p2,this.fl⟩
theorem a2Q(d:Int)(j:Nat):ce (mkA s i d) j=if j=i then ⟨(ce s i).State,(ce s i).Gen,wkg (ce s i).Val ((ce s i).Val.Weak+d)⟩ else ce s j:=a5x hi _ j
theorem a5O{d:Int}(hd:0≤(ce s i).Val.Weak+d):Kn s (mkA s i d):=by
 have hS:=b3m hR hi ht hd;refine⟨hS,K0 ..,c3H hR hi rfl hS,λk j=>b18 hi _,λk hk=>?_⟩;have q:=u6 hR hk;rw[L5 hS ((b2M hi _).2 q),L5 hR q,a2Q hR hi ht];split
 ·rename_i e;rw[e];exact⟨_,_,rfl⟩
 ·exact⟨_,_,rfl⟩
theorem a5P{d:Int}(hd:0≤(ce s i).Val.Weak+d){k:Int}(hk:k∈lv s):(ob (mkA s i d) k).Strong=(ob s k).Strong:=by
 have hS:=b3m hR hi ht hd;have q:=u6 hR hk;rw[L5 hS ((b2M hi _).2 q),L5 hR q,a2Q hR hi ht];split
 ·rename_i e;rw[e]
 ·rfl
omit ht in
theorem b52:SR (gvA s i):=by
 have hc:=hR.cell i hi;have no:c1r (oo z0):=⟨rfl,rfl,rfl,rfl,rfl,rfl⟩;unfold gvA;split;·exact hR.E2 hi ⟨by simp,by simp,hc.2.2.1,hc.2.2.2⟩ (λ_=>no) (λq=>absurd q (by unfold Th;simp))
 ·refine hR.E2 hi ⟨by simp,by simp,?_,?_⟩ (λ_=>no) (λq=>absurd q (by unfold Th;simp));·show 0≤(ce s i).Gen+1;omega
  ·show (ce s i).Gen+1≤s.S.Last;omega
omit hR ht in
theorem b5Z:∃c,(c.State=0∨c.State=3)∧gvA s i=E2 s i c∧∀j,ce (gvA s i) j=if j=i then c else ce s j:=by
 unfold gvA;split;·exact⟨_,.inr rfl,rfl,λj=>H9 hi _ j⟩
 ·exact⟨_,.inl rfl,rfl,λj=>H9 hi _ j⟩
omit ht in
theorem b50 (h2:(ce s i).State=2):lv (gvA s i)=lv s:=by
 obtain⟨c,c1,c2,_⟩:=b5Z (s:=s) hi;have hS:=b52 hR hi;rw[c2] at hS ⊢;rw[c0J hR hi (by omega) hS,List.filter_eq_self];intro h hh;rw[decide_eq_true_iff];intro e;have:=(u6 hR hh).2.1;rw[e] at this;omega
omit ht in
theorem b51 (h2:(ce s i).State=2) {k:Int} (hk:k∈lv s):ob (gvA s i) k=ob s k:=by
 obtain⟨c,c1,c2,_⟩:=b5Z (s:=s) hi;have hS:=b52 hR hi;rw[c2] at hS ⊢;refine c0P hR hi hS hk λe=>?_;have:=(u6 hR hk).2.1;rw[e] at this;omega
omit ht in
theorem c87 {k:Int} {j:Nat}:U2 (gvA s i) k j↔U2 s k j∧j≠i:=by
 obtain⟨c,c1,c2,c3⟩:=b5Z (s:=s) hi;by_cases e:j=i
 ·subst e;constructor
  ·rintro⟨_,h,_⟩;rw[c3,if_pos rfl] at h;unfold Th at h;omega
  ·rintro⟨_,h⟩;exact absurd rfl h
 ·rw[c2,c2M hi c e];simp[e]
theorem c59(h2:(ce s i).State=2)(y:Int):inn (gvA s i) y=inn s y:=by
 unfold inn;rw[b50 hR hi h2];congr 1;refine List.map_congr_left λx hx=>?_;unfold outs;rw[b51 hR hi h2 hx]
end
def mkd(x:Hp)(h:Int)(d:Int):Hp:=if U2 x.S h (B1 h) then wS x (mkA x.S (B1 h) d) else x
def a7C(x:Hp)(h:Int):Hp:=
 if U2 x.S h (B1 h) then
  (if (ce x.S (B1 h)).State=2∧(ce x.S (B1 h)).Val.Weak=1 then wS x (gvA (mkA x.S (B1 h) (-1)) (B1 h)) else wS x (mkA x.S (B1 h) (-1)))
 else x
abbrev wcl(h call:Int):c5:=⟨h,h != 0,call⟩
def tgt(x:Hp)(w:Nat):Int:=(x.a8.getD w ⟨0,false,0⟩).Target
def a1R(x:Hp)(w:Nat)(h call:Int):Hp:=a7C (mkd (wC x (x.a8.set w (wcl h call))) h 1) (tgt x w)
theorem c6u{l:List c5}{w:Nat}(hw:w<l.length)(c:c5){k:Int}(hk:k≠0):nmg (l.set w c) k+(if l[w].Target=k then 1 else 0)=nmg l k+if c.Target=k then 1 else 0:=by
 unfold nmg;rw[List.countP_set hw];have e:∀d:c5,(((k != 0)&&(d.Target==k))=true)=(d.Target=k):=λd=>by simp[hk]
 simp only[e];have:(if l[w].Target=k then 1 else 0)≤l.countP λc=>(k != 0)&&(c.Target==k):=by
  split
  ·rename_i q;exact List.countP_pos_iff.2 ⟨l[w],List.getElem_mem hw,by simp[q,hk]⟩
  ·exact Nat.zero_le _
 omega
theorem b0a{l:List c5}{i:Nat}(hi:i<l.length)(h0:l[i].Target≠0):0<nmg l l[i].Target:=List.countP_pos_iff.2 ⟨l[i],List.getElem_mem hi,by simp[h0]⟩
theorem b8C{x:Hp}(hx:H7 x){w:Nat}(hw:w<6){h call:Int}(hh:h=0∨h∈lv x.S)(hc : -1≤call∧call≤5)(hq:wts x.Q w=false):H7 (a1R x w h call):=by
 have hR:=hx.sh.sr;have hwl:w<x.a8.length:=by rw[hx.sh.c6];exact hw
 have htg:tgt x w=x.a8[w].Target:=by
  unfold tgt;rw[List.getD_eq_getElem?_getD,List.getElem?_eq_getElem hwl];rfl
 have s1:HpS (wC x (x.a8.set w (wcl h call))):=by
  have:=hx.sh;refine⟨this.sr,this.hr,this.r6,by simpa using this.c6,this.cap,this.q30,this.tk,this.td,this.rt,this.fl,this.pr,λi hi=>?_⟩;dsimp only at hi ⊢;rw[List.getElem_set];rw[List.length_set] at hi;split
  ·rename_i e;subst e;dsimp only;refine⟨hc.1,hc.2,λq=>by simp[q],λq=>?_,λq=>?_⟩;·exact⟨_,(u6 hR (hh.resolve_left q)).d⟩
   ·have q:h≠0:=by simpa using q
    exact⟨hh.resolve_left q,hq⟩
  ·exact this.cl i hi
 have k2:∃s2,mkd (wC x (x.a8.set w (wcl h call))) h 1=wS (wC x (x.a8.set w (wcl h call))) s2∧Kn x.S s2∧(∀k∈lv x.S,(ob s2 k).Strong=(ob x.S k).Strong) ∧
   ∀i,i<x.S.S.a8.length→(ce s2 i).State=(ce x.S i).State∧(ce s2 i).Gen=(ce x.S i).Gen∧(ce s2 i).Val.Fields=(ce x.S i).Val.Fields∧(ce s2 i).Val.Strong=(ce x.S i).Val.Strong∧(Th (ce x.S i)→(ce s2 i).Val.Weak=(ce x.S i).Val.Weak+if h=hdl x.S i then 1 else 0):=by
  unfold mkd;rcases hh with h0 | hh
  ·have hno:¬U2 x.S h (B1 h):=λq=>by have:=q.rng hR;omega
   rw[if_neg hno];refine⟨x.S,rfl,(Kin.refl hR).kn hR,λ_ _=>rfl,λi hi=>⟨rfl,rfl,rfl,rfl,λht=>?_⟩⟩;have:=b2f hR hi;rw[if_neg (by omega)];omega
  ·have hp:=u6 hR hh;have hwk:=(hR.ok _ hp.1 (.inl hp.2.1)).wk;rw[if_pos hp.d];refine⟨_,rfl,a5O hR hp.1 (.inl hp.2.1) (by omega),λk hk=>a5P hR hp.1 (.inl hp.2.1) (by omega) hk,λi hi=>?_⟩;rw[a2Q hR hp.1 (.inl hp.2.1)];split
   ·rename_i e;subst e;refine⟨rfl,rfl,rfl,rfl,λ_=>?_⟩;rw[if_pos (show h=hdl x.S (B1 h) from hp.2.2)]
   ·rename_i e;refine⟨rfl,rfl,rfl,rfl,λht=>?_⟩;rw[if_neg];·omega
    ·intro q;exact e (U2.one hR (q▸c0i hi ht) hp.d)
 obtain⟨s2,e2,kn2,st2,ce2⟩:=k2;have hR2:=kn2.sr;have len2:=kn2.len;have hS2:HpS (wS (wC x (x.a8.set w (wcl h call))) s2):=s1.kn kn2;have hdl2:∀i,i<x.S.S.a8.length→hdl s2 i=hdl x.S i:=λi hi=>by unfold hdl;rw[(ce2 i hi).2.1]
 have th2:∀i,i<x.S.S.a8.length→(Th (ce s2 i)↔Th (ce x.S i)):=λi hi=>by unfold Th;rw[(ce2 i hi).1]
 have wk2:∀i,i<x.S.S.a8.length→Th (ce x.S i)→(ce s2 i).Val.Weak=(nmg (x.a8.set w (wcl h call)) (hdl x.S i):Int)+if tgt x w=hdl x.S i then 1 else 0:=λi hi ht=>by
  have h0:hdl x.S i≠0:=by have:=b2f hR hi;omega
  have:=c6u hwl (wcl h call) h0;rw[(ce2 i hi).2.2.2.2 ht,(hx.wk i hi ht).1,htg];dsimp only at this;unfold hdl at this ⊢;by_cases a:h=1+(i:Int)+32*(ce x.S i).Gen <;> by_cases b:x.a8[w].Target=1+(i:Int)+32*(ce x.S i).Gen
  ·rw[if_pos a,if_pos b] at *;omega
  ·rw[if_pos a,if_neg b] at *;omega
  ·rw[if_neg a,if_pos b] at *;omega
  ·rw[if_neg a,if_neg b] at *;omega
 have dd2:∀i,i<x.S.S.a8.length→(ce s2 i).State=2→(ce s2 i).Val.Fields = []∧(ce s2 i).Val.Strong=0:=λi hi q=>by
  obtain⟨a,_,b,c,_⟩:=ce2 i hi;rw[a] at q;rw[b,c];exact ((hx.wk i hi (.inr q)).2 q).2
 have nms2:∀k,nms (wS (wC x (x.a8.set w (wcl h call))) s2) k=nms x k:=λk=>by
  unfold nms otr;dsimp only;rw[kn2.inn]
 have fair2:a0X (wS (wC x (x.a8.set w (wcl h call))) s2) []:=hx.fair.mv kn2.lv st2 λk _=>by rw[nms2]
 unfold a1R;rw[e2];unfold a7C;dsimp only;by_cases hold:tgt x w=0
 ·have hno:¬U2 s2 (tgt x w) (B1 (tgt x w)):=λq=>by have:=q.rng hR2;omega
  rw[if_neg hno];refine⟨hS2,λi hi ht=>?_,fair2⟩;dsimp only at hi ht ⊢;rw[len2] at hi;have ht':=(th2 i hi).1 ht;have h0:=b2f hR hi;have hw2:=wk2 i hi ht';rw[if_neg (by omega)] at hw2;rw[show (1+(i:Int)+32*(ce s2 i).Gen)=hdl x.S i from hdl2 i hi];refine⟨by omega,λq=>⟨?_,dd2 i hi q⟩⟩;have q':(ce x.S i).State=2:=by rw[←(ce2 i hi).1];exact q
  have:=((hx.wk i hi ht').2 q').1;rw[(ce2 i hi).2.2.2.2 ht'];split <;> omega
 ·obtain⟨p,hp⟩:∃p,U2 x.S (tgt x w) p:=by
   rw[htg] at hold ⊢;exact (hx.sh.cl w hwl).2.2.2.1 hold
  have hpp:=hp.B1 hR;have hp2:U2 s2 (tgt x w) p:=(kn2.ad _ _).2 hp;have hth:tgt x w=hdl x.S p:=hp.2.2;rw[hpp,if_pos hp2];have hpl2:=hp2.1;have hw2:=wk2 p hp.1 hp.2.1;rw[if_pos hth] at hw2;have hd:0≤(ce s2 p).Val.Weak+(-1):=by omega
  have kn3:=a5O hR2 hpl2 hp2.2.1 hd;have hR3:=kn3.sr;have ce3:=a2Q hR2 hpl2 hp2.2.1 (-1);have hS3:HpS (wS (wC x (x.a8.set w (wcl h call))) (mkA s2 p (-1))):=hS2.kn kn3;have fair3:a0X (wS (wC x (x.a8.set w (wcl h call))) (mkA s2 p (-1))) []:=fair2.mv kn3.lv (λk hk=>a5P hR2 hpl2 hp2.2.1 hd hk) λk _=>by
   unfold nms otr;dsimp only;rw[kn3.inn]
  have wk3:∀i,i<x.S.S.a8.length→Th (ce x.S i)→(ce (mkA s2 p (-1)) i).Val.Weak=(nmg (x.a8.set w (wcl h call)) (hdl x.S i):Int):=λi hi ht=>by
   rw[ce3];by_cases e:i=p
   ·subst e;rw[if_pos rfl];dsimp only;omega
   ·rw[if_neg e,wk2 i hi ht,if_neg];·omega
    ·intro q;exact e (U2.one hR (q▸c0i hi ht) hp)
  have cs3:∀i,(ce (mkA s2 p (-1)) i).State=(ce s2 i).State∧(ce (mkA s2 p (-1)) i).Gen=(ce s2 i).Gen∧(ce (mkA s2 p (-1)) i).Val.Fields=(ce s2 i).Val.Fields∧(ce (mkA s2 p (-1)) i).Val.Strong=(ce s2 i).Val.Strong:=λi=>by
   rw[ce3];split
   ·rename_i e;subst e;exact⟨rfl,rfl,rfl,rfl⟩
   ·exact⟨rfl,rfl,rfl,rfl⟩
  by_cases hg:(ce s2 p).State=2∧(ce s2 p).Val.Weak=1
  ·-- the slot is given back
   rw[if_pos hg];have hpl3:p<(mkA s2 p (-1)).S.a8.length:=by rw[kn3.len];exact hpl2
   have h23:(ce (mkA s2 p (-1)) p).State=2:=by rw[(cs3 p).1];exact hg.1
   have hn0:nmg (x.a8.set w (wcl h call)) (tgt x w)=0:=by rw[hth];omega
   have hlv:=b50 hR3 hpl3 h23;have hob:=λk hk=>b51 (k:=k) hR3 hpl3 h23 hk;obtain⟨c,c1,c2,c3⟩:=b5Z (s:=mkA s2 p (-1)) hpl3;refine⟨⟨b52 hR3 hpl3,hS3.hr,hS3.r6,hS3.c6,hS3.cap,hS3.q30,λt htt=>?_,hS3.td,λv hv=>?_,λv hv u hu=>?_,λk v hkv=>?_,λi hi=>?_⟩,λi hi ht=>?_,?_⟩
   ·obtain⟨a,b,d⟩:=hS3.tk t htt;refine⟨a,b,?_⟩;dsimp only at d ⊢;rw[hlv];rcases d with ⟨d1,d2,d3⟩ | d;·exact .inl ⟨d1,d2,by rw[hob _ d2];exact d3⟩
    ·exact .inr d
   ·dsimp only;rw[hlv];exact hS3.rt v hv
   ·dsimp only at hv hu ⊢;rw[hlv] at hv ⊢;rw[hob _ hv] at hu;exact hS3.fl v hv u hu
   ·dsimp only;rw[hlv];exact hS3.pr k v hkv
   ·obtain⟨a1,a2,a3,a4,a5⟩:=hS3.cl i hi;refine⟨a1,a2,a3,λq=>?_,λq=>?_⟩
    ·obtain⟨j,hj⟩:=a4 q;refine⟨j,(c87 hR3 hpl3).2 ⟨hj,λe=>?_⟩⟩;subst e;have e1:=(kn2.ad _ _).1 ((kn3.ad _ _).1 hj);have e2:(x.a8.set w (wcl h call))[i].Target=tgt x w:=e1.2.2.trans hp.2.2.symm;have:=b0a hi q;dsimp only at this;rw[e2] at this;omega
    ·dsimp only;rw[hlv];exact a5 q
   ·dsimp only at hi ht ⊢;rw[show (gvA (mkA s2 p (-1)) p).S.a8.length=x.S.S.a8.length by rw[c2,U1,kn3.len,len2]] at hi;rw[c3] at ht ⊢;split at ht;·unfold Th at ht;omega
    ·rename_i e;rw[if_neg e];have ht':Th (ce x.S i):=(th2 i hi).1 (by unfold Th at ht ⊢;rw[(cs3 i).1] at ht;exact ht);have:=wk3 i hi ht';rw[show (1+(i:Int)+32*(ce (mkA s2 p (-1)) i).Gen)=hdl x.S i by rw[(cs3 i).2.1];exact hdl2 i hi];refine⟨this,λq=>?_⟩;rw[(cs3 i).1] at q;rw[(cs3 i).2.2.1,(cs3 i).2.2.2,ce3,if_neg e];refine⟨?_,dd2 i hi q⟩;have q':(ce x.S i).State=2:=by rw[←(ce2 i hi).1];exact q
     have:=((hx.wk i hi ht').2 q').1;rw[(ce2 i hi).2.2.2.2 ht'];split <;> omega
   ·refine fair3.mv hlv (λk hk=>by rw[hob k hk]) λk _=>?_;unfold nms otr;dsimp only;rw[c59 hR3 hpl3 (.inr h23) h23]
  ·rw[if_neg hg];refine⟨hS3,λi hi ht=>?_,fair3⟩;dsimp only at hi ht ⊢;rw[kn3.len,len2] at hi;have ht':Th (ce x.S i):=(th2 i hi).1 (by unfold Th at ht ⊢;rw[(cs3 i).1] at ht;exact ht);have:=wk3 i hi ht';rw[show (1+(i:Int)+32*(ce (mkA s2 p (-1)) i).Gen)=hdl x.S i by rw[(cs3 i).2.1];exact hdl2 i hi];refine⟨this,λq=>?_⟩;rw[(cs3 i).1] at q;rw[(cs3 i).2.2.1,(cs3 i).2.2.2];refine⟨?_,dd2 i hi q⟩;rw[ce3];split
   ·rename_i e;subst e;dsimp only;have:(ce s2 i).Val.Weak≠1:=λq2=>hg ⟨q,q2⟩;omega
   ·have q':(ce x.S i).State=2:=by rw[←(ce2 i hi).1];exact q
    have:=((hx.wk i hi ht').2 q').1;rw[(ce2 i hi).2.2.2.2 ht'];split <;> omega
end Go.Sh
namespace Go.Sh
def wcR(c:c5):E5:=⟨c.Target,c.Intact,c.Call⟩
def hO(x:Hp):g7:=⟨sO x.S,x.Roots,x.a8.map wcR,x.T.map J9,tqR x.Q⟩
structure HB (x:Hp):Prop where
 sb:SB x.S
 fb:FB x.S
 rb:LB x.Roots
 cb:∀c∈x.a8,c.Target≤9223372036854775807
 tb:TB x.T
 qb:∀t∈x.Q.L,t.At≤9223372036854775807
theorem c3F{β:Type}{b:Nat}{f:Int × List β→Option ((Int × List β) ⊕ List β)}(n:Nat)(g:Nat→β)(hb:0<b)(h:n*b≤140737488355328)
  (hs:∀(k:Nat) acc,k<n→f ((k:Int),acc)=(app b acc [g k]).bind λv=>some (.inl (r8 ((k:Int)+1),v)))(he:∀acc,f ((n:Int),acc)=some (.inr acc)):lp f (0,[])=some ((List.range n).map g):=by
 have hl:n*1≤n*b:=Nat.mul_le_mul_left _ hb;refine a4t (a13 n (λk l=>l=(List.range k).map g) (λe=>e=(List.range n).map g) (by omega) (by simp) ?_ ?_)
 ·rintro k l hk rfl;have h3:(k+1)*b≤n*b:=Nat.mul_le_mul_right _ hk;refine .inl ⟨(List.range (k+1)).map g,?_,rfl⟩;rw[hs k _ hk,x4 hb (by simp;omega),d2P,k8,List.range_succ,List.map_append];rfl
 ·rintro l rfl;exact⟨_,he _,rfl⟩
theorem d0P{R:Type}{f:Int→Option (Int ⊕ (Bool ⊕ Unit))}{κ:Bool ⊕ Unit→Option R}{Q:R→Prop}(n:Nat)(p:Nat→Prop)(hn:n<4611686018427387904)
  (hs:∀k:Nat,k<n→∃z,f (k:Int)=some z∧((p k∧z = .inl ((k+1:Nat):Int))∨(¬p k∧z = .inr (.inl false))))(he:f (n:Int)=some (.inr (.inr ())))
  (h1:(∀k,k<n→p k)→∃r,κ (.inr ())=some r∧Q r)(h0:(¬∀k,k<n→p k)→∃r,κ (.inl false)=some r∧Q r):∃r,(lp f 0).bind κ=some r∧Q r:=by
 obtain⟨e,e1,e2⟩:=b43 (f:=f) n (λk=>∀j,j<k→p j) (λe=>(e = .inr ()∧∀k,k<n→p k)∨(e = .inl false∧¬∀k,k<n→p k)) hn (λj hj=>by omega) (λk hk hP=>by
  obtain⟨z,z1,z2⟩:=hs k hk;rcases z2 with ⟨a,rfl⟩ | ⟨a,rfl⟩
  ·refine .inl ⟨z1,λj hj=>?_⟩;rcases Nat.lt_or_ge j k with q | q
   ·exact hP j q
   ·have:j=k:=by omega
    subst this;exact a
  ·exact .inr ⟨_,z1,.inr ⟨rfl,λq=>a (q k hk)⟩⟩) (λhP=>⟨_,he,.inl ⟨rfl,hP⟩⟩)
 rw[e1];rcases e2 with ⟨rfl,h⟩ | ⟨rfl,h⟩;·exact h1 h
 ·exact h0 h
theorem c4L{s:a7}(hR:SR s){h:Int}(hh:h∈lv s):seO s h (ob s h)=s:=by
 have q:=u6 hR hh;unfold seO a1x;rw[L5 hR q];have e:s.S.a8.set (B1 h) ⟨(ce s (B1 h)).State,(ce s (B1 h)).Gen,(ce s (B1 h)).Val⟩=s.S.a8:=by
  rw[show (⟨(ce s (B1 h)).State,(ce s (B1 h)).Gen,(ce s (B1 h)).Val⟩:b7)=ce s (B1 h) from rfl,B3 q.1];exact List.set_getElem_self q.1
 rw[e]
section
variable{x:Hp}(hR:SR x.S)
include hR
theorem c3B{h:Int}(hh:h≤9223372036854775807):a4f x h=some (decide (h∈lv x.S)):=by
 unfold a4f;obtain⟨e,h1,h2⟩:=O8 (p6.2 hR) hh;rw[h1,d2P];congr 1;rw[Bool.eq_iff_iff,beq_iff_eq,decide_eq_true_iff,h2]
theorem b2i{h:Int}(hh:h≤9223372036854775807):a3o (hO x) h=some (decide (h∈lv x.S)):=by
 unfold a3o;obtain⟨e,h1,h2⟩:=O8 (p6.2 hR) hh;rw[show (hO x).S=sO x.S from rfl,a4S x.S (by have:=hR.len;omega) hh,h1,Option.map_some,d2P];congr 1;rw[Bool.eq_iff_iff,beq_iff_eq,decide_eq_true_iff,h2]
theorem a16{h:Int}(hh:h≤9223372036854775807):I1 x h=some (decide (h=0∨h∈lv x.S)):=by
 unfold I1;by_cases q:h=0
 ·subst q;simp[z6]
 ·have e:(h==0)=false:=by simpa using q
  rw[e];simp only[beq_self_eq_true,a4n,Bool.false_or];rw[c3B hR hh,d2P];simp[q]
theorem a98{h:Int}(hh:h≤9223372036854775807):a3p (hO x) h=some (decide (h=0∨h∈lv x.S)):=by
 unfold a3p;by_cases q:h=0
 ·subst q;simp[z6]
 ·have e:(h==0)=false:=by simpa using q
  rw[e];simp only[beq_self_eq_true,a4n,Bool.false_or];rw[b2i hR hh,d2P];simp[q]
theorem c9h{c:Int}(hc:c≤9223372036854775807):a7I c=some (N3 c):=by
 unfold a7I a3y D6 N3;simp only[d2P];by_cases q:12≤c
 ·rw[if_pos (by simpa using q),if_pos q,d2P]
 ·rw[if_neg (by simpa using q),if_neg q,d2P];by_cases q2:c<0
  ·rw[if_pos (show 0 > c from q2),if_pos q2];rfl
  ·rw[if_neg (show ¬0 > c from q2),if_neg q2,B0 (by omega) (by omega)]
theorem b7F{c:Int}(hc:c≤9223372036854775807):b2r c=some (N3 c):=by
 unfold b2r a18 N3;simp only[d2P];by_cases q:12≤c
 ·rw[if_pos (by simpa using q),if_pos q]
 ·rw[if_neg (by simpa using q),if_neg q];by_cases q2:c<0
  ·rw[if_pos (by simpa using q2),if_pos q2]
  ·rw[if_neg (by simpa using q2),if_neg q2,B0 (by omega) (by omega)]
omit hR in
theorem c4q {s:a7} (hR:SR s) {h:Int} (hh:h∈lv s) {n:Int} (hn:0≤n):H5 s h (stg (ob s h) n)=some (seO s h (stg (ob s h) n),0):=by
 have:=H2 hR hh;exact b0u (o:=stg (ob s h) n) hR hh rfl ⟨this.s1,this.s2,hn,this.wk,this.p1,this.p2,this.fl⟩
omit hR in
theorem b0v {s:a7} (hR:SR s) {h:Int} (hh:h∈lv s) {o:l4} (hs:o.Serial=(ob s h).Serial) (ho:OkO s o):L4 (sO s) h (oo o)=some (sO (seO s h o),0):=by
 have:=D5 hR hh;rw[c4O s hR.len (by omega) o,b0u hR hh hs ho];rfl
theorem a49{h:Int}(hh:h≤9223372036854775807)(hB:∀k∈lv x.S,(ob x.S k).Strong≤9223372036854775807):Y1 x h=some (A0 x h):=by
 unfold Y1 Q5 A0 stO;obtain⟨e,h1,h2⟩:=O8 (p6.2 hR) hh;rw[h1,d2P];by_cases q:h∈lv x.S
 ·have e0:=h2.2 q;subst e0;rw[if_pos q,c9h hR (hB h q)];simp only[beq_self_eq_true,if_true,d2P];have:=c4q hR q (A5 (H2 hR q).st);rw[this];rfl
 ·have:(e==0)=false:=by simpa using λc=>q (h2.1 c)
  rw[this,if_neg q];rfl
theorem a7q{h:Int}(hh:h≤9223372036854775807)(hB:∀k∈lv x.S,(ob x.S k).Strong≤9223372036854775807):a0T (hO x) h=some (hO (A0 x h)):=by
 unfold a0T a51 A0 stO;obtain⟨e,h1,h2⟩:=O8 (p6.2 hR) hh;have hg:E0 (hO x).S h=some (oo (ob x.S h),e):=by
  rw[show (hO x).S=sO x.S from rfl,a4S x.S (by have:=hR.len;omega) hh,h1];rfl
 rw[hg,d2P];by_cases q:h∈lv x.S
 ·have e0:=h2.2 q;subst e0;have hs:b2r (oo (ob x.S h),(0:Int)).1.Strong=some (N3 (ob x.S h).Strong):=b7F hR (hB h q);rw[if_pos q,hs,d2P];simp only[d2P,bne_self_eq_false,Bool.false_eq_true,if_false];have ok:=H2 hR q;have:=b0v (o:=stg (ob x.S h) (N3 (ob x.S h).Strong)) hR q rfl ⟨ok.s1,ok.s2,A5 ok.st,ok.wk,ok.p1,ok.p2,ok.fl⟩;rw[show L4 (hO x).S h ⟨(oo (ob x.S h)).Serial,N3 (ob x.S h).Strong,(oo (ob x.S h)).Weak,(oo (ob x.S h)).Prog,(oo (ob x.S h)).Started,(oo (ob x.S h)).Fields⟩=_ from this];rfl
 ·have he:(e != 0)=true:=by simpa using λc=>q (h2.1 c)
  have hb:(oo (ob x.S h)).Strong≤9223372036854775807:=by
   rw[a8I (p6.2 hR) hh q];decide
  rw[b7F hR hb,d2P,d2P];simp only[he,if_true];rw[if_neg q];rfl
omit hR in
theorem c8J (c:Int) (h1 : -1000000≤c):a1o c=some (a2r c):=by
 unfold a1o b0N a1X D6 a2r;simp only[d2P];by_cases q:12≤c
 ·rw[if_pos (by simpa using q),if_pos q];rfl
 ·rw[if_neg (by simpa using q),if_neg q];by_cases q2:c<1
  ·rw[if_pos (by simpa using q2),if_pos q2];rfl
  ·rw[if_neg (by simpa using q2),if_neg q2,B0 (by omega) (by omega)];rfl
theorem a2b{h:Int}(hh:h≤9223372036854775807):A7 x h=some (N5 x h):=by
 unfold A7 K2 N5 stO;obtain⟨e,h1,h2⟩:=O8 (p6.2 hR) hh;rw[h1,d2P];by_cases q:h∈lv x.S
 ·have e0:=h2.2 q;subst e0;have ok:=H2 hR q;rw[if_pos q,c8J _ (by have:=ok.st;dsimp only;omega)];simp only[beq_self_eq_true,if_true,d2P];have:=c4q hR q (F1 ok.st);rw[this];rfl
 ·have:(e==0)=false:=by simpa using λc=>q (h2.1 c)
  rw[this,if_neg q];rfl
theorem a3q{h:Int}(hh:h≤9223372036854775807):D3 (hO x) h=some (hO (N5 x h)):=by
 unfold D3 a51 N5 stO;obtain⟨e,h1,h2⟩:=O8 (p6.2 hR) hh;have hg:E0 (hO x).S h=some (oo (ob x.S h),e):=by
  rw[show (hO x).S=sO x.S from rfl,a4S x.S (by have:=hR.len;omega) hh,h1];rfl
 rw[hg,d2P];by_cases q:h∈lv x.S
 ·have e0:=h2.2 q;subst e0;have ok:=H2 hR q;have put:∀n,0≤n→L4 (hO x).S h ⟨(oo (ob x.S h)).Serial,n,(oo (ob x.S h)).Weak,(oo (ob x.S h)).Prog,(oo (ob x.S h)).Started,(oo (ob x.S h)).Fields⟩=some (sO (seO x.S h (stg (ob x.S h) n)),0):=λn hn=>
   b0v (o:=stg (ob x.S h) n) hR q rfl ⟨ok.s1,ok.s2,hn,ok.wk,ok.p1,ok.p2,ok.fl⟩
  have hs:(oo (ob x.S h)).Strong=(ob x.S h).Strong:=rfl;rw[if_pos q];unfold b6q a18 a2r;simp only[d2P,hs];by_cases q1:12≤(ob x.S h).Strong
  ·rw[if_pos (by simpa using q1),if_pos q1];simp only[d2P,bne_self_eq_false,Bool.false_eq_true,if_false];rw[put 12 (by decide)];rfl
  ·rw[if_neg (by simpa using q1),if_neg q1];by_cases q2:(ob x.S h).Strong<1
   ·rw[if_pos (by simpa using q2),if_pos q2];simp only[d2P,show ((11:Int) != 0)=true from rfl,if_true];rw[show stg (ob x.S h) (ob x.S h).Strong=ob x.S h from rfl,c4L hR q]
   ·rw[if_neg (by simpa using q2),if_neg q2,B0 (by omega) (by have:=ok.st;omega)];simp only[d2P,bne_self_eq_false,Bool.false_eq_true,if_false];rw[put _ (by omega)];rfl
 ·have he:(e != 0)=true:=by simpa using λc=>q (h2.1 c)
  rw[if_neg q,a8I (p6.2 hR) hh q];unfold b6q a18;simp only[d2P];rfl
end
theorem c2g{x:Hp}(hR:SR x.S)(hB:SB x.S):∀k∈lv x.S,(ob x.S k).Strong≤9223372036854775807:=λk hk=>(b1u (p6.2 hR) hB hk).2
end Go.Sh
