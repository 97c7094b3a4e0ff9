/-
 Several texts of one kind, one behind the other.
-/
import Derived.Test.YtlkcpapbolbjnaaGreatO19rSh
import Derived.Test.YtlkcpapbolbjnaaGreatO19rSh1
import Derived.Test.YtlkcpapbolbjnaaGreatO19rSh
import Derived.Test.YtlkcpapbolbjnaaGreatO19rSh
import Derived.Test.YtlkcpapbolbjnaaGreatO19rSh
set_option linter.unusedVariables false
set_option linter.unusedSimpArgs false
set_option linter.unusedSectionVars false
namespace Go.Sh
def Hnd(h:Int):Prop:=1≤h∧(h-1) % 32<24∧(h-1) / 32≤9
instance(h:Int):Decidable (Hnd h):=by unfold Hnd;infer_instance
theorem b2A{h:Int}(q:Hnd h):1≤h∧h≤320:=by unfold Hnd at q;omega
theorem a3o{i g:Int}(h1:0≤i)(h2:i<24)(h3:0≤g)(h4:g≤9):W2 i g=some (1+i+32*g):=by
 unfold W2
 rw[if_neg (by simp;omega)]
 rw[show p6 (i*1)=i by rw[a3a];omega,show p6 (1+i)=1+i by rw[a3a];omega,show p6 (g*32)=32*g by rw[a3a];omega,show p6 (1+i+32*g)=1+i+32*g by rw[a3a];omega]
theorem a6Y{i g:Int}:a3z i g=some (if 0≤i∧i<24∧0≤g∧g≤9 then 1+i+32*g else 0):=by
 unfold a3z
 split
 ·rename_i h;rw[if_neg (by simp at h;omega)]
 ·rename_i h
  have h:0≤i∧i<24∧0≤g∧g≤9:=by simp at h;omega
  rw[if_pos h]
  rw[show p6 (1+i)=1+i by rw[a3a];omega,show p6 (32*g)=32*g by rw[a3a];omega,show p6 (1+i+32*g)=1+i+32*g by rw[a3a];omega]
theorem a6g{h:Int}(hh:h≤9223372036854775807):a0Z h=some (if Hnd h then ((h-1) % 32,(h-1) / 32,true) else (-1,-1,false)):=by
 unfold a0Z
 split
 ·rename_i q
  rw[if_neg (by unfold Hnd;simp at q;omega)]
 ·rename_i q
  have q:1≤h:=by simpa using q
  rw[C9 (n:=h-1),a7L (by omega) (by omega),d1e,b10 (by omega) (by omega) (by omega),d1e,b10 (by omega) (by omega) (by omega),d1e,Int.ediv_one]
  split
  ·rename_i q2
   rw[if_neg (by unfold Hnd;simp at q2;omega)]
  ·rename_i q2
   rw[if_pos (by unfold Hnd;simp at q2;omega)]
theorem a3q{h:Int}(hh:h≤9223372036854775807):a2g h=some (if Hnd h then (h-1) % 32 else -1):=by
 unfold a2g
 rw[a6g hh,d1e]
 split <;> rfl
theorem a4s{h:Int}(hh:h≤9223372036854775807):a3n h=some (if Hnd h then (h-1) / 32 else -1):=by
 unfold a3n
 rw[a6g hh,d1e]
 split <;> rfl
theorem a9Q{h:Int}:a7C h=some (decide (Hnd h)):=by
 unfold a7C
 split
 ·rename_i q
  rw[decide_eq_false (by unfold Hnd;simp at q;omega)]
 ·rename_i q
  have q:1≤h∧h≤400:=by simp at q;omega
  rw[C9 (n:=h-1),a7L (by omega) (by omega),d1e,b10 (by omega) (by omega) (by omega),d1e,a6Y,d1e]
  congr 1
  by_cases k:Hnd h
  ·rw[decide_eq_true k,if_pos (by unfold Hnd at k;omega)]
   simp;omega
  ·rw[decide_eq_false k,if_neg (by unfold Hnd at k;omega)]
   simp;omega
theorem a60{h:Int}:a6Z h=some (if Hnd h then (h-1) % 32 else -1):=by
 unfold a6Z
 rw[a9Q,d1e]
 by_cases k:Hnd h
 ·have:=b2A k
  rw[decide_eq_true k,if_neg (by simp),if_pos k,C9 (n:=h-1),a7L (by omega) (by omega),d1e]
 ·rw[decide_eq_false k,if_pos (by simp),if_neg k]
theorem b8u{h:Int}:b5L h=some (if Hnd h then (h-1) / 32 else -1):=by
 unfold b5L
 rw[a9Q,d1e]
 by_cases k:Hnd h
 ·have:=b2A k
  rw[decide_eq_true k,if_neg (by simp),if_pos k,C9 (n:=h-1),b10 (by omega) (by omega) (by omega),d1e]
 ·rw[decide_eq_false k,if_pos (by simp),if_neg k]
end Go.Sh
namespace Go.Sh
theorem b8X(a b:List Int)(ha:a.length<4611686018427387904):b2X a b=some (decide (a=b)):=by
 unfold b2X
 by_cases hl:a.length=b.length
 ·rw[if_neg (by simp[hl])]
  simp only[jn]
  refine M0 a.length (λk=>∀j (h1:j<a.length) (h2:j<b.length),j<k→a[j]=b[j]) ha (λ_ _ _ h=>by omega) (λk hk hP=>?_) (λhP=>?_)
  ·have hk2:k<b.length:=by omega
   simp only[Int.ofNat_lt,hk,decide_true,if_true,n0 hk,n0 hk2,d1e]
   by_cases e:a[k]=b[k]
   ·refine .inl ⟨?_,λj h1 h2 hj=>?_⟩
    ·rw[if_neg (by simpa using e),k7]
    ·rcases Nat.lt_or_ge j k with q | q
     ·exact hP j h1 h2 q
     ·have:j=k:=by omega
      subst this;exact e
   ·refine .inr ⟨.inl false,by rw[if_pos (by simpa using e)],?_⟩
    simp only
    rw[decide_eq_false (λq=>e (by subst q;rfl))]
  ·refine⟨.inr (),by simp,?_⟩
   simp only
   rw[decide_eq_true (List.ext_getElem hl λi h1 h2=>hP i h1 h2 h1)]
 ·rw[if_pos (by rw[bne_iff_ne];omega)]
  rw[decide_eq_false (λq=>hl (by rw[q]))]
end Go.Sh
namespace Go.Sh
abbrev z0:k9:=⟨0,0,0,0,false,[]⟩
structure SlO (s:c7):Prop where
 len:s.a8.length≤24
 l0:0≤s.Last
 l9:s.Last≤9
 cell:∀i (h:i<s.a8.length),0≤s.a8[i].State∧s.a8[i].State≤3∧0≤s.a8[i].Gen∧s.a8[i].Gen≤s.Last
theorem a5h{s:c7}{i:Int}{k:Nat}{c:b7}(hi:i=k)(hk:k<s.a8.length)(hl:s.a8.length≤24):A1 s i c=some ⟨s.a8.set k c,s.Last⟩:=by
 subst hi
 unfold A1 p9
 rw[J8 (by omega) (by omega),d1e,n0 hk,d1e,Int.toNat_natCast]
theorem b58{s:c7}(hR:SlO s)(v:k9) :
  (∃i,∃h:i<s.a8.length,s.a8[i].State=0∧(∀j (hj:j<i),s.a8[j].State≠0)∧G1 s v=some (⟨s.a8.set i ⟨1,s.a8[i].Gen,v⟩,s.Last⟩,1+i+32*s.a8[i].Gen,0)) ∨
  ((∀i (h:i<s.a8.length),s.a8[i].State≠0)∧G1 s v=some (s,0,4)):=by
 have hlen:=hR.len
 by_cases q:∃i,∃h:i<s.a8.length,s.a8[i].State=0
 ·obtain⟨i,⟨hi,h0⟩,hmin⟩:=a0y (p:=λi=>∃h:i<s.a8.length,s.a8[i].State=0) q
  left
  refine⟨i,hi,h0,λj hj=>λe=>by have:=hmin j ⟨by omega,e⟩;omega,?_⟩
  unfold G1
  simp only[jn,J5,d1e]
  have hc:=hR.cell i hi
  refine M0 s.a8.length (λk=>k≤i) (by omega) (by omega) (λk hk hP=>?_) (λhP=>by omega)
  rcases Nat.lt_or_ge k i with g | g
  ·refine .inl ⟨?_,g⟩
   have:s.a8[k].State≠0:=λe=>by have:=hmin k ⟨hk,e⟩;omega
   simp only[Int.ofNat_lt,hk,decide_true,if_true,n0 hk,d1e]
   rw[if_neg (by simpa using this),k7]
  ·have:k=i:=by omega
   subst this
   refine .inr ⟨.inl _,?_,rfl⟩
   simp only[Int.ofNat_lt,hk,decide_true,if_true,n0 hk,d1e,h0,a5h rfl hk hlen]
   rw[a3o (by omega) (by omega) hc.2.2.1 (by have:=hR.l9;omega)]
   simp
 ·right
  refine⟨λi h e=>q ⟨i,h,e⟩,?_⟩
  unfold G1
  simp only[jn,J5,d1e]
  refine M0 s.a8.length (λk=>True) (by omega) trivial (λk hk _=>?_) (λhP=>⟨.inr (),by simp,rfl⟩)
  refine .inl ⟨?_,trivial⟩
  have:s.a8[k].State≠0:=λe=>q ⟨k,hk,e⟩
  simp only[Int.ofNat_lt,hk,decide_true,if_true,n0 hk,d1e]
  rw[if_neg (by simpa using this),k7]
def b0o(s:c7)(h:Int)(i:Nat):Prop:=∃hi:i<s.a8.length,Hnd h∧(h-1) % 32=i∧s.a8[i].Gen=(h-1) / 32∧(s.a8[i].State=1∨s.a8[i].State=2)
theorem a0Y(s:c7){h:Int}(hh:h≤9223372036854775807) :
  (∃i,b0o s h i∧o7 s h=some ((i:Int),0))∨((∀i,¬b0o s h i)∧o7 s h=some (-1,if h=0 then 2 else 3)):=by
 unfold o7
 by_cases h0:h=0
 ·right
  subst h0
  exact⟨λi ⟨_,h1,_⟩=>by unfold Hnd at h1;omega,by simp⟩
 ·rw[if_neg (by simpa using h0),a3q hh,d1e,if_neg h0]
  by_cases hd:Hnd h
  ·rw[if_pos hd]
   have hd':=hd
   unfold Hnd at hd'
   obtain⟨k,hk⟩:∃k:Nat,(h-1) % 32=k:=⟨((h-1) % 32).toNat,by omega⟩
   rw[hk]
   by_cases hl:k<s.a8.length
   ·rw[if_neg (by simp;omega),n0 hl,d1e,a4s hh,d1e,if_pos hd]
    by_cases g:s.a8[k].Gen=(h-1) / 32∧(s.a8[k].State=1∨s.a8[k].State=2)
    ·left
     refine⟨k,⟨hl,hd,hk,g⟩,?_⟩
     rw[if_neg]
     simp;omega
    ·right
     refine⟨λi ⟨hi,_,h2,h3⟩=>?_,?_⟩
     ·have:i=k:=by omega
      subst this;exact g h3
     ·rw[if_pos]
      simp;omega
   ·right
    refine⟨λi ⟨hi,_,h2,h3⟩=>by omega,?_⟩
    rw[if_pos (by simp;omega)]
  ·right
   refine⟨λi ⟨hi,h1,_⟩=>hd h1,?_⟩
   rw[if_neg hd,if_pos (by simp)]
theorem a7v{s:c7}{h:Int}{i:Nat}(hf:b0o s h i):o7 s h=some ((i:Int),0):=by
 have hh:=b2A hf.2.1
 rcases a0Y s (h:=h) (by omega) with ⟨j,h1,h2⟩ | ⟨h1,_⟩
 ·obtain⟨_,_,e1,_⟩:=hf
  obtain⟨_,_,e2,_⟩:=h1
  have:i=j:=by omega
  subst this;exact h2
 ·exact absurd hf (h1 i)
theorem b0y{s:c7}{h:Int}(hh:h≤9223372036854775807)(hf:∀i,¬b0o s h i):o7 s h=some (-1,if h=0 then 2 else 3):=by
 rcases a0Y s hh with ⟨j,h1,_⟩ | ⟨_,h2⟩
 ·exact absurd h1 (hf j)
 ·exact h2
theorem a2f(h:Int):(if h=0 then 2 else 3:Int)≠0:=by split <;> omega
theorem b6G{s:c7}{h:Int}{i:Nat}(hf:b0o s h i):∃hi:i<s.a8.length,A9 s h=some (if s.a8[i].State=2 then (z0,3) else (s.a8[i].Val,0)):=by
 refine⟨hf.1,?_⟩
 unfold A9
 rw[a7v hf,d1e,if_neg (by simp),n0 hf.1,d1e]
 split <;> rename_i q
 ·rw[if_pos (by simpa using q)]
 ·rw[if_neg (by simpa using q)]
theorem c1X{s:c7}{h:Int}(hh:h≤9223372036854775807)(hf:∀i,¬b0o s h i):A9 s h=some (z0,if h=0 then 2 else 3):=by
 unfold A9
 rw[b0y hh hf,d1e,if_pos (by simpa using a2f h)]
theorem b7q{s:c7}{h:Int}{v:k9}{i:Nat}(hl:s.a8.length≤24)(hf:b0o s h i):∃hi:i<s.a8.length,H3 s h v=some (⟨s.a8.set i ⟨s.a8[i].State,s.a8[i].Gen,v⟩,s.Last⟩,0):=by
 refine⟨hf.1,?_⟩
 unfold H3
 rw[a7v hf,d1e,if_neg (by simp),n0 hf.1,d1e,a5h rfl hf.1 hl,d1e]
theorem c3n{s:c7}{h:Int}{v:k9}(hh:h≤9223372036854775807)(hf:∀i,¬b0o s h i):H3 s h v=some (s,if h=0 then 2 else 3):=by
 unfold H3
 rw[b0y hh hf,d1e,if_pos (by simpa using a2f h)]
end Go.Sh
namespace Go.Sh
def oo(o:k9):D9:=⟨o.Serial,o.Strong,o.Weak,o.Prog,o.Started,o.Fields⟩
def cO(c:b7):B9:=⟨c.State,c.Gen,oo c.Val⟩
def sO(s:a7):m8:=⟨s.S.a8.map cO,s.S.Last,s.Serial⟩
def Sm(s:a7):Prop:=s.S.a8.length≤30∧∀i (h:i<s.S.a8.length),s.S.a8[i].Val.Fields.length≤10
instance(s:a7):Decidable (Sm s):=by unfold Sm;infer_instance
def plc(i:Nat)(c:B9):E1:=⟨c.State,c.Gen,(i:Int)⟩
def pl(t:m8):D1:=⟨t.a8.mapIdx plc,t.Last⟩
theorem a4e(t:m8)(h:t.a8.length≤1000):K8 t=some (pl t):=by
 unfold K8
 simp only[jn]
 refine O1 t.a8.length (λk acc=>acc=(t.a8.mapIdx plc).take k) (by omega) (by simp) (λk acc hk hP=>?_) (λacc hP=>?_)
 ·subst hP
  refine .inl ⟨_,?_,rfl⟩
  simp only[Int.ofNat_lt,hk,decide_true,if_true,n0 hk,d1e]
  rw[u4 (by omega) (by simp;omega),d1e,k7]
  have e:(t.a8.mapIdx plc).take (k+1)=(t.a8.mapIdx plc).take k ++ [plc k t.a8[k]]:=by
   rw[List.take_add_one,List.getElem?_eq_getElem (by simpa using hk)]
   simp
  rw[e]
  rfl
 ·subst hP
  rw[List.take_of_length_le (by simp)]
  exact⟨t.a8.mapIdx plc,by simp only[Int.lt_irrefl,decide_false,Bool.false_eq_true,if_false],rfl⟩
def Thr(c:B9):Prop:=c.State=1∨c.State=2
instance(c:B9):Decidable (Thr c):=by unfold Thr;infer_instance
def b4Q(t:m8)(o:D9):Prop:=1≤o.Serial∧o.Serial≤t.Serial∧0≤o.Strong∧0≤o.Weak ∧ -1≤o.Prog∧o.Prog≤5∧o.Fields.length≤4
def b2e(o:D9):Prop:=o.Serial=0∧o.Strong=0∧o.Weak=0∧o.Prog=0∧o.Started=false∧o.Fields.length=0
structure RtR (t:m8):Prop where
 len:t.a8.length≤24
 l0:0≤t.Last
 l9:t.Last≤9
 ser:0≤t.Serial
 cell:∀i (h:i<t.a8.length),0≤t.a8[i].State∧t.a8[i].State≤3∧0≤t.a8[i].Gen∧t.a8[i].Gen≤t.Last
 no:∀i (h:i<t.a8.length),¬Thr t.a8[i]→b2e t.a8[i].Val
 ok:∀i (h:i<t.a8.length),Thr t.a8[i]→b4Q t t.a8[i].Val
 dif:∀i (h:i<t.a8.length) k (hk:k<i),Thr t.a8[i]→Thr t.a8[k]→t.a8[k].Val.Serial≠t.a8[i].Val.Serial
end Go.Sh
namespace Go.Sh
theorem b7u{c:Int→Int→Option Int}{xs:List Int}(key:Int→Int)(hc:∀x y,∃r,c x y=some r∧(r<0↔key x<key y))(hl:xs.length<4611686018427387904) :
  ∃ys,b02 c xs=some ys∧ys.Perm xs∧ys.Pairwise (λa b=>key a≤key b):=by
 have hlt:∀x y,Go.Proofs.ltOf (λx y=>(c x y).getD 0) x y=decide (key x<key y):=λx y=>by
  obtain⟨r,h1,h2⟩:=hc x y
  show decide ((c x y).getD 0<0)=_
  rw[h1,Option.getD_some]
  exact decide_eq_decide.2 h2
 have hO:Go.Sort.SWO (Go.Proofs.ltOf λx y=>(c x y).getD 0):=by
  refine⟨λx=>?_,λx y z=>?_,λx y z=>?_⟩
  ·rw[hlt];simp
  ·rw[hlt,hlt,hlt];simp;omega
  ·rw[hlt,hlt,hlt];simp;omega
 have hcond:(∀x y,(c x y).isSome=true)∧Go.Sort.SWO (Go.Proofs.ltOf λx y=>(c x y).getD 0)∧xs.length<4611686018427387904:=⟨λx y=>by
  obtain⟨r,h1,_⟩:=hc x y
  rw[h1];rfl,hO,hl⟩
 unfold b02
 rw[if_pos hcond]
 refine⟨_,rfl,?_⟩
 obtain⟨⟨p1,p2,p3⟩,p4⟩:=Go.Sort.pdq_sorts (Go.Proofs.ltOf λx y=>(c x y).getD 0) hO xs.toArray 0 xs.length (Go.Lib.bitLen xs.length) true true (Nat.zero_le _) (by simp) (Or.inl rfl)
 generalize Go.Sort.pdq (Go.Proofs.ltOf λx y=>(c x y).getD 0) xs.toArray 0 xs.length (Go.Lib.bitLen xs.length) true true=d at p1 p2 p3 p4 ⊢
 have hs:d.size=xs.length:=by simpa using p1
 refine⟨?_,?_⟩
 ·have e1:d.extract 0 xs.length=d:=by rw[←hs];exact Array.extract_size
  have e2:xs.toArray.extract 0 xs.length=xs.toArray:=by
   simp
  rw[e1,e2] at p3
  simpa using p3
 ·rw[List.pairwise_iff_getElem]
  intro i j hi hj hij
  have hi':i<d.size:=by simpa using hi
  have hj':j<d.size:=by simpa using hj
  have:=p4 i j (Nat.zero_le _) hij (by omega)
  rw[hlt,getElem!_pos d j hj',getElem!_pos d i hi'] at this
  have:=of_decide_eq_false this
  simp only[Array.getElem_toList]
  omega
def U6:Nat→List b7→List Int
 | _,[]=>[]
 | k,c::r=>(if c.State=1 then [1+(k:Int)+32*c.Gen] else [])++U6 (k+1) r
theorem a7z(c:b7):∀(k:Nat) (xs:List b7),U6 k (xs ++ [c])=U6 k xs++(if c.State=1 then [1+((k+xs.length:Nat):Int)+32*c.Gen] else [])
 | k,[]=>by simp[U6]
 | k,x::r=>by
  simp only[List.cons_append,U6,a7z c (k+1) r,List.append_assoc,List.length_cons]
  rw[show k+1+r.length=k+(r.length+1) by omega]
theorem a4J:∀(k:Nat) (xs:List b7),(U6 k xs).length≤xs.length
 | _,[]=>by simp[U6]
 | k,c::r=>by
  have:=a4J (k+1) r
  simp only[U6,List.length_append,List.length_cons]
  split <;> simp <;> omega
theorem a6O{h:Int}:∀ {k:Nat} {xs:List b7},h∈U6 k xs↔∃i,∃hi:i<xs.length,xs[i].State=1∧h=1+((k+i:Nat):Int)+32*xs[i].Gen
 | k,[]=>by simp[U6]
 | k,c::r=>by
  simp only[U6,List.mem_append,a6O (k:=k+1) (xs:=r)]
  constructor
  ·rintro (q | ⟨i,hi,q1,q2⟩)
   ·by_cases hc:c.State=1
    ·rw[if_pos hc] at q
     exact⟨0,by simp,by simpa using hc,by simpa using q⟩
    ·rw[if_neg hc] at q
     cases q
   ·exact⟨i+1,by simpa using hi,by simpa using q1,by simp only[List.getElem_cons_succ];rw[q2,show k+1+i=k+(i+1) by omega]⟩
  ·rintro⟨i,hi,q1,q2⟩
   cases i with
   | zero=>
    left
    simp only[List.getElem_cons_zero] at q1 q2
    rw[if_pos q1]
    simp[q2]
   | succ i=>
    right
    simp only[List.getElem_cons_succ] at q1 q2
    exact⟨i,by simpa using hi,q1,by rw[q2,show k+1+i=k+(i+1) by omega]⟩
def sk(cs:List b7)(h:Int):Int:=match cs[((h-1) % 32).toNat]? with
 | some c=>c.Val.Serial
 | none=>0
theorem b7t{cs:List b7}{i:Nat}{g:Int}(h:i<cs.length)(h32:cs.length≤32):sk cs (1+(i:Int)+32*g)=cs[i].Val.Serial:=by
 unfold sk
 have:((1+(i:Int)+32*g-1) % 32).toNat=i:=by omega
 rw[this,List.getElem?_eq_getElem h]
structure Slb (cs:List b7):Prop where
 len:cs.length≤24
 gen:∀i (h:i<cs.length),0≤cs[i].Gen∧cs[i].Gen≤9
theorem b4o{s:a7}(hR:Slb s.S.a8):∃l,y4 s=some l∧l.Perm (U6 0 s.S.a8)∧l.Pairwise (λa b=>sk s.S.a8 a≤sk s.S.a8 b):=by
 have hlen:=hR.len
 unfold y4
 simp only[jn]
 have hh:=a4J 0 s.S.a8
 have hloop:∃e:List (Int × Int) × List Int,lp (S:=Int × (List (Int × Int)) × (List Int)) (E:=((List (Int × Int)) × (List Int))) (λ((s23,s24,s25):Int × (List (Int × Int)) × (List Int))=>
   if (decide (s23<(s.S.a8.length:Int))) then
    ((ix s.S.a8 s23).bind λv35=>
     if (v35.State==1) then
      (W2 s23 v35.Gen).bind λv36=>
      (app 8 s25 [v36]).bind λv37=>
      some (.inl (p6 (s23+1),(m9 s24 v36 v35.Val.Serial),v37))
     else
     some (.inl (p6 (s23+1),s24,s25)))
   else
   some (.inr (s24,s25))) (0,[],[])=some e∧e.2=U6 0 s.S.a8∧∀h∈e.2,r8 e.1 h=some (sk s.S.a8 h):=by
  refine a06 (T:=List (Int × Int) × List Int) s.S.a8.length (λk e=>e.2=U6 0 (s.S.a8.take k)∧∀h∈e.2,r8 e.1 h=some (sk s.S.a8 h)) (λe:List (Int × Int) × List Int=>e.2=U6 0 s.S.a8∧∀h∈e.2,r8 e.1 h=some (sk s.S.a8 h)) (by omega) ⟨by simp[U6],by simp⟩ (λk e hk hP=>?_) (λe hP=>?_)
  ·obtain⟨h1,h2⟩:=hP
   obtain⟨m,l⟩:=e
   simp only at h1 h2
   left
   have hc:=hR.gen k hk
   have hl:l.length≤24:=by rw[h1];have:=a4J 0 (s.S.a8.take k);simp at this;omega
   have et:s.S.a8.take (k+1)=s.S.a8.take k ++ [s.S.a8[k]]:=by rw[List.take_add_one,List.getElem?_eq_getElem hk];rfl
   have el:(s.S.a8.take k).length=k:=by simp;omega
   by_cases q:s.S.a8[k].State=1
   ·refine⟨(m9 m (1+(k:Int)+32*s.S.a8[k].Gen) s.S.a8[k].Val.Serial,l ++ [1+(k:Int)+32*s.S.a8[k].Gen]),?_,?_,?_⟩
    ·simp only[Int.ofNat_lt,hk,decide_true,if_true,n0 hk,d1e,q,beq_self_eq_true]
     rw[a3o (by omega) (by omega) hc.1 hc.2,d1e,u4 (by omega) (by simp;omega),d1e,k7]
    ·simp only
     rw[et,a7z,if_pos q,el,h1,Nat.zero_add]
    ·intro h hh
     simp only[List.mem_append,List.mem_singleton] at hh ⊢
     rw[a4Q]
     rcases hh with hh | rfl
     ·split
      ·rename_i e;rw[e,b7t hk (by omega)]
      ·exact h2 h hh
     ·rw[if_pos rfl,b7t hk (by omega)]
   ·refine⟨(m,l),?_,?_,h2⟩
    ·simp only[Int.ofNat_lt,hk,decide_true,if_true,n0 hk,d1e]
     rw[if_neg (by simpa using q),k7]
    ·simp only
     rw[et,a7z,if_neg q,h1,List.append_nil]
  ·obtain⟨h1,h2⟩:=hP
   obtain⟨m,l⟩:=e
   refine⟨(m,l),by simp only[Int.lt_irrefl,decide_false,Bool.false_eq_true,if_false],?_,h2⟩
   simpa using h1
 obtain⟨⟨m,l⟩,e1,e2,e3⟩:=hloop
 rw[show lp _ _=_ from e1,d1e]
 simp only at e2 e3 ⊢
 subst e2
 obtain⟨ys,q1,q2,q3⟩:=b7u (c:=λp q=>a21 p q m) (xs:=U6 0 s.S.a8) (λh=>(r8 m h).getD 0) (λx y=>by
  unfold a21 a2z a0i
  simp only[d1e,bne_self_eq_false,Bool.false_eq_true,if_false]
  generalize (r8 m x).getD 0=a
  generalize (r8 m y).getD 0=b
  by_cases h1:a<b
  ·rw[decide_eq_true h1];exact⟨-1,rfl,by simp[h1]⟩
  ·rw[decide_eq_false h1]
   by_cases h2:a > b
   ·rw[decide_eq_true h2];exact⟨1,rfl,by simp[h1]⟩
   ·rw[decide_eq_false h2];exact⟨0,rfl,by simp[h1]⟩) (by omega)
 refine⟨ys,by rw[q1];rfl,q2,q3.imp_of_mem λ{a b} ha hb hab=>?_⟩
 rw[e3 a (q2.mem_iff.1 ha),e3 b (q2.mem_iff.1 hb)] at hab
 simpa using hab
theorem a54{key:Int→Int}:∀ {l m:List Int},l.Perm m→l.Pairwise (λa b=>key a≤key b)→m.Pairwise (λa b=>key a≤key b)→(∀a∈l,∀b∈l,key a=key b→a=b)→l=m
 | [],m,hp,_,_,_=>(List.nil_perm.1 hp).symm
 | a::l,[],hp,_,_,_=>by simp at hp
 | a::l,b::m,hp,h1,h2,hk=>by
  have ha:=List.pairwise_cons.1 h1
  have hb:=List.pairwise_cons.1 h2
  have e:a=b:=by
   have m1:b∈a::l:=hp.mem_iff.2 (List.mem_cons_self ..)
   have m2:a∈b::m:=hp.mem_iff.1 (List.mem_cons_self ..)
   rcases List.mem_cons.1 m1 with q | q
   ·exact q.symm
   ·rcases List.mem_cons.1 m2 with q' | q'
    ·exact q'
    ·exact hk a (List.mem_cons_self ..) b m1 (Int.le_antisymm (ha.1 b q) (hb.1 a q'))
  subst e
  rw[a54 (List.perm_cons a |>.1 hp) ha.2 hb.2 λx hx y hy=>hk x (List.mem_cons_of_mem _ hx) y (List.mem_cons_of_mem _ hy)]
end Go.Sh
namespace Go.Sh
theorem z1(s:a7):(sO s).a8.length=s.S.a8.length:=by simp[sO]
theorem b9R(s:a7)(i:Int):ix (sO s).a8 i=(ix s.S.a8 i).map cO:=a16 cO s.S.a8 i
theorem a0E(t:m8):(pl t).a8.length=t.a8.length:=by simp[pl]
theorem b62{t:m8}{k:Nat}(h:k<t.a8.length):ix (pl t).a8 k=some (plc k t.a8[k]):=by
 rw[n0 (by simpa[pl] using h)]
 simp[pl]
theorem b0x(s:a7){h:Int}(hh:h≤9223372036854775807):L5 (pl (sO s)) h=o7 s.S h:=by
 unfold L5 o7
 rw[a60,a3q hh,b8u,a4s hh]
 simp only[d1e,a0E,z1]
 generalize (if Hnd h then (h-1) % 32 else -1:Int)=v
 generalize (if Hnd h then (h-1) / 32 else -1:Int)=g
 split
 ·rfl
 ·split
  ·rfl
  ·rename_i q
   have q:0≤v∧v<s.S.a8.length:=by simp at q;omega
   obtain⟨k,rfl⟩:∃k:Nat,v=k:=⟨v.toNat,by omega⟩
   have hk:k<s.S.a8.length:=by omega
   rw[b62 (by rw[z1];exact hk),n0 hk]
   simp only[d1e,plc,sO,List.getElem_map,cO]
theorem c3m(s:a7)(hl:s.S.a8.length≤24){h:Int}(hh:h≤9223372036854775807)(o:k9):K2 (sO s) h (oo o)=(H4 s h o).map λp=>(sO p.1,p.2):=by
 unfold K2 H4
 rw[a4e _ (by rw[z1];omega),d1e,b0x s hh]
 rcases a0Y s.S hh with ⟨i,hf,e⟩ | ⟨hf,e⟩
 ·obtain⟨hi,e2⟩:=b7q (v:=o) hl hf
  rw[e,e2]
  simp only[d1e,bne_self_eq_false,Bool.false_eq_true,if_false,Option.map_some]
  unfold a2n
  rw[J8 (by omega) (by rw[z1];omega),d1e,n0 (by rw[z1];exact hi),d1e]
  simp[sO,cO,oo,List.map_set]
 ·rw[e,c3n hh hf]
  simp only[d1e]
  rw[if_pos (by simpa using a2f h)]
  rfl
end Go.Sh
namespace Go.Sh
theorem a1i{s:a7}(h:RtR (sO s)):s.S.a8.length≤24:=by have:=h.len;rwa [z1] at this
theorem b5V{s:a7}(h:RtR (sO s))(i:Nat)(hi:i<s.S.a8.length):0≤s.S.a8[i].State∧s.S.a8[i].State≤3∧0≤s.S.a8[i].Gen∧s.S.a8[i].Gen≤s.S.Last:=by
 have:=h.cell i (by rw[z1];exact hi)
 simpa[sO,cO] using this
theorem b5W{s:a7}(h:RtR (sO s)):Slb s.S.a8:=⟨a1i h,λi hi=>by have:=b5V h i hi;have h9:s.S.Last≤9:=h.l9;omega⟩
theorem c3g{s:a7}(h:RtR (sO s))(i:Nat)(hi:i<s.S.a8.length)(ht:s.S.a8[i].State=1∨s.S.a8[i].State=2):b4Q (sO s) (oo s.S.a8[i].Val):=by
 have:=h.ok i (by rw[z1];exact hi)
 simp only[sO,List.getElem_map,cO,Thr] at this
 exact this ht
theorem c3f{s:a7}(h:RtR (sO s)){i j:Nat}(hi:i<s.S.a8.length)(hj:j<s.S.a8.length)(a:s.S.a8[i].State=1∨s.S.a8[i].State=2)(b:s.S.a8[j].State=1∨s.S.a8[j].State=2)(e:s.S.a8[i].Val.Serial=s.S.a8[j].Val.Serial):i=j:=by
 have key:∀i (hi:i<s.S.a8.length) j (hj:j<i),(s.S.a8[i].State=1∨s.S.a8[i].State=2)→(s.S.a8[j].State=1∨s.S.a8[j].State=2)→s.S.a8[j].Val.Serial≠s.S.a8[i].Val.Serial:=λi hi j hj a b=>by
  have:=h.dif i (by rw[z1];exact hi) j hj
  simp only[sO,List.getElem_map,cO,Thr,oo] at this
  exact this a b
 rcases Nat.lt_trichotomy i j with q | q | q
 ·exact absurd e (key j hj i q b a)
 ·exact q
 ·exact absurd e.symm (key i hi j q a b)
theorem a4I{s:a7}(hR:RtR (sO s)){x:Int}(hx:x∈U6 0 s.S.a8):∃i,∃hi:i<s.S.a8.length,s.S.a8[i].State=1∧x=1+(i:Int)+32*s.S.a8[i].Gen∧b0o s.S x i∧sk s.S.a8 x=s.S.a8[i].Val.Serial∧o9 s x=some (s.S.a8[i].Val,0):=by
 obtain⟨i,hi,h1,h2⟩:=a6O.1 hx
 rw[Nat.zero_add] at h2
 have hl:=(a1i hR)
 have hc:=(b5W hR).gen i hi
 have hf:b0o s.S x i:=⟨hi,by unfold Hnd;omega,by omega,by omega,.inl h1⟩
 refine⟨i,hi,h1,h2,hf,by rw[h2];exact b7t hi (by omega),?_⟩
 obtain⟨_,e⟩:=b6G hf
 unfold o9
 rw[e,if_neg (by omega)]
 rfl
theorem c1U{s:a7}{x:Int}{i:Nat}(hf:b0o s.S x i)(h1:∀hi:i<s.S.a8.length,s.S.a8[i].State=1):x∈U6 0 s.S.a8:=by
 obtain⟨hi,q1,q2,q3,_⟩:=hf
 refine a6O.2 ⟨i,hi,h1 hi,?_⟩
 unfold Hnd at q1
 rw[Nat.zero_add]
 omega
theorem b51{s:a7}(hR:RtR (sO s)){x y:Int}(hx:x∈U6 0 s.S.a8)(hy:y∈U6 0 s.S.a8)(e:sk s.S.a8 x=sk s.S.a8 y):x=y:=by
 obtain⟨i,hi,a1,a2,_,a4,_⟩:=a4I hR hx
 obtain⟨j,hj,b1,b2,_,b4,_⟩:=a4I hR hy
 have:=(c3f hR) hi hj (.inl a1) (.inl b1) (by rw[←a4,←b4];exact e)
 subst this
 rw[a2,b2]
theorem a5x:∀(k:Nat) (cs:List b7),k+cs.length≤32→(U6 k cs).Nodup
 | _,[],_=>List.nodup_nil
 | k,c::r,h=>by
  simp only[List.length_cons] at h
  unfold U6
  rw[List.nodup_append]
  refine⟨by split <;> simp,a5x (k+1) r (by omega),λa ha b hb e=>?_⟩
  split at ha
  ·simp only[List.mem_singleton] at ha
   subst ha;subst e
   obtain⟨i,hi,h1,h2⟩:=a6O.1 hb
   have:((1+(k:Int)+32*c.Gen)-1) % 32=((1+((k+1+i:Nat):Int)+32*r[i].Gen)-1) % 32:=by rw[h2]
   omega
  ·cases ha
theorem b9h{s:a7}(hR:RtR (sO s)):∃l,y4 s=some l∧l.Perm (U6 0 s.S.a8)∧l.Pairwise (λa b=>sk s.S.a8 a<sk s.S.a8 b):=by
 obtain⟨l,h1,h2,h3⟩:=b4o (b5W hR)
 refine⟨l,h1,h2,?_⟩
 have hn:l.Nodup:=h2.nodup_iff.2 (a5x 0 _ (by have:=(a1i hR);omega))
 have:=List.Pairwise.and h3 hn
 refine this.imp_of_mem λ{a b} ha hb ⟨q1,q2⟩=>?_
 rcases Int.lt_or_eq_of_le q1 with q | q
 ·exact q
 ·exact absurd (b51 hR (h2.mem_iff.1 ha) (h2.mem_iff.1 hb) q) q2
end Go.Sh
namespace Go.Sh
theorem a9z:∀(k:Nat) (cs:List b7) (i:Nat) (c:b7) (hi:i<cs.length),cs[i].State≠1→c.State=1→(U6 k (cs.set i c)).Perm ((1+((k+i:Nat):Int)+32*c.Gen)::U6 k cs)
 | _,[],i,_,hi,_,_=>by simp at hi
 | k,d::r,0,c,hi,h1,h2=>by
  simp only[List.getElem_cons_zero] at h1
  simp only[List.set_cons_zero,U6,if_pos h2,if_neg h1,List.nil_append,Nat.add_zero]
  exact List.Perm.refl _
 | k,d::r,i+1,c,hi,h1,h2=>by
  simp only[List.getElem_cons_succ] at h1
  simp only[List.set_cons_succ,U6]
  have:=a9z (k+1) r i c (by simpa using hi) h1 h2
  rw[show k+1+i=k+(i+1) by omega] at this
  exact (List.Perm.append_left _ this).trans List.perm_middle
theorem c7p{cs:List b7}{i:Nat}{c:b7}{x:Int}(h:((x-1) % 32).toNat≠i):sk (cs.set i c) x=sk cs x:=by
 unfold sk
 rw[List.getElem?_set_ne (by omega)]
theorem b8g{s:a7}(hR:RtR (sO s)){i:Nat}(hi:i<s.S.a8.length)(h0:s.S.a8[i].State=0)(o:k9)(ho:o.Serial=s.Serial+1){l:List Int}(hl:y4 s=some l) :
  y4 ⟨⟨s.S.a8.set i ⟨1,s.S.a8[i].Gen,o⟩,s.S.Last⟩,s.Serial+1⟩=some (l ++ [1+(i:Int)+32*s.S.a8[i].Gen]):=by
 obtain⟨l',e,l1,l2⟩:=b9h hR
 rw[hl] at e
 cases e
 have hlen:=a1i hR
 have hsl:Slb (s.S.a8.set i ⟨1,s.S.a8[i].Gen,o⟩):=⟨by simpa using hlen,λj hj=>by
  rw[List.getElem_set]
  have:=(b5W hR).gen
  split
  ·exact this i hi
  ·exact this j (by simpa using hj)⟩
 obtain⟨m,m1,m2,m3⟩:=b4o (s:=⟨⟨s.S.a8.set i ⟨1,s.S.a8[i].Gen,o⟩,s.S.Last⟩,s.Serial+1⟩) hsl
 have hp:=a9z 0 s.S.a8 i ⟨1,s.S.a8[i].Gen,o⟩ hi (by omega) rfl
 rw[Nat.zero_add] at hp
 have hold:∀x∈l,sk (s.S.a8.set i ⟨1,s.S.a8[i].Gen,o⟩) x=sk s.S.a8 x∧sk s.S.a8 x≤s.Serial:=λx hx=>by
  obtain⟨j,hj,a1,a2,a3,a4,_⟩:=a4I hR (l1.mem_iff.1 hx)
  refine⟨c7p ?_,?_⟩
  ·obtain⟨_,_,q,_⟩:=a3
   intro e
   have:j=i:=by omega
   subst this
   omega
  ·rw[a4]
   exact (c3g hR j hj (.inl a1)).2.1
 have hnew:sk (s.S.a8.set i ⟨1,s.S.a8[i].Gen,o⟩) (1+(i:Int)+32*s.S.a8[i].Gen)=s.Serial+1:=by
  rw[b7t (by simpa using hi) (by simp;omega)]
  simp[ho]
 rw[m1]
 congr 1
 refine a54 (key:=sk (s.S.a8.set i ⟨1,s.S.a8[i].Gen,o⟩)) ?_ m3 ?_ ?_
 ·refine m2.trans (hp.trans ?_)
  refine List.Perm.trans (List.Perm.cons _ l1.symm) ?_
  exact (List.perm_append_singleton _ _).symm
 ·rw[List.pairwise_append]
  refine⟨l2.imp_of_mem λ{a b} ha hb hab=>?_,by simp,λa ha b hb=>?_⟩
  ·rw[(hold a ha).1,(hold b hb).1];omega
  ·rw[List.mem_singleton] at hb
   subst hb
   rw[hnew,(hold a ha).1]
   have:=(hold a ha).2
   omega
 ·have hm:∀a∈m,a∈l∨a=1+(i:Int)+32*s.S.a8[i].Gen:=λa ha=>by
   have:=hp.mem_iff.1 (m2.mem_iff.1 ha)
   rcases List.mem_cons.1 this with q | q
   ·exact .inr q
   ·exact .inl (l1.mem_iff.2 q)
  intro a ha b hb hab
  rcases hm a ha with qa | rfl <;> rcases hm b hb with qb | rfl
  ·rw[(hold a qa).1,(hold b qb).1] at hab
   exact b51 hR (l1.mem_iff.1 qa) (l1.mem_iff.1 qb) hab
  ·rw[(hold a qa).1,hnew] at hab
   have:=(hold a qa).2
   omega
  ·rw[(hold b qb).1,hnew] at hab
   have:=(hold b qb).2
   omega
  ·rfl
end Go.Sh
namespace Go.Sh
instance(t:m8)(o:D9):Decidable (b4Q t o):=by unfold b4Q;infer_instance
instance(o:D9):Decidable (b2e o):=by unfold b2e;infer_instance
theorem b5n(c:b7):F9 c=some (decide (Thr (cO c))):=by
 unfold F9
 congr 1
 rw[Bool.eq_iff_iff,decide_eq_true_iff,Bool.or_eq_true,beq_iff_eq,beq_iff_eq]
 rfl
theorem c4v(s:a7)(c:b7):P8 s c=some (decide (Thr (cO c)→b4Q (sO s) (oo c.Val))):=by
 unfold P8
 rw[b5n,d1e]
 by_cases h:Thr (cO c)
 ·rw[decide_eq_true h]
  by_cases q:1≤c.Val.Serial∧c.Val.Serial≤s.Serial∧0≤c.Val.Strong∧0≤c.Val.Weak
  ·have e:(((decide (c.Val.Serial≥1))&&(decide (c.Val.Serial≤s.Serial)))&&(decide (c.Val.Strong≥0))&&(decide (c.Val.Weak≥0)))=true:=by simp;omega
   rw[e]
   simp only[Bool.not_true,beq_self_eq_true,Bool.and_self,X0,G0,d1e,Bool.false_or,Bool.true_and]
   congr 1
   rw[Bool.eq_iff_iff,decide_eq_true_iff]
   simp only[Bool.and_eq_true,decide_eq_true_eq,b4Q,oo,sO]
   constructor
   ·intro k _;omega
   ·intro k;have:=k h;omega
  ·have e:(((decide (c.Val.Serial≥1))&&(decide (c.Val.Serial≤s.Serial)))&&(decide (c.Val.Strong≥0))&&(decide (c.Val.Weak≥0)))=false:=by
    rw[Bool.eq_false_iff];simp only[ne_eq,Bool.and_eq_true,decide_eq_true_eq];omega
   rw[e]
   rw[show (decide (Thr (cO c)→b4Q (sO s) (oo c.Val)))=false by
    rw[decide_eq_false_iff_not]
    intro k
    have:=k h
    simp only[b4Q,oo,sO] at this
    omega]
   rfl
 ·rw[decide_eq_false h,decide_eq_true (λk=>absurd k h)]
  rfl
theorem c6K(s:a7)(c:b7):J6 s c=some (decide (¬Thr (cO c)→b2e (oo c.Val))):=by
 unfold J6
 rw[b5n,d1e]
 by_cases h:Thr (cO c)
 ·rw[decide_eq_true h,decide_eq_true (λk=>absurd h k)]
  rfl
 ·rw[decide_eq_false h]
  congr 1
  rw[Bool.eq_iff_iff,decide_eq_true_iff]
  simp only[Bool.false_or,Bool.and_eq_true,beq_iff_eq,Bool.not_eq_true',b2e,oo]
  constructor
  ·intro k _;obtain⟨⟨⟨k1,k2,k3,k4,_⟩,k5⟩,k6⟩:=k;exact⟨k1,k2,k3,k4,k5,by omega⟩
  ·intro k;obtain⟨k1,k2,k3,k4,k5,k6⟩:=k h;exact⟨⟨⟨k1,k2,k3,k4,trivial⟩,k5⟩,by omega⟩
def bb(s:a7)(c:b7):Nat→Bool
 | 0=>decide (0≤c.State∧c.State≤3)
 | 1=>decide (0≤c.Gen∧c.Gen≤s.S.Last)
 | 2=>decide (Thr (cO c)→b4Q (sO s) (oo c.Val))
 | _=>decide (¬Thr (cO c)→b2e (oo c.Val))
def rls:List z6:=[(⟨some 338⟩:z6),(⟨some 339⟩:z6),(⟨some 340⟩:z6),(⟨some 341⟩:z6)]
theorem b9Q(s:a7)(c:b7){m:Nat}(hm:m<rls.length):b1S rls[m].kept s c=some (bb s c m):=by
 have hm':m<4:=hm
 match m,hm' with
 | 0,_=>
  show T1 s c=some (decide (0≤c.State∧c.State≤3))
  unfold T1
  congr 1
  rw[Bool.eq_iff_iff,Bool.and_eq_true,decide_eq_true_iff,decide_eq_true_iff,decide_eq_true_iff]
 | 1,_=>
  show I6 s c=some (decide (0≤c.Gen∧c.Gen≤s.S.Last))
  unfold I6
  congr 1
  rw[Bool.eq_iff_iff,Bool.and_eq_true,decide_eq_true_iff,decide_eq_true_iff,decide_eq_true_iff]
 | 2,_=>
  show P8 s c=_
  rw[c4v];rfl
 | 3,_=>
  show J6 s c=_
  rw[c6K];rfl
def Dif(s:a7):Prop:=∀i (h:i<s.S.a8.length) k (hk:k<i),Thr (cO s.S.a8[i])→Thr (cO s.S.a8[k])→s.S.a8[k].Val.Serial≠s.S.a8[i].Val.Serial
open Classical in
theorem differ (s:a7) (hl:s.S.a8.length≤1000):O7 s=some (decide (Dif s)):=by
 unfold O7
 simp only[jn]
 refine O1 s.S.a8.length (λk m=>(∀x,(r8 m x).getD false=true↔∃j,∃h:j<s.S.a8.length,j<k∧Thr (cO s.S.a8[j])∧s.S.a8[j].Val.Serial=x) ∧
  ∀i (h:i<s.S.a8.length) j (hj:j<i),i<k→Thr (cO s.S.a8[i])→Thr (cO s.S.a8[j])→s.S.a8[j].Val.Serial≠s.S.a8[i].Val.Serial) (by omega) ⟨λx=>⟨λq=>by simp[r8] at q,λ⟨j,h,q,_⟩=>by omega⟩,λi h j hj q=>by omega⟩ (λk m hk hP=>?_) (λm hP=>?_)
 ·obtain⟨h1,h2⟩:=hP
  simp only[Int.ofNat_lt,hk,decide_true,if_true,n0 hk,d1e,b5n]
  by_cases ht:Thr (cO s.S.a8[k])
  ·rw[decide_eq_true ht]
   simp only[Bool.not_true,Bool.false_eq_true,if_false]
   by_cases hd:(r8 m s.S.a8[k].Val.Serial).getD false=true
   ·right
    refine⟨.inl false,by rw[if_pos hd],?_⟩
    simp only
    obtain⟨j,hj,q1,q2,q3⟩:=(h1 _).1 hd
    rw[decide_eq_false (λq:Dif s=>q k hk j q1 ht q2 q3)]
   ·left
    refine⟨_,by rw[if_neg hd,k7],λx=>?_,λi h j hj q a b=>?_⟩
    ·rw[a4Q]
     constructor
     ·intro q
      split at q
      ·rename_i e
       exact⟨k,hk,by omega,ht,e.symm⟩
      ·obtain⟨j,hj,q1,q2,q3⟩:=(h1 x).1 q
       exact⟨j,hj,by omega,q2,q3⟩
     ·rintro⟨j,hj,q1,q2,q3⟩
      split
      ·rfl
      ·rename_i e
       refine (h1 x).2 ⟨j,hj,?_,q2,q3⟩
       rcases Nat.lt_or_ge j k with q | q
       ·exact q
       ·have:j=k:=by omega
        subst this
        exact absurd q3.symm e
    ·rcases Nat.lt_or_ge i k with q' | q'
     ·exact h2 i h j hj q' a b
     ·have:i=k:=by omega
      subst this
      exact λe=>hd ((h1 _).2 ⟨j,by omega,hj,b,e⟩)
  ·rw[decide_eq_false ht]
   left
   refine⟨_,by rw[if_pos (by rfl),k7],λx=>?_,λi h j hj q a b=>?_⟩
   ·rw[h1 x]
    constructor
    ·rintro⟨j,hj,q1,q2,q3⟩;exact⟨j,hj,by omega,q2,q3⟩
    ·rintro⟨j,hj,q1,q2,q3⟩
     refine⟨j,hj,?_,q2,q3⟩
     rcases Nat.lt_or_ge j k with q | q
     ·exact q
     ·have:j=k:=by omega
      subst this
      exact absurd q2 ht
   ·rcases Nat.lt_or_ge i k with q' | q'
    ·exact h2 i h j hj q' a b
    ·have:i=k:=by omega
     subst this
     exact absurd a ht
 ·refine⟨.inr (),by simp only[Int.lt_irrefl,decide_false,Bool.false_eq_true,if_false],?_⟩
  simp only
  rw[decide_eq_true (show Dif s from λi h k hk a b=>hP.2 i h k hk h a b)]
end Go.Sh
namespace Go.Sh
open Classical in
theorem b54 (s:a7) (hl:s.S.a8.length≤1000):a2t s=some (decide (RtR (sO s))):=by
 unfold a2t
 by_cases h0:s.S.a8.length≤24∧0≤s.S.Last∧s.S.Last≤9∧0≤s.Serial
 ·rw[if_neg (by simp;omega)]
  simp only[jn]
  have key:((∀i (h:i<s.S.a8.length),∀m,m<4→bb s s.S.a8[i] m=true)∧Dif s)↔RtR (sO s):=by
   constructor
   ·rintro⟨h1,h2⟩
    have at_:∀i (h:i<(sO s).a8.length),(sO s).a8[i]=cO (s.S.a8[i]'(by simpa[sO] using h)):=λi h=>by simp[sO]
    refine⟨by simpa[sO] using h0.1,h0.2.1,h0.2.2.1,h0.2.2.2,λi h=>?_,λi h=>?_,λi h=>?_,λi h k hk=>?_⟩
    ·have hi:i<s.S.a8.length:=by simpa[sO] using h
     have q0:=of_decide_eq_true (h1 i hi 0 (by omega))
     have q1:=of_decide_eq_true (h1 i hi 1 (by omega))
     rw[at_ i h]
     exact⟨q0.1,q0.2,q1.1,q1.2⟩
    ·have hi:i<s.S.a8.length:=by simpa[sO] using h
     rw[at_ i h]
     exact of_decide_eq_true (h1 i hi 3 (by omega))
    ·have hi:i<s.S.a8.length:=by simpa[sO] using h
     rw[at_ i h]
     exact of_decide_eq_true (h1 i hi 2 (by omega))
    ·have hi:i<s.S.a8.length:=by simpa[sO] using h
     rw[at_ i h,at_ k (by omega)]
     exact h2 i hi k hk
   ·intro q
    have at_:∀i (h:i<s.S.a8.length),(sO s).a8[i]'(by simpa[sO] using h)=cO s.S.a8[i]:=λi h=>by simp[sO]
    refine⟨λi h m hm=>?_,λi h k hk a b=>?_⟩
    ·have hi:i<(sO s).a8.length:=by simpa[sO] using h
     have c:=q.cell i hi
     have n:=q.no i hi
     have o:=q.ok i hi
     rw[at_ i h] at c n o
     match m,hm with
     | 0,_=>exact decide_eq_true ⟨c.1,c.2.1⟩
     | 1,_=>exact decide_eq_true ⟨c.2.2.1,c.2.2.2⟩
     | 2,_=>exact decide_eq_true o
     | 3,_=>exact decide_eq_true n
    ·have hi:i<(sO s).a8.length:=by simpa[sO] using h
     have d:=q.dif i hi k hk
     rw[at_ i h,at_ k (by omega)] at d
     exact d a b
  refine M0 s.S.a8.length (λk=>∀i (h:i<s.S.a8.length),i<k→∀m,m<4→bb s s.S.a8[i] m=true) (by omega) (λ_ _ h=>by omega) (λk hk hP=>?_) (λhP=>?_)
  ·have e:a4j=some rls:=rfl
   simp only[Int.ofNat_lt,hk,decide_true,if_true,n0 hk,d1e,e]
   by_cases hall:∀m,m<4→bb s s.S.a8[k] m=true
   ·refine .inl ⟨?_,λi h q=>?_⟩
    ·refine M0 rls.length (λ_=>True) (by decide) trivial (λm hm _=>.inl ⟨?_,trivial⟩) (λ_=>⟨.inr (),by simp,by rw[k7]⟩)
     simp only[Int.ofNat_lt,hm,decide_true,if_true,n0 hm,d1e,b9Q s _ hm]
     rw[hall m hm,if_neg (by simp),k7 (by have:m<4:=hm;omega)]
    ·rcases Nat.lt_or_ge i k with q' | q'
     ·exact hP i h q'
     ·have:i=k:=by omega
      subst this;exact hall
   ·refine .inr ⟨.inl false,?_,?_⟩
    ·obtain⟨m,⟨hm,hb⟩,hmin⟩:=a0y (p:=λm=>m<4∧bb s s.S.a8[k] m=false) (by
      obtain⟨m,q⟩:=Classical.not_forall.1 hall
      obtain⟨h,q⟩:=Classical.not_forall.1 q
      exact⟨m,h,by simpa using q⟩)
     refine M0 rls.length (λj=>j≤m) (by decide) (Nat.zero_le _) (λj hj hP2=>?_) (λhP2=>by have:rls.length=4:=rfl;omega)
     simp only[Int.ofNat_lt,hj,decide_true,if_true,n0 hj,d1e,b9Q s _ hj]
     have hj4:j<4:=hj
     rcases Nat.lt_or_ge j m with g | g
     ·refine .inl ⟨?_,g⟩
      have:bb s s.S.a8[k] j=true:=by
       cases hq:bb s s.S.a8[k] j
       ·have:=hmin j ⟨hj4,hq⟩;omega
       ·rfl
      rw[this,if_neg (by simp),k7]
     ·have:j=m:=by omega
      subst this
      refine .inr ⟨.inl false,?_,rfl⟩
      rw[hb,if_pos (by simp)]
    ·simp only
     rw[decide_eq_false (λq:RtR (sO s)=>hall λm hm=>(key.2 q).1 k hk m hm)]
  ·refine⟨.inr (),by simp only[Int.lt_irrefl,decide_false,Bool.false_eq_true,if_false],?_⟩
   simp only
   rw[differ s hl,d1e]
   congr 1
   rw[decide_eq_decide,←key]
   exact⟨λq=>⟨λi h=>hP i h h,q⟩,λq=>q.2⟩
 ·rw[if_pos (by simp;omega)]
  rw[decide_eq_false (λq:RtR (sO s)=>h0 ⟨by simpa[sO] using q.len,q.l0,q.l9,q.ser⟩)]
end Go.Sh
namespace Go.Sh
end Go.Sh
namespace Go.Sh
noncomputable def lv(s:a7):List Int:=(y4 s).getD []
def ob(s:a7)(h:Int):k9:=((o9 s h).getD (z0,0)).1
def outs(s:a7)(h:Int):List Int:=nz (ob s h).Fields
def FB(s:a7):Prop:=∀c∈s.S.a8,∀x∈c.Val.Fields,x≤9223372036854775807
section
variable{s:a7}(hR:RtR (sO s))
include hR
theorem a5E:y4 s=some (lv s)∧(lv s).Perm (U6 0 s.S.a8)∧(lv s).Pairwise (λa b=>sk s.S.a8 a<sk s.S.a8 b):=by
 obtain⟨l,h1,h2,h3⟩:=b9h hR
 have:lv s=l:=by unfold lv;rw[h1];rfl
 rw[this]
 exact⟨h1,h2,h3⟩
theorem V2:y4 s=some (lv s):=(a5E hR).1
theorem b0C{h:Int}:h∈lv s↔h∈U6 0 s.S.a8:=(a5E hR).2.1.mem_iff
theorem E8:(lv s).length≤24:=by
 rw[(a5E hR).2.1.length_eq]
 exact Nat.le_trans (a4J 0 s.S.a8) (a1i hR)
theorem a9K:(lv s).Nodup:=(a5E hR).2.1.nodup_iff.2 (a5x 0 _ (by have:=(a1i hR);omega))
theorem a6T{h:Int}(hh:h∈lv s):o9 s h=some (ob s h,0):=by
 obtain⟨i,hi,_,_,_,_,e⟩:=a4I hR ((b0C hR).1 hh)
 unfold ob
 rw[e]
 rfl
theorem b5v{h:Int}(hh:h∈lv s):∃i,∃hi:i<s.S.a8.length,s.S.a8[i].State=1∧h=1+(i:Int)+32*s.S.a8[i].Gen∧b0o s.S h i∧ob s h=s.S.a8[i].Val:=by
 obtain⟨i,hi,h1,h2,h3,_,e⟩:=a4I hR ((b0C hR).1 hh)
 refine⟨i,hi,h1,h2,h3,?_⟩
 unfold ob
 rw[e]
 rfl
theorem a4t{h:Int}(hh:h∈lv s):1≤h∧h≤320:=by
 obtain⟨i,hi,_,_,hf,_⟩:=b5v hR hh
 exact b2A hf.2.1
theorem c5J{h:Int}(hh:h≤9223372036854775807)(hn:h∉lv s):∃e,e≠0∧o9 s h=some (z0,e):=by
 rcases a0Y s.S hh with ⟨i,hf,_⟩ | ⟨hf,_⟩
 ·obtain⟨hi,e⟩:=b6G hf
  unfold o9
  rw[e]
  by_cases h2:s.S.a8[i].State=2
  ·rw[if_pos h2];exact⟨3,by decide,rfl⟩
  ·exact absurd ((b0C hR).2 (c1U hf λ_=>hf.2.2.2.2.resolve_right h2)) hn
 ·unfold o9
  rw[c1X hh hf]
  exact⟨_,a2f h,rfl⟩
theorem a8u{h:Int}(hh:h≤9223372036854775807)(hn:h∉lv s):ob s h=z0:=by
 obtain⟨e,_,h1⟩:=c5J hR hh hn
 unfold ob
 rw[h1]
 rfl
theorem N2{h:Int}(hh:h≤9223372036854775807):∃e,o9 s h=some (ob s h,e)∧(e=0↔h∈lv s):=by
 by_cases q:h∈lv s
 ·exact⟨0,a6T hR q,by simp[q]⟩
 ·obtain⟨e,h0,h1⟩:=c5J hR hh q
  refine⟨e,?_,by simp[h0,q]⟩
  rw[h1,a8u hR hh q]
theorem b9w{h:Int}(hh:h≤9223372036854775807)(hn:h∉lv s):outs s h = []:=by
 unfold outs
 rw[a8u hR hh hn]
 rfl
theorem b5B(h:Int)(hh:h≤9223372036854775807):(ob s h).Fields.length≤4:=by
 by_cases q:h∈lv s
 ·obtain⟨i,hi,h1,_,_,e⟩:=b5v hR q
  rw[e]
  exact (c3g hR i hi (.inl h1)).2.2.2.2.2.2
 ·rw[a8u hR hh q]
  exact Nat.zero_le _
theorem a4T(h:Int)(hh:h≤9223372036854775807):(outs s h).length≤4:=Nat.le_trans (b8j _) (b5B hR h hh)
theorem c4F(hF:FB s){h x:Int}(hh:h≤9223372036854775807)(hx:x∈outs s h):x≤9223372036854775807:=by
 by_cases q:h∈lv s
 ·obtain⟨i,hi,h1,_,_,e⟩:=b5v hR q
  unfold outs at hx
  rw[e] at hx
  exact hF _ (List.getElem_mem hi) x (a5J.1 hx).1
 ·rw[b9w hR hh q] at hx
  cases hx
end
theorem c4G{s:a7}{h x:Int}(hx:x∈outs s h):x≠0:=(a5J.1 hx).2
theorem a4F(s:a7)(hl:s.S.a8.length≤1000){h:Int}(hh:h≤9223372036854775807):C7 (sO s) h=(o9 s h).map λp=>(oo p.1,p.2):=by
 unfold C7 o9 A9 b11
 rw[a4e _ (by rw[z1];exact hl),d1e,b0x s hh]
 rcases a0Y s.S hh with ⟨i,hf,e⟩ | ⟨hf,e⟩
 ·rw[e]
  have hi:=hf.1
  simp only[d1e,bne_self_eq_false,Bool.false_eq_true,if_false]
  rw[b62 (by rw[z1];exact hi),n0 hi]
  simp only[d1e,plc,sO,List.getElem_map,cO]
  split
  ·rfl
  ·simp only[d1e,bne_self_eq_false,Bool.false_eq_true,if_false]
   rw[n0 (by simpa using hi)]
   simp[cO,oo]
 ·rw[e]
  simp only[d1e]
  have hne:((if h=0 then 2 else 3:Int) != 0)=true:=by simpa using a2f h
  simp only[hne,if_true,d1e]
  rfl
end Go.Sh
namespace Go.Sh
theorem c3o{s:a7}(hR:RtR (sO s)){l:List Int}(hl:∀x∈l,x∈lv s)(hn:l.length≤100) :
  ∃m,a8W (sO s) l=some m∧m.Perm l∧m.Pairwise (λa b=>sk s.S.a8 a≤sk s.S.a8 b):=by
 have hfind:∀x∈l,∃i:Nat,∃hi:i<s.S.a8.length,L5 (pl (sO s)) x=some ((i:Int),0)∧s.S.a8[i].Val.Serial=sk s.S.a8 x:=λx hx=>by
  obtain⟨i,hi,_,_,hf,h4,_⟩:=a4I hR ((b0C hR).1 (hl x hx))
  refine⟨i,hi,?_,h4.symm⟩
  rw[b0x s (by have:=b2A hf.2.1;omega),a7v hf]
 unfold a8W
 rw[J8 (by omega) (by omega),d1e]
 simp only[jn]
 let K:List Int→Nat→Int:=λo a=>sk s.S.a8 (o.getD a 0)
 have hplain:=a4e (sO s) (by rw[z1];have:=a1i hR;omega)
 have inner:∀(n:Nat) (o:List Int),n<l.length→o.Perm l→(∀a b,a<b→b≤n→b≠n→K o a≤K o b) →
   ∃o',lp (S:=Int × (List Int)) (E:=(List Int)) (λ((s58,s59):Int × (List Int))=>
      if (decide (s58 > 0)) then
       (K8 (sO s)).bind λv62=>
       (ix s59 (p6 (s58-1))).bind λv63=>
       (L5 v62 v63).bind λv64=>
       (ix s59 s58).bind λv65=>
       (L5 v62 v65).bind λv66=>
       (p8 (((decide (v64.1<0))||(decide (v66.1<0)))==false) (⟨0,0,⟨0,0,0,0,false,[]⟩⟩:B9) (ix (sO s).a8 v64.1)).bind λv67=>
       (p8 (((decide (v64.1<0))||(decide (v66.1<0)))==false) (⟨0,0,⟨0,0,0,0,false,[]⟩⟩:B9) (ix (sO s).a8 v66.1)).bind λv68=>
       if (((decide (v64.1<0))||(decide (v66.1<0)))||(decide (v67.Val.Serial≤v68.Val.Serial))) then
        some (.inr s59)
       else
       (ix (s59.set (s58).toNat v63) (p6 (s58-1))).bind λv69=>
       some (.inl (p6 (s58-1),((s59.set (s58).toNat v63).set (p6 (s58-1)).toNat v65)))
      else
      some (.inr s59)) ((n:Int),o)=some o'∧o'.Perm l∧∀a b,a<b→b≤n→K o' a≤K o' b:=by
  intro n o hn' hp hk
  have hbn:(n:Int).toNat<4611686018427387904:=by rw[Int.toNat_natCast];omega
  refine a8Q (s0:=((n:Int),o)) (λq=>∃k:Nat,q.1=(k:Int)∧k≤n∧q.2.Perm l∧∀a b,a<b→b≤n→b≠k→K q.2 a≤K q.2 b) (λo'=>o'.Perm l∧∀a b,a<b→b≤n→K o' a≤K o' b) (λq=>q.1.toNat) ⟨n,rfl,Nat.le_refl _,hp,hk⟩ hbn ?_
  rintro⟨_,o⟩ ⟨k,rfl,hkn,hp,hk⟩
  simp only at hp hk ⊢
  have hol:o.length=l.length:=hp.length_eq
  rcases Nat.eq_zero_or_pos k with rfl | hpos
  ·right
   refine⟨o,by rw[if_neg (by simp)],hp,λa b h1 h2=>hk a b h1 h2 (by omega)⟩
  ·obtain⟨j,rfl⟩:∃j,k=j+1:=⟨k-1,by omega⟩
   have hj1:j+1<o.length:=by omega
   have hj:j<o.length:=by omega
   have ew:p6 (((j+1:Nat):Int)-1)=(j:Int):=by rw[C9 (by omega) (by omega)];omega
   obtain⟨ia,hia,fa,ka⟩:=hfind o[j] (hp.mem_iff.1 (List.getElem_mem hj))
   obtain⟨ib,hib,fb,kb⟩:=hfind o[j+1] (hp.mem_iff.1 (List.getElem_mem hj1))
   have ea:ix (sO s).a8 (ia:Int)=some (cO s.S.a8[ia]):=by rw[b9R,n0 hia];rfl
   have eb:ix (sO s).a8 (ib:Int)=some (cO s.S.a8[ib]):=by rw[b9R,n0 hib];rfl
   have hneg:((decide ((ia:Int)<0))||(decide ((ib:Int)<0)))=false:=by simp
   have hpos':decide (((j+1:Nat):Int) > 0)=true:=by simp
   simp only[hpos',if_true,hplain,ew,n0 hj,n0 hj1,d1e,fa,fb,hneg,beq_self_eq_true,X0,ea,eb,Bool.false_or,cO,oo,ka,kb,Int.toNat_natCast]
   have Kj:K o j=sk s.S.a8 o[j]:=by simp[K,List.getD,List.getElem?_eq_getElem hj]
   have Kj1:K o (j+1)=sk s.S.a8 o[j+1]:=by simp[K,List.getD,List.getElem?_eq_getElem hj1]
   by_cases hle:sk s.S.a8 o[j]≤sk s.S.a8 o[j+1]
   ·right
    refine⟨o,by rw[if_pos (by simpa using hle)],hp,λa b h1 h2=>?_⟩
    by_cases e:b=j+1
    ·subst e
     rcases Nat.lt_or_ge a j with q | q
     ·have:=hk a j q (by omega) (by omega)
      omega
     ·have:a=j:=by omega
      subst this
      omega
    ·exact hk a b h1 h2 e
   ·left
    refine⟨_,by rw[if_neg (by simpa using hle),n0 (by simpa using hj)];rfl,⟨j,rfl,by omega,?_,λa b h1 h2 h3=>?_⟩,by show (j:Int).toNat<((j+1:Nat):Int).toNat;omega⟩
    ·exact (List.set_set_perm hj1 hj).trans hp
    ·have hK:∀c,K ((o.set (j+1) o[j]).set j o[j+1]) c=if c=j then K o (j+1) else if c=j+1 then K o j else K o c:=λc=>by
      simp only[K,List.getD,List.getElem?_set,List.length_set]
      by_cases c1:c=j
      ·subst c1;simp[hj,List.getElem?_eq_getElem hj1]
      ·by_cases c2:c=j+1
       ·subst c2;simp[hj1,List.getElem?_eq_getElem hj]
       ·rw[if_neg (by omega),if_neg (by omega),if_neg c1,if_neg c2]
     show K ((o.set (j+1) o[j]).set ((j:Nat):Int).toNat o[j+1]) a≤K ((o.set (j+1) o[j]).set ((j:Nat):Int).toNat o[j+1]) b
     rw[Int.toNat_natCast,hK,hK]
     by_cases a1:a=j
     ·subst a1
      rw[if_pos rfl]
      by_cases b2:b=a+1
      ·subst b2
       rw[if_neg (by omega),if_pos rfl]
       omega
      ·rw[if_neg (by omega),if_neg b2]
       exact hk (a+1) b (by omega) h2 b2
     ·rw[if_neg a1]
      by_cases a2:a=j+1
      ·subst a2
       rw[if_pos rfl,if_neg (by omega),if_neg (by omega)]
       exact hk j b (by omega) h2 (by omega)
      ·rw[if_neg a2,if_neg h3]
       by_cases b2:b=j+1
       ·subst b2
        rw[if_pos rfl]
        exact hk a j (by omega) (by omega) (by omega)
       ·rw[if_neg b2]
        exact hk a b h1 h2 b2
 have outer:∃m,(lp (S:=Int × (List Int)) (E:=(List Int)) (λ((s38,s39):Int × (List Int))=>
   if (decide (s38<(s39.length:Int))) then
     (lp (S:=Int × (List Int)) (E:=(List Int)) (λ((s58,s59):Int × (List Int))=>
      if (decide (s58 > 0)) then
       (K8 (sO s)).bind λv62=>
       (ix s59 (p6 (s58-1))).bind λv63=>
       (L5 v62 v63).bind λv64=>
       (ix s59 s58).bind λv65=>
       (L5 v62 v65).bind λv66=>
       (p8 (((decide (v64.1<0))||(decide (v66.1<0)))==false) (⟨0,0,⟨0,0,0,0,false,[]⟩⟩:B9) (ix (sO s).a8 v64.1)).bind λv67=>
       (p8 (((decide (v64.1<0))||(decide (v66.1<0)))==false) (⟨0,0,⟨0,0,0,0,false,[]⟩⟩:B9) (ix (sO s).a8 v66.1)).bind λv68=>
       if (((decide (v64.1<0))||(decide (v66.1<0)))||(decide (v67.Val.Serial≤v68.Val.Serial))) then
        some (.inr s59)
       else
       (ix (s59.set (s58).toNat v63) (p6 (s58-1))).bind λv69=>
       some (.inl (p6 (s58-1),((s59.set (s58).toNat v63).set (p6 (s58-1)).toNat v65)))
      else
      some (.inr s59)) (s38,s39)).bind λe57=>
     some (.inl (p6 (s38+1),e57))
   else
   some (.inr s39)) (1,l))=some m∧m.Perm l∧m.Pairwise (λa b=>sk s.S.a8 a≤sk s.S.a8 b):=by
  have hb1:l.length+1-(1:Int).toNat<4611686018427387904:=by omega
  refine a8Q (s0:=((1:Int),l)) (λq=>∃k:Nat,q.1=(k:Int)∧(k≤l.length∨k=1)∧1≤k∧q.2.Perm l∧∀a b,a<b→b<k→K q.2 a≤K q.2 b) (λ(o':List Int)=>o'.Perm l∧o'.Pairwise (λa b=>sk s.S.a8 a≤sk s.S.a8 b)) (λq=>l.length+1-q.1.toNat) ⟨1,rfl,.inr rfl,by omega,List.Perm.refl _,λa b h1 h2=>by omega⟩ hb1 ?_
  rintro⟨_,o⟩ ⟨k,rfl,hkl,hk1,hp,hk⟩
  simp only at hp hk ⊢
  have hol:o.length=l.length:=hp.length_eq
  rcases Nat.lt_or_ge k l.length with h1 | h1
  ·left
   obtain⟨o',e1,e2,e3⟩:=inner k o h1 hp λa b x1 x2 x3=>hk a b x1 (by omega)
   refine⟨(((k+1:Nat):Int),o'),?_,⟨k+1,rfl,by omega,by omega,e2,λa b x1 x2=>e3 a b x1 (by omega)⟩,by show l.length+1-((k+1:Nat):Int).toNat<l.length+1-(k:Int).toNat;omega⟩
   rw[if_pos (by simp;omega),e1,d1e,k7 (by omega)]
  ·right
   refine⟨o,by rw[if_neg (by simp;omega)],hp,?_⟩
   rw[List.pairwise_iff_getElem]
   intro i j hi hj hij
   have:=hk i j hij (by omega)
   simpa[K,List.getD,List.getElem?_eq_getElem hi,List.getElem?_eq_getElem hj] using this
 obtain⟨m,e1,e2,e3⟩:=outer
 exact⟨m,by rw[show lp _ _=_ from e1];rfl,e2,e3⟩
theorem a5D{s:a7}(hR:RtR (sO s)):P6 (sO s)=some (lv s):=by
 have hlen:=a1i hR
 unfold P6
 simp only[jn]
 have hloop:lp (S:=Int × (List Int)) (E:=(List Int)) (λ((s18,s19):Int × (List Int))=>
   if (decide (s18<((sO s).a8.length:Int))) then
     (ix (sO s).a8 s18).bind λv27=>
     if (v27.State==1) then
      (a3z s18 v27.Gen).bind λv28=>
      (app 8 s19 [v28]).bind λv29=>
      some (.inl (p6 (s18+1),v29))
     else
     some (.inl (p6 (s18+1),s19))
   else
   some (.inr s19)) (0,[])=some (U6 0 s.S.a8):=by
  refine a52 (a06 (T:=List Int) s.S.a8.length (λk l=>l=U6 0 (s.S.a8.take k)) (λe=>e=U6 0 s.S.a8) (by omega) (by simp[U6]) (λk l hk hP=>?_) (λl hP=>?_))
  ·subst hP
   left
   have hc:=(b5W hR).gen k hk
   have hl:=a4J 0 (s.S.a8.take k)
   have et:s.S.a8.take (k+1)=s.S.a8.take k ++ [s.S.a8[k]]:=by rw[List.take_add_one,List.getElem?_eq_getElem hk];rfl
   have el:(s.S.a8.take k).length=k:=by simp;omega
   refine⟨_,?_,rfl⟩
   simp only[z1,Int.ofNat_lt,hk,decide_true,if_true,b9R,n0 hk,Option.map_some,d1e,cO]
   rw[et,a7z,el,Nat.zero_add]
   by_cases q:s.S.a8[k].State=1
   ·rw[if_pos (by simpa using q),if_pos q,a6Y,d1e,if_pos (by omega),u4 (by omega) (by simp;omega),d1e,k7]
   ·rw[if_neg (by simpa using q),if_neg q,k7,List.append_nil]
  ·subst hP
   refine⟨_,by simp only[z1,Int.lt_irrefl,decide_false,Bool.false_eq_true,if_false];rfl,by simp⟩
 rw[show lp _ _=_ from hloop,d1e]
 obtain⟨m,h1,h2,h3⟩:=c3o hR (l:=U6 0 s.S.a8) (λx hx=>(b0C hR).2 hx) (by have:=a4J 0 s.S.a8;omega)
 rw[h1,d1e]
 congr 1
 obtain⟨_,l2,l3⟩:=a5E hR
 exact a54 (key:=sk s.S.a8) (h2.trans l2.symm) h3 (l3.imp λh=>by omega) λa ha b hb e=>b51 hR (h2.mem_iff.1 ha) (h2.mem_iff.1 hb) e
end Go.Sh
namespace Go.Sh
theorem b6T(v:List Int)(h:v.length≤1000000):a3h v=some (nz v):=by
 unfold a3h a3i
 simp only[jn,d1e]
 rw[B8 v (λb x=>if x != 0 then b ++ [x] else b) id (λk b=>b.length≤k) (by omega) (by simp) (λk hk b hb=>?_) (λb _=>?_)]
 ·simp only[d1e,id]
  rw[foldl_filter]
  rfl
 ·simp only[Int.ofNat_lt,hk,decide_true,if_true,n0 hk,d1e]
  by_cases q:(v[k] != 0)=true
  ·rw[if_pos (by simpa using q),if_pos q,u4 (by omega) (by simp;omega),d1e,k7]
   exact⟨rfl,by simp;omega⟩
  ·rw[if_neg (by simpa using q),if_neg q,k7]
   exact⟨rfl,by omega⟩
 ·simp only[Int.lt_irrefl,decide_false,Bool.false_eq_true,if_false]
  rfl
theorem b2I(v:List Int)(h:v.length≤1000000):a3e v=some (nz v):=by
 unfold a3e
 simp only[jn]
 rw[B8 v (λb x=>if x != 0 then b ++ [x] else b) id (λk b=>b.length≤k) (by omega) (by simp) (λk hk b hb=>?_) (λb _=>?_)]
 ·simp only[d1e,id]
  rw[foldl_filter]
  rfl
 ·simp only[Int.ofNat_lt,hk,decide_true,if_true,n0 hk,d1e]
  by_cases q:(v[k] != 0)=true
  ·rw[if_pos q,if_pos q,u4 (by omega) (by simp;omega),d1e,k7]
   exact⟨rfl,by simp;omega⟩
  ·rw[if_neg q,if_neg q,k7]
   exact⟨rfl,by omega⟩
 ·simp only[Int.lt_irrefl,decide_false,Bool.false_eq_true,if_false]
  rfl
theorem a81(l:List Int)(h:Int)(hl:l.length≤1000000):a1P l h=some (R4 l h:Int):=by
 unfold a1P
 simp only[jn]
 rw[b4q l (λ(b:Int) x=>if (x==h&&h != 0) then b+1 else b) id (λk b=>0≤b∧b≤k) (by omega) (by simp) (λk hk b hb=>?_) (λb _=>?_)]
 ·simp only[d1e,id]
  rw[a6J]
  simp
 ·simp only[Int.ofNat_lt,hk,decide_true,if_true,n0 hk,d1e]
  by_cases q:(l[k]==h&&h != 0)=true
  ·rw[if_pos q,if_pos q,k7,C9 (n:=b+1) (by omega) (by omega)]
   exact⟨rfl,by omega⟩
  ·rw[if_neg q,if_neg q,k7]
   exact⟨rfl,by omega⟩
 ·simp only[Int.lt_irrefl,decide_false,Bool.false_eq_true,if_false]
  rfl
theorem count_eq(l:List Int)(h:Int)(hl:l.length≤1000000):a7V l h=some (R4 l h:Int):=by
 unfold a7V a3i
 simp only[jn,d1e]
 rw[B8 l (λ(b:Int) x=>if (x==h&&h != 0) then b+1 else b) id (λk b=>0≤b∧b≤k) (by omega) (by simp) (λk hk b hb=>?_) (λb _=>?_)]
 ·simp only[d1e,id]
  rw[a6J]
  simp
 ·simp only[Int.ofNat_lt,hk,decide_true,if_true,n0 hk,d1e,Bool.and_false,Bool.false_eq_true,if_false]
  by_cases q0:l[k]=0
  ·have e1:((l[k] != 0)==true)=false:=by simp[q0]
   have e2:(l[k]==h&&h != 0)=false:=by rw[Bool.eq_false_iff];simp only[ne_eq,Bool.and_eq_true,beq_iff_eq,bne_iff_ne];omega
   rw[e1,e2,k7]
   exact⟨rfl,by simp;omega⟩
  ·have e1:((l[k] != 0)==true)=true:=by simp[q0]
   rw[e1,if_pos rfl]
   by_cases q:l[k]=h
   ·have e2:(l[k]==h&&h != 0)=true:=by simp only[Bool.and_eq_true,beq_iff_eq,bne_iff_ne];omega
    rw[e2,if_pos (by simpa using q),if_pos rfl,k7,C9 (n:=b+1) (by omega) (by omega)]
    exact⟨rfl,by omega⟩
   ·have e2:(l[k]==h&&h != 0)=false:=by rw[Bool.eq_false_iff];simp only[ne_eq,Bool.and_eq_true,beq_iff_eq,bne_iff_ne];omega
    rw[e2,if_neg (by simpa using q),k7]
    exact⟨rfl,by simp;omega⟩
 ·simp only[Int.lt_irrefl,decide_false,Bool.false_eq_true,if_false]
  rfl
theorem c3s(l:List Int)(h:Int)(hl:l.length≤1000000):a5R l h=some (R4 l h:Int):=by
 unfold a5R
 rw[count_eq l h hl]
 rfl
noncomputable def inn(s:a7)(h:Int):Nat:=((lv s).map λx=>R4 (outs s x) h).sum
theorem b9l{s:a7}(hR:RtR (sO s)){k:Nat}(hk:k<(lv s).length):(lv s)[k]≤9223372036854775807:=by
 have:=a4t hR (List.getElem_mem hk)
 omega
section
variable{s:a7}(hR:RtR (sO s))
include hR
theorem c2I{h:Int}(hh:h≤9223372036854775807):a40 s h=some (outs s h):=by
 obtain⟨e,h1,_⟩:=N2 hR hh
 unfold a40
 rw[h1,d1e,b6T _ (by have:=b5B hR h hh;simp only;omega)]
 rfl
theorem b6Y{h:Int}(hh:h≤9223372036854775807):b14 (sO s) h=some (outs s h):=by
 unfold b14
 rw[a4F s (by have:=a1i hR;omega) hh]
 obtain⟨e,h1,h2⟩:=N2 hR hh
 rw[h1]
 simp only[Option.map_some,d1e]
 by_cases q:e=0
 ·subst q
  rw[if_neg (by simp),b2I _ (by have:=b5B hR h hh;simp only[oo];omega)]
  rfl
 ·rw[if_pos (by simpa using q),b9w hR hh (λq'=>q (h2.2 q'))]
theorem b8d(h:Int):inn s h≤96:=by
 have:=b57 (λx=>R4 (outs s x) h) 4 (lv s) λx hx=>Nat.le_trans (b8O _ _) (a4T hR x (by have:=a4t hR hx;omega))
 have:=E8 hR
 unfold inn
 omega
theorem c78(h:Int):b16 s h=some (inn s h:Int):=by
 unfold b16 a5S
 simp only[jn,d1e]
 rw[show y4 s=_ from V2 hR,d1e]
 have hl:=E8 hR
 rw[B8 (lv s) (λ(b:Int) x=>b+(R4 (outs s x) h:Int)) id (λk b=>0≤b∧b≤4*k) (by omega) (by simp) (λk hk b hb=>?_) (λb _=>?_)]
 ·simp only[d1e,id]
  have:=a8N (λx=>R4 (outs s x) h) (lv s) 0
  rw[show ((0:Nat):Int)=0 from rfl] at this
  rw[this,Nat.zero_add]
  rfl
 ·have ho:=c2I hR (b9l hR hk)
  have hol:=a4T hR _ (b9l hR hk)
  have ht:=b8O (outs s (lv s)[k]) h
  simp only[Int.ofNat_lt,hk,decide_true,if_true,n0 hk,d1e,ho]
  rw[B8 (outs s (lv s)[k]) (λ(b:Int) x=>if (x==h&&h != 0) then b+1 else b) id (λj c=>b≤c∧c≤b+j) (by omega) (by simp) (λj hj c hc=>?_) (λc _=>?_)]
  ·simp only[d1e,id]
   rw[a6J,k7]
   exact⟨rfl,by omega⟩
  ·simp only[Int.ofNat_lt,hj,decide_true,if_true,n0 hj,d1e]
   have hne:=c4G (List.getElem_mem hj)
   by_cases q:(outs s (lv s)[k])[j]=h
   ·have e2:((outs s (lv s)[k])[j]==h&&h != 0)=true:=by simp only[Bool.and_eq_true,beq_iff_eq,bne_iff_ne];omega
    rw[e2,if_pos (by simpa using q),if_pos rfl,k7,C9 (n:=c+1) (by omega) (by omega)]
    exact⟨rfl,by omega⟩
   ·have e2:((outs s (lv s)[k])[j]==h&&h != 0)=false:=by rw[Bool.eq_false_iff];simp only[ne_eq,Bool.and_eq_true,beq_iff_eq,bne_iff_ne];omega
    rw[e2,if_neg (by simpa using q),k7]
    exact⟨rfl,by simp;omega⟩
  ·simp only[Int.lt_irrefl,decide_false,Bool.false_eq_true,if_false]
   rfl
 ·simp only[Int.lt_irrefl,decide_false,Bool.false_eq_true,if_false]
  rfl
theorem c39(h:Int):b8w (sO s) h=some (inn s h:Int):=by
 unfold b8w
 simp only[jn,a5D hR,d1e]
 have hl:=E8 hR
 rw[b4q (lv s) (λ(b:Int) x=>b+(R4 (outs s x) h:Int)) id (λk b=>0≤b∧b≤4*k) (by omega) (by simp) (λk hk b hb=>?_) (λb _=>?_)]
 ·simp only[d1e,id]
  have:=a8N (λx=>R4 (outs s x) h) (lv s) 0
  rw[show ((0:Nat):Int)=0 from rfl] at this
  rw[this,Nat.zero_add]
  rfl
 ·have hol:=a4T hR _ (b9l hR hk)
  have ht:=b8O (outs s (lv s)[k]) h
  simp only[Int.ofNat_lt,hk,decide_true,if_true,n0 hk,d1e,b6Y hR (b9l hR hk)]
  rw[a81 _ _ (by omega),d1e,k7,C9 (by omega) (by omega)]
  exact⟨rfl,by omega⟩
 ·simp only[Int.lt_irrefl,decide_false,Bool.false_eq_true,if_false]
  rfl
end
end Go.Sh
namespace Go.Sh
section
variable{s:a7}(hR:RtR (sO s))(hF:FB s)
include hR hF
end
theorem a9k{α:Type}(p:α→Bool):∀l:List α,l.length=(l.filter p).length+(l.filter λx => !p x).length
 | []=>rfl
 | x::l=>by
  have:=a9k p l
  by_cases h:p x
  ·simp[h];omega
  ·simp[h];omega
theorem c8h{s:a7}(hR:RtR (sO s)){l:List Int}(hp:l.Perm (U6 0 s.S.a8))(hs:l.Pairwise (λa b=>sk s.S.a8 a<sk s.S.a8 b)):lv s=l:=by
 obtain⟨_,l2,l3⟩:=a5E hR
 exact a54 (key:=sk s.S.a8) (l2.trans hp.symm) (l3.imp λh=>by omega) (hs.imp λh=>by omega) λa ha b hb e=>b51 hR (l2.mem_iff.1 ha) (l2.mem_iff.1 hb) e
end Go.Sh
namespace Go.Sh
inductive Rch (s:a7) (l:List Int):Int→Prop
 | base {h:Int}:h∈l→h∈lv s→Rch s l h
 | step {a b:Int}:Rch s l a→b∈outs s a→b∈lv s→Rch s l b
open Classical in
noncomputable def rcd (s:a7) (l:List Int):List Int:=(lv s).filter λh=>decide (Rch s l h)
open Classical in
noncomputable def K6 (s:a7) (l:List Int):List Int:=(lv s).filter λh=>decide (¬Rch s l h)
def Cl(s:a7)(l:List Int):Prop:=∀a∈l,∀b∈outs s a,b∈lv s→b∈l
def LB(l:List Int):Prop:=∀x∈l,x≤9223372036854775807
theorem Rch.live{s:a7}{l:List Int}{h:Int}(q:Rch s l h):h∈lv s:=by cases q <;> assumption
open Classical in
theorem V8 {s:a7} {l:List Int} {h:Int}:h∈rcd s l↔Rch s l h:=by
 unfold rcd
 rw[List.mem_filter]
 exact⟨λq=>of_decide_eq_true q.2,λq=>⟨q.live,decide_eq_true q⟩⟩
theorem b9C{s:a7}(hR:RtR (sO s))(l:List Int):(rcd s l).length≤24:=Nat.le_trans (List.length_filter_le ..) (E8 hR)
theorem c7a(s:a7)(l:List Int):Cl s (rcd s l):=λa ha b hb hl=>V8.2 (.step (V8.1 ha) hb hl)
theorem Rch.least{s:a7}{l m:List Int}(hc:Cl s m)(hl:∀x∈l,x∈lv s→x∈m){h:Int}(q:Rch s l h):h∈m:=by
 induction q with
 | base h1 h2=>exact hl _ h1 h2
 | step _ h1 h2 ih=>exact hc _ ih _ h1 h2
theorem Rch.mono{s:a7}{l m:List Int}(hl:∀x∈l,x∈lv s→Rch s m x){h:Int}(q:Rch s l h):Rch s m h:=by
 induction q with
 | base h1 h2=>exact hl _ h1 h2
 | step _ h1 h2 ih=>exact .step ih h1 h2
theorem b4C{s:a7}{l m:List Int}(h:∀x,Rch s l x↔Rch s m x):rcd s l=rcd s m:=by
 unfold rcd
 exact List.filter_congr λx _=>decide_eq_decide.2 (h x)
theorem filter_lt{α:Type}{p q:α→Bool}:∀ {l:List α},(∀x∈l,p x=true→q x=true)→∀x∈l,q x=true→p x=false→(l.filter p).length<(l.filter q).length
 | [],_,x,hx,_,_=>by cases hx
 | y::l,h,x,hx,h1,h2=>by
  have hle:(l.filter p).length≤(l.filter q).length:=by
   have h':∀x∈l,p x=true→q x=true:=λx hx=>h x (List.mem_cons_of_mem _ hx)
   clear h hx
   induction l with
   | nil=>simp
   | cons z l ih=>
    have:=ih λx hx=>h' x (List.mem_cons_of_mem _ hx)
    have hz:=h' z (List.mem_cons_self ..)
    simp only[List.filter_cons]
    by_cases a:p z=true
    ·rw[if_pos a,if_pos (hz a)];simp only[List.length_cons];omega
    ·rw[if_neg a];split <;> (try simp only[List.length_cons]) <;> omega
  rcases List.mem_cons.1 hx with rfl | hx'
  ·simp only[List.filter_cons,h1,h2,if_true,Bool.false_eq_true,if_false,List.length_cons]
   omega
  ·have:=filter_lt (λx hx=>h x (List.mem_cons_of_mem _ hx)) x hx' h1 h2
   have hy:=h y (List.mem_cons_self ..)
   simp only[List.filter_cons]
   by_cases a:p y=true
   ·rw[if_pos a,if_pos (hy a)];simp only[List.length_cons];omega
   ·rw[if_neg a];split <;> (try simp only[List.length_cons]) <;> omega
theorem a3w{l m:List Int}(hn:l.Nodup)(h:∀x∈l,x∈m):l.length≤m.length:=by
 induction l generalizing m with
 | nil=>simp
 | cons x l ih=>
  rw[List.nodup_cons] at hn
  have hx:=h x (List.mem_cons_self ..)
  have:=ih (m:=m.erase x) hn.2 λy hy=>(List.mem_erase_of_ne (λe=>hn.1 (by subst e;exact hy))).2 (h y (List.mem_cons_of_mem _ hy))
  rw[List.length_erase_of_mem hx] at this
  have:0<m.length:=List.length_pos_of_mem hx
  simp only[List.length_cons]
  omega
section
variable{s:a7}(hR:RtR (sO s))
include hR
theorem c0n{h:Int}(hh:h≤9223372036854775807):Z5 s h=some (decide (h∈lv s)):=by
 obtain⟨e,h1,h2⟩:=N2 hR hh
 unfold Z5
 rw[h1,d1e]
 congr 1
 rw[Bool.eq_iff_iff,beq_iff_eq,decide_eq_true_iff]
 exact h2
abbrev Mk(m:List (Int × Bool))(x:Int):Prop:=(r8 m x).getD false=true
noncomputable def unm(s:a7)(m:List (Int × Bool)):Nat:=((lv s).filter λx => !(r8 m x).getD false).length
omit hR in
theorem b0G (m:List (Int × Bool)) (x y:Int):Mk (m9 m x true) y↔y=x∨Mk m y:=by
 unfold Mk
 rw[a4Q]
 by_cases q:y=x
 ·simp[q]
 ·simp[q]
omit hR in
theorem c5b {m:List (Int × Bool)} {x:Int} (hx:x∈lv s) (hm:¬Mk m x):unm s (m9 m x true)<unm s m:=by
 unfold unm
 refine filter_lt (λy _ h=>?_) x hx (by simpa[Mk] using hm) ?_
 ·by_cases q:Mk m y
  ·have:=(b0G m x y).2 (.inr q)
   unfold Mk at this
   rw[this] at h
   cases h
  ·simpa[Mk] using q
 ·have:=(b0G m x x).2 (.inl rfl)
  unfold Mk at this
  rw[this];rfl
structure b7K (s:a7) (l:List Int) (q:g9) (m:List (Int × Bool)):Prop where
 nd:q.L.Nodup
 cap:q.Cap=((lv s).length:Int)
 mkd:∀x∈q.L,Mk m x
 rc:∀x,Mk m x→Rch s l x
omit hR in
theorem b7K.room {l:List Int} {q:g9} {m:List (Int × Bool)} (h:b7K s l q m) {x:Int} (hx:x∈lv s) (hm:¬Mk m x):q.L.length<(lv s).length:=by
 have:(x::q.L).length≤(lv s).length:=a3w (List.nodup_cons.2 ⟨λk=>hm (h.mkd x k),h.nd⟩) λy hy=>by
  rcases List.mem_cons.1 hy with rfl | k
  ·exact hx
  ·exact (h.rc y (h.mkd y k)).live
 simp only[List.length_cons] at this
 omega
omit hR in
theorem c4O {q:g9} {x:Int} (h:(q.L.length:Int)<q.Cap) (h2:q.L.length≤1000):L3 q x=some (⟨q.L ++ [x],q.Cap⟩,0):=by
 unfold L3 H8 L4
 rw[d1e,if_neg (by simp;omega)]
 have:=b41 (xs:=q.L) (i:=0) (j:=q.L.length) (by omega) (Nat.le_refl _)
 rw[show ((0:Nat):Int)=0 from rfl] at this
 rw[this]
 simp only[List.take_length,List.drop_zero,d1e]
 rw[u4 (by omega) (by simp;omega)]
 rfl
omit hR in
theorem c62 {x:Int} {r:List Int} {c:Int} (h2:r.length≤1000):a0n ⟨x::r,c⟩=some (⟨r,c⟩,x,0):=by
 unfold a0n a2I H8 L4
 simp only[d1e,List.length_cons]
 have e:(if (if (((r.length+1:Nat):Int))<1 then (((r.length+1:Nat):Int)) else 1) > 0 then (if (((r.length+1:Nat):Int))<1 then (((r.length+1:Nat):Int)) else 1) else 0:Int)=((1:Nat):Int):=by
  rw[if_neg (show ¬(((r.length+1:Nat):Int)<1) by omega)]
  rfl
 rw[e]
 have h1:=b41 (xs:=x::r) (i:=0) (j:=1) (by omega) (by simp)
 have h3:=b41 (xs:=x::r) (i:=1) (j:=r.length+1) (by omega) (by simp)
 rw[show ((0:Nat):Int)=0 from rfl] at h1
 rw[h1,h3]
 simp only[d1e]
 have e1:List.drop 0 (List.take 1 (x::r)) = [x]:=by simp
 have e2:List.drop 1 (List.take (r.length+1) (x::r))=r:=by simp
 rw[e1,e2]
 rfl
abbrev b65(s:a7)(xs:List Int):Int × g9 × (List (Int × Bool))→Option ((Int × g9 × (List (Int × Bool))) ⊕ (g9 × (List (Int × Bool)))):=
 λ(a47,s115,s116)=>
   if (decide (a47<(xs.length:Int))) then
     (ix xs a47).bind λv126=>
     (Z5 s v126).bind λv127=>
     if (v127==true) then
      if (!((r8 s116 v126).getD (false:Bool))) then
       (L3 s115 v126).bind λv128=>
       some (.inl (p6 (a47+1),v128.1,(m9 s116 v126 true)))
      else
      some (.inl (p6 (a47+1),s115,s116))
     else
     some (.inl (p6 (a47+1),s115,s116))
   else
   some (.inr (s115,s116))
theorem b4z{l xs:List Int}{q:g9}{m:List (Int × Bool)}(hxs:LB xs)(hlen:xs.length≤1000000)(h0:b7K s l q m)(hr:∀x∈xs,x∈lv s→Rch s l x) :
  ∃q' m',lp (b65 s xs) (0,q,m)=some (q',m')∧b7K s l q' m'∧(∀x,Mk m' x↔Mk m x∨x∈xs∧x∈lv s)∧(∀x,Mk m' x→Mk m x∨x∈q'.L)∧(∀x∈q.L,x∈q'.L)∧2*unm s m'+q'.L.length≤2*unm s m+q.L.length:=by
 have:=a06 (f:=b65 s xs) (t0:=(q,m)) xs.length (λk t=>b7K s l t.1 t.2∧(∀x,Mk t.2 x↔Mk m x∨x∈xs.take k∧x∈lv s)∧(∀x,Mk t.2 x→Mk m x∨x∈t.1.L)∧(∀x∈q.L,x∈t.1.L)∧2*unm s t.2+t.1.L.length≤2*unm s m+q.L.length)
  (λt=>b7K s l t.1 t.2∧(∀x,Mk t.2 x↔Mk m x∨x∈xs∧x∈lv s)∧(∀x,Mk t.2 x→Mk m x∨x∈t.1.L)∧(∀x∈q.L,x∈t.1.L)∧2*unm s t.2+t.1.L.length≤2*unm s m+q.L.length) (by omega)
  ⟨h0,λx=>by simp,λx h=>.inl h,λx h=>h,Nat.le_refl _⟩ (λk t hk hP=>?_) (λt hP=>?_)
 ·obtain⟨⟨q',m'⟩,h1,h2⟩:=this
  exact⟨q',m',h1,h2⟩
 ·obtain⟨q1,m1⟩:=t
  obtain⟨p1,p2,p3,p4,p5⟩:=hP
  simp only at p1 p2 p3 p4 p5
  left
  have hle:=hxs _ (List.getElem_mem hk)
  have ht:∀x,x∈xs.take (k+1)↔x∈xs.take k∨x=xs[k]:=λx=>by rw[List.take_succ_eq_append_getElem hk,List.mem_append,List.mem_singleton]
  simp only[b65,Int.ofNat_lt,hk,decide_true,if_true,n0 hk,d1e,c0n hR hle]
  by_cases hv:xs[k]∈lv s
  ·rw[if_pos (by simpa using hv)]
   by_cases hm:Mk m1 xs[k]
   ·rw[if_neg (by rw[show (r8 m1 xs[k]).getD false=true from hm];decide),k7]
    refine⟨(q1,m1),rfl,p1,λx=>?_,p3,p4,p5⟩
    rw[p2,ht]
    constructor
    ·rintro (a | ⟨a,b⟩)
     ·exact .inl a
     ·exact .inr ⟨.inl a,b⟩
    ·rintro (a | ⟨a | rfl,b⟩)
     ·exact .inl a
     ·exact .inr ⟨a,b⟩
     ·exact (p2 _).1 hm
   ·have hm':(r8 m1 xs[k]).getD false=false:=by simpa[Mk] using hm
    have hroom:=p1.room hv hm
    have hl24:=E8 hR
    rw[if_pos (by rw[hm'];decide),c4O (by rw[p1.cap];omega) (by omega),d1e,k7]
    refine⟨(⟨q1.L ++ [xs[k]],q1.Cap⟩,m9 m1 xs[k] true),rfl,⟨?_,p1.cap,λx hx=>?_,λx hx=>?_⟩,λx=>?_,λx hx=>?_,λx hx=>?_,?_⟩
    ·simp only
     rw[List.nodup_append]
     refine⟨p1.nd,by simp,λa ha b hb e=>?_⟩
     rw[List.mem_singleton] at hb
     subst hb;subst e
     exact hm (p1.mkd _ ha)
    ·simp only[List.mem_append,List.mem_singleton] at hx
     rw[b0G]
     rcases hx with a | a
     ·exact .inr (p1.mkd x a)
     ·exact .inl a
    ·rcases (b0G m1 xs[k] x).1 hx with rfl | a
     ·exact hr _ (List.getElem_mem hk) hv
     ·exact p1.rc x a
    ·simp only
     rw[b0G,p2,ht]
     constructor
     ·rintro (rfl | a | ⟨a,b⟩)
      ·exact .inr ⟨.inr rfl,hv⟩
      ·exact .inl a
      ·exact .inr ⟨.inl a,b⟩
     ·rintro (a | ⟨a | a,b⟩)
      ·exact .inr (.inl a)
      ·exact .inr (.inr ⟨a,b⟩)
      ·exact .inl a
    ·simp only[List.mem_append,List.mem_singleton]
     rcases (b0G m1 xs[k] x).1 hx with a | a
     ·exact .inr (.inr a)
     ·rcases p3 x a with b | b
      ·exact .inl b
      ·exact .inr (.inl b)
    ·simp only[List.mem_append]
     exact .inl (p4 x hx)
    ·have:=c5b hv hm
     simp only[List.length_append,List.length_singleton]
     omega
  ·rw[if_neg (by simpa using hv),k7]
   refine⟨(q1,m1),rfl,p1,λx=>?_,p3,p4,p5⟩
   rw[p2,ht]
   constructor
   ·rintro (a | ⟨a,b⟩)
    ·exact .inl a
    ·exact .inr ⟨.inl a,b⟩
   ·rintro (a | ⟨a | rfl,b⟩)
    ·exact .inl a
    ·exact .inr ⟨a,b⟩
    ·exact absurd b hv
 ·obtain⟨q1,m1⟩:=t
  refine⟨(q1,m1),?_,?_⟩
  ·simp only[b65,Int.lt_irrefl,decide_false,Bool.false_eq_true,if_false]
  ·simpa using hP
theorem b4K(hF:FB s){l:List Int}(hl:LB l)(hlen:l.length≤1000000):∃m,a1g s l=some m∧∀x,Mk m x↔Rch s l x:=by
 unfold a1g a19
 simp only[jn,V2 hR,d1e]
 have h24:=E8 hR
 obtain⟨q0,m0,e0,i0,i1,i2,i3,i4⟩:=b4z hR (l:=l) (xs:=l) (q:=⟨[],((lv s).length:Int)⟩) (m:=[]) hl hlen ⟨List.nodup_nil,rfl,(λx hx=>by cases hx),(λx hx=>by simp[Mk,r8] at hx)⟩ (λx h1 h2=>.base h1 h2)
 rw[show lp _ _=_ from e0,d1e]
 simp only
 have hu:unm s []≤24:=Nat.le_trans (List.length_filter_le ..) h24
 obtain⟨m,h1,h2⟩:=a8Q (s0:=(q0,m0)) (f:=λ((s70,s71):g9 × (List (Int × Bool)))=>
    (H8 s70).bind λv74=>
    if (decide (v74 > 0)) then
     (a0n s70).bind λv75=>
     (a40 s v75.2.1).bind λv76=>
      (lp (b65 s v76) (0,v75.1,s71)).bind λe97=>
      (some (.inl (e97.1,e97.2)):Option ((g9 × List (Int × Bool)) ⊕ List (Int × Bool)))
    else
    some (.inr s71)) (λt=>b7K s l t.1 t.2∧(∀x∈l,x∈lv s→Mk t.2 x)∧∀a,Mk t.2 a→a∈t.1.L∨∀b∈outs s a,b∈lv s→Mk t.2 b) (λm=>∀x,Mk m x↔Rch s l x) (λt=>2*unm s t.2+t.1.L.length)
   ⟨i0,λx h1 h2=>(i1 x).2 (.inr ⟨h1,h2⟩),λa ha=>.inl ((i2 a ha).resolve_left (by simp[Mk,r8]))⟩ (by show 2*unm s m0+q0.L.length<_;simp only[List.length_nil] at i4;omega) (by
   rintro⟨q,m⟩ ⟨p1,p2,p3⟩
   simp only at p1 p2 p3 ⊢
   have hq:=a3w p1.nd λx hx=>(p1.rc x (p1.mkd x hx)).live
   unfold H8
   rw[d1e]
   cases hqL:q.L with
   | nil=>
    right
    refine⟨m,by rw[if_neg (by simp)],λx=>⟨p1.rc x,λh=>?_⟩⟩
    induction h with
    | base a b=>exact p2 _ a b
    | step _ a b ih=>
     rcases p3 _ ih with c | c
     ·rw[hqL] at c;cases c
     ·exact c _ a b
   | cons a r=>
    left
    have hqe:q=⟨a::r,q.Cap⟩:=by rw[←hqL]
    have hal:a∈lv s:=(p1.rc a (p1.mkd a (by rw[hqL];exact List.mem_cons_self ..))).live
    have ha:a≤9223372036854775807:=by have:=a4t hR hal;omega
    have hnd:=p1.nd
    rw[hqL] at hnd hq
    simp only[List.length_cons] at hq
    obtain⟨q',m',e1,j0,j1,j2,j3,j4⟩:=b4z hR (l:=l) (xs:=outs s a) (q:=⟨r,q.Cap⟩) (m:=m) (λx hx=>c4F hR hF ha hx) (by have:=a4T hR a ha;omega) ⟨(List.nodup_cons.1 hnd).2,p1.cap,λx hx=>p1.mkd x (by rw[hqL];exact List.mem_cons_of_mem _ hx),p1.rc⟩ (λx h1 h2=>.step (p1.rc a (p1.mkd a (by rw[hqL];exact List.mem_cons_self ..))) h1 h2)
    refine⟨(q',m'),?_,⟨j0,λx h1 h2=>(j1 x).2 (.inl (p2 x h1 h2)),λb hb=>?_⟩,?_⟩
    ·rw[if_pos (by simp),hqe,c62 (by omega),d1e]
     simp only
     rw[c2I hR ha,d1e,e1,d1e]
    ·simp only at hb ⊢
     rcases j2 b hb with c | c
     ·rcases p3 b c with d | d
      ·rw[hqL] at d
       rcases List.mem_cons.1 d with rfl | d
       ·exact .inr λy h1 h2=>(j1 y).2 (.inr ⟨h1,h2⟩)
       ·exact .inl (j3 b d)
      ·exact .inr λy h1 h2=>(j1 y).2 (.inl (d y h1 h2))
     ·exact .inl c
    ·show 2*unm s m'+q'.L.length<2*unm s m+(a::r).length
     simp only[List.length_cons] at j4 ⊢
     omega)
 refine⟨m,?_,h2⟩
 rw[show lp _ _=_ from h1]
 rfl
end
end Go.Sh
namespace Go.Sh
theorem c18(l:List Int)(x:Int)(hl:l.length≤1000000):∃r:Int,M6 l x=some r∧(0≤r↔x∈l):=by
 unfold M6
 simp only[jn]
 by_cases h:x∈l
 ·obtain⟨i,hi,e⟩:=List.mem_iff_getElem.1 h
  obtain⟨j,⟨hj,ej⟩,hmin⟩:=a0y (p:=λi=>∃hi:i<l.length,l[i]=x) ⟨i,hi,e⟩
  refine⟨(j:Int),?_,by simp[h]⟩
  refine M0 l.length (λk=>k≤j) (by omega) (Nat.zero_le _) (λk hk hP=>?_) (λhP=>by omega)
  simp only[Int.ofNat_lt,hk,decide_true,if_true,n0 hk,d1e]
  rcases Nat.lt_or_ge k j with q | q
  ·refine .inl ⟨?_,q⟩
   rw[if_neg (by
    rw[beq_iff_eq]
    intro e
    have:=hmin k ⟨hk,e.symm⟩
    omega),k7]
  ·have:k=j:=by omega
   subst this
   exact .inr ⟨_,by rw[if_pos (by simpa using ej.symm)],rfl⟩
 ·refine⟨-1,?_,by simp[h]⟩
  refine M0 l.length (λk=>True) (by omega) trivial (λk hk hP=>.inl ⟨?_,trivial⟩) (λhP=>⟨.inr (),by simp,rfl⟩)
  simp only[Int.ofNat_lt,hk,decide_true,if_true,n0 hk,d1e]
  rw[if_neg (by
   rw[beq_iff_eq]
   intro e
   exact h (e▸List.getElem_mem hk)),k7]
theorem contains_eq(l:List Int)(x:Int)(hl:l.length≤1000000):C1 l x=some (decide (x∈l)):=by
 obtain⟨r,h1,h2⟩:=c18 l x hl
 unfold C1
 rw[h1,d1e]
 congr 1
 exact decide_eq_decide.2 h2
theorem a9t(l:List Int)(x:Int)(hl:l.length≤1000000):a7D l x=some (decide (x≠0∧x∈l)):=by
 unfold a7D
 rw[a81 l x hl,d1e]
 congr 1
 rw[decide_eq_decide,←a1p]
 omega
open Classical in
theorem b7v (all l:List Int) (b:Bool) (ha:all.length≤1000000) (hl:l.length≤1000000) (h0:∀x∈all,x≠0):a7E all l b=some (all.filter λx=>decide (x∈l)==b):=by
 unfold a7E
 simp only[jn]
 rw[B8 all (λacc x=>if decide (x∈l)==b then acc ++ [x] else acc) id (λk acc=>acc.length≤k) (by omega) (by simp) (λk hk acc hb=>?_) (λb _=>?_)]
 ·simp only[d1e,id]
  rw[foldl_filter]
  rfl
 ·simp only[Int.ofNat_lt,hk,decide_true,if_true,n0 hk,d1e,a9t _ _ hl]
  have e:decide (all[k]≠0∧all[k]∈l)=decide (all[k]∈l):=decide_eq_decide.2 ⟨λq=>q.2,λq=>⟨h0 _ (List.getElem_mem hk),q⟩⟩
  rw[e]
  by_cases q:(decide (all[k]∈l)==b)=true
  ·rw[if_pos q,if_pos q,u4 (by omega) (by simp;omega),d1e,k7]
   exact⟨rfl,by simp;omega⟩
  ·rw[if_neg q,if_neg q,k7]
   exact⟨rfl,by omega⟩
 ·simp only[Int.lt_irrefl,decide_false,Bool.false_eq_true,if_false]
  rfl
section
variable{s:a7}(hR:RtR (sO s))
include hR
theorem b9m:∀x∈lv s,x≠0:=λx hx=>by have:=a4t hR hx;omega
open Classical in
theorem b88 (hF:FB s) {l:List Int} (hl:LB l) (hlen:l.length≤1000000):a3D s l=some (rcd s l):=by
 obtain⟨m,h1,h2⟩:=b4K hR hF hl hlen
 unfold a3D N5 a2X
 rw[h1,d1e]
 simp only[jn,V2 hR,d1e]
 have h24:=E8 hR
 rw[B8 (lv s) (λacc x=>if decide (Rch s l x) then acc ++ [x] else acc) id (λk acc=>acc.length≤k) (by omega) (by simp) (λk hk acc hb=>?_) (λb _=>?_)]
 ·simp only[d1e,id]
  rw[foldl_filter]
  rfl
 ·simp only[Int.ofNat_lt,hk,decide_true,if_true,n0 hk,d1e]
  by_cases q:Rch s l (lv s)[k]
  ·rw[if_pos ((h2 _).2 q),if_pos (by simpa using q),u4 (by omega) (by simp;omega),d1e,k7]
   exact⟨rfl,by simp;omega⟩
  ·rw[if_neg (λk=>q ((h2 _).1 k)),if_neg (by simpa using q),k7]
   exact⟨rfl,by omega⟩
 ·simp only[Int.lt_irrefl,decide_false,Bool.false_eq_true,if_false]
  rfl
open Classical in
theorem c4j (hF:FB s) {l:List Int} (hl:LB l) (hlen:l.length≤1000000):a5Q s l=some (K6 s l):=by
 obtain⟨m,h1,h2⟩:=b4K hR hF hl hlen
 unfold a5Q N6 a2Y
 rw[h1,d1e]
 simp only[jn,V2 hR,d1e]
 have h24:=E8 hR
 rw[B8 (lv s) (λacc x=>if decide (¬Rch s l x) then acc ++ [x] else acc) id (λk acc=>acc.length≤k) (by omega) (by simp) (λk hk acc hb=>?_) (λb _=>?_)]
 ·simp only[d1e,id]
  rw[foldl_filter]
  rfl
 ·simp only[Int.ofNat_lt,hk,decide_true,if_true,n0 hk,d1e]
  by_cases q:Rch s l (lv s)[k]
  ·have e:(r8 m (lv s)[k]).getD false=true:=(h2 _).2 q
   rw[if_neg (by rw[e];decide),if_neg (by simpa using q),k7]
   exact⟨rfl,by omega⟩
  ·have e:(r8 m (lv s)[k]).getD false=false:=by
    have:¬Mk m (lv s)[k]:=λk=>q ((h2 _).1 k)
    simpa[Mk] using this
   rw[if_pos (by rw[e];decide),if_pos (by simpa using q),u4 (by omega) (by simp;omega),d1e,k7]
   exact⟨rfl,by simp;omega⟩
 ·simp only[Int.lt_irrefl,decide_false,Bool.false_eq_true,if_false]
  rfl
def grow(s:a7)(all seen:List Int):List Int:=all.filter λx=>decide (x∈seen++seen.flatMap (outs s))
def W1(s:a7)(all seen:List Int):Nat→List Int
 | 0=>seen
 | k+1=>grow s all (W1 s all seen k)
omit hR in
theorem a8O (all seen:List Int) (k:Nat):W1 s all seen (k+1)=grow s all (W1 s all seen k):=rfl
omit hR in
theorem a9s {all seen:List Int} {x:Int}:x∈grow s all seen↔x∈all∧(x∈seen∨∃a∈seen,x∈outs s a):=by
 unfold grow
 rw[List.mem_filter,decide_eq_true_iff,List.mem_append,List.mem_flatMap]
open Classical in
omit hR in
theorem c13 (l:List Int):W1 s (lv s) ((lv s).filter λx=>decide (x∈l)==true) (lv s).length=rcd s l:=by
 have hsub:∀k x,x∈W1 s (lv s) ((lv s).filter λx=>decide (x∈l)==true) k→Rch s l x:=by
  intro k
  induction k with
  | zero=>
   intro x hx
   have:=List.mem_filter.1 (show x∈(lv s).filter λx=>decide (x∈l)==true from hx)
   exact .base (by simpa using this.2) this.1
  | succ k ih=>
   intro x hx
   rw[a8O,a9s] at hx
   rcases hx.2 with q | ⟨a,q1,q2⟩
   ·exact ih x q
   ·exact .step (ih a q1) q2 hx.1
 have hall:∀k x,x∈W1 s (lv s) ((lv s).filter λx=>decide (x∈l)==true) k→x∈lv s:=λk x hx=>(hsub k x hx).live
 have hfil:∀k,∃p:Int→Bool,W1 s (lv s) ((lv s).filter λx=>decide (x∈l)==true) k=(lv s).filter p:=by
  intro k
  cases k with
  | zero=>exact⟨_,rfl⟩
  | succ k=>exact⟨_,rfl⟩
 have hinc:∀k x,x∈W1 s (lv s) ((lv s).filter λx=>decide (x∈l)==true) k→x∈W1 s (lv s) ((lv s).filter λx=>decide (x∈l)==true) (k+1):=λk x hx=>a9s.2 ⟨hall k x hx,.inl hx⟩
 have key:∀k,Cl s (W1 s (lv s) ((lv s).filter λx=>decide (x∈l)==true) k)∨k≤(W1 s (lv s) ((lv s).filter λx=>decide (x∈l)==true) k).length:=by
  intro k
  induction k with
  | zero=>exact .inr (Nat.zero_le _)
  | succ k ih=>
   by_cases hc:Cl s (W1 s (lv s) ((lv s).filter λx=>decide (x∈l)==true) k)
   ·left
    have:∀x,x∈W1 s (lv s) ((lv s).filter λx=>decide (x∈l)==true) (k+1)↔x∈W1 s (lv s) ((lv s).filter λx=>decide (x∈l)==true) k:=λx=>⟨λhx=>by
     rw[a8O,a9s] at hx
     rcases hx.2 with q | ⟨a,q1,q2⟩
     ·exact q
     ·exact hc a q1 x q2 hx.1,hinc k x⟩
    intro a ha b hb hbl
    exact (this b).2 (hc a ((this a).1 ha) b hb hbl)
   ·right
    have hk:=ih.resolve_left hc
    obtain⟨b,hb1,hb2,hb3⟩:∃b,b∈lv s∧b∈W1 s (lv s) ((lv s).filter λx=>decide (x∈l)==true) (k+1)∧b∉W1 s (lv s) ((lv s).filter λx=>decide (x∈l)==true) k:=by
     refine Classical.byContradiction λq=>hc λa ha b hb hbl=>Classical.byContradiction λq2=>q ⟨b,hbl,a9s.2 ⟨hbl,.inr ⟨a,ha,hb⟩⟩,q2⟩
    obtain⟨p,hp⟩:=hfil k
    obtain⟨p',hp'⟩:=hfil (k+1)
    have hi:=hinc k
    rw[hp] at hi hb3 hk
    rw[hp'] at hi hb2 ⊢
    have:=filter_lt (p:=p) (q:=p') (l:=lv s) (λx hx h=>(List.mem_filter.1 (hi x (List.mem_filter.2 ⟨hx,h⟩))).2) b hb1 (List.mem_filter.1 hb2).2 (by
     cases h:p b
     ·rfl
     ·exact absurd (List.mem_filter.2 ⟨hb1,h⟩) hb3)
    omega
 have hcl:Cl s (W1 s (lv s) ((lv s).filter λx=>decide (x∈l)==true) (lv s).length):=by
  rcases key (lv s).length with q | q
  ·exact q
  ·obtain⟨p,hp⟩:=hfil (lv s).length
   rw[hp] at q ⊢
   have:(lv s).filter p=lv s:=List.filter_eq_self.2 λx hx=>by
    cases h:p x
    ·have:=filter_lt (p:=p) (q:=λ_=>true) (l:=lv s) (λ_ _ _=>rfl) x hx rfl h
     rw[List.filter_eq_self.2 (λ_ _=>rfl)] at this
     omega
    ·rfl
   rw[this]
   exact λ_ _ _ _ h=>h
 have hbase:∀k x,x∈l→x∈lv s→x∈W1 s (lv s) ((lv s).filter λx=>decide (x∈l)==true) k:=by
  intro k
  induction k with
  | zero=>intro x h1 h2;exact List.mem_filter.2 ⟨h2,by simpa using h1⟩
  | succ k ih=>intro x h1 h2;exact hinc k x (ih x h1 h2)
 have hiff:∀x,x∈W1 s (lv s) ((lv s).filter λx=>decide (x∈l)==true) (lv s).length↔Rch s l x:=λx=>⟨hsub _ x,λq=>Rch.least hcl (hbase _) q⟩
 obtain⟨p,hp⟩:=hfil (lv s).length
 rw[hp]
 unfold rcd
 refine List.filter_congr λx hx=>?_
 have:=hiff x
 rw[hp,List.mem_filter] at this
 rw[Bool.eq_iff_iff,decide_eq_true_iff,←this]
 exact⟨λh=>⟨hx,h⟩,λh=>h.2⟩
open Classical in
theorem b4h {l:List Int} (hlen:l.length≤1000000):a62 (sO s) l=some (rcd s l):=by
 unfold a62
 have h24:=E8 hR
 rw[a5D hR,d1e,b7v _ _ _ (by omega) hlen (b9m hR),d1e]
 simp only[jn]
 have hg:∀k,(W1 s (lv s) ((lv s).filter λx=>decide (x∈l)==true) k).length≤24∧∀x∈W1 s (lv s) ((lv s).filter λx=>decide (x∈l)==true) k,x∈lv s:=by
  intro k
  cases k with
  | zero=>exact⟨Nat.le_trans (List.length_filter_le ..) h24,λx hx=>(List.mem_filter.1 (show x∈(lv s).filter λx=>decide (x∈l)==true from hx)).1⟩
  | succ k=>exact⟨Nat.le_trans (List.length_filter_le ..) h24,λx hx=>(List.mem_filter.1 (show x∈(lv s).filter _ from hx)).1⟩
 refine a3t (p:=λk=>(W1 s (lv s) ((lv s).filter λx=>decide (x∈l)==true) k,(k:Int))) rfl (lv s).length (λ_=>True) (by omega) trivial (λk hk _=>.inl ⟨?_,trivial⟩) (λ_=>⟨_,by simp only[Int.lt_irrefl,decide_false,Bool.false_eq_true,if_false];rfl,by rw[c13 l]⟩)
 obtain⟨g1,g2⟩:=hg k
 simp only[Int.ofNat_lt,hk,decide_true,if_true]
 rw[J8 (by omega) (by omega),d1e]
 generalize hS:W1 s (lv s) ((lv s).filter λx=>decide (x∈l)==true) k=S at g1 g2
 have hSle:∀x∈S,x≤9223372036854775807:=λx hx=>by have:=a4t hR (g2 x hx);omega
 have hflat:∀T:List Int,T.length≤24→(∀x∈T,x≤9223372036854775807)→(T.flatMap (outs s)).length≤96:=λT h1 h2=>by
  rw[List.length_flatMap]
  have:=b57 (λx=>(outs s x).length) 4 T λx hx=>a4T hR x (h2 x hx)
  omega
 rw[B8 S (λacc x=>acc++outs s x) id (λj acc=>acc.length≤S.length+4*j) (by omega) (by simp) (λj hj acc hb=>?_) (λb _=>?_)]
 ·simp only[d1e,id]
  rw[a1F,b7v _ _ _ (by omega) (by
   have:=hflat S g1 hSle
   simp only[List.length_append]
   omega) (b9m hR),d1e,k7,a8O,hS]
  unfold grow
  congr 3
  refine List.filter_congr λx _=>?_
  rw[Bool.eq_iff_iff]
  simp
 ·have ho:=a4T hR _ (hSle _ (List.getElem_mem hj))
  simp only[Int.ofNat_lt,hj,decide_true,if_true,n0 hj,d1e,b6Y hR (hSle _ (List.getElem_mem hj))]
  rw[u4 (by omega) (by omega),d1e,k7]
  exact⟨rfl,by simp;omega⟩
 ·simp only[Int.lt_irrefl,decide_false,Bool.false_eq_true,if_false]
  rfl
end
end Go.Sh
namespace Go.Sh
abbrev Tb:=List b8
abbrev J3(p:b8):n9:=⟨p.State,p.Key,p.Val⟩
def pt(t:Tb)(j:Nat):b8:=t.getD j ⟨0,0,0⟩
theorem b1l{t:Tb}{j:Nat}(h:j<t.length):pt t j=t[j]:=by unfold pt;rw[List.getD_eq_getElem?_getD,List.getElem?_eq_getElem h];rfl
theorem b2B{t:Tb}{j:Nat}(h:j<t.length):ix t (j:Int)=some (pt t j):=by rw[n0 h,b1l h]
theorem b2T{t:Tb}{i:Nat}(h:i<t.length)(p:b8)(j:Nat):pt (t.set i p) j=if j=i then p else pt t j:=by
 unfold pt
 rw[List.getD_eq_getElem?_getD,List.getD_eq_getElem?_getD,List.getElem?_set]
 by_cases e:i=j
 ·subst e;simp[h]
 ·rw[if_neg e,if_neg (Ne.symm e)]
def hm(n:Nat)(k:Int):Nat:=(p6 ((p6 (5*k))+1) % (n:Int)).toNat
theorem c16{n:Nat}(h:1≤n)(k:Int):hm n k<n:=by
 unfold hm
 have h1:=Int.emod_nonneg (p6 ((p6 (5*k))+1)) (show (n:Int)≠0 by omega)
 have h2:=Int.emod_lt_of_pos (p6 ((p6 (5*k))+1)) (show (0:Int)<n by omega)
 omega
theorem b1W{n:Nat}(h:1≤n)(h2:n≤1000)(k:Int):Y9 n k=some (hm n k:Int):=by
 unfold Y9 hm
 rw[if_neg (by simp;omega)]
 generalize p6 ((p6 (5*k))+1)=a
 have hp:=Int.emod_nonneg a (show (n:Int)≠0 by omega)
 have hl:=Int.emod_lt_of_pos a (show (0:Int)<n by omega)
 unfold rem
 rw[if_neg (by omega),d1e,Int.toNat_of_nonneg hp]
 rw[Int.tmod_eq_emod]
 split
 ·rw[show a % (n:Int)-((0:Nat):Int)=a % n by simp,if_neg (by simp;omega)]
 ·have:((n:Int).natAbs:Int)=n:=by simp
  rw[this]
  rw[if_pos (by simp;omega),C9 (by omega) (by omega)]
  congr 1
  omega
def pos(n:Nat)(k:Int)(d:Nat):Nat:=(hm n k+d) % n
theorem a2H{n:Nat}(h:1≤n)(k:Int)(d:Nat):pos n k d<n:=Nat.mod_lt _ h
theorem c5V{n:Nat}(h:1≤n)(h8:n≤8):n=1∨n=2∨n=3∨n=4∨n=5∨n=6∨n=7∨n=8:=by omega
theorem c2q{n m i:Nat}(h:1≤n)(h8:n≤8)(hm:m<n)(hi:i<n):∃d,d<n∧(m+d) % n=i:=by
 refine⟨(i+n-m) % n,Nat.mod_lt _ h,?_⟩
 rcases c5V h h8 with rfl | rfl | rfl | rfl | rfl | rfl | rfl | rfl <;> omega
theorem c4o{n m d d':Nat}(h:1≤n)(h8:n≤8)(hd:d<n)(hd':d'<n)(e:(m+d) % n=(m+d') % n):d=d':=by
 rcases c5V h h8 with rfl | rfl | rfl | rfl | rfl | rfl | rfl | rfl <;> omega
theorem b63{n:Nat}(h:1≤n)(h8:n≤8)(k:Int){i:Nat}(hi:i<n):∃d,d<n∧pos n k d=i:=c2q h h8 (c16 h k) hi
theorem c4M{n:Nat}(h:1≤n)(h8:n≤8){k:Int}{d d':Nat}(hd:d<n)(hd':d'<n)(e:pos n k d=pos n k d'):d=d':=c4o h h8 hd hd' e
structure HR (t:Tb):Prop where
 l1:1≤t.length
 l8:t.length≤8
 st:∀i,i<t.length→((pt t i).State=0∨(pt t i).State=1∨(pt t i).State=2)∧((pt t i).State≠1→(pt t i).Key=0∧(pt t i).Val=0)
 uq:∀i j,i<t.length→j<t.length→(pt t i).State=1→(pt t j).State=1→(pt t i).Key=(pt t j).Key→i=j
 rd:∀i,i<t.length→(pt t i).State=1→∀d,d<t.length→(∀d',d'≤d→pos t.length (pt t i).Key d'≠i)→(pt t (pos t.length (pt t i).Key d)).State≠0
def Fk(t:Tb)(k:Int)(i:Nat):Prop:=i<t.length∧(pt t i).State=1∧(pt t i).Key=k
instance(t:Tb)(k:Int)(i:Nat):Decidable (Fk t k i):=by unfold Fk;infer_instance
theorem step_eq{n:Nat}(h:1≤n)(h2:n≤1000)(k:Int){d:Nat}(hd:d<n):rem (p6 ((hm n k:Int)+d)) n=some ((pos n k d:Nat):Int):=by
 have:=c16 h k
 rw[C9 (by omega) (by omega),a7L (by omega) (by omega)]
 unfold pos
 simp[Int.natCast_emod]
theorem a7w{t:Tb}(h1:1≤t.length)(h8:t.length≤8)(k:Int) :
  (∃d,d<t.length∧(∀j,j<d→(pt t (pos t.length k j)).State≠0∧¬Fk t k (pos t.length k j))∧Fk t k (pos t.length k d)∧I8 t k=some ((pos t.length k d:Nat):Int)) ∨
  (∃d,d≤t.length∧(∀j,j<d→(pt t (pos t.length k j)).State≠0∧¬Fk t k (pos t.length k j))∧(d=t.length∨(pt t (pos t.length k d)).State=0)∧I8 t k=some (-1)):=by
 unfold I8
 simp only[jn,a3b,d1e]
 generalize hq:(lp (S:=Int) (E:=Int ⊕ Unit) _ 0)=q
 have body:∀d:Nat,d<t.length→(if (decide ((d:Int)<(t.length:Int))) then
    (Y9 (t.length:Int) k).bind λv14=>
    (rem (p6 (v14+d)) (t.length:Int)).bind λv15=>
    (ix t v15).bind λv16=>
    if (v16.State==0) then
     some (.inr (.inr ()))
    else
    if ((v16.State==1)&&(v16.Key==k)) then
     some (.inr (.inl v15))
    else
    some (.inl (p6 ((d:Int)+1)))
   else
   some (.inr (.inr ())):Option (Int ⊕ (Int ⊕ Unit)))=if (pt t (pos t.length k d)).State=0 then some (.inr (.inr ())) else if Fk t k (pos t.length k d) then some (.inr (.inl ((pos t.length k d:Nat):Int))) else some (.inl ((d+1:Nat):Int)):=λd hd=>by
  have hp:=a2H h1 k d
  rw[if_pos (by simpa using hd),b1W h1 (by omega),d1e,step_eq h1 (by omega) k hd,d1e,b2B hp,d1e,k7 (by omega)]
  by_cases a:(pt t (pos t.length k d)).State=0
  ·rw[if_pos (by simpa using a),if_pos a]
  ·rw[if_neg (by simpa using a),if_neg a]
   by_cases b:Fk t k (pos t.length k d)
   ·rw[if_pos (by simp[b.2.1,b.2.2]),if_pos b]
   ·rw[if_neg (by simp;exact λh1 h2=>b ⟨hp,h1,h2⟩),if_neg b]
 have key:=b9j (f:=λ(s12:Int)=>if (decide (s12<(t.length:Int))) then
    (Y9 (t.length:Int) k).bind λv14=>
    (rem (p6 (v14+s12)) (t.length:Int)).bind λv15=>
    (ix t v15).bind λv16=>
    if (v16.State==0) then
     some (.inr (.inr ()))
    else
    if ((v16.State==1)&&(v16.Key==k)) then
     some (.inr (.inl v15))
    else
    some (.inl (p6 (s12+1)))
   else
   some (.inr (.inr ()))) t.length (λd=>∀j,j<d→(pt t (pos t.length k j)).State≠0∧¬Fk t k (pos t.length k j))
   (λ(e:Int ⊕ Unit)=>(∃d,d<t.length∧(∀j,j<d→(pt t (pos t.length k j)).State≠0∧¬Fk t k (pos t.length k j))∧Fk t k (pos t.length k d)∧e = .inl ((pos t.length k d:Nat):Int)) ∨
    (∃d,d≤t.length∧(∀j,j<d→(pt t (pos t.length k j)).State≠0∧¬Fk t k (pos t.length k j))∧(d=t.length∨(pt t (pos t.length k d)).State=0)∧e = .inr ())) (by omega) (λj hj=>by omega)
   (λd hd hP=>by
    rw[body d hd]
    by_cases a:(pt t (pos t.length k d)).State=0
    ·rw[if_pos a]
     exact .inr ⟨_,rfl,.inr ⟨d,by omega,hP,.inr a,rfl⟩⟩
    ·rw[if_neg a]
     by_cases b:Fk t k (pos t.length k d)
     ·rw[if_pos b]
      exact .inr ⟨_,rfl,.inl ⟨d,hd,hP,b,rfl⟩⟩
     ·rw[if_neg b]
      refine .inl ⟨rfl,λj hj=>?_⟩
      rcases Nat.lt_or_ge j d with q | q
      ·exact hP j q
      ·have:j=d:=by omega
       subst this;exact⟨a,b⟩)
   (λhP=>⟨.inr (),by simp,.inr ⟨t.length,Nat.le_refl _,hP,.inl rfl,rfl⟩⟩)
 obtain⟨e,he,hQ⟩:=key
 rw[he] at hq
 subst hq
 rcases hQ with ⟨d,a1,a2,a3,rfl⟩ | ⟨d,a1,a2,a3,rfl⟩
 ·exact .inl ⟨d,a1,a2,a3,rfl⟩
 ·exact .inr ⟨d,a1,a2,a3,rfl⟩
theorem a3Y{t:Tb}(hR:HR t){k:Int}{i:Nat}(hi:Fk t k i):I8 t k=some (i:Int):=by
 obtain⟨di,hdi,hpi⟩:=b63 hR.l1 hR.l8 k hi.1
 have road:∀d,d<di→(pt t (pos t.length k d)).State≠0:=λd hd=>by
  have:=hR.rd i hi.1 hi.2.1 d (by omega) (λd' hd' e=>by
   rw[hi.2.2] at e
   have:=c4M hR.l1 hR.l8 (by omega) hdi (e.trans hpi.symm)
   omega)
  rwa [hi.2.2] at this
 rcases a7w hR.l1 hR.l8 k with ⟨d,a1,a2,a3,a4⟩ | ⟨d,a1,a2,a3,a4⟩
 ·rw[a4,hR.uq _ i (a2H hR.l1 k d) hi.1 a3.2.1 hi.2.1 (by rw[a3.2.2,hi.2.2])]
 ·exfalso
  rcases Nat.lt_or_ge di d with q | q
  ·exact (a2 di q).2 (by rw[hpi];exact hi)
  ·rcases a3 with rfl | a3
   ·omega
   ·rcases Nat.lt_or_ge d di with q' | q'
    ·exact road d q' a3
    ·have:d=di:=by omega
     subst this
     rw[hpi,hi.2.1] at a3
     cases a3
theorem a3X{t:Tb}(h1:1≤t.length)(h8:t.length≤8){k:Int}(hi:∀i,¬Fk t k i):I8 t k=some (-1):=by
 rcases a7w h1 h8 k with ⟨d,a1,a2,a3,a4⟩ | ⟨d,a1,a2,a3,a4⟩
 ·exact absurd a3 (hi _)
 ·exact a4
theorem b1g(t:Tb)(k:Int):(∃i,Fk t k i)∨∀i,¬Fk t k i:=by
 by_cases h:∃i,Fk t k i
 ·exact .inl h
 ·exact .inr λi hi=>h ⟨i,hi⟩
theorem b3z{t:Tb}{i:Nat}(h8:t.length≤1000)(hi:i<t.length)(p:b8):a0M t (i:Int) p=some (t.set i p):=by
 unfold a0M B0
 rw[J8 (by omega) (by omega),d1e,n0 hi,d1e,Int.toNat_natCast]
inductive b1z (t:Tb) (k v:Int):Tb × Int→Prop
 | old (i:Nat) (hi:Fk t k i):b1z t k v (t.set i ⟨1,k,v⟩,0)
 | new (d:Nat) (hn:∀i,¬Fk t k i) (hd:d<t.length) (hb:∀j,j<d→(pt t (pos t.length k j)).State=1) (hf:(pt t (pos t.length k d)).State≠1):b1z t k v (t.set (pos t.length k d) ⟨1,k,v⟩,0)
 | full (hn:∀i,¬Fk t k i) (ha:∀i,i<t.length→(pt t i).State=1):b1z t k v (t,8)
theorem b8r{t:Tb}(hR:HR t)(k v:Int):∃r,a6N t k v=some r∧b1z t k v r:=by
 have h1:=hR.l1
 have h8:=hR.l8
 unfold a6N
 rcases b1g t k with ⟨i,hi⟩ | hn
 ·rw[a3Y hR hi,d1e,if_pos (by simp),b3z (by omega) hi.1]
  exact⟨_,rfl,.old i hi⟩
 ·rw[a3X h1 h8 hn,d1e,if_neg (by decide)]
  simp only[jn,a3b,d1e]
  have key:=b9j (f:=λ(s15:Int)=>
   if (decide (s15<(t.length:Int))) then
    (Y9 (t.length:Int) k).bind λv17=>
    (rem (p6 (v17+s15)) (t.length:Int)).bind λv18=>
    (ix t v18).bind λv19=>
    if (v19.State != 1) then
     (a0M t v18 (⟨1,k,v⟩:b8)).bind λv20=>
     some (Sum.inr (.inl (v20,(0:Int))))
    else
    some (.inl (p6 (s15+1)))
   else
   some (.inr (.inr ()))) t.length (λd=>∀j,j<d→(pt t (pos t.length k j)).State=1)
   (λ(e:(Tb × Int) ⊕ Unit)=>(∃r,e = .inl r∧b1z t k v r)∨(e = .inr ()∧b1z t k v (t,8))) (by omega) (λj hj=>by omega)
   (λd hd hP=>by
    have hp:=a2H h1 k d
    rw[if_pos (by simpa using hd),b1W h1 (by omega),d1e,step_eq h1 (by omega) k hd,d1e,b2B hp,d1e]
    by_cases a:(pt t (pos t.length k d)).State=1
    ·rw[if_neg (by simpa using a),k7 (by omega)]
     refine .inl ⟨rfl,λj hj=>?_⟩
     rcases Nat.lt_or_ge j d with q | q
     ·exact hP j q
     ·have:j=d:=by omega
      subst this;exact a
    ·rw[if_pos (by simpa using a),b3z (by omega) hp,d1e]
     exact .inr ⟨_,rfl,.inl ⟨_,rfl,.new d hn hd hP a⟩⟩)
   (λhP=>⟨.inr (),by simp,.inr ⟨rfl,.full hn λi hi=>by
    obtain⟨d,hd,rfl⟩:=b63 h1 h8 k hi
    exact hP d hd⟩⟩)
  obtain⟨e,he,hQ⟩:=key
  rw[he,d1e]
  rcases hQ with ⟨r,rfl,hr⟩ | ⟨rfl,hr⟩
  ·exact⟨r,rfl,hr⟩
  ·exact⟨_,rfl,hr⟩
theorem b8b{t:Tb}(hR:HR t){k:Int}{i:Nat}(hi:Fk t k i):I0 t k=some ((pt t i).Val,0):=by
 unfold I0
 rw[a3Y hR hi,d1e,if_neg (by simp),b2B hi.1,d1e]
theorem b8a{t:Tb}(hR:HR t){k:Int}(hi:∀i,¬Fk t k i):I0 t k=some (0,9):=by
 unfold I0
 rw[a3X hR.l1 hR.l8 hi,d1e,if_pos (by decide)]
theorem a7u{t:Tb}(hR:HR t){k:Int}{i:Nat}(hi:Fk t k i):T6 t k=some (t.set i ⟨2,0,0⟩,(pt t i).Val,0):=by
 have:=hR.l8
 unfold T6
 rw[a3Y hR hi,d1e,if_neg (by simp),b3z (by omega) hi.1,d1e,b2B hi.1,d1e]
theorem a7t{t:Tb}(hR:HR t){k:Int}(hi:∀i,¬Fk t k i):T6 t k=some (t,0,9):=by
 unfold T6
 rw[a3X hR.l1 hR.l8 hi,d1e,if_pos (by decide)]
theorem HR.set{t:Tb}(hR:HR t){i:Nat}(hi:i<t.length){p:b8}(h0:p.State=1∨p=⟨2,0,0⟩)
  (hu:p.State=1→∀j,j≠i→¬Fk t p.Key j)(hr:p.State=1→∀d,d<t.length→(∀d',d'≤d→pos t.length p.Key d'≠i)→(pt t (pos t.length p.Key d)).State≠0):HR (t.set i p):=by
 have hnz:p.State≠0:=by
  rcases h0 with h | rfl
  ·omega
  ·simp
 refine⟨by simpa using hR.l1,by simpa using hR.l8,λj hj=>?_,λj j' hj hj' s1 s2 hk=>?_,λj hj s1 d hd hne=>?_⟩ <;> simp only[List.length_set] at *
 ·rw[b2T hi]
  split
  ·rcases h0 with h | rfl
   ·exact⟨.inr (.inl h),λq=>absurd h q⟩
   ·exact⟨.inr (.inr rfl),λ_=>⟨rfl,rfl⟩⟩
  ·exact hR.st j hj
 ·rw[b2T hi] at s1 s2 hk
  rw[b2T hi] at hk
  by_cases e1:j=i <;> by_cases e2:j'=i
  ·rw[e1,e2]
  ·rw[if_pos e1] at s1 hk
   rw[if_neg e2] at s2 hk
   exact absurd ⟨hj',s2,hk.symm⟩ (hu s1 j' e2)
  ·rw[if_neg e1] at s1 hk
   rw[if_pos e2] at s2 hk
   exact absurd ⟨hj,s1,hk⟩ (hu s2 j e1)
  ·rw[if_neg e1] at s1 hk
   rw[if_neg e2] at s2 hk
   exact hR.uq j j' hj hj' s1 s2 hk
 ·simp only[b2T hi] at s1 hne ⊢
  by_cases e1:j=i
  ·simp only[if_pos e1] at s1 hne ⊢
   split
   ·exact hnz
   ·exact hr s1 d hd (by rw[←e1];exact hne)
  ·simp only[if_neg e1] at s1 hne ⊢
   split
   ·exact hnz
   ·exact hR.rd j hj s1 d hd hne
theorem a8U{t:Tb}(hR:HR t){k v:Int}{r:Tb × Int}(h:b1z t k v r):HR r.1:=by
 cases h with
 | old i hi=>
  refine hR.set hi.1 (.inl rfl) (λ_ j hj q=>hj (hR.uq j i q.1 hi.1 q.2.1 hi.2.1 (q.2.2.trans hi.2.2.symm))) λ_ d hd hne=>?_
  have:=hR.rd i hi.1 hi.2.1 d hd (by rw[hi.2.2];exact hne)
  rwa [hi.2.2] at this
 | new d hn hd hb hf=>
  refine hR.set (a2H hR.l1 k d) (.inl rfl) (λ_ j _=>hn j) λ_ d' hd' hne=>?_
  rcases Nat.lt_or_ge d' d with q | q
  ·have:=hb d' q
   simp only
   omega
  ·exact absurd rfl (hne d q)
 | full hn ha=>exact hR
theorem a3V{t:Tb}(hR:HR t){i:Nat}(hi:i<t.length):HR (t.set i ⟨2,0,0⟩):=hR.set hi (.inr rfl) (λq=>by cases q) λq=>by cases q
end Go.Sh
namespace Go.Sh
theorem ixm{t:Tb}{j:Nat}(h:j<t.length):ix (t.map J3) (j:Int)=some (J3 (pt t j)):=by rw[a16,b2B h];rfl
theorem c21{t:Tb}(h8:t.length≤1000){k:Int}{i:Nat}(hi:Fk t k i)(hf:∀j,j<i→¬Fk t k j):a1e (t.map J3) k=some (i:Int):=by
 unfold a1e
 simp only[jn]
 refine M0 t.length (λj=>j≤i) (by omega) (Nat.zero_le _) (λj hj hP=>?_) (λhP=>by have:=hi.1;omega)
 rw[if_pos (by simpa using hj),ixm hj,d1e]
 by_cases e:j=i
 ·subst e
  exact .inr ⟨.inl (j:Int),by rw[if_pos (by simp[J3,hi.2.1,hi.2.2])],rfl⟩
 ·have:=hf j (by omega)
  refine .inl ⟨by rw[if_neg (by simp[J3];exact λh1 h2=>this ⟨hj,h1,h2⟩),k7 (by omega)],by omega⟩
theorem c20{t:Tb}(h8:t.length≤1000){k:Int}(hf:∀j,¬Fk t k j):a1e (t.map J3) k=some (-1):=by
 unfold a1e
 simp only[jn]
 refine M0 t.length (λj=>True) (by omega) trivial (λj hj hP=>?_) (λhP=>⟨.inr (),by simp,rfl⟩)
 rw[if_pos (by simpa using hj),ixm hj,d1e]
 refine .inl ⟨by rw[if_neg (by simp[J3];exact λh1 h2=>hf j ⟨hj,h1,h2⟩),k7 (by omega)],trivial⟩
theorem c1R{t:Tb}{k:Int}(h:∃i,Fk t k i):∃i,Fk t k i∧∀j,j<i→¬Fk t k j:=by
 obtain⟨i,h1,h2⟩:=a0y h
 exact⟨i,h1,λj hj q=>by have:=h2 j q;omega⟩
theorem b4J{t:Tb}{i:Nat}(h8:t.length≤1000)(hi:i<t.length)(p:b8):a2o (t.map J3) (i:Int) (J3 p)=some ((t.set i p).map J3):=by
 unfold a2o
 rw[J8 (by omega) (by simp;omega),d1e,ixm hi,d1e,Int.toNat_natCast,List.map_set]
theorem b7h:b20=Y9:=rfl
theorem c5Q{n:Nat}(h1:1≤n)(h8:n≤8)(k:Int)(d:Nat):rem (p6 (((pos n k d:Nat):Int)+1)) n=some ((pos n k (d+1):Nat):Int):=by
 have:=a2H h1 k d
 rw[C9 (by omega) (by omega),a7L (by omega) (by omega)]
 unfold pos
 congr 1
 have:((hm n k+d) % n+1) % n=(hm n k+(d+1)) % n:=by rw[Nat.mod_add_mod];rfl
 rw[←this]
 simp[Int.natCast_emod]
theorem b64{n:Nat}(h1:1≤n)(k:Int):pos n k 0=hm n k:=by
 unfold pos
 rw[Nat.add_zero,Nat.mod_eq_of_lt (c16 h1 k)]
end Go.Sh
namespace Go.Sh
def Has(t:Tb)(k v:Int):Prop:=∃i,Fk t k i∧(pt t i).Val=v
theorem c6v{t:Tb}{k:Int}:(∀v,¬Has t k v)↔∀i,¬Fk t k i:=by
 constructor
 ·intro h i hi;exact h _ ⟨i,hi,rfl⟩
 ·rintro h v ⟨i,hi,_⟩;exact h i hi
theorem c6w(t:Tb)(k:Int):(∃v,Has t k v)∨∀v,¬Has t k v:=by
 by_cases h:∃v,Has t k v
 ·exact .inl h
 ·exact .inr λv hv=>h ⟨v,hv⟩
theorem Has.fn{t:Tb}(hR:HR t){k v v':Int}(h:Has t k v)(h':Has t k v'):v=v':=by
 obtain⟨i,a,rfl⟩:=h
 obtain⟨j,b,rfl⟩:=h'
 rw[hR.uq i j a.1 b.1 a.2.1 b.2.1 (a.2.2.trans b.2.2.symm)]
theorem b89{t:Tb}(hR:HR t){k v:Int}(h:Has t k v):I0 t k=some (v,0):=by
 obtain⟨i,a,rfl⟩:=h
 exact b8b hR a
theorem c0j{t:Tb}(hR:HR t){k:Int}(h:∀v,¬Has t k v):I0 t k=some (0,9):=b8a hR (c6v.1 h)
theorem b5k{t:Tb}{i:Nat}(hi:i<t.length){k v:Int}(p:b8)(h:∀j,j≠i→Fk t p.Key j→p.State≠1)(k' v':Int) :
  Has (t.set i p) k' v'↔(p.State=1∧p.Key=k'∧p.Val=v')∨∃j,j≠i∧Fk t k' j∧(pt t j).Val=v':=by
 unfold Has Fk
 simp only[List.length_set,b2T hi]
 constructor
 ·rintro⟨j,⟨h1,h2,h3⟩,h4⟩
  by_cases e:j=i
  ·rw[if_pos e] at h2 h3 h4;exact .inl ⟨h2,h3,h4⟩
  ·rw[if_neg e] at h2 h3 h4;exact .inr ⟨j,e,⟨h1,h2,h3⟩,h4⟩
 ·rintro (⟨h1,h2,h3⟩ | ⟨j,e,⟨h1,h2,h3⟩,h4⟩)
  ·exact⟨i,by simp[hi,h1,h2,h3]⟩
  ·exact⟨j,by simp[e,h1,h2,h3,h4]⟩
theorem b5I{t:Tb}(hR:HR t){k v:Int}{r:Tb × Int}(h:b1z t k v r)(h0:r.2=0)(k' v':Int):Has r.1 k' v'↔(k'=k∧v'=v)∨(k'≠k∧Has t k' v'):=by
 cases h with
 | old i hi=>
  rw[b5k (k:=k) (v:=v) hi.1 _ (λj hj q=>absurd (hR.uq j i q.1 hi.1 q.2.1 hi.2.1 (q.2.2.trans hi.2.2.symm)) hj)]
  constructor
  ·rintro (⟨_,rfl,rfl⟩ | ⟨j,e,h1,h2⟩)
   ·exact .inl ⟨rfl,rfl⟩
   ·refine .inr ⟨λq=>?_,j,h1,h2⟩
    subst q
    exact e (hR.uq j i h1.1 hi.1 h1.2.1 hi.2.1 (h1.2.2.trans hi.2.2.symm))
  ·rintro (⟨rfl,rfl⟩ | ⟨e,j,h1,h2⟩)
   ·exact .inl ⟨rfl,rfl,rfl⟩
   ·refine .inr ⟨j,λq=>?_,h1,h2⟩
    subst q
    exact e (h1.2.2.symm.trans hi.2.2)
 | new d hn hd hb hf=>
  rw[b5k (k:=k) (v:=v) (a2H hR.l1 k d) _ (λj hj q=>absurd q (hn j))]
  constructor
  ·rintro (⟨_,rfl,rfl⟩ | ⟨j,e,h1,h2⟩)
   ·exact .inl ⟨rfl,rfl⟩
   ·refine .inr ⟨λq=>?_,j,h1,h2⟩
    subst q
    exact hn j h1
  ·rintro (⟨rfl,rfl⟩ | ⟨e,j,h1,h2⟩)
   ·exact .inl ⟨rfl,rfl,rfl⟩
   ·refine .inr ⟨j,λq=>?_,h1,h2⟩
    subst q
    exact hf h1.2.1
 | full hn ha=>cases h0
theorem b2l{t:Tb}(hR:HR t){k:Int}{i:Nat}(hi:Fk t k i)(k' v':Int):Has (t.set i ⟨2,0,0⟩) k' v'↔k'≠k∧Has t k' v':=by
 rw[b5k (k:=k) (v:=0) hi.1 _ (λj hj q=>by simp)]
 constructor
 ·rintro (⟨h,_⟩ | ⟨j,e,h1,h2⟩)
  ·cases h
  ·refine⟨λq=>?_,j,h1,h2⟩
   subst q
   exact e (hR.uq j i h1.1 hi.1 h1.2.1 hi.2.1 (h1.2.2.trans hi.2.2.symm))
 ·rintro⟨e,j,h1,h2⟩
  refine .inr ⟨j,λq=>?_,h1,h2⟩
  subst q
  exact e (h1.2.2.symm.trans hi.2.2)
def keys(t:Tb):List Int:=(t.filter (·.State==1)).map (·.Key)
theorem b2q{α β:Type}(p:α→Bool)(f:α→β)(l:List α)(k:Nat)(h:k<l.length):((l.take (k+1)).filter p).map f=((l.take k).filter p).map f++(if p l[k] then [f l[k]] else []):=by
 rw[List.take_succ_eq_append_getElem h,List.filter_append,List.map_append]
 congr 1
 simp only[List.filter_cons,List.filter_nil]
 split <;> rfl
theorem keys_eq{t:Tb}(h:t.length≤1000):a4H t=some (keys t):=by
 unfold a4H keys
 simp only[jn]
 refine O1 t.length (λk l=>l=((t.take k).filter (·.State==1)).map (·.Key)) (by omega) (by simp) ?_ (λl hl=>⟨_,by simp;rfl,by rw[hl,List.take_length]⟩)
 rintro k l hk rfl
 left
 rw[b2q _ _ _ _ hk]
 rw[if_pos (by simpa using hk),n0 hk,d1e,k7 (by omega)]
 have hle:(List.map (·.Key) (List.filter (·.State==1) (List.take k t))).length≤1000:=by
  rw[List.length_map]
  exact Nat.le_trans (List.length_filter_le ..) (by simp;omega)
 by_cases c:(t[k].State==1)=true
 ·rw[if_pos c,if_pos c,u4 (by omega) (by simp only[List.length_cons,List.length_nil];omega),d1e]
  exact⟨_,rfl,rfl⟩
 ·rw[if_neg c,if_neg c]
  exact⟨_,rfl,by simp⟩
theorem c26{t:Tb}(h:t.length≤1000):b21 (t.map J3)=some (keys t):=by
 unfold b21 keys
 simp only[jn]
 refine O1 t.length (λk l=>l=((t.take k).filter (·.State==1)).map (·.Key)) (by omega) (by simp) ?_ (λl hl=>⟨_,by simp;rfl,by rw[hl,List.take_length]⟩)
 rintro k l hk rfl
 left
 rw[b2q _ _ _ _ hk]
 rw[if_pos (by simpa using hk),a16,n0 hk,Option.map_some,d1e,k7 (by omega)]
 have hle:(List.map (·.Key) (List.filter (·.State==1) (List.take k t))).length≤1000:=by
  rw[List.length_map]
  exact Nat.le_trans (List.length_filter_le ..) (by simp;omega)
 by_cases c:(t[k].State==1)=true
 ·rw[if_pos (by simpa[J3] using c),if_pos c,u4 (by omega) (by simp only[List.length_cons,List.length_nil];omega),d1e]
  exact⟨_,rfl,rfl⟩
 ·rw[if_neg (by simpa[J3] using c),if_neg c]
  exact⟨_,rfl,by simp⟩
theorem b5U{t:Tb}(hR:HR t)(k:Int):a1e (t.map J3) k=I8 t k:=by
 have h8:=hR.l8
 rcases b1g t k with ⟨i,hi⟩ | hn
 ·rw[a3Y hR hi]
  obtain⟨f,hf1,hf2⟩:=c1R ⟨i,hi⟩
  rw[c21 (by omega) hf1 hf2,hR.uq f i hf1.1 hi.1 hf1.2.1 hi.2.1 (hf1.2.2.trans hi.2.2.symm)]
 ·rw[a3X hR.l1 hR.l8 hn,c20 (by omega) hn]
theorem c22{t:Tb}(hR:HR t)(k:Int):a9T (t.map J3) k=I0 t k:=by
 unfold a9T I0
 rw[b5U hR]
 rcases b1g t k with ⟨i,hi⟩ | hn
 ·rw[a3Y hR hi,d1e,d1e,if_neg (by simp),if_neg (by simp),ixm hi.1,b2B hi.1];rfl
 ·rw[a3X hR.l1 hR.l8 hn];rfl
theorem c2Z{t:Tb}(hR:HR t)(k:Int):a64 (t.map J3) k=(T6 t k).map λr=>(r.1.map J3,r.2):=by
 have h8:=hR.l8
 rcases b1g t k with ⟨i,hi⟩ | hn
 ·rw[a7u hR hi]
  unfold a64
  rw[b5U hR,a3Y hR hi,d1e,if_neg (by simp)]
  have:=b4J (t:=t) (by omega) hi.1 ⟨2,0,0⟩
  dsimp only[J3] at this
  rw[this,d1e,ixm hi.1]
  rfl
 ·rw[a7t hR hn]
  unfold a64
  rw[b5U hR,a3X hR.l1 hR.l8 hn]
  rfl
theorem c80{t:Tb}(hR:HR t)(k v:Int){r:Tb × Int}(h:b1z t k v r):b5P (t.map J3) k v=some (r.1.map J3,r.2):=by
 have h1:=hR.l1
 have h8:=hR.l8
 unfold b5P
 rw[b5U hR]
 have hw:∀i,i<t.length→a2o (t.map J3) (i:Int) ⟨1,k,v⟩=some ((t.set i ⟨1,k,v⟩).map J3):=λi hi=>b4J (t:=t) (by omega) hi ⟨1,k,v⟩
 cases h with
 | old i hi=>
  rw[a3Y hR hi,d1e,if_pos (by simp),hw i hi.1]
  rfl
 | new d hn hd hb hf=>
  rw[a3X h1 h8 hn,d1e,if_neg (by decide),List.length_map,b7h,b1W h1 (by omega),d1e]
  simp only[jn]
  rw[←b64 h1 k]
  obtain⟨e,he,hQ⟩:=b5u (f:=λ((s15,s16):Int × Int)=>
   if (decide (s16<(t.length:Int))) then
    (ix (t.map J3) s15).bind λv19=>
    if (v19.State != 1) then
     (a2o (t.map J3) s15 (⟨1,k,v⟩:n9)).bind λv20=>
     some (Sum.inr (Sum.inl (β:=Unit) (v20,(0:Int))))
    else
    (rem (p6 (s15+1)) (t.length:Int)).bind λv21=>
    some (Sum.inl (v21,p6 (s16+1)))
   else
   some (Sum.inr (Sum.inr ()))) (λd=>(((pos t.length k d:Nat):Int),(d:Int))) d (λ_=>True) (λe=>e = .inl ((t.set (pos t.length k d) ⟨1,k,v⟩).map J3,0)) (by omega) trivial (λj hj _=>by
    have hp:=a2H h1 k j
    dsimp only
    rw[if_pos (by simp;omega),ixm hp,d1e,if_neg (by simpa[J3] using hb j hj),c5Q h1 h8,d1e,k7 (by omega)]
    exact .inl ⟨rfl,trivial⟩) (λ_=>by
    have hp:=a2H h1 k d
    dsimp only
    rw[if_pos (by simpa using hd),ixm hp,d1e,if_pos (by simpa[J3] using hf),hw _ hp]
    exact⟨_,rfl,rfl⟩)
  have he':lp _ (((pos t.length k 0:Nat):Int),(0:Int))=some e:=he
  rw[he',hQ]
  rfl
 | full hn ha=>
  rw[a3X h1 h8 hn,d1e,if_neg (by decide),List.length_map,b7h,b1W h1 (by omega),d1e]
  simp only[jn]
  rw[←b64 h1 k]
  obtain⟨e,he,hQ⟩:=b5u (f:=λ((s15,s16):Int × Int)=>
   if (decide (s16<(t.length:Int))) then
    (ix (t.map J3) s15).bind λv19=>
    if (v19.State != 1) then
     (a2o (t.map J3) s15 (⟨1,k,v⟩:n9)).bind λv20=>
     some (Sum.inr (Sum.inl (β:=Unit) (v20,(0:Int))))
    else
    (rem (p6 (s15+1)) (t.length:Int)).bind λv21=>
    some (Sum.inl (v21,p6 (s16+1)))
   else
   some (Sum.inr (Sum.inr ()))) (λd=>(((pos t.length k d:Nat):Int),(d:Int))) t.length (λ_=>True) (λe=>e = .inr ()) (by omega) trivial (λj hj _=>by
    have hp:=a2H h1 k j
    dsimp only
    rw[if_pos (by simp;omega),ixm hp,d1e,if_neg (by simpa[J3] using ha _ hp),c5Q h1 h8,d1e,k7 (by omega)]
    exact .inl ⟨rfl,trivial⟩) (λ_=>⟨.inr (),by simp,rfl⟩)
  have he':lp _ (((pos t.length k 0:Nat):Int),(0:Int))=some e:=he
  rw[he',hQ]
  rfl
theorem b2U{t:Tb}{k v:Int}{r:Tb × Int}(h:b1z t k v r):r.1.length=t.length:=by cases h <;> simp
end Go.Sh
namespace Go.Sh
theorem a3s(t:Tb):(keys t).length=t.countP (·.State==1):=by
 unfold keys
 rw[List.length_map,List.countP_eq_length_filter]
theorem a9G{t:Tb}{i:Nat}(h:i<t.length)(p:b8):(keys (t.set i p)).length+(if (pt t i).State=1 then 1 else 0)=(keys t).length+if p.State=1 then 1 else 0:=by
 rw[a3s,a3s,List.countP_set h,b1l h]
 simp only[beq_iff_eq]
 have:(if t[i].State=1 then 1 else 0)≤t.countP λc=>c.State==1:=by
  split
  ·rename_i e
   exact List.countP_pos_iff.2 ⟨t[i],List.getElem_mem h,by simpa using e⟩
  ·exact Nat.zero_le _
 omega
theorem c0o{t:Tb}(h:∀i,i<t.length→(pt t i).State=1):(keys t).length=t.length:=by
 rw[a3s,List.countP_eq_length]
 intro a ha
 obtain⟨i,hi,rfl⟩:=List.getElem_of_mem ha
 have:=h i hi
 rw[b1l hi] at this
 simpa using this
theorem c4d{t:Tb}{i:Nat}(hi:i<t.length)(h:(pt t i).State≠1):(keys t).length<t.length:=by
 have h1:(keys t).length≤t.length:=by rw[a3s];exact List.countP_le_length
 rcases Nat.lt_or_ge (keys t).length t.length with q | q
 ·exact q
 ·exfalso
  have e:(keys t).length=t.length:=by omega
  rw[a3s,List.countP_eq_length] at e
  have:=e t[i] (List.getElem_mem hi)
  rw[b1l hi] at h
  exact h (by simpa using this)
structure TM {V:Type} (φ:V→Int→Prop) (t:Tb) (m:List (Int × V)):Prop where
 R:HR t
 nd:(m.map (·.1)).Nodup
 len:(keys t).length=m.length
 has:∀k,(∀v,Has t k v→∃u,r8 m k=some u∧φ u v)∧((r8 m k).isSome=true→∃v,Has t k v)
theorem TM.some{V:Type}{φ:V→Int→Prop}{t:Tb}{m:List (Int × V)}(h:TM φ t m)(k:Int):(∃v u,Has t k v∧r8 m k=some u∧φ u v)∨(r8 m k=none∧∀v,¬Has t k v):=by
 rcases c6w t k with ⟨v,hv⟩ | hn
 ·obtain⟨u,h1,h2⟩:=(h.has k).1 v hv
  exact .inl ⟨v,u,hv,h1,h2⟩
 ·refine .inr ⟨?_,hn⟩
  cases hq:r8 m k with
  | none=>rfl
  | some u=>
   obtain⟨v,hv⟩:=(h.has k).2 (by rw[hq];rfl)
   exact absurd hv (hn v)
theorem TM.put{V:Type}{φ:V→Int→Prop}{t:Tb}{m:List (Int × V)}(h:TM φ t m)(k v:Int)(u:V)(hφ:φ u v):∃r,a6N t k v = .some r∧r.1.length=t.length∧((r.2=0∧TM φ r.1 (m9 m k u)∧((r8 m k).isSome=true∨m.length<t.length))∨(r=(t,8)∧(r8 m k)=none∧m.length=t.length)):=by
 obtain⟨r,hr,hp⟩:=b8r h.R k v
 refine⟨r,hr,b2U hp,?_⟩
 have hRr:=a8U h.R hp
 by_cases h0:r.2=0
 ·left
  have hh:=b5I h.R hp h0
  have hmem:∀k',(∀w,Has r.1 k' w→∃x,r8 (m9 m k u) k' = .some x∧φ x w)∧((r8 (m9 m k u) k').isSome=true→∃w,Has r.1 k' w):=λk'=>by
   rw[a4Q]
   by_cases e:k'=k
   ·subst e
    rw[if_pos rfl]
    refine⟨λw hw=>?_,λ_=>⟨v,(hh _ _).2 (.inl ⟨rfl,rfl⟩)⟩⟩
    rcases (hh _ _).1 hw with ⟨_,rfl⟩ | ⟨q,_⟩
    ·exact⟨u,rfl,hφ⟩
    ·exact absurd rfl q
   ·rw[if_neg e]
    refine⟨λw hw=>?_,λq=>?_⟩
    ·rcases (hh _ _).1 hw with ⟨q,_⟩ | ⟨_,q⟩
     ·exact absurd q e
     ·exact (h.has k').1 w q
    ·obtain⟨w,hw⟩:=(h.has k').2 q
     exact⟨w,(hh _ _).2 (.inr ⟨e,hw⟩)⟩
  have hlen:(keys r.1).length=(m9 m k u).length∧((r8 m k).isSome=true∨m.length<t.length):=by
   rw[c2r]
   cases hp with
   | old i hi=>
    have h1:(r8 m k).isSome=true:=by
     obtain⟨x,h1,_⟩:=(h.has k).1 _ ⟨i,hi,rfl⟩
     rw[h1];rfl
    have:=a9G hi.1 ⟨1,k,v⟩
    rw[if_pos hi.2.1,if_pos rfl,h.len] at this
    rw[if_pos h1]
    exact⟨by simp only;omega,.inl h1⟩
   | new d hn hd hb hf=>
    have h1:(r8 m k)=none:=by
     rcases h.some k with ⟨w,x,hw,_⟩ | ⟨q,_⟩
     ·obtain⟨i,hi,_⟩:=hw
      exact absurd hi (hn i)
     ·exact q
    have hlt:=a2H h.R.l1 k d
    have:=a9G hlt ⟨1,k,v⟩
    rw[if_neg hf,if_pos rfl,h.len] at this
    rw[h1]
    have h2:=c4d hlt hf
    rw[h.len] at h2
    exact⟨by simpa using this,.inr h2⟩
   | full hn ha=>cases h0
  exact⟨h0,⟨hRr,b8i h.nd k u,hlen.1,hmem⟩,hlen.2⟩
 ·right
  cases hp with
  | old i hi=>exact absurd rfl h0
  | new d hn hd hb hf=>exact absurd rfl h0
  | full hn ha=>
   refine⟨rfl,?_,?_⟩
   ·rcases h.some k with ⟨w,x,hw,_⟩ | ⟨q,_⟩
    ·obtain⟨i,hi,_⟩:=hw
     exact absurd hi (hn i)
    ·exact q
   ·rw[←h.len,c0o ha]
theorem TM.drop{V:Type}{φ:V→Int→Prop}{t:Tb}{m:List (Int × V)}(h:TM φ t m)(k:Int):(∃r v u,T6 t k = .some (r,v,0)∧r.length=t.length∧r8 m k = .some u∧φ u v∧TM φ r (b0E m k))∨(T6 t k = .some (t,0,9)∧r8 m k=none∧b0E m k=m):=by
 rcases b1g t k with ⟨i,hi⟩ | hn
 ·left
  obtain⟨u,h1,h2⟩:=(h.has k).1 _ ⟨i,hi,rfl⟩
  refine⟨_,_,u,a7u h.R hi,by simp,h1,h2,a3V h.R hi.1,(c2l m k).nodup h.nd,?_,λk'=>?_⟩
  ·have:=a9G hi.1 ⟨2,0,0⟩
   rw[if_pos hi.2.1,if_neg (by decide),h.len] at this
   rw[c2k,h1]
   simp only[Option.isSome_some,if_true]
   omega
  ·have hh:=b2l h.R hi
   rw[c0s h.nd]
   by_cases e:k'=k
   ·subst e
    rw[if_pos rfl]
    exact⟨λw hw=>absurd rfl ((hh _ _).1 hw).1,λq=>by cases q⟩
   ·rw[if_neg e]
    refine⟨λw hw=>(h.has k').1 w ((hh _ _).1 hw).2,λq=>?_⟩
    obtain⟨w,hw⟩:=(h.has k').2 q
    exact⟨w,(hh _ _).2 ⟨e,hw⟩⟩
 ·right
  have h1:r8 m k=none:=by
   rcases h.some k with ⟨w,x,hw,_⟩ | ⟨q,_⟩
   ·obtain⟨i,hi,_⟩:=hw
    exact absurd hi (hn i)
   ·exact q
  refine⟨a7t h.R hn,h1,?_⟩
  have:∀(l:List (Int × V)),r8 l k=none→b0E l k=l:=by
   intro l
   induction l with
   | nil=>intro _;rfl
   | cons p l ih=>
    intro q
    unfold r8 at q
    unfold b0E
    by_cases e:k=p.1
    ·rw[if_pos (by simpa using e)] at q;cases q
    ·rw[if_neg (by simpa using e)] at q
     rw[if_neg (by simpa using e),ih q]
  exact this m h1
theorem c6J{n:Nat}(h1:1≤n)(h8:n≤8):a9x (n:Int)=some (List.replicate n ⟨0,0,0⟩):=by
 unfold a9x
 rw[if_neg (by simp;omega),b2G (by omega) (by omega)]
 rfl
theorem b2S{n j:Nat}:pt (List.replicate n ⟨0,0,0⟩) j=⟨0,0,0⟩:=by
 unfold pt
 rw[List.getD_eq_getElem?_getD,List.getElem?_replicate]
 split <;> rfl
theorem c7v{V:Type}(φ:V→Int→Prop){n:Nat}(h1:1≤n)(h8:n≤8):TM φ (List.replicate n ⟨0,0,0⟩) []:=by
 refine⟨⟨by simpa using h1,by simpa using h8,λi hi=>?_,λi j hi hj s=>?_,λi hi s=>?_⟩,by simp,?_,λk=>⟨λv hv=>?_,λq=>by cases q⟩⟩
 ·rw[b2S];exact⟨.inl rfl,λ_=>⟨rfl,rfl⟩⟩
 ·rw[b2S] at s;cases s
 ·rw[b2S] at s;cases s
 ·rw[a3s,List.countP_replicate];rfl
 ·obtain⟨i,hi,_⟩:=hv
  have:=hi.2.1
  rw[b2S] at this
  cases this
end Go.Sh
namespace Go.Sh
abbrev pp(p:l5):X4:=⟨p.Key,p.Val⟩
def prs(t:Tb):List l5:=(t.filter (·.State==1)).map λp=>⟨p.Key,p.Val⟩
theorem a9F(t:Tb):keys t=(prs t).map (·.Key):=by
 unfold keys prs
 rw[List.map_map]
 rfl
theorem Z2(t:Tb):(prs t).length=(keys t).length:=by rw[a9F,List.length_map]
theorem a3x{t:Tb}(h:t.length≤8):(prs t).length≤8:=by
 rw[Z2,a3s]
 exact Nat.le_trans List.countP_le_length h
theorem a18{t:Tb}{p:l5}:p∈prs t↔Has t p.Key p.Val:=by
 unfold prs Has
 rw[List.mem_map]
 constructor
 ·rintro⟨q,hq,rfl⟩
  obtain⟨h1,h2⟩:=List.mem_filter.1 hq
  obtain⟨i,hi,rfl⟩:=List.getElem_of_mem h1
  refine⟨i,⟨hi,?_,?_⟩,?_⟩ <;> rw[b1l hi]
  simpa using h2
 ·rintro⟨i,⟨hi,h1,h2⟩,h3⟩
  rw[b1l hi] at h1 h2 h3
  refine⟨t[i],List.mem_filter.2 ⟨List.getElem_mem hi,by simpa using h1⟩,?_⟩
  cases p
  simp at h2 h3 ⊢
  exact⟨h2,h3⟩
theorem b5H{t:Tb}(hR:HR t){j:Nat}(h:j<(prs t).length):I0 t (prs t)[j].Key=some ((prs t)[j].Val,0):=b89 hR (a18.1 (List.getElem_mem h))
theorem c5n{E R:Type}{x:Option E}{r:E}{κ:E→Option R}{y:Option R}(h:x=some r)(hy:κ r=y):((x.bind λe=>some e).bind κ)=y:=by rw[h];exact hy
theorem b61{t:Tb}(hR:HR t):a2e t=some (prs t):=by
 have h8:=hR.l8
 have hp:=a3x h8
 unfold a2e x4 a0K a10
 simp only[jn,d1e]
 rw[keys_eq (by omega),d1e]
 refine c5n (a52 (a06 (prs t).length (λk l=>l=(prs t).take k) (λe=>e=prs t) (by omega) (by simp) ?_ ?_)) rfl
 ·rintro k l hk rfl
  refine .inl ⟨_,?_,rfl⟩
  dsimp only
  rw[if_pos (by rw[←Z2];simpa using hk),n0 (by rw[←Z2];exact hk),d1e]
  have e:(keys t)[k]'(by rw[←Z2];exact hk)=(prs t)[k].Key:=by simp[a9F]
  rw[e,b5H hR hk,d1e,if_pos (by trivial),u4 (by omega) (by simp;omega),d1e,k7 (by omega),List.take_succ_eq_append_getElem hk]
 ·rintro l rfl
  exact⟨_,by rw[←Z2];simp;rfl,by simp⟩
theorem b4F{t:Tb}(hR:HR t):a4W (t.map J3)=some ((prs t).map pp):=by
 have h8:=hR.l8
 have hp:=a3x h8
 unfold a4W
 simp only[jn]
 rw[c26 (by omega),d1e]
 refine O1 (prs t).length (λk l=>l=((prs t).take k).map pp) (by omega) (by simp) ?_ (λl hl=>⟨_,by rw[←Z2];simp;rfl,by rw[hl,List.take_length]⟩)
 rintro k l hk rfl
 refine .inl ⟨_,?_,rfl⟩
 rw[if_pos (by rw[←Z2];simpa using hk),n0 (by rw[←Z2];exact hk),d1e]
 have e:(keys t)[k]'(by rw[←Z2];exact hk)=(prs t)[k].Key:=by simp[a9F]
 rw[e,c22 hR,b5H hR hk,d1e,u4 (by omega) (by simp;omega),d1e,k7 (by omega),List.take_succ_eq_append_getElem hk,List.map_append]
 rfl
def own(t:Tb)(h:Int):Nat:=(prs t).countP λp=>(h != 0)&&(p.Val==h)
theorem c2K{t:Tb}(hR:HR t)(h:Int):a3W t h=some (own t h:Int):=by
 have h8:=hR.l8
 have hp:=a3x h8
 unfold a3W w9 a0K a1Z
 simp only[jn,d1e]
 rw[keys_eq (by omega),d1e]
 refine c5n (r:=(prs t).filter λp=>(h != 0)&&(p.Val==h)) (a52 (a06 (prs t).length (λk l=>l=((prs t).take k).filter λp=>(h != 0)&&(p.Val==h)) (λe=>e=(prs t).filter λp=>(h != 0)&&(p.Val==h)) (by omega) (by simp) ?_ ?_)) (by unfold own;rw[List.countP_eq_length_filter])
 ·rintro k l hk rfl
  refine .inl ⟨((prs t).take (k+1)).filter λp=>(h != 0)&&(p.Val==h),?_,rfl⟩
  dsimp only
  rw[if_pos (by rw[←Z2];simpa using hk),n0 (by rw[←Z2];exact hk),d1e]
  have e:(keys t)[k]'(by rw[←Z2];exact hk)=(prs t)[k].Key:=by simp[a9F]
  have hle:(((prs t).take k).filter λp=>(h != 0)&&(p.Val==h)).length≤8:=Nat.le_trans (List.length_filter_le ..) (by simp;omega)
  rw[e,b5H hR hk,d1e,k7 (by omega),List.take_succ_eq_append_getElem hk,List.filter_append,List.filter_cons,List.filter_nil]
  by_cases c:((h != 0)&&((prs t)[k].Val==h))=true
  ·rw[if_pos c,if_pos c,u4 (by omega) (by simp only[List.length_cons,List.length_nil];omega),d1e]
  ·rw[if_neg c,if_neg c,List.append_nil]
 ·rintro l rfl
  exact⟨_,by rw[←Z2];simp;rfl,by simp⟩
theorem c0S{t:Tb}(hR:HR t)(h:Int):b0O (t.map J3) h=some (own t h:Int):=by
 have h8:=hR.l8
 have hp:=a3x h8
 unfold b0O
 simp only[jn]
 rw[b4F hR,d1e,List.length_map]
 refine b9k (λs=>∃k:Nat,k≤(prs t).length∧s.2=(k:Int)∧s.1=((((prs t).take k).countP λp=>(h != 0)&&(p.Val==h):Nat):Int)) (λs=>(prs t).length+1-s.2.toNat) ⟨0,by omega,rfl,by simp⟩ (by simp;omega) ?_
 rintro⟨_,_⟩ ⟨k,hk,rfl,rfl⟩
 dsimp only
 by_cases hlt:k<(prs t).length
 ·left
  rw[if_pos (by simpa using hlt),a16,n0 hlt,Option.map_some,d1e,k7 (n:=k) (by omega)]
  have hle:(((prs t).take k).countP λp=>(h != 0)&&(p.Val==h))≤8:=Nat.le_trans List.countP_le_length (by simp;omega)
  have hstep:(((prs t).take (k+1)).countP λp=>(h != 0)&&(p.Val==h))=(((prs t).take k).countP λp=>(h != 0)&&(p.Val==h))+if ((h != 0)&&((prs t)[k].Val==h))=true then 1 else 0:=by
   rw[List.take_succ_eq_append_getElem hlt,List.countP_append,List.countP_cons,List.countP_nil,Nat.zero_add]
  by_cases c:((h != 0)&&((prs t)[k].Val==h))=true
  ·rw[if_pos (by simp only[Bool.and_eq_true] at c ⊢;exact⟨c.2,c.1⟩),k7 (by omega)]
   rw[if_pos c] at hstep
   exact⟨_,rfl,⟨k+1,by omega,rfl,by rw[hstep]⟩,by simp;omega⟩
  ·rw[if_neg (by simp only[Bool.and_eq_true] at c ⊢;exact λq=>c ⟨q.2,q.1⟩)]
   rw[if_neg c] at hstep
   exact⟨_,rfl,⟨k+1,by omega,rfl,by rw[hstep];rfl⟩,by simp;omega⟩
 ·right
  have:k=(prs t).length:=by omega
  subst this
  exact⟨_,by rw[if_neg (by simp)],by rw[List.take_length];rfl⟩
theorem b8M{t:Tb}(hR:HR t)(k v:Int):∃r,T3 t k v=some r∧HR r.1∧r.1.length=t.length ∧
  ((k=0∧r=(t,0,2))∨(k≠0∧v=0∧((∃i,Fk t k i∧r=(t.set i ⟨2,0,0⟩,(pt t i).Val,0))∨((∀i,¬Fk t k i)∧r=(t,0,0)))) ∨
   (k≠0∧v≠0∧((∃i,Fk t k i∧r=(t.set i ⟨1,k,v⟩,(pt t i).Val,0))∨(∃d,(∀i,¬Fk t k i)∧d<t.length∧(pt t d).State≠1∧b1z t k v (t.set d ⟨1,k,v⟩,0)∧r=(t.set d ⟨1,k,v⟩,0,0))∨((∀i,¬Fk t k i)∧(∀i,i<t.length→(pt t i).State=1)∧r=(t,0,8))))):=by
 unfold T3
 by_cases hk:k=0
 ·rw[if_pos (by simpa using hk)]
  exact⟨_,rfl,hR,rfl,.inl ⟨hk,rfl⟩⟩
 ·rw[if_neg (by simpa using hk)]
  obtain⟨g,hg,hgv⟩:∃g,I0 t k=some g∧((∃i,Fk t k i∧g=((pt t i).Val,0))∨((∀i,¬Fk t k i)∧g=(0,9))):=by
   rcases b1g t k with ⟨i,hi⟩ | hn
   ·exact⟨_,b8b hR hi,.inl ⟨i,hi,rfl⟩⟩
   ·exact⟨_,b8a hR hn,.inr ⟨hn,rfl⟩⟩
  rw[hg,d1e]
  by_cases hv:v=0
  ·rw[if_pos (by simpa using hv)]
   rcases hgv with ⟨i,hi,rfl⟩ | ⟨hn,rfl⟩
   ·rw[a7u hR hi,d1e]
    exact⟨_,rfl,a3V hR hi.1,by simp,.inr (.inl ⟨hk,hv,.inl ⟨i,hi,rfl⟩⟩)⟩
   ·rw[a7t hR hn,d1e]
    exact⟨_,rfl,hR,rfl,.inr (.inl ⟨hk,hv,.inr ⟨hn,rfl⟩⟩)⟩
  ·rw[if_neg (by simpa using hv)]
   obtain⟨r,hr,hp⟩:=b8r hR k v
   rw[hr,d1e]
   have hRr:=a8U hR hp
   have hl:=b2U hp
   have hp':=hp
   cases hp with
   | old i hi=>
    rcases hgv with ⟨j,hj,rfl⟩ | ⟨hn,rfl⟩
    ·rw[hR.uq j i hj.1 hi.1 hj.2.1 hi.2.1 (hj.2.2.trans hi.2.2.symm)]
     exact⟨_,rfl,hRr,hl,.inr (.inr ⟨hk,hv,.inl ⟨i,hi,rfl⟩⟩)⟩
    ·exact absurd hi (hn i)
   | new d hn hd hb hf=>
    rcases hgv with ⟨j,hj,rfl⟩ | ⟨_,rfl⟩
    ·exact absurd hj (hn j)
    ·exact⟨_,rfl,hRr,hl,.inr (.inr ⟨hk,hv,.inr (.inl ⟨_,hn,a2H hR.l1 k d,hf,hp',rfl⟩)⟩)⟩
   | full hn ha=>exact⟨_,rfl,hR,rfl,.inr (.inr ⟨hk,hv,.inr (.inr ⟨hn,ha,rfl⟩)⟩)⟩
theorem c0U{t:Tb}(hR:HR t)(k v:Int):∃r,T3 t k v=some r∧HR r.1∧r.1.length=t.length∧b5Q (t.map J3) k v=some (r.1.map J3,r.2) ∧
  ((k=0∧r=(t,0,2))∨(k≠0∧v=0∧((∃i,Fk t k i∧r=(t.set i ⟨2,0,0⟩,(pt t i).Val,0))∨((∀i,¬Fk t k i)∧r=(t,0,0)))) ∨
   (k≠0∧v≠0∧((∃i,Fk t k i∧r=(t.set i ⟨1,k,v⟩,(pt t i).Val,0))∨(∃d,(∀i,¬Fk t k i)∧d<t.length∧(pt t d).State≠1∧b1z t k v (t.set d ⟨1,k,v⟩,0)∧r=(t.set d ⟨1,k,v⟩,0,0))∨((∀i,¬Fk t k i)∧(∀i,i<t.length→(pt t i).State=1)∧r=(t,0,8))))):=by
 unfold T3 b5Q
 by_cases hk:k=0
 ·rw[if_pos (by simpa using hk),if_pos (by simpa using hk)]
  exact⟨_,rfl,hR,rfl,rfl,.inl ⟨hk,rfl⟩⟩
 ·rw[if_neg (by simpa using hk),if_neg (by simpa using hk),c22 hR]
  obtain⟨g,hg,hgv⟩:∃g,I0 t k=some g∧((∃i,Fk t k i∧g=((pt t i).Val,0))∨((∀i,¬Fk t k i)∧g=(0,9))):=by
   rcases b1g t k with ⟨i,hi⟩ | hn
   ·exact⟨_,b8b hR hi,.inl ⟨i,hi,rfl⟩⟩
   ·exact⟨_,b8a hR hn,.inr ⟨hn,rfl⟩⟩
  rw[hg,d1e,d1e]
  by_cases hv:v=0
  ·rw[if_pos (by simpa using hv),if_pos (by simpa using hv),c2Z hR]
   rcases hgv with ⟨i,hi,rfl⟩ | ⟨hn,rfl⟩
   ·rw[a7u hR hi,d1e]
    exact⟨_,rfl,a3V hR hi.1,by simp,rfl,.inr (.inl ⟨hk,hv,.inl ⟨i,hi,rfl⟩⟩)⟩
   ·rw[a7t hR hn,d1e]
    exact⟨_,rfl,hR,rfl,rfl,.inr (.inl ⟨hk,hv,.inr ⟨hn,rfl⟩⟩)⟩
  ·rw[if_neg (by simpa using hv),if_neg (by simpa using hv)]
   obtain⟨r,hr,hp⟩:=b8r hR k v
   rw[hr,d1e,c80 hR k v hp,d1e]
   have hRr:=a8U hR hp
   have hl:=b2U hp
   have hp':=hp
   cases hp with
   | old i hi=>
    rcases hgv with ⟨j,hj,rfl⟩ | ⟨hn,rfl⟩
    ·rw[hR.uq j i hj.1 hi.1 hj.2.1 hi.2.1 (hj.2.2.trans hi.2.2.symm)]
     exact⟨_,rfl,hRr,hl,rfl,.inr (.inr ⟨hk,hv,.inl ⟨i,hi,rfl⟩⟩)⟩
    ·exact absurd hi (hn i)
   | new d hn hd hb hf=>
    rcases hgv with ⟨j,hj,rfl⟩ | ⟨_,rfl⟩
    ·exact absurd hj (hn j)
    ·exact⟨_,rfl,hRr,hl,rfl,.inr (.inr ⟨hk,hv,.inr (.inl ⟨_,hn,a2H hR.l1 k d,hf,hp',rfl⟩)⟩)⟩
   | full hn ha=>exact⟨_,rfl,hR,rfl,rfl,.inr (.inr ⟨hk,hv,.inr (.inr ⟨hn,ha,rfl⟩)⟩)⟩
theorem b4y(t:Tb)(h:Int):own t h=t.countP λp=>(p.State==1)&&((h != 0)&&(p.Val==h)):=by
 unfold own prs
 rw[List.countP_map,List.countP_filter]
 congr 1
 funext p
 simp[Bool.and_comm]
theorem b9A{t:Tb}{i:Nat}(hi:i<t.length)(p:b8)(h:Int):own (t.set i p) h+(if (((pt t i).State==1)&&((h != 0)&&((pt t i).Val==h)))=true then 1 else 0)=own t h+if ((p.State==1)&&((h != 0)&&(p.Val==h)))=true then 1 else 0:=by
 rw[b4y,b4y,List.countP_set hi,b1l hi]
 have:(if ((t[i].State==1)&&((h != 0)&&(t[i].Val==h)))=true then 1 else 0)≤t.countP λp=>(p.State==1)&&((h != 0)&&(p.Val==h)):=by
  split
  ·rename_i e
   exact List.countP_pos_iff.2 ⟨t[i],List.getElem_mem hi,e⟩
  ·exact Nat.zero_le _
 omega
theorem b8o{t:Tb}(h8:t.length≤8)(h:Int):own t h≤8:=Nat.le_trans List.countP_le_length (a3x h8)
end Go.Sh
namespace Go.Sh
end Go.Sh
namespace Go.Sh
theorem b7F{t:Tb}(hR:HR t)(ks:List Int)(hks:ks.length≤1000):∃a had,T4 t ks=some (a,had)∧HR a∧a.length=t.length∧had.length≤ks.length∧a4g (t.map J3) ks=some (a.map J3,had) ∧
  (∀k v,Has a k v↔k∉ks∧Has t k v)∧(keys a).length+had.length=(keys t).length∧(∀k v,k∈ks→Has t k v→v∈had)∧∀y,own a y+R4 had y=own t y:=by
 have key:∀n,n≤ks.length→∃a had,HR a∧a.length=t.length∧had.length≤n∧(∀k v,Has a k v↔k∉ks.take n∧Has t k v)∧(keys a).length+had.length=(keys t).length∧(∀k v,k∈ks.take n→Has t k v→v∈had)∧(∀y,own a y+R4 had y=own t y) ∧
   ∃f:Nat→Tb × List Int,f 0=(t,[])∧f n=(a,had)∧∀j,(hj:j<n)→HR (f j).1∧(f j).2.length≤j∧((∃i,∃hjk:j<ks.length,Fk (f j).1 ks[j] i∧f (j+1)=((f j).1.set i ⟨2,0,0⟩,(f j).2 ++ [(pt (f j).1 i).Val]))∨((∀i,∀hjk:j<ks.length,¬Fk (f j).1 ks[j] i)∧f (j+1)=f j)):=by
  intro n
  induction n with
  | zero=>exact λ_=>⟨t,[],hR,rfl,by simp,by simp,by simp,by simp,λy=>by unfold R4;split <;> simp,λ_=>(t,[]),rfl,rfl,λj hj=>by omega⟩
  | succ n ih=>
   intro hn
   obtain⟨a,had,h1,h2,h3,h4,h5,h6,h7,f,f0,fn,fs⟩:=ih (by omega)
   have hlt:n<ks.length:=by omega
   have htk:∀k,k∈ks.take (n+1)↔k∈ks.take n∨k=ks[n]:=λk=>by
    rw[List.take_succ_eq_append_getElem hlt,List.mem_append,List.mem_singleton]
   rcases b1g a ks[n] with ⟨i,hi⟩ | hno
   ·have hd:=b2l h1 hi
    refine⟨a.set i ⟨2,0,0⟩,had ++ [(pt a i).Val],a3V h1 hi.1,by simpa using h2,by simp;omega,λk v=>?_,?_,λk v hk hv=>?_,λy=>?_,λj=>if j=n+1 then (a.set i ⟨2,0,0⟩,had ++ [(pt a i).Val]) else f j,by simp[f0],by simp,λj hj=>?_⟩
    ·rw[hd,h4,htk]
     constructor
     ·rintro⟨q1,q2,q3⟩;exact⟨λq=>q.elim q2 q1,q3⟩
     ·rintro⟨q1,q2⟩;exact⟨λq=>q1 (.inr q),λq=>q1 (.inl q),q2⟩
    ·have:=a9G hi.1 ⟨2,0,0⟩
     rw[if_pos hi.2.1,if_neg (by decide)] at this
     simp only[List.length_append,List.length_cons,List.length_nil]
     omega
    ·rw[List.mem_append]
     rcases (htk k).1 hk with q | q
     ·exact .inl (h6 k v q hv)
     ·subst q
      by_cases q':ks[n]∈ks.take n
      ·exact .inl (h6 _ v q' hv)
      ·have:=(h4 _ _).2 ⟨q',hv⟩
       rw[this.fn h1 ⟨i,hi,rfl⟩]
       exact .inr (by simp)
    ·have:=b9A hi.1 ⟨2,0,0⟩ y
     have h7':=h7 y
     rw[R5]
     have e:R4 [(pt a i).Val] y=if (((pt a i).State==1)&&((y != 0)&&((pt a i).Val==y)))=true then 1 else 0:=by
      rw[hi.2.1]
      unfold R4
      by_cases y0:y=0
      ·simp[y0]
      ·by_cases e:(pt a i).Val=y
       ·simp[y0,e]
       ·simp[y0,e]
     rw[e]
     rw[if_neg (show ¬((((2:Int)==1)&&((y != 0)&&((0:Int)==y)))=true) by simp)] at this
     omega
    ·rcases Nat.lt_or_ge j n with q | q
     ·have:=fs j q
      dsimp only
      rw[if_neg (by omega),if_neg (by omega)]
      exact this
     ·have:j=n:=by omega
      subst this
      dsimp only
      rw[if_neg (by omega),if_pos rfl,fn]
      exact⟨h1,h3,.inl ⟨i,hlt,hi,rfl⟩⟩
   ·refine⟨a,had,h1,h2,by omega,λk v=>?_,h5,λk v hk hv=>?_,h7,λj=>if j=n+1 then (a,had) else f j,by simp[f0],by simp,λj hj=>?_⟩
    ·rw[h4,htk]
     constructor
     ·rintro⟨q1,q2⟩
      refine⟨λq=>q.elim q1 λq=>?_,q2⟩
      subst q
      obtain⟨i,hi,_⟩:=(h4 _ _).2 ⟨q1,q2⟩
      exact hno i hi
     ·rintro⟨q1,q2⟩;exact⟨λq=>q1 (.inl q),q2⟩
    ·rcases (htk k).1 hk with q | q
     ·exact h6 k v q hv
     ·subst q
      by_cases q':ks[n]∈ks.take n
      ·exact h6 _ v q' hv
      ·obtain⟨i,hi,_⟩:=(h4 _ _).2 ⟨q',hv⟩
       exact absurd hi (hno i)
    ·rcases Nat.lt_or_ge j n with q | q
     ·have:=fs j q
      dsimp only
      rw[if_neg (by omega),if_neg (by omega)]
      exact this
     ·have:j=n:=by omega
      subst this
      dsimp only
      rw[if_neg (by omega),if_pos rfl,fn]
      exact⟨h1,h3,.inr ⟨λi _=>hno i,rfl⟩⟩
 obtain⟨a,had,h1,h2,h3,h4,h5,h6,h7,f,f0,fn,fs⟩:=key ks.length (Nat.le_refl _)
 rw[List.take_length] at h4 h6
 refine⟨a,had,?_,h1,h2,h3,?_,h4,h5,h6,h7⟩
 ·unfold T4
  simp only[jn]
  refine a3t (λj=>((f j).1,(j:Int),(f j).2)) (by rw[f0];rfl) ks.length (λ_=>True) (by omega) trivial (λj hj _=>?_) (λ_=>⟨(a,had),by dsimp only;rw[if_neg (by simp),fn],rfl⟩)
  obtain⟨g1,g2,g3⟩:=fs j hj
  left
  refine⟨?_,trivial⟩
  dsimp only
  rw[if_pos (by simpa using hj),n0 hj,d1e,k7 (by omega)]
  rcases g3 with ⟨i,_,hi,e⟩ | ⟨hno,e⟩
  ·rw[a7u g1 hi,d1e,e]
   dsimp only
   rw[if_pos (by decide),u4 (by omega) (by simp;omega),d1e]
  ·rw[a7t g1 (λi=>hno i hj),d1e,e]
   dsimp only
   rw[if_neg (by decide)]
 ·unfold a4g
  simp only[jn]
  refine a3t (λj=>((f j).1.map J3,(j:Int),(f j).2)) (by rw[f0];rfl) ks.length (λ_=>True) (by omega) trivial (λj hj _=>?_) (λ_=>⟨(a.map J3,had),by dsimp only;rw[if_neg (by simp),fn],rfl⟩)
  obtain⟨g1,g2,g3⟩:=fs j hj
  left
  refine⟨?_,trivial⟩
  dsimp only
  rw[if_pos (by simpa using hj),n0 hj,d1e,k7 (by omega),c2Z g1]
  rcases g3 with ⟨i,_,hi,e⟩ | ⟨hno,e⟩
  ·rw[a7u g1 hi,Option.map_some,d1e,e]
   dsimp only
   rw[if_pos (by decide),u4 (by omega) (by simp;omega),d1e]
  ·rw[a7t g1 (λi=>hno i hj),Option.map_some,d1e,e]
   dsimp only
   rw[if_neg (by decide)]
end Go.Sh
namespace Go.Sh
theorem c0m(t:Tb)(h:t.length≤1000):∃b,a5v t=some b∧(b=true↔HR t):=by
 unfold a5v
 by_cases hl:1≤t.length∧t.length≤8
 ·obtain⟨h1,h8⟩:=hl
  rw[if_neg (by simp;omega)]
  simp only[jn]
  suffices hs:∀(b:Bool),(b=true↔HR t)→_=some b by
   by_cases q:HR t
   ·exact⟨true,hs true (by simp[q]),by simp[q]⟩
   ·exact⟨false,hs false (by simp[q]),by simp[q]⟩
  intro b hb
  let Ok':Nat→Prop:=λi=>((pt t i)=⟨0,0,0⟩∨(pt t i)=⟨2,0,0⟩)∨(pt t i).State=1∧I8 t (pt t i).Key=some (i:Int)
  have hall:(∀i,i<t.length→Ok' i)↔HR t:=by
   constructor
   ·intro hO
    have full:∀i,i<t.length→(pt t i).State=1→I8 t (pt t i).Key=some (i:Int):=λi hi s=>by
     rcases hO i hi with (e | e) | e
     ·rw[e] at s;cases s
     ·rw[e] at s;cases s
     ·exact e.2
    refine⟨h1,h8,λi hi=>?_,λi j hi hj s1 s2 hk=>?_,λi hi s d hd hne=>?_⟩
    ·rcases hO i hi with (e | e) | e
     ·rw[e];exact⟨.inl rfl,λ_=>⟨rfl,rfl⟩⟩
     ·rw[e];exact⟨.inr (.inr rfl),λ_=>⟨rfl,rfl⟩⟩
     ·exact⟨.inr (.inl e.1),λq=>absurd e.1 q⟩
    ·have e1:=full i hi s1
     have e2:=full j hj s2
     rw[hk,e2] at e1
     cases e1
     rfl
    ·have e1:=full i hi s
     rcases a7w h1 h8 (pt t i).Key with ⟨d0,a1,a2,a3,a4⟩ | ⟨d0,a1,a2,a3,a4⟩
     ·rw[e1] at a4
      have a5:pos t.length (pt t i).Key d0=i:=by have:=Option.some.inj a4;omega
      rcases Nat.lt_or_ge d d0 with q | q
      ·exact (a2 d q).1
      ·exact absurd a5 (hne d0 q)
     ·rw[e1] at a4
      cases a4
   ·intro hR i hi
    rcases (hR.st i hi).1 with s | s | s
    ·have:=(hR.st i hi).2 (by omega)
     exact .inl (.inl (by cases hp:pt t i;rw[hp] at s this;simp at s this;simp[s,this]))
    ·exact .inr ⟨s,a3Y hR ⟨hi,s,rfl⟩⟩
    ·have:=(hR.st i hi).2 (by omega)
     exact .inl (.inr (by cases hp:pt t i;rw[hp] at s this;simp at s this;simp[s,this]))
  refine M0 t.length (λi=>∀j,j<i→Ok' j) (by omega) (λj hj=>by omega) (λi hi hP=>?_) (λhP=>⟨.inr (),by simp,by
   simp only
   rw[hb.2 (hall.1 hP)]⟩)
  have good:Ok' i→∀j,j<i+1→Ok' j:=λo j hj=>by
   rcases Nat.lt_or_ge j i with q | q
   ·exact hP j q
   ·have:j=i:=by omega
    subst this;exact o
  have bad:¬Ok' i→some false=some b:=λo=>by
   have:b=false:=by
    cases hbb:b with
    | false=>rfl
    | true=>exact absurd (hall.2 (hb.1 hbb) i hi) o
   rw[this]
  rw[if_pos (by simpa using hi),b2B hi,d1e,k7 (by omega)]
  by_cases a:pt t i=⟨0,0,0⟩∨pt t i=⟨2,0,0⟩
  ·refine .inl ⟨?_,good (.inl a)⟩
   rcases a with a | a <;> rw[a] <;> simp[p8]
  ·have hne:(!(((pt t i).State==0)&&(((pt t i).Key==0)&&(((pt t i).Val==0)&&true))||((pt t i).State==2)&&(((pt t i).Key==0)&&(((pt t i).Val==0)&&true))))=true:=by
    cases hp:pt t i with
    | mk s k v=>
     rw[hp] at a
     simp at a ⊢
     omega
   rw[hne]
   by_cases s:(pt t i).State=1
   ·rw[show ((pt t i).State != 1)=false by simpa using s]
    obtain⟨r,hr⟩:∃r,I8 t (pt t i).Key=some r:=by
     rcases a7w h1 h8 (pt t i).Key with ⟨d,_,_,_,e⟩ | ⟨d,_,_,_,e⟩
     ·exact⟨_,e⟩
     ·exact⟨_,e⟩
    simp only[p8,beq_self_eq_true,Bool.and_self,if_true,hr,d1e,Bool.false_or,Bool.true_and]
    by_cases e:r=i
    ·rw[if_neg (by simpa using e)]
     exact .inl ⟨rfl,good (.inr ⟨s,by rw[hr,e]⟩)⟩
    ·rw[if_pos (by simpa using e)]
     refine .inr ⟨_,rfl,bad λo=>?_⟩
     rcases o with o | o
     ·exact a o
     ·rw[hr] at o;exact e (Option.some.inj o.2)
   ·rw[show ((pt t i).State != 1)=true by simpa using s]
    simp only[p8,beq_self_eq_true,Bool.true_and,Bool.true_or,if_true]
    refine .inr ⟨.inl false,by simp,bad λo=>?_⟩
    rcases o with o | o
    ·exact a o
    ·exact s o.1
 ·rw[if_pos (by simp;omega)]
  exact⟨false,rfl,⟨λq=>(by cases q),λhR=>absurd ⟨hR.l1,hR.l8⟩ hl⟩⟩
end Go.Sh
namespace Go.Sh
inductive a0g (s:a7) (t:Tb) (l:List Int):Int→Prop
 | base {h:Int}:h∈l→h∈lv s→a0g s t l h
 | step {a b:Int}:a0g s t l a→b∈outs s a→b∈lv s→a0g s t l b
 | pair {k v:Int}:Has t k v→a0g s t l k→v∈lv s→a0g s t l v
open Classical in
noncomputable def frc (s:a7) (t:Tb) (l:List Int):List Int:=(lv s).filter λh=>decide (a0g s t l h)
open Classical in
noncomputable def fls (s:a7) (t:Tb) (l:List Int):List Int:=(lv s).filter λh=>decide (¬a0g s t l h)
noncomputable def owd(s:a7)(t:Tb)(l:List Int):List Int:=((prs t).filter λp=>decide (p.Key∈l∧p.Key∈lv s∧p.Val∈lv s)).map (·.Val)
def TB(t:Tb):Prop:=∀p∈t,p.Key≤9223372036854775807∧p.Val≤9223372036854775807
def PCl(s:a7)(t:Tb)(l:List Int):Prop:=∀k v,Has t k v→k∈l→k∈lv s→v∈lv s→v∈l
theorem TB.has{t:Tb}(h:TB t){k v:Int}(q:Has t k v):k≤9223372036854775807∧v≤9223372036854775807:=by
 obtain⟨i,⟨h1,_,h2⟩,h3⟩:=q
 rw[b1l h1] at h2 h3
 have:=h _ (List.getElem_mem h1)
 rw[h2,h3] at this
 exact this
theorem a0g.live{s:a7}{t:Tb}{l:List Int}{h:Int}(q:a0g s t l h):h∈lv s:=by cases q <;> assumption
open Classical in
theorem a5t {s:a7} {t:Tb} {l:List Int} {h:Int}:h∈frc s t l↔a0g s t l h:=by
 unfold frc
 rw[List.mem_filter]
 exact⟨λq=>of_decide_eq_true q.2,λq=>⟨q.live,decide_eq_true q⟩⟩
theorem b5d{s:a7}(hR:RtR (sO s))(t:Tb)(l:List Int):(frc s t l).length≤24:=Nat.le_trans (List.length_filter_le ..) (E8 hR)
theorem c6m{s:a7}(hR:RtR (sO s))(t:Tb)(l:List Int):LB (frc s t l):=λx hx=>by have:=a4t hR (a5t.1 hx).live;omega
theorem c7b{s:a7}(hR:RtR (sO s))(l:List Int):LB (rcd s l):=λx hx=>by have:=a4t hR (V8.1 hx).live;omega
theorem c6l(s:a7)(t:Tb)(l:List Int):Cl s (frc s t l):=λa ha b hb hl=>a5t.2 (.step (a5t.1 ha) hb hl)
theorem a0g.least{s:a7}{t:Tb}{l m:List Int}(hc:Cl s m)(hp:PCl s t m)(hl:∀x∈l,x∈lv s→x∈m){h:Int}(q:a0g s t l h):h∈m:=by
 induction q with
 | base h1 h2=>exact hl _ h1 h2
 | step _ h1 h2 ih=>exact hc _ ih _ h1 h2
 | pair h1 h2 h3 ih=>exact hp _ _ h1 ih h2.live h3
theorem a0g.mono{s:a7}{t u:Tb}{l m:List Int}(ht:∀k v,Has t k v→Has u k v)(hl:∀x∈l,x∈lv s→a0g s u m x){h:Int}(q:a0g s t l h):a0g s u m h:=by
 induction q with
 | base h1 h2=>exact hl _ h1 h2
 | step _ h1 h2 ih=>exact .step ih h1 h2
 | pair h1 _ h3 ih=>exact .pair (ht _ _ h1) ih h3
theorem Rch.c9R{s:a7}(t:Tb){l:List Int}{h:Int}(q:Rch s l h):a0g s t l h:=by
 induction q with
 | base h1 h2=>exact .base h1 h2
 | step _ h1 h2 ih=>exact .step ih h1 h2
theorem a9P{s:a7}{t:Tb}{l:List Int}{v:Int}:v∈owd s t l↔∃k,Has t k v∧k∈l∧k∈lv s∧v∈lv s:=by
 unfold owd
 rw[List.mem_map]
 constructor
 ·rintro⟨p,hp,rfl⟩
  obtain⟨h1,h2⟩:=List.mem_filter.1 hp
  exact⟨p.Key,a18.1 h1,of_decide_eq_true h2⟩
 ·rintro⟨k,h1,h2⟩
  exact⟨⟨k,v⟩,List.mem_filter.2 ⟨a18.2 h1,decide_eq_true h2⟩,rfl⟩
theorem b5E{s:a7}{t:Tb}{l:List Int}:(∀v∈owd s t l,v∈l)↔PCl s t l:=by
 constructor
 ·exact λh k v h1 h2 h3 h4=>h v (a9P.2 ⟨k,h1,h2,h3,h4⟩)
 ·intro h v hv
  obtain⟨k,h1,h2,h3,h4⟩:=a9P.1 hv
  exact h k v h1 h2 h3 h4
theorem b5F{s:a7}{t:Tb}(hT:HR t)(l:List Int):(owd s t l).length≤8:=by
 unfold owd
 rw[List.length_map]
 exact Nat.le_trans (List.length_filter_le ..) (a3x hT.l8)
theorem c6Y{s:a7}(hR:RtR (sO s))(t:Tb)(l:List Int):LB (owd s t l):=λx hx=>by
 obtain⟨_,_,_,_,h⟩:=a9P.1 hx
 have:=a4t hR h
 omega
noncomputable def E9(s:a7)(t:Tb)(l:List Int):Nat→List Int
 | 0=>rcd s l
 | k+1=>rcd s (E9 s t l k++owd s t (E9 s t l k))
section
variable{s:a7}{t:Tb}{l:List Int}
theorem b0U(k:Nat):E9 s t l (k+1)=rcd s (E9 s t l k++owd s t (E9 s t l k)):=rfl
theorem a42(k:Nat):∃m,E9 s t l k=rcd s m:=by
 cases k with
 | zero=>exact⟨_,rfl⟩
 | succ k=>exact⟨_,rfl⟩
theorem c4V(k:Nat):Cl s (E9 s t l k):=by
 obtain⟨m,e⟩:=a42 (s:=s) (t:=t) (l:=l) k
 rw[e]
 exact c7a s m
theorem c0P(k:Nat){x:Int}(h:x∈E9 s t l k):x∈lv s:=by
 obtain⟨m,e⟩:=a42 (s:=s) (t:=t) (l:=l) k
 rw[e] at h
 exact (V8.1 h).live
theorem b7l(k:Nat){x:Int}(h:x∈E9 s t l k):x∈E9 s t l (k+1):=V8.2 (.base (List.mem_append.2 (.inl h)) (c0P k h))
theorem c0O(k:Nat):∀x∈l,x∈lv s→x∈E9 s t l k:=by
 induction k with
 | zero=>exact λx h1 h2=>V8.2 (.base h1 h2)
 | succ k ih=>exact λx h1 h2=>b7l k (ih x h1 h2)
theorem c3a(k:Nat):∀x∈E9 s t l k,a0g s t l x:=by
 induction k with
 | zero=>exact λx h=>(V8.1 h).c9R t
 | succ k ih=>
  intro x h
  have:=V8.1 h
  induction this with
  | base h1 h2=>
   rcases List.mem_append.1 h1 with q | q
   ·exact ih _ q
   ·obtain⟨k',q1,q2,q3,q4⟩:=a9P.1 q
    exact .pair q1 (ih _ q2) q4
  | step h0 h1 h2 ih2=>exact .step (ih2 (V8.2 h0)) h1 h2
theorem b4E{k:Nat}(h:PCl s t (E9 s t l k)):E9 s t l k=frc s t l:=by
 obtain⟨m,e⟩:=a42 (s:=s) (t:=t) (l:=l) k
 have hm:∀x,Rch s m x↔a0g s t l x:=λx=>by
  rw[←V8,←e]
  exact⟨c3a k x,λq=>q.least (c4V k) h (c0O k)⟩
 rw[e]
 unfold rcd frc
 exact List.filter_congr λx _=>decide_eq_decide.2 (hm x)
theorem b8C{k:Nat}(h:PCl s t (E9 s t l k)):E9 s t l (k+1)=E9 s t l k:=by
 obtain⟨m,e⟩:=a42 (s:=s) (t:=t) (l:=l) k
 rw[b0U]
 have h':=b5E.2 h
 rw[e] at h' ⊢
 refine b4C λx=>⟨λq=>?_,λq=>.base (List.mem_append.2 (.inl (V8.2 q))) q.live⟩
 refine q.mono λy hy _=>?_
 rcases List.mem_append.1 hy with c | c
 ·exact V8.1 c
 ·exact V8.1 (h' y c)
theorem b0T{k:Nat}(h:¬PCl s t (E9 s t l k)):((prs t).filter λp=>decide (p.Val∈E9 s t l k)).length<((prs t).filter λp=>decide (p.Val∈E9 s t l (k+1))).length:=by
 obtain⟨v,hv,hn⟩:∃v,v∈owd s t (E9 s t l k)∧v∉E9 s t l k:=Classical.byContradiction λq=>h (b5E.1 λv hv=>Classical.byContradiction λq2=>q ⟨v,hv,q2⟩)
 obtain⟨k',h1,h2,h3,h4⟩:=a9P.1 hv
 refine filter_lt (λp _ hp=>?_) ⟨k',v⟩ (a18.2 h1) ?_ ?_
 ·rw[decide_eq_true_iff] at hp ⊢
  exact b7l k hp
 ·rw[decide_eq_true_iff]
  exact V8.2 (.base (List.mem_append.2 (.inr hv)) h4)
 ·exact decide_eq_false hn
theorem a91(s:a7)(t:Tb)(l:List Int):∃n,n≤(prs t).length∧PCl s t (E9 s t l n)∧∀j,j<n→¬PCl s t (E9 s t l j):=by
 have key:∀k,(∃j,j≤k∧PCl s t (E9 s t l j))∨k<((prs t).filter λp=>decide (p.Val∈E9 s t l (k+1))).length:=by
  intro k
  induction k with
  | zero=>
   by_cases h:PCl s t (E9 s t l 0)
   ·exact .inl ⟨0,Nat.le_refl _,h⟩
   ·have:=b0T h
    exact .inr (by omega)
  | succ k ih=>
   rcases ih with ⟨j,h1,h2⟩ | ih
   ·exact .inl ⟨j,by omega,h2⟩
   ·by_cases h:PCl s t (E9 s t l (k+1))
    ·exact .inl ⟨k+1,Nat.le_refl _,h⟩
    ·have:=b0T h
     exact .inr (by omega)
 obtain⟨j,h1,h2⟩:∃j,j≤(prs t).length∧PCl s t (E9 s t l j):=by
  rcases key (prs t).length with q | q
  ·exact q
  ·have:=List.length_filter_le (λp:l5=>decide (p.Val∈E9 s t l ((prs t).length+1))) (prs t)
   omega
 obtain⟨n,hn,hmin⟩:=a0y (p:=λj=>PCl s t (E9 s t l j)) ⟨j,h2⟩
 exact⟨n,Nat.le_trans (hmin j h2) h1,hn,λi hi q=>by have:=hmin i q;omega⟩
end
noncomputable def rnd(s:a7)(t:Tb)(l:List Int):Nat:=Classical.choose (a91 s t l)
theorem c29(s:a7)(t:Tb)(l:List Int):rnd s t l≤(prs t).length:=(Classical.choose_spec (a91 s t l)).1
theorem b7k(s:a7)(t:Tb)(l:List Int):PCl s t (E9 s t l (rnd s t l)):=(Classical.choose_spec (a91 s t l)).2.1
theorem b9N(s:a7)(t:Tb)(l:List Int){j:Nat}(h:j<rnd s t l):¬PCl s t (E9 s t l j):=(Classical.choose_spec (a91 s t l)).2.2 j h
section
variable{s:a7}(hR:RtR (sO s)){t:Tb}(hT:HR t)(hTB:TB t)
include hR hT hTB
omit hT hTB in
theorem b4p {h:Int} (hh:h≤9223372036854775807):a3m h s=some (decide (h∈lv s)):=by
 obtain⟨e,h1,h2⟩:=N2 hR hh
 unfold a3m
 rw[h1,d1e]
 congr 1
 rw[Bool.eq_iff_iff,beq_iff_eq,decide_eq_true_iff]
 exact h2
omit hT hTB in
theorem b2F {h:Int} (hh:h≤9223372036854775807):a7F (sO s) h=some (decide (h∈lv s)):=by
 obtain⟨e,h1,h2⟩:=N2 hR hh
 unfold a7F
 rw[a4F s (by have:=a1i hR;omega) hh,h1]
 simp only[Option.map_some,d1e]
 congr 1
 rw[Bool.eq_iff_iff,beq_iff_eq,decide_eq_true_iff]
 exact h2
theorem b9y{l:List Int}(hl:l.length≤1000000):a9m s t l=some (owd s t l):=by
 unfold a9m
 simp only[jn,b61 hT,d1e]
 have h8:=a3x hT.l8
 rw[B8 ((prs t)) (λb p=>b++(if decide (p.Key∈l∧p.Key∈lv s∧p.Val∈lv s) then [p.Val] else [])) id (λk b=>b.length≤k) (by omega) (by simp) (λk hk b hb=>?_) (λb _=>?_)]
 ·simp only[d1e,id]
  rw[a1F]
  congr 1
  unfold owd
  rw[List.nil_append]
  generalize prs t=P
  induction P with
  | nil=>rfl
  | cons p P ih=>
   rw[List.flatMap_cons,List.filter_cons,ih]
   by_cases q:p.Key∈l∧p.Key∈lv s∧p.Val∈lv s
   ·simp[q]
   ·simp[q]
 ·have hb':=hTB.has (a18.1 (List.getElem_mem hk))
  simp only[Int.ofNat_lt,hk,decide_true,if_true,n0 hk,d1e,contains_eq _ _ hl]
  rw[b4p hR hb'.1,b4p hR hb'.2]
  by_cases q1:(prs t)[k].Key∈l
  ·rw[decide_eq_true q1]
   simp only[beq_self_eq_true,X0,d1e,Bool.true_and]
   by_cases q2:(prs t)[k].Key∈lv s
   ·rw[decide_eq_true q2]
    simp only[beq_self_eq_true,X0,d1e,Bool.true_and]
    by_cases q3:(prs t)[k].Val∈lv s
    ·rw[if_pos (by simpa using q3),u4 (by omega) (by simp;omega),d1e,k7,if_pos (by simp[q1,q2,q3])]
     exact⟨rfl,by simp;omega⟩
    ·rw[if_neg (by simpa using q3),k7,if_neg (by simp[q3]),List.append_nil]
     exact⟨rfl,by omega⟩
   ·rw[decide_eq_false q2]
    simp only[show ((false==true):Bool)=false from rfl,b2N,d1e,Bool.false_and,Bool.false_eq_true,if_false]
    rw[k7,if_neg (by simp[q2]),List.append_nil]
    exact⟨rfl,by omega⟩
  ·rw[decide_eq_false q1]
   simp only[show ((false==true):Bool)=false from rfl,b2N,d1e,Bool.false_and,Bool.false_eq_true,if_false]
   rw[k7,if_neg (by simp[q1]),List.append_nil]
   exact⟨rfl,by omega⟩
 ·simp only[Int.lt_irrefl,decide_false,Bool.false_eq_true,if_false]
  rfl
theorem c0k{l:List Int}(hl:l.length≤1000000):a9U (sO s) (t.map J3) l=some (owd s t l):=by
 unfold a9U
 simp only[jn,b4F hT,d1e]
 have h8:=a3x hT.l8
 rw[B8 ((prs t)) (λb p=>b++(if decide (p.Key∈l∧p.Key∈lv s∧p.Val∈lv s) then [p.Val] else [])) id (λk b=>b.length≤k) (by omega) (by simp) (λk hk b hb=>?_) (λb _=>?_)]
 ·simp only[d1e,id]
  rw[a1F]
  congr 1
  unfold owd
  rw[List.nil_append]
  generalize prs t=P
  induction P with
  | nil=>rfl
  | cons p P ih=>
   rw[List.flatMap_cons,List.filter_cons,ih]
   by_cases q:p.Key∈l∧p.Key∈lv s∧p.Val∈lv s
   ·simp[q]
   ·simp[q]
 ·have hb':=hTB.has (a18.1 (List.getElem_mem hk))
  have hk':k<((prs t).map pp).length:=by simpa using hk
  have eix:ix ((prs t).map pp) (k:Int)=some (pp (prs t)[k]):=by rw[a16,n0 hk];rfl
  simp only[List.length_map,Int.ofNat_lt,hk,decide_true,if_true,eix,d1e,a9t _ _ hl,pp]
  rw[b2F hR hb'.1,b2F hR hb'.2]
  simp only[d1e]
  by_cases q1:(prs t)[k].Key∈lv s
  ·rw[decide_eq_true q1]
   simp only[beq_self_eq_true,X0,d1e,Bool.true_and]
   have h0:=b9m hR _ q1
   by_cases q2:(prs t)[k].Key∈l
   ·rw[decide_eq_true (show (prs t)[k].Key≠0∧(prs t)[k].Key∈l from ⟨h0,q2⟩)]
    simp only[beq_self_eq_true,X0,d1e,Bool.true_and]
    by_cases q3:(prs t)[k].Val∈lv s
    ·rw[if_pos (by simpa using q3),u4 (by omega) (by simp;omega),d1e,k7,if_pos (by simp[q1,q2,q3])]
     exact⟨rfl,by simp;omega⟩
    ·rw[if_neg (by simpa using q3),k7,if_neg (by simp[q3]),List.append_nil]
     exact⟨rfl,by omega⟩
   ·rw[decide_eq_false (show ¬((prs t)[k].Key≠0∧(prs t)[k].Key∈l) from λq=>q2 q.2)]
    simp only[show ((false==true):Bool)=false from rfl,b2N,d1e,Bool.false_and,Bool.false_eq_true,if_false]
    rw[k7,if_neg (by simp[q2]),List.append_nil]
    exact⟨rfl,by omega⟩
  ·rw[decide_eq_false q1]
   simp only[show ((false==true):Bool)=false from rfl,b2N,d1e,Bool.false_and,Bool.false_eq_true,if_false]
   rw[k7,if_neg (by simp[q1]),List.append_nil]
   exact⟨rfl,by omega⟩
 ·simp only[List.length_map,Int.lt_irrefl,decide_false,Bool.false_eq_true,if_false]
  rfl
theorem c12(hF:FB s){l:List Int}(hl:LB l)(hlen:l.length≤1000000):a7x s t l=some (frc s t l,(rnd s t l:Int)):=by
 unfold a7x
 rw[b88 hR hF hl hlen,d1e]
 simp only[jn]
 have hn:=c29 s t l
 have h8:=a3x hT.l8
 have hstep:∀k,∃m,E9 s t l k=rcd s m:=a42
 refine a3t (p:=λk=>(E9 s t l k,(k:Int))) rfl (rnd s t l) (λ_=>True) (by omega) trivial (λk hk _=>.inl ⟨?_,trivial⟩) (λ_=>?_)
 ·obtain⟨m,hm⟩:=hstep k
  have hlk:(E9 s t l k).length≤24:=by rw[hm];exact b9C hR m
  have hlb:LB (E9 s t l k):=by rw[hm];exact c7b hR m
  have hno:=b9N s t l hk
  simp only
  rw[b9y hR hT hTB (by omega),d1e]
  have ho:=b5F (s:=s) hT (E9 s t l k)
  obtain⟨j,⟨hj,hjn⟩,hmin⟩:=a0y (p:=λj=>∃hj:j<(owd s t (E9 s t l k)).length,(owd s t (E9 s t l k))[j]∉E9 s t l k) (by
   refine Classical.byContradiction λq=>hno (b5E.1 λv hv=>Classical.byContradiction λq2=>?_)
   obtain⟨j,hj,e⟩:=List.mem_iff_getElem.1 hv
   exact q ⟨j,hj,by rw[e];exact q2⟩)
  refine M0 (owd s t (E9 s t l k)).length (λi=>i≤j) (by omega) (Nat.zero_le _) (λi hi hP=>?_) (λhP=>by omega)
  simp only[Int.ofNat_lt,hi,decide_true,if_true,n0 hi,d1e]
  rw[contains_eq _ _ (by omega),d1e]
  rcases Nat.lt_or_ge i j with q | q
  ·refine .inl ⟨?_,q⟩
   have:(owd s t (E9 s t l k))[i]∈E9 s t l k:=Classical.byContradiction λq2=>by have:=hmin i ⟨hi,q2⟩;omega
   rw[if_neg (by simp[this]),k7]
  ·have:i=j:=by omega
   subst this
   refine .inr ⟨.inl (E9 s t l (k+1),((k+1:Nat):Int)),?_,rfl⟩
   rw[if_pos (by simp[hjn]),u4 (by omega) (by omega),d1e,b88 hR hF (λx hx=>by
    rcases List.mem_append.1 hx with q | q
    ·exact c6Y hR t _ x q
    ·exact hlb x q) (by simp;omega),d1e,k7,b0U]
   rw[b4C (l:=owd s t (E9 s t l k)++E9 s t l k) (m:=E9 s t l k++owd s t (E9 s t l k)) λx=>⟨λq=>q.mono λy hy hyl=>.base (List.mem_append.2 (List.mem_append.1 hy).symm) hyl,λq=>q.mono λy hy hyl=>.base (List.mem_append.2 (List.mem_append.1 hy).symm) hyl⟩]
 ·have hst:=b7k s t l
  have hfr:=b4E hst
  refine⟨(frc s t l,(rnd s t l:Int)),?_,rfl⟩
  simp only
  rw[hfr] at hst ⊢
  have hfl:=b5d hR t l
  rw[b9y hR hT hTB (by omega),d1e]
  have ho:=b5F (s:=s) hT (frc s t l)
  refine M0 (owd s t (frc s t l)).length (λ_=>True) (by omega) trivial (λi hi _=>.inl ⟨?_,trivial⟩) (λ_=>⟨.inr (),by simp,rfl⟩)
  have:=b5E.2 hst _ (List.getElem_mem hi)
  simp only[Int.ofNat_lt,hi,decide_true,if_true,n0 hi,d1e]
  rw[contains_eq _ _ (by omega),d1e,if_neg (by simp[this]),k7]
theorem b7m{l:List Int}(hlen:l.length≤1000000):a8X (sO s) (t.map J3) l=some (frc s t l,(rnd s t l:Int)):=by
 unfold a8X
 rw[b4h hR hlen,d1e]
 simp only[jn]
 have hn:=c29 s t l
 have h8:=a3x hT.l8
 have hone:∀k,a62 (sO s) (E9 s t l k++owd s t (E9 s t l k))=some (E9 s t l (k+1))∧(E9 s t l k).length≤24∧(owd s t (E9 s t l k)).length≤8∧a9U (sO s) (t.map J3) (E9 s t l k)=some (owd s t (E9 s t l k)):=λk=>by
  obtain⟨m,hm⟩:=a42 (s:=s) (t:=t) (l:=l) k
  have hlk:(E9 s t l k).length≤24:=by rw[hm];exact b9C hR m
  have ho:=b5F (s:=s) hT (E9 s t l k)
  exact⟨by rw[b4h hR (by simp;omega),b0U],hlk,ho,c0k hR hT hTB (by omega)⟩
 refine a3t (p:=λk=>(E9 s t l k,(k:Int))) rfl (rnd s t l) (λ_=>True) (by omega) trivial (λk hk _=>.inl ⟨?_,trivial⟩) (λ_=>?_)
 ·obtain⟨h1,h2,h3,h4⟩:=hone k
  obtain⟨_,h2',_,_⟩:=hone (k+1)
  have hne:E9 s t l (k+1)≠E9 s t l k:=λe=>by
   have:=b0T (b9N s t l hk)
   rw[e] at this
   omega
  simp only
  rw[if_pos (by simp;omega),J8 (by omega) (by omega),d1e,h4,d1e,u4 (by omega) (by omega),d1e,h1,d1e,b8X _ _ (by omega),d1e,if_neg (by simpa using hne),k7]
 ·obtain⟨h1,h2,h3,h4⟩:=hone (rnd s t l)
  obtain⟨_,h2',_,_⟩:=hone (rnd s t l+1)
  have hst:=b7k s t l
  refine⟨.inl (frc s t l,(rnd s t l:Int)),?_,rfl⟩
  simp only
  rw[if_pos (by simp;omega),J8 (by omega) (by omega),d1e,h4,d1e,u4 (by omega) (by omega),d1e,h1,d1e,b8X _ _ (by omega),d1e,if_pos (by simpa using b8C hst),b4E hst]
theorem c1P(hF:FB s){l:List Int}(hl:LB l)(hlen:l.length≤1000000):a9l s t l=some (frc s t l):=by
 unfold a9l
 rw[c12 hR hT hTB hF hl hlen]
 rfl
theorem b70{l:List Int}(hlen:l.length≤1000000):b22 (sO s) (t.map J3) l=some (frc s t l):=by
 unfold b22
 rw[b7m hR hT hTB hlen]
 rfl
omit hT hTB hR in
theorem c4U {l:List Int} {x:Int}:Rch s (frc s t l) x↔a0g s t l x:=by
 constructor
 ·intro q
  exact a5t.1 (Rch.least (c6l s t l) (λx h _=>h) q)
 ·exact λq=>.base (a5t.2 q) q.live
theorem c1T(hF:FB s){l:List Int}(hl:LB l)(hlen:l.length≤1000000):a6I s t l=some (fls s t l):=by
 unfold a6I
 rw[c1P hR hT hTB hF hl hlen,d1e,c4j hR hF (c6m hR t l) (by have:=b5d hR t l;omega),d1e]
 congr 1
 unfold K6 fls
 exact List.filter_congr λx _=>decide_eq_decide.2 (not_congr c4U)
open Classical in
theorem b71 {l:List Int} (hlen:l.length≤1000000):b23 (sO s) (t.map J3) l=some (fls s t l):=by
 unfold b23
 have h24:=E8 hR
 have hfl:=b5d hR t l
 rw[b70 hR hT hTB hlen,d1e,a5D hR,d1e]
 simp only[jn]
 rw[B8 (lv s) (λacc x=>if decide (¬a0g s t l x) then acc ++ [x] else acc) id (λk acc=>acc.length≤k) (by omega) (by simp) (λk hk acc hb=>?_) (λb _=>?_)]
 ·simp only[d1e,id]
  rw[foldl_filter]
  rfl
 ·simp only[Int.ofNat_lt,hk,decide_true,if_true,n0 hk,d1e]
  rw[a9t _ _ (by omega),d1e]
  have h0:=b9m hR _ (List.getElem_mem hk)
  by_cases q:a0g s t l (lv s)[k]
  ·have e:(lv s)[k]∈frc s t l:=a5t.2 q
   rw[if_neg (by simp[e,h0]),if_neg (by simpa using q),k7]
   exact⟨rfl,by omega⟩
  ·have e:(lv s)[k]∉frc s t l:=λh=>q (a5t.1 h)
   rw[if_pos (by simp[e]),if_pos (by simpa using q),u4 (by omega) (by simp;omega),d1e,k7]
   exact⟨rfl,by simp;omega⟩
 ·simp only[Int.lt_irrefl,decide_false,Bool.false_eq_true,if_false]
  rfl
end
end Go.Sh
namespace Go.Sh
end Go.Sh
namespace Go.Sh
end Go.Sh
namespace Go.Sh
section
variable(s:a7)(hF:FB s)(t:Tb)(hTB:TB t)
include hF hTB
end
end Go.Sh
namespace Go.Sh
def ce(s:a7)(i:Nat):b7:=s.S.a8.getD i ⟨0,0,z0⟩
theorem C2{s:a7}{i:Nat}(h:i<s.S.a8.length):ce s i=s.S.a8[i]:=by
 unfold ce
 rw[List.getD_eq_getElem?_getD,List.getElem?_eq_getElem h]
 rfl
theorem b4l{s:a7}{i:Nat}(h:i<s.S.a8.length):ix s.S.a8 (i:Int)=some (ce s i):=by rw[n0 h,C2 h]
def Th(c:b7):Prop:=c.State=1∨c.State=2
instance(c:b7):Decidable (Th c):=by unfold Th;infer_instance
structure OkO (s:a7) (o:k9):Prop where
 s1:1≤o.Serial
 s2:o.Serial≤s.Serial
 st:0≤o.Strong
 wk:0≤o.Weak
 p1 : -1≤o.Prog
 p2:o.Prog≤5
 fl:o.Fields.length≤4
structure SR (s:a7):Prop where
 len:s.S.a8.length≤24
 l0:0≤s.S.Last
 l9:s.S.Last≤9
 ser:0≤s.Serial
 cell:∀i,i<s.S.a8.length→0≤(ce s i).State∧(ce s i).State≤3∧0≤(ce s i).Gen∧(ce s i).Gen≤s.S.Last
 no:∀i,i<s.S.a8.length→¬Th (ce s i)→b2e (oo (ce s i).Val)
 ok:∀i,i<s.S.a8.length→Th (ce s i)→OkO s (ce s i).Val
 dif:∀i j,i<s.S.a8.length→j<s.S.a8.length→Th (ce s i)→Th (ce s j)→(ce s i).Val.Serial=(ce s j).Val.Serial→i=j
theorem o6{s:a7}:RtR (sO s)↔SR s:=by
 constructor
 ·intro h
  refine⟨a1i h,h.l0,h.l9,h.ser,λi hi=>?_,λi hi hn=>?_,λi hi ht=>?_,λi j hi hj a b e=>?_⟩
  ·rw[C2 hi];exact b5V h i hi
  ·rw[C2 hi] at hn ⊢
   have:=h.no i (by rw[z1];exact hi)
   simp only[sO,List.getElem_map] at this
   exact this hn
  ·rw[C2 hi] at ht ⊢
   obtain⟨a,b,c,d,e,f,g⟩:=c3g h i hi ht
   exact⟨a,b,c,d,e,f,g⟩
  ·rw[C2 hi] at a e
   rw[C2 hj] at b e
   exact c3f h hi hj a b e
 ·intro h
  refine⟨by rw[z1];exact h.len,h.l0,h.l9,h.ser,λi hi=>?_,λi hi hn=>?_,λi hi ht=>?_,λi hi k hk a b=>?_⟩
  ·rw[z1] at hi
   have:=h.cell i hi
   rw[C2 hi] at this
   simpa[sO,cO] using this
  ·rw[z1] at hi
   have:=h.no i hi
   rw[C2 hi] at this
   simp only[sO,List.getElem_map] at hn ⊢
   exact this hn
  ·rw[z1] at hi
   have:=h.ok i hi
   rw[C2 hi] at this
   simp only[sO,List.getElem_map] at ht ⊢
   obtain⟨a,b,c,d,e,f,g⟩:=this ht
   exact⟨a,b,c,d,e,f,g⟩
  ·rw[z1] at hi
   have hk':k<s.S.a8.length:=by omega
   have:=h.dif i k hi hk'
   rw[C2 hi,C2 hk'] at this
   simp only[sO,List.getElem_map,cO,oo] at a b ⊢
   intro e
   have:=this a b e.symm
   omega
def At(s:a7)(h:Int)(i:Nat):Prop:=i<s.S.a8.length∧(ce s i).State=1∧h=1+(i:Int)+32*(ce s i).Gen
def S0(s:a7)(h:Int)(i:Nat):Prop:=i<s.S.a8.length∧Th (ce s i)∧h=1+(i:Int)+32*(ce s i).Gen
theorem At.d{s:a7}{h:Int}{i:Nat}(q:At s h i):S0 s h i:=⟨q.1,.inl q.2.1,q.2.2⟩
theorem S0.one{s:a7}(hR:SR s){h:Int}{i j:Nat}(q:S0 s h i)(q':S0 s h j):i=j:=by
 obtain⟨a1,_,a2⟩:=q
 obtain⟨b1,_,b2⟩:=q'
 have:=hR.len
 omega
theorem S0.rng{s:a7}(hR:SR s){h:Int}{i:Nat}(q:S0 s h i):1≤h∧h≤320:=by
 obtain⟨a1,_,a2⟩:=q
 have:=hR.len
 have:=hR.cell i a1
 have:=hR.l9
 omega
theorem b6R{s:a7}{h:Int}:h∈U6 0 s.S.a8↔∃i,At s h i:=by
 rw[a6O]
 constructor
 ·rintro⟨i,hi,h1,h2⟩
  refine⟨i,hi,by rw[C2 hi];exact h1,?_⟩
  rw[C2 hi,h2,Nat.zero_add]
 ·rintro⟨i,hi,h1,h2⟩
  rw[C2 hi] at h1 h2
  exact⟨i,hi,h1,by rw[h2,Nat.zero_add]⟩
theorem a4P{s:a7}(hR:SR s){h:Int}:h∈lv s↔∃i,At s h i:=by rw[b0C (o6.2 hR),b6R]
theorem a8M{s:a7}(hR:SR s){h:Int}{i:Nat}:b0o s.S h i↔S0 s h i:=by
 constructor
 ·rintro⟨hi,h1,h2,h3,h4⟩
  unfold Hnd at h1
  refine⟨hi,by rw[C2 hi];exact h4,?_⟩
  rw[C2 hi]
  omega
 ·rintro⟨hi,h1,h2⟩
  have l:=hR.len
  have l9:=hR.l9
  have c:=hR.cell i hi
  rw[C2 hi] at h1 h2 c
  exact⟨hi,by unfold Hnd;omega,by omega,by omega,h1⟩
theorem Q3{s:a7}(hR:SR s){h:Int}{i:Nat}(q:At s h i):ob s h=(ce s i).Val:=by
 obtain⟨j,hj,h1,h2,_,e⟩:=b5v (o6.2 hR) ((a4P hR).2 ⟨i,q⟩)
 have:j=i:=S0.one hR ⟨hj,by rw[C2 hj];exact .inl h1,by rw[C2 hj];exact h2⟩ q.d
 subst this
 rw[e,C2 hj]
theorem c55{s:a7}(hR:SR s){h:Int}{i:Nat}(q:At s h i):o9 s h=some ((ce s i).Val,0):=by
 rw[a6T (o6.2 hR) ((a4P hR).2 ⟨i,q⟩),Q3 hR q]
theorem c5m{s:a7}(hR:SR s){h:Int}{i:Nat}(q:At s h i):sk s.S.a8 h=(ce s i).Val.Serial:=by
 have:=hR.len
 have hi:=q.1
 rw[q.2.2,b7t hi (by omega),C2 hi]
theorem a3T{s:a7}(hR:SR s){h:Int}{i:Nat}(q:S0 s h i):o7 s.S h=some ((i:Int),0):=a7v ((a8M hR).2 q)
theorem a5m{s:a7}(hR:SR s){h:Int}(hh:h≤9223372036854775807)(q:∀i,¬S0 s h i):o7 s.S h=some (-1,if h=0 then 2 else 3):=b0y hh λi hi=>q i ((a8M hR).1 hi)
theorem c2h{s s':a7}(hR:SR s)(hR':SR s')(P:Int→Bool)(hm:∀h,(∃i,At s' h i)↔(∃i,At s h i)∧P h=true)(hk:∀h i j,At s' h i→At s h j→(ce s' i).Val.Serial=(ce s j).Val.Serial):lv s'=(lv s).filter P:=by
 have hk':∀h∈lv s,P h=true→sk s'.S.a8 h=sk s.S.a8 h:=λh hh hp=>by
  obtain⟨j,hj⟩:=(a4P hR).1 hh
  obtain⟨i,hi⟩:=(hm h).2 ⟨⟨j,hj⟩,hp⟩
  rw[c5m hR' hi,c5m hR hj,hk h i j hi hj]
 refine c8h (o6.2 hR') ?_ ?_
 ·rw[List.perm_ext_iff_of_nodup ((a9K (o6.2 hR)).filter _) (a5x 0 _ (by have:=hR'.len;omega))]
  intro h
  rw[List.mem_filter,a4P hR,b6R,hm h]
 ·refine ((a5E (o6.2 hR)).2.2.filter P).imp_of_mem λ{a b} ha hb hab=>?_
  rw[List.mem_filter] at ha hb
  rw[hk' a ha.1 ha.2,hk' b hb.1 hb.2]
  exact hab
theorem c4l{s s':a7}(hR:SR s)(hR':SR s')(hl:s'.S.a8.length=s.S.a8.length)(h1:∀i,i<s.S.a8.length→((ce s' i).State=1↔(ce s i).State=1)∧(ce s' i).Gen=(ce s i).Gen∧(ce s' i).Val.Serial=(ce s i).Val.Serial):lv s'=lv s:=by
 have ha:∀h i,At s' h i↔At s h i:=λh i=>by
  unfold At
  rw[hl]
  constructor
  ·rintro⟨a,b,c⟩
   obtain⟨x,y,z⟩:=h1 i a
   exact⟨a,x.1 b,by rw[←y];exact c⟩
  ·rintro⟨a,b,c⟩
   obtain⟨x,y,z⟩:=h1 i a
   exact⟨a,x.2 b,by rw[y];exact c⟩
 rw[c2h hR hR' (λ_=>true) (λh=>by simp only[and_true];exact⟨λ⟨i,q⟩=>⟨i,(ha h i).1 q⟩,λ⟨i,q⟩=>⟨i,(ha h i).2 q⟩⟩) (λh i j q q'=>by
  have:=S0.one hR ((ha h i).1 q).d q'.d
  subst this
  exact (h1 i q'.1).2.2)]
 simp
def a1b(s:a7)(i:Nat)(o:k9):a7:=⟨⟨s.S.a8.set i ⟨(ce s i).State,(ce s i).Gen,o⟩,s.S.Last⟩,s.Serial⟩
theorem K7(s:a7)(i:Nat)(o:k9):(a1b s i o).S.a8.length=s.S.a8.length:=by simp[a1b]
theorem a4G{α:Type}{l:List α}{i:Nat}(hi:i<l.length)(c d:α)(j:Nat):(l.set i c).getD j d=if j=i then c else l.getD j d:=by
 rw[List.getD_eq_getElem?_getD,List.getD_eq_getElem?_getD,List.getElem?_set]
 by_cases h:j=i
 ·subst h
  rw[if_pos rfl,if_pos hi,if_pos rfl]
  rfl
 ·rw[if_neg (Ne.symm h),if_neg h]
theorem a5o{s:a7}{i:Nat}(hi:i<s.S.a8.length)(o:k9)(j:Nat):ce (a1b s i o) j=if j=i then ⟨(ce s i).State,(ce s i).Gen,o⟩ else ce s j:=a4G hi _ _ j
theorem b3s{s:a7}{i:Nat}(hi:i<s.S.a8.length)(o:k9)(j:Nat):(ce (a1b s i o) j).State=(ce s j).State∧(ce (a1b s i o) j).Gen=(ce s j).Gen:=by
 rw[a5o hi]
 split
 ·rename_i q;subst q;exact⟨rfl,rfl⟩
 ·exact⟨rfl,rfl⟩
theorem b1P{s:a7}{i:Nat}(hi:i<s.S.a8.length)(o:k9){h:Int}{j:Nat}:S0 (a1b s i o) h j↔S0 s h j:=by
 unfold S0 Th
 rw[K7,(b3s hi o j).1,(b3s hi o j).2]
theorem b2h{s:a7}{i:Nat}(hi:i<s.S.a8.length)(o:k9){h:Int}{j:Nat}:At (a1b s i o) h j↔At s h j:=by
 unfold At
 rw[K7,(b3s hi o j).1,(b3s hi o j).2]
theorem b50{s:a7}(hR:SR s){h:Int}{i:Nat}(q:S0 s h i)(o:k9):H4 s h o=some (a1b s i o,0):=by
 obtain⟨hi,e⟩:=b7q (v:=o) hR.len ((a8M hR).2 q)
 unfold H4
 rw[e]
 simp[a1b,C2 hi]
theorem SR.put{s:a7}(hR:SR s){i:Nat}(hi:i<s.S.a8.length)(ht:Th (ce s i)){o:k9}(hs:o.Serial=(ce s i).Val.Serial)(ho:OkO s o):SR (a1b s i o):=by
 have hst:=b3s hi o
 have hse:∀j,(ce (a1b s i o) j).Val.Serial=(ce s j).Val.Serial:=λj=>by
  rw[a5o hi]
  split
  ·rename_i q;subst q;exact hs
  ·rfl
 refine⟨by rw[K7];exact hR.len,hR.l0,hR.l9,hR.ser,λj hj=>?_,λj hj hn=>?_,λj hj hn=>?_,λj k hj hk a b e=>?_⟩
 ·rw[K7] at hj
  rw[(hst j).1,(hst j).2]
  exact hR.cell j hj
 ·rw[K7] at hj
  unfold Th at hn
  rw[(hst j).1] at hn
  rw[a5o hi]
  split
  ·rename_i q;subst q;exact absurd ht hn
  ·exact hR.no j hj hn
 ·rw[K7] at hj
  unfold Th at hn
  rw[(hst j).1] at hn
  rw[a5o hi]
  split
  ·exact⟨ho.s1,ho.s2,ho.st,ho.wk,ho.p1,ho.p2,ho.fl⟩
  ·have:=hR.ok j hj hn
   exact⟨this.s1,this.s2,this.st,this.wk,this.p1,this.p2,this.fl⟩
 ·rw[K7] at hj hk
  unfold Th at a b
  rw[(hst j).1] at a
  rw[(hst k).1] at b
  rw[hse,hse] at e
  exact hR.dif j k hj hk a b e
theorem c2g{s:a7}(hR:SR s){i:Nat}(hi:i<s.S.a8.length){o:k9}(hs:o.Serial=(ce s i).Val.Serial)(hR':SR (a1b s i o)):lv (a1b s i o)=lv s:=by
 refine c4l hR hR' (K7 ..) λj hj=>?_
 rw[a5o hi]
 split
 ·rename_i q;subst q;exact⟨Iff.rfl,rfl,hs⟩
 ·exact⟨Iff.rfl,rfl,rfl⟩
theorem c6S{s:a7}(hR:SR s){h:Int}{i:Nat}(q:At s h i){o:k9}(hR':SR (a1b s i o)){k:Int}(hk:k≤9223372036854775807):ob (a1b s i o) k=if k=h then o else ob s k:=by
 by_cases e:k=h
 ·subst e
  rw[if_pos rfl,Q3 hR' ((b2h q.1 o).2 q),a5o q.1,if_pos rfl]
 ·rw[if_neg e]
  by_cases hl:∃j,At s k j
  ·obtain⟨j,hj⟩:=hl
   rw[Q3 hR' ((b2h q.1 o).2 hj),Q3 hR hj,a5o q.1,if_neg]
   intro e2
   subst e2
   exact e (hj.2.2.trans q.2.2.symm)
  ·rw[a8u (o6.2 hR) hk (λq2=>hl ((a4P hR).1 q2)),a8u (o6.2 hR') hk λq2=>hl (by
    obtain⟨j,hj⟩:=(a4P hR').1 q2
    exact⟨j,(b2h q.1 o).1 hj⟩)]
def A2(h:Int):Nat:=((h-1) % 32).toNat
theorem S0.A2{s:a7}(hR:SR s){h:Int}{i:Nat}(q:S0 s h i):A2 h=i:=by
 obtain⟨a,_,c⟩:=q
 have:=hR.len
 unfold Sh.A2
 omega
def seO(s:a7)(h:Int)(o:k9):a7:=a1b s (A2 h) o
theorem u7{s:a7}(hR:SR s){h:Int}(hh:h∈lv s):At s h (A2 h):=by
 obtain⟨i,hi⟩:=(a4P hR).1 hh
 rw[hi.d.A2 hR]
 exact hi
theorem I1{s:a7}(hR:SR s){h:Int}(hh:h∈lv s):OkO s (ob s h):=by
 have q:=u7 hR hh
 rw[Q3 hR q]
 exact hR.ok _ q.1 (.inl q.2.1)
theorem I2{s:a7}(hR:SR s){h:Int}(hh:h∈lv s):1≤h∧h≤320:=(u7 hR hh).d.rng hR
theorem a73{s:a7}(hR:SR s):(0:Int)∉lv s:=λh=>by have:=I2 hR h;omega
section
variable{s:a7}(hR:SR s){h:Int}(hh:h∈lv s){o:k9}(hs:o.Serial=(ob s h).Serial)(ho:OkO s o)
include hR hh hs ho
theorem a1k:SR (seO s h o):=by
 have q:=u7 hR hh
 exact hR.put q.1 (.inl q.2.1) (by rw[hs,Q3 hR q]) ho
theorem a2K:lv (seO s h o)=lv s:=by
 have q:=u7 hR hh
 exact c2g hR q.1 (by rw[hs,Q3 hR q]) (a1k hR hh hs ho)
theorem a1T{k:Int}(hk:k≤9223372036854775807):ob (seO s h o) k=if k=h then o else ob s k:=c6S hR (u7 hR hh) (a1k hR hh hs ho) hk
theorem a97:H4 s h o=some (seO s h o,0):=b50 hR (u7 hR hh).d o
theorem b8K{k:Int}{i:Nat}:S0 (seO s h o) k i↔S0 s k i:=b1P (u7 hR hh).1 o
theorem b8L(i:Nat):ce (seO s h o) i=if i=A2 h then ⟨(ce s i).State,(ce s i).Gen,o⟩ else ce s i:=by
 unfold seO
 rw[a5o (u7 hR hh).1]
 split
 ·rename_i q;rw[q]
 ·rfl
end
abbrev stg(o:k9)(n:Int):k9:=⟨o.Serial,n,o.Weak,o.Prog,o.Started,o.Fields⟩
structure Kin (s s':a7):Prop where
 sr:SR s'
 len:s'.S.a8.length=s.S.a8.length
 last:s'.S.Last=s.S.Last
 ser:s'.Serial=s.Serial
 lv:lv s'=lv s
 ad:∀k i,S0 s' k i↔S0 s k i
 ob:∀k,k≤9223372036854775807→∃n,ob s' k=(stg (ob s k) (n))
 ce:∀i,i<s.S.a8.length→(ce s' i).State=(ce s i).State∧(ce s' i).Gen=(ce s i).Gen∧(ce s' i).Val.Weak=(ce s i).Val.Weak∧(ce s' i).Val.Fields=(ce s i).Val.Fields∧((ce s i).State≠1→ce s' i=ce s i)
theorem Kin.refl{s:a7}(hR:SR s):Kin s s:=⟨hR,rfl,rfl,rfl,rfl,λ_ _=>Iff.rfl,λk _=>⟨_,rfl⟩,λi _=>⟨rfl,rfl,rfl,rfl,λ_=>rfl⟩⟩
theorem Kin.trans{a b c:a7}(h:Kin a b)(q:Kin b c):Kin a c:=by
 refine⟨q.sr,q.len.trans h.len,q.last.trans h.last,q.ser.trans h.ser,q.lv.trans h.lv,λk i=>(q.ad k i).trans (h.ad k i),λk hk=>?_,λi hi=>?_⟩
 ·obtain⟨n,e⟩:=h.ob k hk
  obtain⟨m,f⟩:=q.ob k hk
  exact⟨m,by rw[f,e]⟩
 ·obtain⟨a1,a2,a3,a4,a5⟩:=h.ce i hi
  obtain⟨b1,b2,b3,b4,b5⟩:=q.ce i (by rw[h.len];exact hi)
  refine⟨b1.trans a1,b2.trans a2,b3.trans a3,b4.trans a4,λhn=>?_⟩
  rw[b5 (by rw[a1];exact hn),a5 hn]
theorem Kin.outs{s s':a7}(k:Kin s s'){h:Int}(hh:h≤9223372036854775807):outs s' h=outs s h:=by
 obtain⟨n,e⟩:=k.ob h hh
 unfold Sh.outs
 rw[e]
theorem Kin.inn{s s':a7}(hR:SR s)(k:Kin s s')(h:Int):inn s' h=inn s h:=by
 unfold Sh.inn
 rw[k.lv]
 congr 1
 refine List.map_congr_left λx hx=>?_
 rw[k.outs (by have:=I2 hR hx;omega)]
theorem c4f{s:a7}(hR:SR s){h:Int}(hh:h∈lv s){n:Int}(hn:0≤n):Kin s (seO s h (stg (ob s h) (n))):=by
 have ho:OkO s (stg (ob s h) (n)):=by
  have:=I1 hR hh
  exact⟨this.s1,this.s2,hn,this.wk,this.p1,this.p2,this.fl⟩
 have q:=u7 hR hh
 refine⟨a1k hR hh rfl ho,K7 ..,rfl,rfl,a2K hR hh rfl ho,λk i=>b8K (o:=(stg (ob s h) (n))) hR hh rfl ho,λk hk=>?_,λi hi=>?_⟩
 ·rw[a1T (o:=(stg (ob s h) (n))) hR hh rfl ho hk]
  split
  ·rename_i e;subst e;exact⟨n,rfl⟩
  ·exact⟨_,rfl⟩
 ·rw[b8L (o:=(stg (ob s h) (n))) hR hh rfl ho]
  split
  ·rename_i e
   subst e
   rw[Q3 hR q]
   exact⟨rfl,rfl,rfl,rfl,λhn=>absurd q.2.1 hn⟩
  ·exact⟨rfl,rfl,rfl,rfl,λ_=>rfl⟩
def SB(s:a7):Prop:=∀c∈s.S.a8,c.Val.Strong≤9223372036854775807
theorem c75{s:a7}:FB s↔∀i,i<s.S.a8.length→∀x∈(ce s i).Val.Fields,x≤9223372036854775807:=by
 constructor
 ·intro h i hi x hx
  rw[C2 hi] at hx
  exact h _ (List.getElem_mem hi) x hx
 ·intro h c hc x hx
  obtain⟨i,hi,rfl⟩:=List.getElem_of_mem hc
  exact h i hi x (by rw[C2 hi];exact hx)
theorem c82{s:a7}:SB s↔∀i,i<s.S.a8.length→(ce s i).Val.Strong≤9223372036854775807:=by
 constructor
 ·intro h i hi
  rw[C2 hi]
  exact h _ (List.getElem_mem hi)
 ·intro h c hc
  obtain⟨i,hi,rfl⟩:=List.getElem_of_mem hc
  have:=h i hi
  rwa [C2 hi] at this
end Go.Sh
namespace Go.Sh
noncomputable def inr(s:a7)(t:Tb)(h:Int):Nat:=inn s h+own t h
noncomputable def rst(s:a7)(t:Tb)(h:Int):Int:=if h∈lv s then (ob s h).Strong-(inr s t h:Int) else 0
noncomputable def hld(s:a7)(t:Tb):List Int:=(lv s).filter λh=>decide (0<rst s t h∨12≤(ob s h).Strong)
def c1c(s:a7)(t:Tb)(l:List Int):Prop:=∀h∈lv s,(ob s h).Strong<12→rst s t h=(R4 l h:Int)
noncomputable instance(s:a7)(t:Tb)(l:List Int):Decidable (c1c s t l):=Classical.propDecidable _
section
variable{s:a7}(hR:RtR (sO s)){t:Tb}(hT:HR t)
include hR hT
theorem c19(h:Int):a4l s t h=some (inr s t h:Int):=by
 unfold a4l
 have h1:=b8d hR h
 have h2:=b8o hT.l8 h
 rw[c78 hR,d1e,c2K hT,d1e,C9 (by omega) (by omega)]
 unfold inr
 simp
theorem b8e(h:Int):b0P (sO s) (t.map J3) h=some (inr s t h:Int):=by
 unfold b0P
 have h1:=b8d hR h
 have h2:=b8o hT.l8 h
 rw[c39 hR,d1e,c0S hT,d1e,C9 (by omega) (by omega)]
 unfold inr
 simp
theorem c2a(h:Int):inr s t h≤104:=by
 have h1:=b8d hR h
 have h2:=b8o hT.l8 h
 unfold inr
 omega
omit hT in
theorem b05 (hB:SB s) {h:Int} (hh:h∈lv s):0≤(ob s h).Strong∧(ob s h).Strong≤9223372036854775807:=by
 obtain⟨i,hi⟩:=(a4P (o6.1 hR)).1 hh
 rw[Q3 (o6.1 hR) hi]
 refine⟨((o6.1 hR).ok i hi.1 (.inl hi.2.1)).st,?_⟩
 rw[C2 hi.1]
 exact hB _ (List.getElem_mem _)
theorem b9K(hB:SB s){h:Int}(hh:h≤9223372036854775807):a3J s t h=some (rst s t h):=by
 unfold a3J
 obtain⟨e,h1,h2⟩:=N2 hR hh
 rw[h1,d1e]
 by_cases q:h∈lv s
 ·have:=h2.2 q
  subst this
  have h3:=c2a hR hT h
  have h4:=b05 hR hB q
  rw[if_neg (by simp),c19 hR hT,d1e,C9 (by dsimp only;omega) (by dsimp only;omega)]
  unfold rst
  rw[if_pos q]
 ·rw[if_pos (by simpa using λq2=>q (h2.1 q2))]
  unfold rst
  rw[if_neg q]
theorem c0L(hB:SB s){h:Int}(hh:h≤9223372036854775807):a9V (sO s) (t.map J3) h=some (rst s t h):=by
 unfold a9V
 obtain⟨e,h1,h2⟩:=N2 hR hh
 rw[a4F s (by have:=a1i hR;omega) hh,h1,Option.map_some,d1e]
 by_cases q:h∈lv s
 ·have:=h2.2 q
  subst this
  have h3:=c2a hR hT h
  have h4:=b05 hR hB q
  rw[if_neg (by simp),b8e hR hT,d1e]
  simp only[oo]
  rw[C9 (by omega) (by omega)]
  unfold rst
  rw[if_pos q]
 ·rw[if_pos (by simpa using λq2=>q (h2.1 q2))]
  unfold rst
  rw[if_neg q]
omit hT in
theorem b8N {h:Int} (hh:h≤9223372036854775807):a7G (sO s) h=some (decide (12≤(ob s h).Strong)):=by
 unfold a7G a1O
 obtain⟨e,h1,h2⟩:=N2 hR hh
 rw[a4F s (by have:=a1i hR;omega) hh,h1,Option.map_some,d1e,d1e]
 rfl
omit hT in
theorem c2f {k:Nat} (hk:k<(lv s).length):(lv s)[k]≤9223372036854775807:=by
 have:=a4t hR (List.getElem_mem hk)
 omega
theorem c35(hB:SB s):a59 s t=some (hld s t):=by
 unfold a59
 simp only[jn]
 have h24:=E8 hR
 rw[V2 hR,d1e,B8 (lv s) (λb x=>if decide (0<rst s t x∨12≤(ob s x).Strong) then b ++ [x] else b) id (λk b=>b.length≤k) (by omega) (by simp) (λk hk b hI=>?_) (λb _=>by simp),d1e]
 ·rw[foldl_filter]
  rfl
 ·have hm:=List.getElem_mem hk
  have hle:=c2f hR hk
  simp only[Int.ofNat_lt,hk,decide_true,if_true,n0 hk,d1e]
  rw[a6T hR hm,d1e]
  unfold a6a a2c B7
  rw[b9K hR hT hB hle,d1e,d1e]
  by_cases q:0<rst s t (lv s)[k]
  ·rw[decide_eq_true (show rst s t (lv s)[k] > 0 from q)]
   simp only[show ((true==false):Bool)=false from rfl,b2N,d1e,Bool.true_or,if_true]
   rw[u4 (by omega) (by simp;omega),d1e,k7,if_pos (decide_eq_true (.inl q))]
   exact⟨rfl,by simp;omega⟩
  ·rw[decide_eq_false (show ¬rst s t (lv s)[k] > 0 from q)]
   simp only[beq_self_eq_true,X0,d1e,Bool.false_or]
   by_cases q2:12≤(ob s (lv s)[k]).Strong
   ·rw[if_pos (decide_eq_true q2),u4 (by omega) (by simp;omega),d1e,k7,if_pos (decide_eq_true (.inr q2))]
    exact⟨rfl,by simp;omega⟩
   ·rw[if_neg (by simpa using q2),k7,if_neg (by simp only[decide_eq_true_eq];exact λc=>c.elim q q2)]
    exact⟨rfl,by omega⟩
theorem c0l(hB:SB s):b24 (sO s) (t.map J3)=some (hld s t):=by
 unfold b24
 simp only[jn]
 have h24:=E8 hR
 rw[a5D hR,d1e,B8 (lv s) (λb x=>if decide (0<rst s t x∨12≤(ob s x).Strong) then b ++ [x] else b) id (λk b=>b.length≤k) (by omega) (by simp) (λk hk b hI=>?_) (λb _=>by simp),d1e]
 ·rw[foldl_filter]
  rfl
 ·have hle:=c2f hR hk
  simp only[Int.ofNat_lt,hk,decide_true,if_true,n0 hk,d1e]
  rw[c0L hR hT hB hle,d1e]
  by_cases q:0<rst s t (lv s)[k]
  ·rw[decide_eq_true (show rst s t (lv s)[k] > 0 from q)]
   simp only[show ((true==false):Bool)=false from rfl,b2N,d1e,Bool.true_or,if_true]
   rw[u4 (by omega) (by simp;omega),d1e,k7,if_pos (decide_eq_true (.inl q))]
   exact⟨rfl,by simp;omega⟩
  ·rw[decide_eq_false (show ¬rst s t (lv s)[k] > 0 from q)]
   simp only[beq_self_eq_true,X0,d1e,Bool.false_or]
   rw[b8N hR hle,d1e]
   by_cases q2:12≤(ob s (lv s)[k]).Strong
   ·rw[if_pos (decide_eq_true q2),u4 (by omega) (by simp;omega),d1e,k7,if_pos (decide_eq_true (.inr q2))]
    exact⟨rfl,by simp;omega⟩
   ·rw[if_neg (by simpa using q2),k7,if_neg (by simp only[decide_eq_true_eq];exact λc=>c.elim q q2)]
    exact⟨rfl,by omega⟩
omit hT in
theorem b9c:(hld s t).length≤24:=Nat.le_trans (List.length_filter_le ..) (E8 hR)
omit hR hT in
theorem b1V {h:Int}:h∈hld s t↔h∈lv s∧(0<rst s t h∨12≤(ob s h).Strong):=by
 unfold hld
 rw[List.mem_filter,decide_eq_true_eq]
omit hT in
theorem c6x:LB (hld s t):=λx hx=>by have:=a4t hR (b1V.1 hx).1;omega
theorem b78(hTB:TB t)(hF:FB s)(hB:SB s):a0r s t=some (fls s t (hld s t)):=by
 unfold a0r
 have:=b9c hR (t:=t)
 rw[c35 hR hT hB,d1e,c1T hR hT hTB hF (c6x hR) (by omega)]
 rfl
theorem b5e(hTB:TB t)(hB:SB s):a65 (sO s) (t.map J3)=some (fls s t (hld s t)):=by
 unfold a65
 have:=b9c hR (t:=t)
 rw[c0l hR hT hB,d1e,b71 hR hT hTB (by omega)]
 rfl
theorem c3Y(hB:SB s){l:List Int}(hl:l.length≤1000000):a58 s t l=some (decide (c1c s t l)):=by
 unfold a58
 simp only[jn]
 have h24:=E8 hR
 rw[V2 hR,d1e,B8 (lv s) (λb x=>if decide ((ob s x).Strong<12∧rst s t x≠(R4 l x:Int)) then b ++ [x] else b) id (λk b=>b.length≤k) (by omega) (by simp) (λk hk b hI=>?_) (λb _=>by simp),d1e]
 ·rw[foldl_filter]
  simp only[id,List.nil_append]
  congr 1
  rw[Bool.eq_iff_iff,decide_eq_true_iff,beq_iff_eq]
  constructor
  ·intro e h hh hs
   have:(lv s).filter (λx=>decide ((ob s x).Strong<12∧rst s t x≠(R4 l x:Int))) = []:=List.eq_nil_of_length_eq_zero (by omega)
   rw[List.filter_eq_nil_iff] at this
   have:=this h hh
   simp only[decide_eq_true_eq,not_and,Decidable.not_not] at this
   exact this hs
  ·intro q
   rw[List.filter_eq_nil_iff.2]
   ·rfl
   ·intro h hh
    simp only[decide_eq_true_eq,not_and,Decidable.not_not]
    exact q h hh
 ·have hm:=List.getElem_mem hk
  have hle:=c2f hR hk
  simp only[Int.ofNat_lt,hk,decide_true,if_true,n0 hk,d1e]
  rw[a6T hR hm,d1e]
  unfold a23 a2c B7
  simp only[d1e]
  by_cases q2:12≤(ob s (lv s)[k]).Strong
  ·rw[decide_eq_true (show (ob s (lv s)[k]).Strong≥12 from q2)]
   simp only[Bool.not_true,show ((false==true):Bool)=false from rfl,b2N,d1e,Bool.false_and,Bool.false_eq_true,if_false]
   rw[k7,if_neg (by simp;omega)]
   exact⟨rfl,by omega⟩
  ·rw[decide_eq_false (show ¬(ob s (lv s)[k]).Strong≥12 from q2)]
   simp only[Bool.not_false,beq_self_eq_true,X0,Bool.true_and]
   rw[b9K hR hT hB hle,d1e,c3s _ _ hl,d1e,d1e]
   by_cases q3:rst s t (lv s)[k]=(R4 l (lv s)[k]:Int)
   ·rw[if_neg (by simpa using q3),k7,if_neg (by simp only[decide_eq_true_eq];exact λc=>c.2 q3)]
    exact⟨rfl,by omega⟩
   ·rw[if_pos (by simpa using q3),u4 (by omega) (by simp;omega),d1e,k7,if_pos (decide_eq_true ⟨by omega,q3⟩)]
    exact⟨rfl,by simp;omega⟩
end
end Go.Sh
namespace Go.Sh
abbrev TQ:=c9
def tad(q:TQ)(t:g7):TQ × Int:=if q.Cap≤q.L.length then (q,4) else (⟨q.L ++ [t],q.Cap⟩,0)
theorem c5T{q:TQ}(t:g7)(h:q.L.length≤1000):a7o q t=some (tad q t):=by
 unfold tad
 unfold a7o M3 O4 M4
 simp only[d1e]
 by_cases c:q.Cap≤q.L.length
 ·rw[if_pos (by simpa using c),if_pos c,d1e]
 ·rw[if_neg (by simpa using c),if_neg c]
  have e:cut q.L 0 (q.L.length:Int)=some q.L:=by
   have:=b41 (xs:=q.L) (i:=0) (j:=q.L.length) (Nat.zero_le _) (Nat.le_refl _)
   simpa using this
  rw[e,d1e,d1e,u4 (by omega) (by simp;omega),d1e,d1e]
theorem c0f{α β:Type}(p:α→Bool)(f:α→β)(l:List α)(k:Nat)(h:k<l.length):((l.take (k+1)).filter p).map f=((l.take k).filter p).map f++(if p l[k] then [f l[k]] else []):=by
 rw[List.take_succ_eq_append_getElem h,List.filter_append,List.map_append]
 congr 1
 simp only[List.filter_cons,List.filter_nil]
 split <;> rfl
theorem c7t{q:TQ}(h:q.L.length≤1000):a5c q=some ((q.L.filter (·.Kind==1)).map (·.At)):=by
 unfold a5c a7S
 simp only[jn,d1e]
 refine O1 q.L.length (λk l=>l=((q.L.take k).filter (·.Kind==1)).map (·.At)) (by omega) (by simp) ?_ (λl hl=>⟨_,by simp;rfl,by rw[hl,List.take_length]⟩)
 rintro k l hk rfl
 left
 rw[c0f _ _ _ _ hk]
 simp only[Int.ofNat_lt,hk,decide_true,if_true,n0 hk,d1e]
 have hle:(List.map (·.At) (List.filter (·.Kind==1) (List.take k q.L))).length≤1000:=by
  rw[List.length_map]
  exact Nat.le_trans (List.length_filter_le ..) (by simp;omega)
 by_cases c:(q.L[k].Kind==1)=true
 ·rw[c,if_pos (by decide),u4 (by omega) (by simp only[List.length_cons,List.length_nil];omega),d1e,k7]
  exact⟨_,rfl,rfl⟩
 ·have c:(q.L[k].Kind==1)=false:=by simpa using c
  rw[c,if_neg (by decide),k7]
  exact⟨_,rfl,by simp⟩
theorem c48{q:TQ}{w:Int}(h:q.L.length≤1000):a3I q w=some (q.L.any λt=>t.Kind==2&&t.At==w):=by
 unfold a3I a7S
 simp only[jn,d1e]
 refine M0 q.L.length (λk=>(q.L.take k).any (λt=>t.Kind==2&&t.At==w)=false) (by omega) (by simp) ?_ (λhl=>⟨.inr (),by simp,by rw[List.take_length] at hl;rw[hl]⟩)
 intro k hk hP
 simp only[Int.ofNat_lt,hk,decide_true,if_true,n0 hk,d1e]
 rw[List.take_succ_eq_append_getElem hk,List.any_append,hP,Bool.false_or]
 by_cases c:(q.L[k].Kind==2)=true
 ·rw[c,if_pos (by decide)]
  by_cases d:(q.L[k].At==w)=true
  ·right
   rw[d,if_pos rfl]
   refine⟨.inl true,rfl,?_⟩
   simp only[Option.some.injEq]
   symm
   rw[List.any_eq_true]
   exact⟨_,List.getElem_mem hk,by rw[c,d];rfl⟩
  ·have d:(q.L[k].At==w)=false:=by simpa using d
   left
   rw[d,if_neg (by decide),k7]
   exact⟨rfl,by simp[d]⟩
 ·have c:(q.L[k].Kind==2)=false:=by simpa using c
  left
  rw[c,if_neg (by decide),k7]
  exact⟨rfl,by simp[c]⟩
end Go.Sh
namespace Go.Sh
def tkR(t:g7):E3:=⟨t.Kind,t.At,t.Prog⟩
def tqR(q:TQ):z8:=⟨q.L.map tkR,q.Cap⟩
theorem c5P{q:TQ}(t:g7)(h:q.L.length≤1000):a5O (tqR q) (tkR t)=some (tqR (tad q t).1,(tad q t).2):=by
 unfold a5O tad
 have hl:(tqR q).L.length=q.L.length:=by simp[tqR]
 by_cases c:q.Cap≤q.L.length
 ·rw[if_pos (by simp[hl];exact c),if_pos c]
 ·rw[if_neg (by simp[hl];exact Int.not_le.1 c),if_neg c,J8 (by omega) (by rw[hl];omega),d1e,u4 (by omega) (by simp[hl];omega),d1e]
  simp[tqR]
theorem c4S{q:TQ}{w:Int}(h:q.L.length≤1000):a4X (tqR q) w=some (q.L.any λt=>t.Kind==2&&t.At==w):=by
 unfold a4X
 have hl:(tqR q).L.length=q.L.length:=by simp[tqR]
 simp only[jn,hl]
 refine M0 q.L.length (λk=>(q.L.take k).any (λt=>t.Kind==2&&t.At==w)=false) (by omega) (by simp) ?_ (λhl=>⟨.inr (),by simp,by rw[List.take_length] at hl;rw[hl]⟩)
 intro k hk hP
 have e:ix (tqR q).L (k:Int)=some (tkR q.L[k]):=by rw[show (tqR q).L=q.L.map tkR from rfl,a16,n0 hk];rfl
 simp only[Int.ofNat_lt,hk,decide_true,if_true,e,d1e]
 rw[List.take_succ_eq_append_getElem hk,List.any_append,hP,Bool.false_or]
 by_cases c:(q.L[k].Kind==2&&q.L[k].At==w)=true
 ·right
  rw[show ((tkR q.L[k]).Kind==2&&(tkR q.L[k]).At==w)=true from c,if_pos rfl]
  refine⟨.inl true,rfl,?_⟩
  simp only[Option.some.injEq]
  symm
  rw[List.any_eq_true]
  exact⟨_,List.getElem_mem hk,c⟩
 ·have c:(q.L[k].Kind==2&&q.L[k].At==w)=false:=by simpa using c
  left
  rw[show ((tkR q.L[k]).Kind==2&&(tkR q.L[k]).At==w)=false from c,if_neg (by decide),k7]
  exact⟨rfl,by simp[c]⟩
end Go.Sh
namespace Go.Sh
abbrev Hp:=b6
abbrev wS(x:Hp)(s:a7):Hp:=⟨s,x.Roots,x.a8,x.T,x.Q⟩
abbrev wR(x:Hp)(l:List Int):Hp:=⟨x.S,l,x.a8,x.T,x.Q⟩
abbrev wC(x:Hp)(l:List c4):Hp:=⟨x.S,x.Roots,l,x.T,x.Q⟩
abbrev wT(x:Hp)(t:Tb):Hp:=⟨x.S,x.Roots,x.a8,t,x.Q⟩
def nmg(l:List c4)(h:Int):Nat:=l.countP λc=>(h != 0)&&(c.Target==h)
def b2y(q:TQ):List Int:=(q.L.filter (·.Kind==1)).map (·.At)
def wts(q:TQ)(w:Int):Bool:=q.L.any λt=>t.Kind==2&&t.At==w
def otr(x:Hp):List Int:=nz x.Roots++b2y x.Q
noncomputable def nms(x:Hp)(h:Int):Nat:=inn x.S h+own x.T h+R4 (otr x) h
def E5(s:a7)(i:Nat)(c:b7):a7:=⟨⟨s.S.a8.set i c,s.S.Last⟩,s.Serial⟩
theorem X7(s:a7)(i:Nat)(c:b7):(E5 s i c).S.a8.length=s.S.a8.length:=by simp[E5]
theorem I7{s:a7}{i:Nat}(hi:i<s.S.a8.length)(c:b7)(j:Nat):ce (E5 s i c) j=if j=i then c else ce s j:=a4G hi _ _ j
theorem SR.E5{s:a7}(hR:SR s){i:Nat}(hi:i<s.S.a8.length){c:b7}(h1:0≤c.State∧c.State≤3∧0≤c.Gen∧c.Gen≤s.S.Last)(h2:¬Th c→b2e (oo c.Val))(h3:Th c→OkO s c.Val∧Th (ce s i)∧c.Val.Serial=(ce s i).Val.Serial):SR (E5 s i c):=by
 have key:∀j,Th (ce (Sh.E5 s i c) j)→Th (ce s j)∧(ce (Sh.E5 s i c) j).Val.Serial=(ce s j).Val.Serial:=λj hj=>by
  rw[I7 hi] at hj ⊢
  split at hj
  ·rename_i e
   subst e
   rw[if_pos rfl]
   exact (h3 hj).2
  ·rename_i e
   rw[if_neg e]
   exact⟨hj,rfl⟩
 refine⟨by rw[X7];exact hR.len,hR.l0,hR.l9,hR.ser,λj hj=>?_,λj hj hn=>?_,λj hj hn=>?_,λj k hj hk a b e=>?_⟩
 ·rw[X7] at hj
  rw[I7 hi]
  split
  ·exact h1
  ·exact hR.cell j hj
 ·rw[X7] at hj
  rw[I7 hi] at hn ⊢
  split at hn
  ·rename_i e
   rw[if_pos e];exact h2 hn
  ·rename_i e
   rw[if_neg e];exact hR.no j hj hn
 ·rw[X7] at hj
  rw[I7 hi] at hn ⊢
  split at hn
  ·rename_i e
   rw[if_pos e]
   have:=(h3 hn).1
   exact⟨this.s1,this.s2,this.st,this.wk,this.p1,this.p2,this.fl⟩
  ·rename_i e
   rw[if_neg e]
   have:=hR.ok j hj hn
   exact⟨this.s1,this.s2,this.st,this.wk,this.p1,this.p2,this.fl⟩
 ·rw[X7] at hj hk
  obtain⟨a1,a2⟩:=key j a
  obtain⟨b1,b2⟩:=key k b
  rw[a2,b2] at e
  exact hR.dif j k hj hk a1 b1 e
theorem c1i{s:a7}{i:Nat}(hi:i<s.S.a8.length)(c:b7){h:Int}{j:Nat}(hj:j≠i):S0 (E5 s i c) h j↔S0 s h j:=by
 unfold S0
 rw[X7,I7 hi,if_neg hj]
theorem b1Q{s:a7}{i:Nat}(hi:i<s.S.a8.length)(c:b7){h:Int}{j:Nat}(hj:j≠i):At (E5 s i c) h j↔At s h j:=by
 unfold At
 rw[X7,I7 hi,if_neg hj]
theorem b9n{s:a7}(hR:SR s){i:Nat}(hi:i<s.S.a8.length){c:b7}(hc:c.State≠1)(hR':SR (E5 s i c)):lv (E5 s i c)=(lv s).filter λh=>decide (A2 h≠i):=by
 have hno:∀h,¬At (E5 s i c) h i:=λh q=>by
  have:=q.2.1
  rw[I7 hi,if_pos rfl] at this
  exact hc this
 refine c2h hR hR' _ (λh=>?_) (λh j k q q'=>?_)
 ·rw[decide_eq_true_iff]
  constructor
  ·rintro⟨j,hj⟩
   have hne:j≠i:=λe=>hno h (e▸hj)
   have:=(b1Q hi c hne).1 hj
   exact⟨⟨j,this⟩,by rw[this.d.A2 hR];exact hne⟩
  ·rintro⟨⟨j,hj⟩,hp⟩
   rw[hj.d.A2 hR] at hp
   exact⟨j,(b1Q hi c hp).2 hj⟩
 ·have hne:j≠i:=λe=>hno h (e▸q)
  have q2:=(b1Q hi c hne).1 q
  have:=S0.one hR q2.d q'.d
  subst this
  rw[I7 hi,if_neg hne]
theorem b9t{s:a7}(hR:SR s){i:Nat}(hi:i<s.S.a8.length){c:b7}(hR':SR (E5 s i c)){k:Int}(hk:k∈lv s)(hp:A2 k≠i):ob (E5 s i c) k=ob s k:=by
 have q:=u7 hR hk
 rw[Q3 hR' ((b1Q hi c hp).2 q),Q3 hR q,I7 hi,if_neg hp]
structure Kn (s s':a7):Prop where
 sr:SR s'
 len:s'.S.a8.length=s.S.a8.length
 lv:lv s'=lv s
 ad:∀k i,S0 s' k i↔S0 s k i
 ob:∀k,k∈Sh.lv s→∃n m,ob s' k=⟨(ob s k).Serial,n,m,(ob s k).Prog,(ob s k).Started,(ob s k).Fields⟩
theorem Kin.kn{s s':a7}(hR:SR s)(k:Kin s s'):Kn s s':=⟨k.sr,k.len,k.lv,k.ad,λh hh=>by
 obtain⟨n,e⟩:=k.ob h (by have:=I2 hR hh;omega)
 exact⟨n,_,e⟩⟩
theorem Kn.inn{s s':a7}(k:Kn s s')(h:Int):inn s' h=inn s h:=by
 unfold Sh.inn
 rw[k.lv]
 congr 1
 refine List.map_congr_left λx hx=>?_
 obtain⟨n,m,e⟩:=k.ob x hx
 unfold Sh.outs
 rw[e]
structure HpS (x:Hp):Prop where
 sr:SR x.S
 hr:HR x.T
 r6:x.Roots.length=6
 c6:x.a8.length=6
 cap:x.Q.Cap=30
 q30:x.Q.L.length≤30
 tk:∀t∈x.Q.L,0≤t.Prog∧t.Prog≤5∧((t.Kind=1∧t.At∈lv x.S∧(ob x.S t.At).Started=true)∨(t.Kind=2∧0≤t.At∧t.At≤5))
 td:x.Q.L.Pairwise λa b=>¬(a.Kind=b.Kind∧a.At=b.At)
 rt:∀h∈x.Roots,h=0∨h∈lv x.S
 fl:∀h∈lv x.S,∀v∈(ob x.S h).Fields,v=0∨v∈lv x.S
 pr:∀k v,Has x.T k v→k∈lv x.S∧v∈lv x.S
 cl:∀i (hi:i<x.a8.length),-1≤x.a8[i].Call∧x.a8[i].Call≤5∧(x.a8[i].Target=0→x.a8[i].Intact=false)∧(x.a8[i].Target≠0→∃p,S0 x.S x.a8[i].Target p)∧(x.a8[i].Intact=true→x.a8[i].Target∈lv x.S∧wts x.Q i=false)
def Wk(x:Hp):Prop:=∀i,i<x.S.S.a8.length→Th (ce x.S i)→(ce x.S i).Val.Weak=(nmg x.a8 (1+(i:Int)+32*(ce x.S i).Gen):Int)∧((ce x.S i).State=2→1≤(ce x.S i).Val.Weak∧(ce x.S i).Val.Fields = []∧(ce x.S i).Val.Strong=0)
def a3j(x:Hp)(L:List Int):Prop:=∀h∈lv x.S,(ob x.S h).Strong<12→(ob x.S h).Strong=((nms x h+R4 L h:Nat):Int)
structure O0 (x:Hp):Prop where
 sh:HpS x
 wk:Wk x
 fair:a3j x []
theorem HpS.of{x:Hp}(h:HpS x){s':a7}(hS:SR s')(hl:lv s'=lv x.S)(hd:∀k i,S0 x.S k i→S0 s' k i)(hst:∀k∈lv x.S,(ob x.S k).Started=true→(ob s' k).Started=true)(hfl:∀k∈lv x.S,∀v∈(ob s' k).Fields,v=0∨v∈lv x.S):HpS (wS x s'):=by
 refine⟨hS,h.hr,h.r6,h.c6,h.cap,h.q30,λt ht=>?_,h.td,λk hk=>?_,λk hk=>?_,λk v hkv=>?_,λi hi=>?_⟩
 ·obtain⟨a,b,c⟩:=h.tk t ht
  refine⟨a,b,?_⟩
  rcases c with ⟨c1,c2,c3⟩ | c
  ·exact .inl ⟨c1,by rw[hl];exact c2,hst _ c2 c3⟩
  ·exact .inr c
 ·dsimp only
  rw[hl]
  exact h.rt k hk
 ·dsimp only at hk ⊢
  rw[hl] at hk ⊢
  exact hfl k hk
 ·dsimp only
  rw[hl]
  exact h.pr k v hkv
 ·obtain⟨a,b,c,d,e⟩:=h.cl i hi
  refine⟨a,b,c,λq=>?_,λq=>?_⟩
  ·obtain⟨p,hp⟩:=d q
   exact⟨p,hd _ _ hp⟩
  ·dsimp only
   rw[hl]
   exact e q
theorem HpS.kn{x:Hp}(h:HpS x){s':a7}(k:Kn x.S s'):HpS (wS x s'):=by
 refine h.of k.sr k.lv (λj i q=>(k.ad j i).2 q) (λj hj q=>?_) (λj hj=>?_)
 ·obtain⟨n,m,e⟩:=k.ob j hj
  rw[e];exact q
 ·obtain⟨n,m,e⟩:=k.ob j hj
  rw[e];exact h.fl j hj
theorem HpS.kin{x:Hp}(h:HpS x){s':a7}(k:Kin x.S s'):HpS (wS x s'):=h.kn (k.kn h.sr)
theorem Wk.kin{x:Hp}(h:Wk x){s':a7}(k:Kin x.S s'):Wk (wS x s'):=by
 intro i hi ht
 dsimp only at hi ht ⊢
 rw[k.len] at hi
 obtain⟨a,b,c,d,e⟩:=k.ce i hi
 unfold Th at ht
 rw[a] at ht
 obtain⟨f,g⟩:=h i hi ht
 rw[a,b,c]
 refine⟨f,λq=>?_⟩
 have e':=e (by omega)
 rw[←c,e']
 exact g q
theorem HpS.roots{x:Hp}(h:HpS x){l:List Int}(hl:l.length=6)(hr:∀v∈l,v=0∨v∈lv x.S):HpS (wR x l):=⟨h.sr,h.hr,hl,h.c6,h.cap,h.q30,h.tk,h.td,hr,h.fl,h.pr,h.cl⟩
theorem HpS.table{x:Hp}(h:HpS x){t:Tb}(hr:HR t)(hp:∀k v,Has t k v→k∈lv x.S∧v∈lv x.S):HpS (wT x t):=⟨h.sr,hr,h.r6,h.c6,h.cap,h.q30,h.tk,h.td,h.rt,h.fl,hp,h.cl⟩
def W7(c:Int):Int:=if 12≤c then 12 else if c<0 then 1 else c+1
def a5q(c:Int):Int:=if 12≤c then 12 else if c<1 then c else c-1
theorem D2{c:Int}(h:0≤c):0≤W7 c:=by unfold W7;split <;> (try split) <;> omega
theorem V1{c:Int}(h:0≤c):0≤a5q c:=by unfold a5q;split <;> (try split) <;> omega
noncomputable def stO(x:Hp)(h:Int)(f:Int→Int):Hp:=if h∈lv x.S then wS x (seO x.S h (stg (ob x.S h) (f (ob x.S h).Strong))) else x
noncomputable def C0(x:Hp)(h:Int):Hp:=stO x h W7
noncomputable def N7(x:Hp)(h:Int):Hp:=stO x h a5q
theorem b3m(x:Hp)(h:Int)(f:Int→Int):stO x h f=wS x (stO x h f).S:=by
 unfold stO
 split <;> rfl
theorem b3e(x:Hp)(h:Int):C0 x h=wS x (C0 x h).S:=b3m x h W7
theorem c7g(x:Hp)(h:Int):N7 x h=wS x (N7 x h).S:=b3m x h a5q
section
variable{x:Hp}(hR:SR x.S)(h:Int){f:Int→Int}(hf:∀c,0≤c→0≤f c)
include hR hf
theorem G7:Kin x.S (stO x h f).S:=by
 unfold stO
 split
 ·rename_i q
  exact c4f hR q (hf _ (I1 hR q).st)
 ·exact Kin.refl hR
theorem b03{k:Int}(hk:k∈lv x.S):(ob (stO x h f).S k).Strong=if k=h then f (ob x.S k).Strong else (ob x.S k).Strong:=by
 unfold stO
 split
 ·rename_i q
  dsimp only
  have ho:OkO x.S (stg (ob x.S h) (f (ob x.S h).Strong)):=by
   have:=I1 hR q
   exact⟨this.s1,this.s2,hf _ this.st,this.wk,this.p1,this.p2,this.fl⟩
  rw[a1T (o:=stg (ob x.S h) (f (ob x.S h).Strong)) hR q rfl ho (by have:=I2 hR hk;omega)]
  split
  ·rename_i e;subst e;rfl
  ·rfl
 ·rename_i q
  rw[if_neg]
  intro e
  subst e
  exact q hk
theorem b18(k:Int):nms (stO x h f) k=nms x k:=by
 rw[b3m]
 unfold nms otr
 dsimp only
 rw[(G7 hR h hf).inn hR]
end
theorem HpS.st{x:Hp}(h:HpS x)(k:Int){f:Int→Int}(hf:∀c,0≤c→0≤f c):HpS (stO x k f):=by
 rw[b3m]
 exact h.kin (G7 h.sr k hf)
theorem Wk.st{x:Hp}(h:Wk x)(hR:SR x.S)(k:Int){f:Int→Int}(hf:∀c,0≤c→0≤f c):Wk (stO x k f):=by
 rw[b3m]
 exact h.kin (G7 hR k hf)
theorem R6(h:Int):R4 [] h=0:=by unfold R4;split <;> rfl
theorem J7(v:Int)(L:List Int)(h:Int):R4 (v::L) h=R4 L h+if v=h∧h≠0 then 1 else 0:=by
 unfold R4
 by_cases h0:h=0
 ·simp[h0]
 ·rw[if_neg h0,if_neg h0,List.count_cons]
  by_cases e:v=h
  ·simp[e,h0]
  ·simp[e]
theorem c3h{x:Hp}(hR:SR x.S){L:List Int}(hf:a3j x L)(v:Int):a3j (C0 x v) (v::L):=by
 intro h hh hlt
 unfold C0 at hh hlt ⊢
 rw[(G7 hR v λc=>D2).lv] at hh
 rw[b03 hR v (λc=>D2) hh] at hlt ⊢
 rw[b18 hR v λc=>D2,J7]
 have h0:h≠0:=λe=>a73 hR (e▸hh)
 have hp:=(I1 hR hh).st
 by_cases e:h=v
 ·subst e
  rw[if_pos rfl] at hlt ⊢
  have:=hf h hh (by unfold W7 at hlt;split at hlt <;> omega)
  rw[if_pos ⟨rfl,h0⟩]
  unfold W7 at hlt ⊢
  split at hlt
  ·omega
  ·rename_i q
   rw[if_neg q,if_neg (by omega)]
   omega
 ·rw[if_neg e] at hlt ⊢
  rw[if_neg (λq=>e q.1.symm)]
  exact hf h hh hlt
theorem b7i{x:Hp}(hR:SR x.S){L:List Int}{v:Int}(hf:a3j x (v::L)):a3j (N7 x v) L:=by
 intro h hh hlt
 unfold N7 at hh hlt ⊢
 rw[(G7 hR v λc=>V1).lv] at hh
 rw[b03 hR v (λc=>V1) hh] at hlt ⊢
 rw[b18 hR v λc=>V1]
 have h0:h≠0:=λe=>a73 hR (e▸hh)
 have hp:=(I1 hR hh).st
 by_cases e:h=v
 ·subst e
  rw[if_pos rfl] at hlt ⊢
  have:=hf h hh (by unfold a5q at hlt;split at hlt <;> omega)
  rw[J7,if_pos ⟨rfl,h0⟩] at this
  unfold a5q at hlt ⊢
  split at hlt
  ·omega
  ·rename_i q
   rw[if_neg q,if_neg (by omega)]
   omega
 ·rw[if_neg e] at hlt ⊢
  have:=hf h hh hlt
  rw[J7,if_neg (λq=>e q.1.symm)] at this
  exact this
theorem a3j.mv{x x':Hp}{L L':List Int}(hf:a3j x L)(hl:lv x'.S=lv x.S)(hs:∀h∈lv x.S,(ob x'.S h).Strong=(ob x.S h).Strong)(hn:∀h∈lv x.S,nms x' h+R4 L' h=nms x h+R4 L h):a3j x' L':=by
 intro h hh hlt
 rw[hl] at hh
 rw[hs h hh] at hlt ⊢
 rw[hf h hh hlt,hn h hh]
end Go.Sh
namespace Go.Sh
theorem b6d:∀ {l:List Int} {r:Nat} (hr:r<l.length) (h k:Int),R4 (l.set r h) k+R4 [l.getD r 0] k=R4 l k+R4 [h] k
 | [],_,hr,_,_=>by simp at hr
 | a::l,0,_,h,k=>by
  rw[List.set_cons_zero,List.getD_cons_zero,J7 h l,J7 a l,J7 a [],J7 h [],R6]
  omega
 | a::l,r+1,hr,h,k=>by
  rw[List.set_cons_succ,List.getD_cons_succ,J7 a,J7 a l]
  have:=b6d (l:=l) (r:=r) (by simpa using hr) h k
  omega
theorem a83{x x1:Hp}(hx:O0 x){old new:Int}(h1:HpS (C0 x new)→Wk (C0 x new)→HpS x1∧Wk x1)
  (hl:lv x1.S=lv (C0 x new).S)(hs:∀h∈lv x.S,(ob x1.S h).Strong=(ob (C0 x new).S h).Strong)(hn:∀h∈lv x.S,nms x1 h+R4 [old] h=nms x h+R4 [new] h):O0 (N7 x1 old):=by
 have l1:lv (C0 x new).S=lv x.S:=(G7 hx.sh.sr new λc=>D2).lv
 have f1:a3j (C0 x new) [new]:=c3h hx.sh.sr hx.fair new
 obtain⟨h2,w2⟩:=h1 (hx.sh.st new λc=>D2) (hx.wk.st hx.sh.sr new λc=>D2)
 have f2:a3j x1 [old]:=f1.mv hl (λh hh=>hs h (l1▸hh)) λh hh=>by
  rw[hn h (l1▸hh)]
  unfold C0
  rw[b18 hx.sh.sr new λc=>D2]
 exact⟨h2.st _ λc=>V1,w2.st h2.sr _ λc=>V1,b7i h2.sr f2⟩
noncomputable def Q4(x:Hp)(r:Nat)(h:Int):Hp:=N7 (wR (C0 x h) (x.Roots.set r h)) (x.Roots.getD r 0)
theorem a4h{x:Hp}(hx:O0 x){r:Nat}(hr:r<6){h:Int}(hh:h=0∨h∈lv x.S):O0 (Q4 x r h):=by
 have l1:lv (C0 x h).S=lv x.S:=(G7 hx.sh.sr h λc=>D2).lv
 refine a83 hx (λa b=>⟨a.roots (by rw[List.length_set];exact hx.sh.r6) (λv hv=>?_),b⟩) rfl (λ_ _=>rfl) (λk hk=>?_)
 ·rw[l1]
  rcases List.mem_or_eq_of_mem_set hv with q | q
  ·exact hx.sh.rt v q
  ·exact q▸hh
 ·have hi:=(G7 hx.sh.sr h λc=>D2).inn hx.sh.sr k
  rw[b3e]
  unfold nms otr
  dsimp only
  rw[show inn (C0 x h).S k=inn x.S k from hi,R5,R5,b6c,b6c]
  have:=b6d (l:=x.Roots) (r:=r) (by rw[hx.sh.r6];exact hr) h k
  omega
theorem b9U{α:Type}:∀ {l:List α} (hn:l.Nodup) {a:α} (ha:a∈l) (f g:α→Nat) (h:∀x∈l,x≠a→f x=g x),(l.map g).sum+f a=(l.map f).sum+g a
 | [],_,_,ha,_,_,_=>by cases ha
 | b::l,hn,a,ha,f,g,h=>by
  rw[List.nodup_cons] at hn
  rw[List.map_cons,List.map_cons,List.sum_cons,List.sum_cons]
  rcases List.mem_cons.1 ha with e | e
  ·subst e
   have:l.map g=l.map f:=List.map_congr_left λx hx=>(h x (List.mem_cons_of_mem _ hx) λe=>hn.1 (e▸hx)).symm
   rw[this]
   omega
  ·have:=b9U hn.2 e f g λx hx=>h x (List.mem_cons_of_mem _ hx)
   have:=h b (List.mem_cons_self ..) λq=>hn.1 (q▸e)
   omega
abbrev flg(o:k9)(l:List Int):k9:=⟨o.Serial,o.Strong,o.Weak,o.Prog,o.Started,l⟩
theorem b9e{s:a7}(hR:SR s){h:Int}(hh:h∈lv s){o:k9}(hs:o.Serial=(ob s h).Serial)(ho:OkO s o)(y:Int):inn (seO s h o) y+R4 (ob s h).Fields y=inn s y+R4 o.Fields y:=by
 have hle:=I2 hR hh
 have:=b9U (a9K (o6.2 hR)) hh (λx=>R4 (outs s x) y) (λx=>R4 (outs (seO s h o) x) y) λx hx hne=>by
  have:=I2 hR hx
  unfold outs
  rw[a1T hR hh hs ho (by omega),if_neg hne]
 have e:R4 (outs (seO s h o) h) y=R4 o.Fields y:=by
  unfold outs
  rw[a1T hR hh hs ho (by omega),if_pos rfl,b6c]
 have e2:R4 (outs s h) y=R4 (ob s h).Fields y:=b6c _ _
 rw[e,e2] at this
 unfold inn
 rw[a2K hR hh hs ho]
 exact this
noncomputable def a1E(x:Hp)(h:Int)(k:Nat)(v:Int):Hp:=N7 (wS (C0 x v) (seO (C0 x v).S h (flg (ob (C0 x v).S h) ((ob x.S h).Fields.set k v)))) ((ob x.S h).Fields.getD k 0)
theorem b49{x:Hp}(hx:O0 x){h:Int}(hh:h∈lv x.S){k:Nat}(hk:k<(ob x.S h).Fields.length){v:Int}(hv:v=0∨v∈lv x.S):O0 (a1E x h k v):=by
 have kin:=G7 hx.sh.sr v (f:=W7) λc=>D2
 have l1:lv (C0 x v).S=lv x.S:=kin.lv
 have hR1:SR (C0 x v).S:=kin.sr
 have hh1:h∈lv (C0 x v).S:=by rw[l1];exact hh
 have hle:=I2 hx.sh.sr hh
 have hof:(ob (C0 x v).S h).Fields=(ob x.S h).Fields:=by
  obtain⟨n,e⟩:=kin.ob h (by omega)
  show (ob (stO x v W7).S h).Fields=_
  rw[e]
 have ho:OkO (C0 x v).S (flg (ob (C0 x v).S h) ((ob x.S h).Fields.set k v)):=by
  have:=I1 hR1 hh1
  refine⟨this.s1,this.s2,this.st,this.wk,this.p1,this.p2,?_⟩
  have h4:=this.fl
  rw[hof] at h4
  simpa using h4
 have hob:∀j,j∈lv x.S→ob (seO (C0 x v).S h (flg (ob (C0 x v).S h) ((ob x.S h).Fields.set k v))) j=if j=h then flg (ob (C0 x v).S h) ((ob x.S h).Fields.set k v) else ob (C0 x v).S j:=λj hj=>by
  have:=I2 hx.sh.sr hj
  exact a1T (o:=flg (ob (C0 x v).S h) ((ob x.S h).Fields.set k v)) hR1 hh1 rfl ho (by omega)
 refine a83 hx (λa b=>⟨?_,?_⟩) (a2K (o:=flg (ob (C0 x v).S h) ((ob x.S h).Fields.set k v)) hR1 hh1 rfl ho) (λj hj=>?_) (λj hj=>?_)
 ·refine a.of (a1k (o:=flg (ob (C0 x v).S h) ((ob x.S h).Fields.set k v)) hR1 hh1 rfl ho) (a2K (o:=flg (ob (C0 x v).S h) ((ob x.S h).Fields.set k v)) hR1 hh1 rfl ho) (λj i q=>(b8K (o:=flg (ob (C0 x v).S h) ((ob x.S h).Fields.set k v)) hR1 hh1 rfl ho).2 q) (λj hj q=>?_) (λj hj u hu=>?_)
  ·rw[hob j (l1▸hj)]
   split
   ·rename_i e;subst e;exact q
   ·exact q
  ·rw[hob j (l1▸hj)] at hu
   split at hu
   ·rename_i e
    subst e
    rcases List.mem_or_eq_of_mem_set hu with q | q
    ·exact a.fl j hj u (by rw[hof];exact q)
    ·rw[l1,q];exact hv
   ·exact a.fl j hj u hu
 ·intro i hi ht
  dsimp only at hi ht ⊢
  have hp:=u7 hR1 hh1
  unfold seO at hi
  rw[K7] at hi
  have hce:=b8L (o:=flg (ob (C0 x v).S h) ((ob x.S h).Fields.set k v)) hR1 hh1 rfl ho i
  rw[hce] at ht ⊢
  split at ht
  ·rename_i e
   subst e
   rw[if_pos rfl]
   have:=b _ hp.1 (.inl hp.2.1)
   dsimp only
   refine⟨?_,λq=>absurd q (by rw[hp.2.1];decide)⟩
   rw[←this.1,Q3 hR1 hp]
  ·rename_i e
   rw[if_neg e]
   exact b i hi ht
 ·rw[hob j hj]
  split
  ·rename_i e;subst e;rfl
  ·rfl
 ·have hi:=b9e (o:=flg (ob (C0 x v).S h) ((ob x.S h).Fields.set k v)) hR1 hh1 rfl ho j
  have hi2:=kin.inn hx.sh.sr j
  have hi2:inn (C0 x v).S j=inn x.S j:=hi2
  rw[hi2,hof] at hi
  dsimp only at hi
  have:=b6d hk v j
  have hrest:C0 x v=wS x (C0 x v).S:=b3e x v
  unfold nms otr
  dsimp only
  rw[show (C0 x v).T=x.T by rw[hrest],show (C0 x v).Roots=x.Roots by rw[hrest],show (C0 x v).Q=x.Q by rw[hrest]]
  omega
theorem c2N{t:Tb}(hT:HR t){k v:Int}{r:Tb × Int × Int}(h:T3 t k v=some r)(h0:r.2.2=0):HR r.1∧(∀y,own r.1 y+R4 [r.2.1] y=own t y+R4 [v] y)∧∀k' v',Has r.1 k' v'→Has t k' v'∨(k'=k∧v'=v∧v≠0):=by
 obtain⟨r',e1,e2,_,e3⟩:=b8M hT k v
 rw[h] at e1
 cases e1
 refine⟨e2,?_⟩
 have hos:∀(i:Nat) (p:b8) (y:Int),i<t.length→own (t.set i p) y+(if (pt t i).State=1∧(pt t i).Val=y∧y≠0 then 1 else 0)=own t y+if p.State=1∧p.Val=y∧y≠0 then 1 else 0:=λi p y hi=>by
  have key:∀q:b8,(if ((q.State==1)&&((y != 0)&&(q.Val==y)))=true then 1 else 0:Nat)=if q.State=1∧q.Val=y∧y≠0 then 1 else 0:=λq=>by
   by_cases c:q.State=1∧q.Val=y∧y≠0
   ·rw[if_pos c,if_pos (by simp[c.1,c.2.1,c.2.2])]
   ·rw[if_neg c,if_neg (by simp only[Bool.and_eq_true,beq_iff_eq,bne_iff_ne,ne_eq];exact λq=>c ⟨q.1,q.2.2,q.2.1⟩)]
  have:=b9A hi p y
  rw[key,key] at this
  exact this
 rcases e3 with ⟨_,rfl⟩ | ⟨hk,hv,⟨i,hi,rfl⟩ | ⟨hn,rfl⟩⟩ | ⟨hk,hv,⟨i,hi,rfl⟩ | ⟨d,hn,hd,hf,hp,rfl⟩ | ⟨hn,ha,rfl⟩⟩
 ·simp at h0
 ·refine⟨λy=>?_,λk' v' q=>.inl ((b2l hT hi k' v').1 q).2⟩
  have:=hos i ⟨2,0,0⟩ y hi.1
  rw[J7,J7,R6]
  subst hv
  dsimp only at this ⊢
  rw[if_neg (show ¬((2:Int)=1∧(0:Int)=y∧y≠0) by omega)] at this
  rw[if_neg (show ¬((0:Int)=y∧y≠0) by omega)]
  simp only[hi.2.1,true_and] at this
  omega
 ·refine⟨λy=>?_,λk' v' q=>.inl q⟩
  rw[hv]
 ·refine⟨λy=>?_,λk' v' q=>?_⟩
  ·have:=hos i ⟨1,k,v⟩ y hi.1
   rw[J7,J7,R6]
   simp only[hi.2.1,true_and] at this
   dsimp only
   omega
  ·rcases (b5I hT (.old i hi) rfl k' v').1 q with ⟨a,b⟩ | ⟨_,b⟩
   ·exact .inr ⟨a,b,hv⟩
   ·exact .inl b
 ·refine⟨λy=>?_,λk' v' q=>?_⟩
  ·have:=hos d ⟨1,k,v⟩ y hd
   rw[J7,J7,R6]
   dsimp only
   rw[if_neg (show ¬((0:Int)=y∧y≠0) by omega)]
   simp only[hf,false_and,true_and,if_false] at this
   omega
  ·rcases (b5I hT hp rfl k' v').1 q with ⟨a,b⟩ | ⟨_,b⟩
   ·exact .inr ⟨a,b,hv⟩
   ·exact .inl b
 ·simp at h0
noncomputable def a6X(x:Hp)(v:Int)(t:Tb)(old:Int):Hp:=N7 (wT (C0 x v) t) old
theorem b60{x:Hp}(hx:O0 x){k v:Int}(hk:k∈lv x.S)(hv:v=0∨v∈lv x.S){r:Tb × Int × Int}(h:T3 x.T k v=some r)(h0:r.2.2=0):O0 (a6X x v r.1 r.2.1):=by
 have kin:=G7 hx.sh.sr v (f:=W7) λc=>D2
 have l1:lv (C0 x v).S=lv x.S:=kin.lv
 obtain⟨p1,p2,p3⟩:=c2N hx.sh.hr h h0
 refine a83 hx (λa b=>⟨a.table p1 λk' v' q=>?_,b⟩) rfl (λ_ _=>rfl) (λj hj=>?_)
 ·rw[l1]
  rcases p3 k' v' q with q | ⟨rfl,rfl,hne⟩
  ·exact hx.sh.pr k' v' q
  ·exact⟨hk,hv.resolve_left hne⟩
 ·have hi2:inn (C0 x v).S j=inn x.S j:=kin.inn hx.sh.sr j
  have hrest:C0 x v=wS x (C0 x v).S:=b3e x v
  unfold nms otr
  dsimp only
  rw[show (C0 x v).Roots=x.Roots by rw[hrest],show (C0 x v).Q=x.Q by rw[hrest],hi2]
  have:=p2 j
  omega
end Go.Sh
