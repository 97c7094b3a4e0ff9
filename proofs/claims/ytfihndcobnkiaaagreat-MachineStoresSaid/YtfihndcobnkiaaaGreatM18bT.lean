/-
 Several texts of one kind, one behind the other.
-/
import Derived.Test.YtfihndcobnkiaaaGreatM18bSh
import Derived.Test.YtfihndcobnkiaaaGreatM18bSh1
import Derived.Test.YtfihndcobnkiaaaGreatM18bSh
import Derived.Test.YtfihndcobnkiaaaGreatM18bSh
import Derived.Test.YtfihndcobnkiaaaGreatM18bSh
set_option linter.unusedVariables false
set_option linter.unusedSimpArgs false
set_option linter.unusedSectionVars false
namespace Go.Sh
def Hnd(h:Int):Prop:=1≤h∧(h-1) % 32<24∧(h-1) / 32≤9
instance(h:Int):Decidable (Hnd h):=by unfold Hnd;infer_instance
theorem b2o{h:Int}(q:Hnd h):1≤h∧h≤320:=by unfold Hnd at q;omega
theorem a2R{i g:Int}(h1:0≤i)(h2:i<24)(h3:0≤g)(h4:g≤9):V6 i g=some (1+i+32*g):=by
 unfold V6
 rw[if_neg (by simp;omega)]
 rw[show s7 (i*1)=i by rw[a2y];omega,show s7 (1+i)=1+i by rw[a2y];omega,show s7 (g*32)=32*g by rw[a2y];omega,show s7 (1+i+32*g)=1+i+32*g by rw[a2y];omega]
theorem a3J{i g:Int}:a1Z i g=some (if 0≤i∧i<24∧0≤g∧g≤9 then 1+i+32*g else 0):=by
 unfold a1Z
 split
 ·rename_i h;rw[if_neg (by simp at h;omega)]
 ·rename_i h
  have h:0≤i∧i<24∧0≤g∧g≤9:=by simp at h;omega
  rw[if_pos h]
  rw[show s7 (1+i)=1+i by rw[a2y];omega,show s7 (32*g)=32*g by rw[a2y];omega,show s7 (1+i+32*g)=1+i+32*g by rw[a2y];omega]
theorem a5R{h:Int}(hh:h≤9223372036854775807):a0Q h=some (if Hnd h then ((h-1) % 32,(h-1) / 32,true) else (-1,-1,false)):=by
 unfold a0Q
 split
 ·rename_i q
  rw[if_neg (by unfold Hnd;simp at q;omega)]
 ·rename_i q
  have q:1≤h:=by simpa using q
  rw[E5 (n:=h-1),a9R (by omega) (by omega),d09,b1N (by omega) (by omega) (by omega),d09,b1N (by omega) (by omega) (by omega),d09,Int.ediv_one]
  split
  ·rename_i q2
   rw[if_neg (by unfold Hnd;simp at q2;omega)]
  ·rename_i q2
   rw[if_pos (by unfold Hnd;simp at q2;omega)]
theorem a2T{h:Int}(hh:h≤9223372036854775807):a1U h=some (if Hnd h then (h-1) % 32 else -1):=by
 unfold a1U
 rw[a5R hh,d09]
 split <;> rfl
theorem a31{h:Int}(hh:h≤9223372036854775807):a2Q h=some (if Hnd h then (h-1) / 32 else -1):=by
 unfold a2Q
 rw[a5R hh,d09]
 split <;> rfl
theorem a9w{h:Int}:a4y h=some (decide (Hnd h)):=by
 unfold a4y
 split
 ·rename_i q
  rw[decide_eq_false (by unfold Hnd;simp at q;omega)]
 ·rename_i q
  have q:1≤h∧h≤400:=by simp at q;omega
  rw[E5 (n:=h-1),a9R (by omega) (by omega),d09,b1N (by omega) (by omega) (by omega),d09,a3J,d09]
  congr 1
  by_cases k:Hnd h
  ·rw[decide_eq_true k,if_pos (by unfold Hnd at k;omega)]
   simp;omega
  ·rw[decide_eq_false k,if_neg (by unfold Hnd at k;omega)]
   simp;omega
theorem a6C{h:Int}:a4x h=some (if Hnd h then (h-1) % 32 else -1):=by
 unfold a4x
 rw[a9w,d09]
 by_cases k:Hnd h
 ·have:=b2o k
  rw[decide_eq_true k,if_neg (by simp),if_pos k,E5 (n:=h-1),a9R (by omega) (by omega),d09]
 ·rw[decide_eq_false k,if_pos (by simp),if_neg k]
theorem b8k{h:Int}:b1O h=some (if Hnd h then (h-1) / 32 else -1):=by
 unfold b1O
 rw[a9w,d09]
 by_cases k:Hnd h
 ·have:=b2o k
  rw[decide_eq_true k,if_neg (by simp),if_pos k,E5 (n:=h-1),b1N (by omega) (by omega) (by omega),d09]
 ·rw[decide_eq_false k,if_pos (by simp),if_neg k]
end Go.Sh
namespace Go.Sh
theorem b8L(a b:List Int)(ha:a.length<4611686018427387904):a9y a b=some (decide (a=b)):=by
 unfold a9y
 by_cases hl:a.length=b.length
 ·rw[if_neg (by simp[hl])]
  simp only[jn]
  refine E9 a.length (λk=>∀j (h1:j<a.length) (h2:j<b.length),j<k→a[j]=b[j]) ha (λ_ _ _ h=>by omega) (λk hk hP=>?_) (λhP=>?_)
  ·have hk2:k<b.length:=by omega
   simp only[Int.ofNat_lt,hk,decide_true,if_true,l6 hk,l6 hk2,d09]
   by_cases e:a[k]=b[k]
   ·refine .inl ⟨?_,λj h1 h2 hj=>?_⟩
    ·rw[if_neg (by simpa using e),g9]
    ·rcases Nat.lt_or_ge j k with q | q
     ·exact hP j h1 h2 q
     ·have:j=k:=by omega
      subst this;exact e
   ·refine .inr ⟨.inl false,by rw[if_pos (by simpa using e)],?_⟩
    simp only
    rw[decide_eq_false (λq=>e (by subst q;rfl))]
  ·refine⟨.inr (),by simp,?_⟩
   simp only
   rw[decide_eq_true (List.ext_getElem hl λi h1 h2=>hP i h1 h2 h1)]
 ·rw[if_pos (by rw[bne_iff_ne];omega)]
  rw[decide_eq_false (λq=>hl (by rw[q]))]
end Go.Sh
namespace Go.Sh
abbrev z0:store_Obj:=⟨0,0,0,0,false,[]⟩
structure SlO (s:slab_Slab_store_Obj):Prop where
 len:s.Cells.length≤24
 l0:0≤s.Last
 l9:s.Last≤9
 cell:∀i (h:i<s.Cells.length),0≤s.Cells[i].State∧s.Cells[i].State≤3∧0≤s.Cells[i].Gen∧s.Cells[i].Gen≤s.Last
theorem a4P{s:slab_Slab_store_Obj}{i:Int}{k:Nat}{c:slab_Cell_store_Obj}(hi:i=k)(hk:k<s.Cells.length)(hl:s.Cells.length≤24):B3 s i c=some ⟨s.Cells.set k c,s.Last⟩:=by
 subst hi
 unfold B3 p9
 rw[K5 (by omega) (by omega),d09,l6 hk,d09,Int.toNat_natCast]
theorem b5T{s:slab_Slab_store_Obj}(hR:SlO s)(v:store_Obj) :
  (∃i,∃h:i<s.Cells.length,s.Cells[i].State=0∧(∀j (hj:j<i),s.Cells[j].State≠0)∧G3 s v=some (⟨s.Cells.set i ⟨1,s.Cells[i].Gen,v⟩,s.Last⟩,1+i+32*s.Cells[i].Gen,0)) ∨
  ((∀i (h:i<s.Cells.length),s.Cells[i].State≠0)∧G3 s v=some (s,0,4)):=by
 have hlen:=hR.len
 by_cases q:∃i,∃h:i<s.Cells.length,s.Cells[i].State=0
 ·obtain⟨i,⟨hi,h0⟩,hmin⟩:=V4 (p:=λi=>∃h:i<s.Cells.length,s.Cells[i].State=0) q
  left
  refine⟨i,hi,h0,λj hj=>λe=>by have:=hmin j ⟨by omega,e⟩;omega,?_⟩
  unfold G3
  simp only[jn,K3,d09]
  have hc:=hR.cell i hi
  refine E9 s.Cells.length (λk=>k≤i) (by omega) (by omega) (λk hk hP=>?_) (λhP=>by omega)
  rcases Nat.lt_or_ge k i with g | g
  ·refine .inl ⟨?_,g⟩
   have:s.Cells[k].State≠0:=λe=>by have:=hmin k ⟨hk,e⟩;omega
   simp only[Int.ofNat_lt,hk,decide_true,if_true,l6 hk,d09]
   rw[if_neg (by simpa using this),g9]
  ·have:k=i:=by omega
   subst this
   refine .inr ⟨.inl _,?_,rfl⟩
   simp only[Int.ofNat_lt,hk,decide_true,if_true,l6 hk,d09,h0,a4P rfl hk hlen]
   rw[a2R (by omega) (by omega) hc.2.2.1 (by have:=hR.l9;omega)]
   simp
 ·right
  refine⟨λi h e=>q ⟨i,h,e⟩,?_⟩
  unfold G3
  simp only[jn,K3,d09]
  refine E9 s.Cells.length (λk=>True) (by omega) trivial (λk hk _=>?_) (λhP=>⟨.inr (),by simp,rfl⟩)
  refine .inl ⟨?_,trivial⟩
  have:s.Cells[k].State≠0:=λe=>q ⟨k,hk,e⟩
  simp only[Int.ofNat_lt,hk,decide_true,if_true,l6 hk,d09]
  rw[if_neg (by simpa using this),g9]
def b0m(s:slab_Slab_store_Obj)(h:Int)(i:Nat):Prop:=∃hi:i<s.Cells.length,Hnd h∧(h-1) % 32=i∧s.Cells[i].Gen=(h-1) / 32∧(s.Cells[i].State=1∨s.Cells[i].State=2)
theorem a0P(s:slab_Slab_store_Obj){h:Int}(hh:h≤9223372036854775807) :
  (∃i,b0m s h i∧o9 s h=some ((i:Int),0))∨((∀i,¬b0m s h i)∧o9 s h=some (-1,if h=0 then 2 else 3)):=by
 unfold o9
 by_cases h0:h=0
 ·right
  subst h0
  exact⟨λi ⟨_,h1,_⟩=>by unfold Hnd at h1;omega,by simp⟩
 ·rw[if_neg (by simpa using h0),a2T hh,d09,if_neg h0]
  by_cases hd:Hnd h
  ·rw[if_pos hd]
   have hd':=hd
   unfold Hnd at hd'
   obtain⟨k,hk⟩:∃k:Nat,(h-1) % 32=k:=⟨((h-1) % 32).toNat,by omega⟩
   rw[hk]
   by_cases hl:k<s.Cells.length
   ·rw[if_neg (by simp;omega),l6 hl,d09,a31 hh,d09,if_pos hd]
    by_cases g:s.Cells[k].Gen=(h-1) / 32∧(s.Cells[k].State=1∨s.Cells[k].State=2)
    ·left
     refine⟨k,⟨hl,hd,hk,g⟩,?_⟩
     rw[if_neg]
     simp;omega
    ·right
     refine⟨λi ⟨hi,_,h2,h3⟩=>?_,?_⟩
     ·have:i=k:=by omega
      subst this;exact g h3
     ·rw[if_pos]
      simp;omega
   ·right
    refine⟨λi ⟨hi,_,h2,h3⟩=>by omega,?_⟩
    rw[if_pos (by simp;omega)]
  ·right
   refine⟨λi ⟨hi,h1,_⟩=>hd h1,?_⟩
   rw[if_neg hd,if_pos (by simp)]
theorem a7a{s:slab_Slab_store_Obj}{h:Int}{i:Nat}(hf:b0m s h i):o9 s h=some ((i:Int),0):=by
 have hh:=b2o hf.2.1
 rcases a0P s (h:=h) (by omega) with ⟨j,h1,h2⟩ | ⟨h1,_⟩
 ·obtain⟨_,_,e1,_⟩:=hf
  obtain⟨_,_,e2,_⟩:=h1
  have:i=j:=by omega
  subst this;exact h2
 ·exact absurd hf (h1 i)
theorem b0y{s:slab_Slab_store_Obj}{h:Int}(hh:h≤9223372036854775807)(hf:∀i,¬b0m s h i):o9 s h=some (-1,if h=0 then 2 else 3):=by
 rcases a0P s hh with ⟨j,h1,_⟩ | ⟨_,h2⟩
 ·exact absurd h1 (hf j)
 ·exact h2
theorem a0N(h:Int):(if h=0 then 2 else 3:Int)≠0:=by split <;> omega
theorem b6w{s:slab_Slab_store_Obj}{h:Int}{i:Nat}(hf:b0m s h i):∃hi:i<s.Cells.length,C2 s h=some (if s.Cells[i].State=2 then (z0,3) else (s.Cells[i].Val,0)):=by
 refine⟨hf.1,?_⟩
 unfold C2
 rw[a7a hf,d09,if_neg (by simp),l6 hf.1,d09]
 split <;> rename_i q
 ·rw[if_pos (by simpa using q)]
 ·rw[if_neg (by simpa using q)]
theorem c1J{s:slab_Slab_store_Obj}{h:Int}(hh:h≤9223372036854775807)(hf:∀i,¬b0m s h i):C2 s h=some (z0,if h=0 then 2 else 3):=by
 unfold C2
 rw[b0y hh hf,d09,if_pos (by simpa using a0N h)]
theorem b7j{s:slab_Slab_store_Obj}{h:Int}{v:store_Obj}{i:Nat}(hl:s.Cells.length≤24)(hf:b0m s h i):∃hi:i<s.Cells.length,H8 s h v=some (⟨s.Cells.set i ⟨s.Cells[i].State,s.Cells[i].Gen,v⟩,s.Last⟩,0):=by
 refine⟨hf.1,?_⟩
 unfold H8
 rw[a7a hf,d09,if_neg (by simp),l6 hf.1,d09,a4P rfl hf.1 hl,d09]
theorem c26{s:slab_Slab_store_Obj}{h:Int}{v:store_Obj}(hh:h≤9223372036854775807)(hf:∀i,¬b0m s h i):H8 s h v=some (s,if h=0 then 2 else 3):=by
 unfold H8
 rw[b0y hh hf,d09,if_pos (by simpa using a0N h)]
end Go.Sh
namespace Go.Sh
def oo(o:store_Obj):A5:=⟨o.Serial,o.Strong,o.Weak,o.Prog,o.Started,o.Fields⟩
def cO(c:slab_Cell_store_Obj):n0:=⟨c.State,c.Gen,oo c.Val⟩
def sO(s:store_Store):j1:=⟨s.S.Cells.map cO,s.S.Last,s.Serial⟩
def Sm(s:store_Store):Prop:=s.S.Cells.length≤30∧∀i (h:i<s.S.Cells.length),s.S.Cells[i].Val.Fields.length≤10
instance(s:store_Store):Decidable (Sm s):=by unfold Sm;infer_instance
def plc(i:Nat)(c:n0):z8:=⟨c.State,c.Gen,(i:Int)⟩
def pl(t:j1):B1:=⟨t.Cells.mapIdx plc,t.Last⟩
theorem a1Q(t:j1)(h:t.Cells.length≤1000):J5 t=some (pl t):=by
 unfold J5
 simp only[jn]
 refine X7 t.Cells.length (λk acc=>acc=(t.Cells.mapIdx plc).take k) (by omega) (by simp) (λk acc hk hP=>?_) (λacc hP=>?_)
 ·subst hP
  refine .inl ⟨_,?_,rfl⟩
  simp only[Int.ofNat_lt,hk,decide_true,if_true,l6 hk,d09]
  rw[A0 (by omega) (by simp;omega),d09,g9]
  have e:(t.Cells.mapIdx plc).take (k+1)=(t.Cells.mapIdx plc).take k ++ [plc k t.Cells[k]]:=by
   rw[List.take_add_one,List.getElem?_eq_getElem (by simpa using hk)]
   simp
  rw[e]
  rfl
 ·subst hP
  rw[List.take_of_length_le (by simp)]
  exact⟨t.Cells.mapIdx plc,by simp only[Int.lt_irrefl,decide_false,Bool.false_eq_true,if_false],rfl⟩
theorem c3z(s:B1):a7k s=some (decide (s.Cells.length≤24∧0≤s.Last∧s.Last≤9∧∀i (h:i<s.Cells.length),0≤s.Cells[i].State∧s.Cells[i].State≤3∧0≤s.Cells[i].Gen∧s.Cells[i].Gen≤s.Last)):=by
 unfold a7k
 split
 ·rename_i q
  rw[decide_eq_false (by simp at q;omega)]
 ·rename_i q
  have q:s.Cells.length≤24∧0≤s.Last∧s.Last≤9:=by simp at q;omega
  simp only[jn]
  refine E9 s.Cells.length (λk=>∀j (h:j<s.Cells.length),j<k→0≤s.Cells[j].State∧s.Cells[j].State≤3∧0≤s.Cells[j].Gen∧s.Cells[j].Gen≤s.Last) (by omega) (λ_ _ h=>by omega) (λk hk hP=>?_) (λhP=>?_)
  ·by_cases g:0≤s.Cells[k].State∧s.Cells[k].State≤3∧0≤s.Cells[k].Gen∧s.Cells[k].Gen≤s.Last
   ·refine .inl ⟨?_,λj h hj=>?_⟩
    ·simp only[Int.ofNat_lt,hk,decide_true,if_true,l6 hk,d09]
     rw[if_neg (by simp;omega),g9]
    ·rcases Nat.lt_or_ge j k with q' | q'
     ·exact hP j h q'
     ·have:j=k:=by omega
      subst this;exact g
   ·refine .inr ⟨.inl false,?_,?_⟩
    ·simp only[Int.ofNat_lt,hk,decide_true,if_true,l6 hk,d09]
     rw[if_pos (by simp;omega)]
    ·simp only
     rw[decide_eq_false (λq'=>g (q'.2.2.2 k hk))]
  ·refine⟨.inr (),by simp,?_⟩
   simp only
   rw[decide_eq_true ⟨q.1,q.2.1,q.2.2,λi h=>hP i h h⟩]
def Thr(c:n0):Prop:=c.State=1∨c.State=2
instance(c:n0):Decidable (Thr c):=by unfold Thr;infer_instance
theorem a99(c:n0):a2C c=some (decide (Thr c)):=by
 unfold a2C
 congr 1
 rw[Bool.eq_iff_iff,decide_eq_true_iff,Bool.or_eq_true,beq_iff_eq,beq_iff_eq]
 rfl
def b1p(t:j1)(o:A5):Prop:=1≤o.Serial∧o.Serial≤t.Serial∧0≤o.Strong∧0≤o.Weak ∧ -1≤o.Prog∧o.Prog≤5∧o.Fields.length≤4
def b0n(o:A5):Prop:=o.Serial=0∧o.Strong=0∧o.Weak=0∧o.Prog=0∧o.Started=false∧o.Fields.length=0
structure RtR (t:j1):Prop where
 len:t.Cells.length≤24
 l0:0≤t.Last
 l9:t.Last≤9
 Y4:0≤t.Serial
 cell:∀i (h:i<t.Cells.length),0≤t.Cells[i].State∧t.Cells[i].State≤3∧0≤t.Cells[i].Gen∧t.Cells[i].Gen≤t.Last
 no:∀i (h:i<t.Cells.length),¬Thr t.Cells[i]→b0n t.Cells[i].Val
 ok:∀i (h:i<t.Cells.length),Thr t.Cells[i]→b1p t t.Cells[i].Val
 dif:∀i (h:i<t.Cells.length) k (hk:k<i),Thr t.Cells[i]→Thr t.Cells[k]→t.Cells[k].Val.Serial≠t.Cells[i].Val.Serial
def c3w(t:j1)(i:Nat)(h:i<t.Cells.length):Prop:=
 (¬Thr t.Cells[i]→b0n t.Cells[i].Val)∧(Thr t.Cells[i]→b1p t t.Cells[i].Val)∧∀k (hk:k<i),Thr t.Cells[i]→Thr t.Cells[k]→t.Cells[k].Val.Serial≠t.Cells[i].Val.Serial
theorem c3A(t:j1)(hl:t.Cells.length≤1000):∃b,a7l t=some b∧(b=true↔RtR t):=by
 unfold a7l
 rw[a1Q t hl,d09,c3z,d09]
 by_cases hR:(pl t).Cells.length≤24∧0≤(pl t).Last∧(pl t).Last≤9∧∀i (h:i<(pl t).Cells.length),0≤(pl t).Cells[i].State∧(pl t).Cells[i].State≤3∧0≤(pl t).Cells[i].Gen∧(pl t).Cells[i].Gen≤(pl t).Last
 ·by_cases hs:0≤t.Serial
  ·rw[decide_eq_true hR]
   rw[if_neg (by simp;omega)]
   simp only[jn]
   have hcell:∀i (h:i<t.Cells.length),0≤t.Cells[i].State∧t.Cells[i].State≤3∧0≤t.Cells[i].Gen∧t.Cells[i].Gen≤t.Last:=λi h=>by
    have:=hR.2.2.2 i (by simpa[pl] using h)
    simpa[pl,plc] using this
   have key:(∀i (h:i<t.Cells.length),c3w t i h)↔RtR t:=by
    constructor
    ·intro q
     exact⟨by simpa[pl] using hR.1,hR.2.1,hR.2.2.1,hs,hcell,λi h=>(q i h).1,λi h=>(q i h).2.1,λi h=>(q i h).2.2⟩
    ·intro q i h
     exact⟨q.no i h,q.ok i h,q.dif i h⟩
   by_cases hall:∀i (h:i<t.Cells.length),c3w t i h
   ·refine⟨true,?_,by simpa using key.1 hall⟩
    refine E9 t.Cells.length (λ_=>True) (by omega) trivial (λk hk _=>.inl ⟨?_,trivial⟩) (λ_=>⟨.inr (),by simp,rfl⟩)
    obtain⟨q1,q2,q3⟩:=hall k hk
    simp only[Int.ofNat_lt,hk,decide_true,if_true,l6 hk,d09,a99]
    by_cases ht:Thr t.Cells[k]
    ·rw[decide_eq_true ht]
     obtain⟨o1,o2,o3,o4,o5,o6,o7⟩:=q2 ht
     rw[if_neg (by simp),if_neg (by simp;omega)]
     refine E9 k (λ_=>True) (by omega) trivial (λj hj _=>.inl ⟨?_,trivial⟩) (λ_=>⟨.inr (),by simp,by rw[g9]⟩)
     have hj':j<t.Cells.length:=by omega
     simp only[Int.ofNat_lt,hj,decide_true,if_true,l6 hj',d09,a99]
     rw[if_neg (by simp only[Bool.and_eq_true,decide_eq_true_eq,beq_iff_eq,not_and];exact λa=>q3 j hj ht a),g9]
    ·rw[decide_eq_false ht]
     obtain⟨o1,o2,o3,o4,o5,o6⟩:=q1 ht
     rw[if_pos (by simp),if_neg (by simp[o1,o2,o3,o4,o5,o6]),g9]
   ·refine⟨false,?_,by simpa using λq=>hall (key.2 q)⟩
    obtain⟨i,⟨hi,hbad⟩,hmin⟩:=V4 (p:=λi=>∃h:i<t.Cells.length,¬c3w t i h) (by
     have:=Classical.not_forall.1 hall
     obtain⟨i,q⟩:=this
     obtain⟨h,q⟩:=Classical.not_forall.1 q
     exact⟨i,h,q⟩)
    refine E9 t.Cells.length (λk=>k≤i) (by omega) (by omega) (λk hk hP=>?_) (λhP=>by omega)
    simp only[Int.ofNat_lt,hk,decide_true,if_true,l6 hk,d09,a99]
    rcases Nat.lt_or_ge k i with g | g
    ·refine .inl ⟨?_,g⟩
     have hok:c3w t k hk:=Classical.byContradiction λq=>by have:=hmin k ⟨hk,q⟩;omega
     obtain⟨q1,q2,q3⟩:=hok
     by_cases ht:Thr t.Cells[k]
     ·rw[decide_eq_true ht]
      obtain⟨o1,o2,o3,o4,o5,o6,o7⟩:=q2 ht
      rw[if_neg (by simp),if_neg (by simp;omega)]
      refine E9 k (λ_=>True) (by omega) trivial (λj hj _=>.inl ⟨?_,trivial⟩) (λ_=>⟨.inr (),by simp,by rw[g9]⟩)
      have hj':j<t.Cells.length:=by omega
      simp only[Int.ofNat_lt,hj,decide_true,if_true,l6 hj',d09,a99]
      rw[if_neg (by simp only[Bool.and_eq_true,decide_eq_true_eq,beq_iff_eq,not_and];exact λa=>q3 j hj ht a),g9]
     ·rw[decide_eq_false ht]
      obtain⟨o1,o2,o3,o4,o5,o6⟩:=q1 ht
      rw[if_pos (by simp),if_neg (by simp[o1,o2,o3,o4,o5,o6]),g9]
    ·have:k=i:=by omega
     subst this
     refine .inr ⟨.inl false,?_,rfl⟩
     by_cases ht:Thr t.Cells[k]
     ·rw[decide_eq_true ht]
      rw[if_neg (by simp)]
      by_cases ho:b1p t t.Cells[k].Val
      ·have ho':=ho
       obtain⟨o1,o2,o3,o4,o5,o6,o7⟩:=ho'
       rw[if_neg (by simp;omega)]
       have:∃j,j<k∧∃h:j<t.Cells.length,Thr t.Cells[j]∧t.Cells[j].Val.Serial=t.Cells[k].Val.Serial:=Classical.byContradiction λq=>hbad ⟨λn=>absurd ht n,λ_=>ho,λj hj _ h2 h3=>q ⟨j,hj,by omega,h2,h3⟩⟩
       obtain⟨j,⟨hj,hj',h2,h3⟩,hjm⟩:=V4 this
       refine E9 k (λm=>m≤j) (by omega) (by omega) (λm hm hP2=>?_) (λhP2=>by omega)
       have hm':m<t.Cells.length:=by omega
       simp only[Int.ofNat_lt,hm,decide_true,if_true,l6 hm',d09,a99]
       rcases Nat.lt_or_ge m j with g2 | g2
       ·refine .inl ⟨?_,g2⟩
        rw[if_neg (by
         simp only[Bool.and_eq_true,decide_eq_true_eq,beq_iff_eq,not_and]
         intro a b
         have:=hjm m ⟨by omega,hm',a,b⟩
         omega),g9]
       ·have:m=j:=by omega
        subst this
        refine .inr ⟨.inl false,?_,rfl⟩
        rw[if_pos (by simp only[Bool.and_eq_true,decide_eq_true_eq,beq_iff_eq];exact⟨h2,h3⟩)]
      ·rw[if_pos (by
        unfold b1p at ho
        simp only[Bool.or_eq_true,decide_eq_true_eq]
        omega)]
     ·rw[decide_eq_false ht]
      rw[if_pos (by simp)]
      have hno:¬b0n t.Cells[k].Val:=λq=>hbad ⟨λ_=>q,λn=>absurd n ht,λj hj h1 _=>absurd h1 ht⟩
      rw[if_pos (by
       unfold b0n at hno
       simp only[Bool.or_eq_true,bne_iff_ne,ne_eq]
       cases hst:t.Cells[k].Val.Started
       ·simp only[hst,true_and,Bool.false_eq_true,or_false] at hno ⊢
        omega
       ·simp)]
  ·refine⟨false,?_,by simp;exact λq=>hs q.Y4⟩
   rw[if_pos (by simp;omega)]
 ·refine⟨false,?_,?_⟩
  ·rw[decide_eq_false hR,if_pos (by simp)]
  ·simp only[Bool.false_eq_true,false_iff]
   intro q
   exact hR ⟨by simpa[pl] using q.len,q.l0,q.l9,λi h=>by have:=q.cell i (by simpa[pl] using h);simpa[pl,plc] using this⟩
end Go.Sh
namespace Go.Sh
theorem b7l{c:Int→Int→Option Int}{xs:List Int}(key:Int→Int)(hc:∀x y,∃r,c x y=some r∧(r<0↔key x<key y))(hl:xs.length<4611686018427387904) :
  ∃ys,b0Z c xs=some ys∧ys.Perm xs∧ys.Pairwise (λa b=>key a≤key b):=by
 have hlt:∀x y,Go.Proofs.ltOf (λx y=>(c x y).getD 0) x y=decide (key x<key y):=λx y=>by
  obtain⟨r,h1,h2⟩:=hc x y
  show decide ((c x y).getD 0<0)=_
  rw[h1,Option.getD_some]
  exact decide_eq_decide.2 h2
 have hO:Go.Sort.SWO (Go.Proofs.ltOf λx y=>(c x y).getD 0):=by
  refine⟨λx=>?_,λx y z=>?_,λx y z=>?_⟩
  ·rw[hlt];simp
  ·rw[hlt,hlt,hlt];simp;omega
  ·rw[hlt,hlt,hlt];simp;omega
 have hcond:(∀x y,(c x y).isSome=true)∧Go.Sort.SWO (Go.Proofs.ltOf λx y=>(c x y).getD 0)∧xs.length<4611686018427387904:=⟨λx y=>by
  obtain⟨r,h1,_⟩:=hc x y
  rw[h1];rfl,hO,hl⟩
 unfold b0Z
 rw[if_pos hcond]
 refine⟨_,rfl,?_⟩
 obtain⟨⟨p1,p2,p3⟩,p4⟩:=Go.Sort.pdq_sorts (Go.Proofs.ltOf λx y=>(c x y).getD 0) hO xs.toArray 0 xs.length (Go.Lib.bitLen xs.length) true true (Nat.zero_le _) (by simp) (Or.inl rfl)
 generalize Go.Sort.pdq (Go.Proofs.ltOf λx y=>(c x y).getD 0) xs.toArray 0 xs.length (Go.Lib.bitLen xs.length) true true=d at p1 p2 p3 p4 ⊢
 have hs:d.size=xs.length:=by simpa using p1
 refine⟨?_,?_⟩
 ·have e1:d.extract 0 xs.length=d:=by rw[←hs];exact Array.extract_size
  have e2:xs.toArray.extract 0 xs.length=xs.toArray:=by
   simp
  rw[e1,e2] at p3
  simpa using p3
 ·rw[List.pairwise_iff_getElem]
  intro i j hi hj hij
  have hi':i<d.size:=by simpa using hi
  have hj':j<d.size:=by simpa using hj
  have:=p4 i j (Nat.zero_le _) hij (by omega)
  rw[hlt,getElem!_pos d j hj',getElem!_pos d i hi'] at this
  have:=of_decide_eq_false this
  simp only[Array.getElem_toList]
  omega
def U3:Nat→List slab_Cell_store_Obj→List Int
 | _,[]=>[]
 | k,c::r=>(if c.State=1 then [1+(k:Int)+32*c.Gen] else [])++U3 (k+1) r
theorem a7d(c:slab_Cell_store_Obj):∀(k:Nat) (xs:List slab_Cell_store_Obj),U3 k (xs ++ [c])=U3 k xs++(if c.State=1 then [1+((k+xs.length:Nat):Int)+32*c.Gen] else [])
 | k,[]=>by simp[U3]
 | k,x::r=>by
  simp only[List.cons_append,U3,a7d c (k+1) r,List.append_assoc,List.length_cons]
  rw[show k+1+r.length=k+(r.length+1) by omega]
theorem a4j:∀(k:Nat) (xs:List slab_Cell_store_Obj),(U3 k xs).length≤xs.length
 | _,[]=>by simp[U3]
 | k,c::r=>by
  have:=a4j (k+1) r
  simp only[U3,List.length_append,List.length_cons]
  split <;> simp <;> omega
theorem a6r{h:Int}:∀ {k:Nat} {xs:List slab_Cell_store_Obj},h∈U3 k xs↔∃i,∃hi:i<xs.length,xs[i].State=1∧h=1+((k+i:Nat):Int)+32*xs[i].Gen
 | k,[]=>by simp[U3]
 | k,c::r=>by
  simp only[U3,List.mem_append,a6r (k:=k+1) (xs:=r)]
  constructor
  ·rintro (q | ⟨i,hi,q1,q2⟩)
   ·by_cases hc:c.State=1
    ·rw[if_pos hc] at q
     exact⟨0,by simp,by simpa using hc,by simpa using q⟩
    ·rw[if_neg hc] at q
     cases q
   ·exact⟨i+1,by simpa using hi,by simpa using q1,by simp only[List.getElem_cons_succ];rw[q2,show k+1+i=k+(i+1) by omega]⟩
  ·rintro⟨i,hi,q1,q2⟩
   cases i with
   | zero=>
    left
    simp only[List.getElem_cons_zero] at q1 q2
    rw[if_pos q1]
    simp[q2]
   | succ i=>
    right
    simp only[List.getElem_cons_succ] at q1 q2
    exact⟨i,by simpa using hi,q1,by rw[q2,show k+1+i=k+(i+1) by omega]⟩
def sk(cs:List slab_Cell_store_Obj)(h:Int):Int:=match cs[((h-1) % 32).toNat]? with
 | some c=>c.Val.Serial
 | none=>0
theorem b7k{cs:List slab_Cell_store_Obj}{i:Nat}{g:Int}(h:i<cs.length)(h32:cs.length≤32):sk cs (1+(i:Int)+32*g)=cs[i].Val.Serial:=by
 unfold sk
 have:((1+(i:Int)+32*g-1) % 32).toNat=i:=by omega
 rw[this,List.getElem?_eq_getElem h]
structure Slb (cs:List slab_Cell_store_Obj):Prop where
 len:cs.length≤24
 gen:∀i (h:i<cs.length),0≤cs[i].Gen∧cs[i].Gen≤9
theorem b4f{s:store_Store}(hR:Slb s.S.Cells):∃l,E0 s=some l∧l.Perm (U3 0 s.S.Cells)∧l.Pairwise (λa b=>sk s.S.Cells a≤sk s.S.Cells b):=by
 have hlen:=hR.len
 unfold E0
 simp only[jn]
 have hh:=a4j 0 s.S.Cells
 have hloop:∃e:List (Int × Int) × List Int,lp (S:=Int × (List (Int × Int)) × (List Int)) (E:=((List (Int × Int)) × (List Int))) (λ((s23,s24,s25):Int × (List (Int × Int)) × (List Int))=>
   if (decide (s23<(s.S.Cells.length:Int))) then
    ((ix s.S.Cells s23).bind λv35=>
     if (v35.State==1) then
      (V6 s23 v35.Gen).bind λv36=>
      (app 8 s25 [v36]).bind λv37=>
      some (.inl (s7 (s23+1),(m9 s24 v36 v35.Val.Serial),v37))
     else
     some (.inl (s7 (s23+1),s24,s25)))
   else
   some (.inr (s24,s25))) (0,[],[])=some e∧e.2=U3 0 s.S.Cells∧∀h∈e.2,y4 e.1 h=some (sk s.S.Cells h):=by
  refine a0Y (T:=List (Int × Int) × List Int) s.S.Cells.length (λk e=>e.2=U3 0 (s.S.Cells.take k)∧∀h∈e.2,y4 e.1 h=some (sk s.S.Cells h)) (λe:List (Int × Int) × List Int=>e.2=U3 0 s.S.Cells∧∀h∈e.2,y4 e.1 h=some (sk s.S.Cells h)) (by omega) ⟨by simp[U3],by simp⟩ (λk e hk hP=>?_) (λe hP=>?_)
  ·obtain⟨h1,h2⟩:=hP
   obtain⟨m,l⟩:=e
   simp only at h1 h2
   left
   have hc:=hR.gen k hk
   have hl:l.length≤24:=by rw[h1];have:=a4j 0 (s.S.Cells.take k);simp at this;omega
   have et:s.S.Cells.take (k+1)=s.S.Cells.take k ++ [s.S.Cells[k]]:=by rw[List.take_add_one,List.getElem?_eq_getElem hk];rfl
   have el:(s.S.Cells.take k).length=k:=by simp;omega
   by_cases q:s.S.Cells[k].State=1
   ·refine⟨(m9 m (1+(k:Int)+32*s.S.Cells[k].Gen) s.S.Cells[k].Val.Serial,l ++ [1+(k:Int)+32*s.S.Cells[k].Gen]),?_,?_,?_⟩
    ·simp only[Int.ofNat_lt,hk,decide_true,if_true,l6 hk,d09,q,beq_self_eq_true]
     rw[a2R (by omega) (by omega) hc.1 hc.2,d09,A0 (by omega) (by simp;omega),d09,g9]
    ·simp only
     rw[et,a7d,if_pos q,el,h1,Nat.zero_add]
    ·intro h hh
     simp only[List.mem_append,List.mem_singleton] at hh ⊢
     rw[a7h]
     rcases hh with hh | rfl
     ·split
      ·rename_i e;rw[e,b7k hk (by omega)]
      ·exact h2 h hh
     ·rw[if_pos rfl,b7k hk (by omega)]
   ·refine⟨(m,l),?_,?_,h2⟩
    ·simp only[Int.ofNat_lt,hk,decide_true,if_true,l6 hk,d09]
     rw[if_neg (by simpa using q),g9]
    ·simp only
     rw[et,a7d,if_neg q,h1,List.append_nil]
  ·obtain⟨h1,h2⟩:=hP
   obtain⟨m,l⟩:=e
   refine⟨(m,l),by simp only[Int.lt_irrefl,decide_false,Bool.false_eq_true,if_false],?_,h2⟩
   simpa using h1
 obtain⟨⟨m,l⟩,e1,e2,e3⟩:=hloop
 rw[show lp _ _=_ from e1,d09]
 simp only at e2 e3 ⊢
 subst e2
 obtain⟨ys,q1,q2,q3⟩:=b7l (c:=λp q=>a2w p q m) (xs:=U3 0 s.S.Cells) (λh=>(y4 m h).getD 0) (λx y=>by
  unfold a2w a19 Z6
  simp only[d09,bne_self_eq_false,Bool.false_eq_true,if_false]
  generalize (y4 m x).getD 0=a
  generalize (y4 m y).getD 0=b
  by_cases h1:a<b
  ·rw[decide_eq_true h1];exact⟨-1,rfl,by simp[h1]⟩
  ·rw[decide_eq_false h1]
   by_cases h2:a > b
   ·rw[decide_eq_true h2];exact⟨1,rfl,by simp[h1]⟩
   ·rw[decide_eq_false h2];exact⟨0,rfl,by simp[h1]⟩) (by omega)
 refine⟨ys,by rw[q1];rfl,q2,q3.imp_of_mem λ{a b} ha hb hab=>?_⟩
 rw[e3 a (q2.mem_iff.1 ha),e3 b (q2.mem_iff.1 hb)] at hab
 simpa using hab
theorem a5F{key:Int→Int}:∀ {l m:List Int},l.Perm m→l.Pairwise (λa b=>key a≤key b)→m.Pairwise (λa b=>key a≤key b)→(∀a∈l,∀b∈l,key a=key b→a=b)→l=m
 | [],m,hp,_,_,_=>(List.nil_perm.1 hp).symm
 | a::l,[],hp,_,_,_=>by simp at hp
 | a::l,b::m,hp,h1,h2,hk=>by
  have ha:=List.pairwise_cons.1 h1
  have hb:=List.pairwise_cons.1 h2
  have e:a=b:=by
   have m1:b∈a::l:=hp.mem_iff.2 (List.mem_cons_self ..)
   have m2:a∈b::m:=hp.mem_iff.1 (List.mem_cons_self ..)
   rcases List.mem_cons.1 m1 with q | q
   ·exact q.symm
   ·rcases List.mem_cons.1 m2 with q' | q'
    ·exact q'
    ·exact hk a (List.mem_cons_self ..) b m1 (Int.le_antisymm (ha.1 b q) (hb.1 a q'))
  subst e
  rw[a5F (List.perm_cons a |>.1 hp) ha.2 hb.2 λx hx y hy=>hk x (List.mem_cons_of_mem _ hx) y (List.mem_cons_of_mem _ hy)]
end Go.Sh
namespace Go.Sh
theorem y6(s:store_Store):(sO s).Cells.length=s.S.Cells.length:=by simp[sO]
theorem b9v(s:store_Store)(i:Int):ix (sO s).Cells i=(ix s.S.Cells i).map cO:=a0X cO s.S.Cells i
theorem a0t(t:j1):(pl t).Cells.length=t.Cells.length:=by simp[pl]
theorem b6U{t:j1}{k:Nat}(h:k<t.Cells.length):ix (pl t).Cells k=some (plc k t.Cells[k]):=by
 rw[l6 (by simpa[pl] using h)]
 simp[pl]
theorem a8r(s:store_Store){h:Int}(hh:h≤9223372036854775807):K1 (pl (sO s)) h=o9 s.S h:=by
 unfold K1 o9
 rw[a6C,a2T hh,b8k,a31 hh]
 simp only[d09,a0t,y6]
 generalize (if Hnd h then (h-1) % 32 else -1:Int)=v
 generalize (if Hnd h then (h-1) / 32 else -1:Int)=g
 split
 ·rfl
 ·split
  ·rfl
  ·rename_i q
   have q:0≤v∧v<s.S.Cells.length:=by simp at q;omega
   obtain⟨k,rfl⟩:∃k:Nat,v=k:=⟨v.toNat,by omega⟩
   have hk:k<s.S.Cells.length:=by omega
   rw[b6U (by rw[y6];exact hk),l6 hk]
   simp only[d09,plc,sO,List.getElem_map,cO]
theorem c25(s:store_Store)(hl:s.S.Cells.length≤24){h:Int}(hh:h≤9223372036854775807)(o:store_Obj):L0 (sO s) h (oo o)=(H9 s h o).map λp=>(sO p.1,p.2):=by
 unfold L0 H9
 rw[a1Q _ (by rw[y6];omega),d09,a8r s hh]
 rcases a0P s.S hh with ⟨i,hf,e⟩ | ⟨hf,e⟩
 ·obtain⟨hi,e2⟩:=b7j (v:=o) hl hf
  rw[e,e2]
  simp only[d09,bne_self_eq_false,Bool.false_eq_true,if_false,Option.map_some]
  unfold a11
  rw[K5 (by omega) (by rw[y6];omega),d09,l6 (by rw[y6];exact hi),d09]
  simp[sO,cO,oo,List.map_set]
 ·rw[e,c26 hh hf]
  simp only[d09]
  rw[if_pos (by simpa using a0N h)]
  rfl
end Go.Sh
namespace Go.Sh
theorem a06{s:store_Store}(h:RtR (sO s)):s.S.Cells.length≤24:=by have:=h.len;rwa [y6] at this
theorem b5D{s:store_Store}(h:RtR (sO s))(i:Nat)(hi:i<s.S.Cells.length):0≤s.S.Cells[i].State∧s.S.Cells[i].State≤3∧0≤s.S.Cells[i].Gen∧s.S.Cells[i].Gen≤s.S.Last:=by
 have:=h.cell i (by rw[y6];exact hi)
 simpa[sO,cO] using this
theorem b5E{s:store_Store}(h:RtR (sO s)):Slb s.S.Cells:=⟨a06 h,λi hi=>by have:=b5D h i hi;have h9:s.S.Last≤9:=h.l9;omega⟩
theorem c2X{s:store_Store}(h:RtR (sO s))(i:Nat)(hi:i<s.S.Cells.length)(ht:s.S.Cells[i].State=1∨s.S.Cells[i].State=2):b1p (sO s) (oo s.S.Cells[i].Val):=by
 have:=h.ok i (by rw[y6];exact hi)
 simp only[sO,List.getElem_map,cO,Thr] at this
 exact this ht
theorem c2W{s:store_Store}(h:RtR (sO s)){i j:Nat}(hi:i<s.S.Cells.length)(hj:j<s.S.Cells.length)(a:s.S.Cells[i].State=1∨s.S.Cells[i].State=2)(b:s.S.Cells[j].State=1∨s.S.Cells[j].State=2)(e:s.S.Cells[i].Val.Serial=s.S.Cells[j].Val.Serial):i=j:=by
 have key:∀i (hi:i<s.S.Cells.length) j (hj:j<i),(s.S.Cells[i].State=1∨s.S.Cells[i].State=2)→(s.S.Cells[j].State=1∨s.S.Cells[j].State=2)→s.S.Cells[j].Val.Serial≠s.S.Cells[i].Val.Serial:=λi hi j hj a b=>by
  have:=h.dif i (by rw[y6];exact hi) j hj
  simp only[sO,List.getElem_map,cO,Thr,oo] at this
  exact this a b
 rcases Nat.lt_trichotomy i j with q | q | q
 ·exact absurd e (key j hj i q b a)
 ·exact q
 ·exact absurd e.symm (key i hi j q a b)
theorem a4i{s:store_Store}(hR:RtR (sO s)){x:Int}(hx:x∈U3 0 s.S.Cells):∃i,∃hi:i<s.S.Cells.length,s.S.Cells[i].State=1∧x=1+(i:Int)+32*s.S.Cells[i].Gen∧b0m s.S x i∧sk s.S.Cells x=s.S.Cells[i].Val.Serial∧p8 s x=some (s.S.Cells[i].Val,0):=by
 obtain⟨i,hi,h1,h2⟩:=a6r.1 hx
 rw[Nat.zero_add] at h2
 have hl:=(a06 hR)
 have hc:=(b5E hR).gen i hi
 have hf:b0m s.S x i:=⟨hi,by unfold Hnd;omega,by omega,by omega,.inl h1⟩
 refine⟨i,hi,h1,h2,hf,by rw[h2];exact b7k hi (by omega),?_⟩
 obtain⟨_,e⟩:=b6w hf
 unfold p8
 rw[e,if_neg (by omega)]
 rfl
theorem c1G{s:store_Store}{x:Int}{i:Nat}(hf:b0m s.S x i)(h1:∀hi:i<s.S.Cells.length,s.S.Cells[i].State=1):x∈U3 0 s.S.Cells:=by
 obtain⟨hi,q1,q2,q3,_⟩:=hf
 refine a6r.2 ⟨i,hi,h1 hi,?_⟩
 unfold Hnd at q1
 rw[Nat.zero_add]
 omega
theorem b5L{s:store_Store}(hR:RtR (sO s)){x y:Int}(hx:x∈U3 0 s.S.Cells)(hy:y∈U3 0 s.S.Cells)(e:sk s.S.Cells x=sk s.S.Cells y):x=y:=by
 obtain⟨i,hi,a1,a2,_,a4,_⟩:=a4i hR hx
 obtain⟨j,hj,b1,b2,_,b4,_⟩:=a4i hR hy
 have:=(c2W hR) hi hj (.inl a1) (.inl b1) (by rw[←a4,←b4];exact e)
 subst this
 rw[a2,b2]
theorem a41:∀(k:Nat) (cs:List slab_Cell_store_Obj),k+cs.length≤32→(U3 k cs).Nodup
 | _,[],_=>List.nodup_nil
 | k,c::r,h=>by
  simp only[List.length_cons] at h
  unfold U3
  rw[List.nodup_append]
  refine⟨by split <;> simp,a41 (k+1) r (by omega),λa ha b hb e=>?_⟩
  split at ha
  ·simp only[List.mem_singleton] at ha
   subst ha;subst e
   obtain⟨i,hi,h1,h2⟩:=a6r.1 hb
   have:((1+(k:Int)+32*c.Gen)-1) % 32=((1+((k+1+i:Nat):Int)+32*r[i].Gen)-1) % 32:=by rw[h2]
   omega
  ·cases ha
theorem b81{s:store_Store}(hR:RtR (sO s)):∃l,E0 s=some l∧l.Perm (U3 0 s.S.Cells)∧l.Pairwise (λa b=>sk s.S.Cells a<sk s.S.Cells b):=by
 obtain⟨l,h1,h2,h3⟩:=b4f (b5E hR)
 refine⟨l,h1,h2,?_⟩
 have hn:l.Nodup:=h2.nodup_iff.2 (a41 0 _ (by have:=(a06 hR);omega))
 have:=List.Pairwise.and h3 hn
 refine this.imp_of_mem λ{a b} ha hb ⟨q1,q2⟩=>?_
 rcases Int.lt_or_eq_of_le q1 with q | q
 ·exact q
 ·exact absurd (b5L hR (h2.mem_iff.1 ha) (h2.mem_iff.1 hb) q) q2
end Go.Sh
namespace Go.Sh
theorem a9c:∀(k:Nat) (cs:List slab_Cell_store_Obj) (i:Nat) (c:slab_Cell_store_Obj) (hi:i<cs.length),cs[i].State≠1→c.State=1→(U3 k (cs.set i c)).Perm ((1+((k+i:Nat):Int)+32*c.Gen)::U3 k cs)
 | _,[],i,_,hi,_,_=>by simp at hi
 | k,d::r,0,c,hi,h1,h2=>by
  simp only[List.getElem_cons_zero] at h1
  simp only[List.set_cons_zero,U3,if_pos h2,if_neg h1,List.nil_append,Nat.add_zero]
  exact List.Perm.refl _
 | k,d::r,i+1,c,hi,h1,h2=>by
  simp only[List.getElem_cons_succ] at h1
  simp only[List.set_cons_succ,U3]
  have:=a9c (k+1) r i c (by simpa using hi) h1 h2
  rw[show k+1+i=k+(i+1) by omega] at this
  exact (List.Perm.append_left _ this).trans List.perm_middle
theorem c7h{cs:List slab_Cell_store_Obj}{i:Nat}{c:slab_Cell_store_Obj}{x:Int}(h:((x-1) % 32).toNat≠i):sk (cs.set i c) x=sk cs x:=by
 unfold sk
 rw[List.getElem?_set_ne (by omega)]
theorem b78{s:store_Store}(hR:RtR (sO s)){i:Nat}(hi:i<s.S.Cells.length)(h0:s.S.Cells[i].State=0)(o:store_Obj)(ho:o.Serial=s.Serial+1){l:List Int}(hl:E0 s=some l) :
  E0 ⟨⟨s.S.Cells.set i ⟨1,s.S.Cells[i].Gen,o⟩,s.S.Last⟩,s.Serial+1⟩=some (l ++ [1+(i:Int)+32*s.S.Cells[i].Gen]):=by
 obtain⟨l',e,l1,l2⟩:=b81 hR
 rw[hl] at e
 cases e
 have hlen:=a06 hR
 have hsl:Slb (s.S.Cells.set i ⟨1,s.S.Cells[i].Gen,o⟩):=⟨by simpa using hlen,λj hj=>by
  rw[List.getElem_set]
  have:=(b5E hR).gen
  split
  ·exact this i hi
  ·exact this j (by simpa using hj)⟩
 obtain⟨m,m1,m2,m3⟩:=b4f (s:=⟨⟨s.S.Cells.set i ⟨1,s.S.Cells[i].Gen,o⟩,s.S.Last⟩,s.Serial+1⟩) hsl
 have hp:=a9c 0 s.S.Cells i ⟨1,s.S.Cells[i].Gen,o⟩ hi (by omega) rfl
 rw[Nat.zero_add] at hp
 have hold:∀x∈l,sk (s.S.Cells.set i ⟨1,s.S.Cells[i].Gen,o⟩) x=sk s.S.Cells x∧sk s.S.Cells x≤s.Serial:=λx hx=>by
  obtain⟨j,hj,a1,a2,a3,a4,_⟩:=a4i hR (l1.mem_iff.1 hx)
  refine⟨c7h ?_,?_⟩
  ·obtain⟨_,_,q,_⟩:=a3
   intro e
   have:j=i:=by omega
   subst this
   omega
  ·rw[a4]
   exact (c2X hR j hj (.inl a1)).2.1
 have hnew:sk (s.S.Cells.set i ⟨1,s.S.Cells[i].Gen,o⟩) (1+(i:Int)+32*s.S.Cells[i].Gen)=s.Serial+1:=by
  rw[b7k (by simpa using hi) (by simp;omega)]
  simp[ho]
 rw[m1]
 congr 1
 refine a5F (key:=sk (s.S.Cells.set i ⟨1,s.S.Cells[i].Gen,o⟩)) ?_ m3 ?_ ?_
 ·refine m2.trans (hp.trans ?_)
  refine List.Perm.trans (List.Perm.cons _ l1.symm) ?_
  exact (List.perm_append_singleton _ _).symm
 ·rw[List.pairwise_append]
  refine⟨l2.imp_of_mem λ{a b} ha hb hab=>?_,by simp,λa ha b hb=>?_⟩
  ·rw[(hold a ha).1,(hold b hb).1];omega
  ·rw[List.mem_singleton] at hb
   subst hb
   rw[hnew,(hold a ha).1]
   have:=(hold a ha).2
   omega
 ·have hm:∀a∈m,a∈l∨a=1+(i:Int)+32*s.S.Cells[i].Gen:=λa ha=>by
   have:=hp.mem_iff.1 (m2.mem_iff.1 ha)
   rcases List.mem_cons.1 this with q | q
   ·exact .inr q
   ·exact .inl (l1.mem_iff.2 q)
  intro a ha b hb hab
  rcases hm a ha with qa | rfl <;> rcases hm b hb with qb | rfl
  ·rw[(hold a qa).1,(hold b qb).1] at hab
   exact b5L hR (l1.mem_iff.1 qa) (l1.mem_iff.1 qb) hab
  ·rw[(hold a qa).1,hnew] at hab
   have:=(hold a qa).2
   omega
  ·rw[(hold b qb).1,hnew] at hab
   have:=(hold b qb).2
   omega
  ·rfl
end Go.Sh
namespace Go.Sh
instance(t:j1)(o:A5):Decidable (b1p t o):=by unfold b1p;infer_instance
instance(o:A5):Decidable (b0n o):=by unfold b0n;infer_instance
theorem b4X(c:slab_Cell_store_Obj):G1 c=some (decide (Thr (cO c))):=by
 unfold G1
 congr 1
 rw[Bool.eq_iff_iff,decide_eq_true_iff,Bool.or_eq_true,beq_iff_eq,beq_iff_eq]
 rfl
theorem c4f(s:store_Store)(c:slab_Cell_store_Obj):P8 s c=some (decide (Thr (cO c)→b1p (sO s) (oo c.Val))):=by
 unfold P8
 rw[b4X,d09]
 by_cases h:Thr (cO c)
 ·rw[decide_eq_true h]
  by_cases q:1≤c.Val.Serial∧c.Val.Serial≤s.Serial∧0≤c.Val.Strong∧0≤c.Val.Weak
  ·have e:(((decide (c.Val.Serial≥1))&&(decide (c.Val.Serial≤s.Serial)))&&(decide (c.Val.Strong≥0))&&(decide (c.Val.Weak≥0)))=true:=by simp;omega
   rw[e]
   simp only[Bool.not_true,beq_self_eq_true,Bool.and_self,L7,G2,d09,Bool.false_or,Bool.true_and]
   congr 1
   rw[Bool.eq_iff_iff,decide_eq_true_iff]
   simp only[Bool.and_eq_true,decide_eq_true_eq,b1p,oo,sO]
   constructor
   ·intro k _;omega
   ·intro k;have:=k h;omega
  ·have e:(((decide (c.Val.Serial≥1))&&(decide (c.Val.Serial≤s.Serial)))&&(decide (c.Val.Strong≥0))&&(decide (c.Val.Weak≥0)))=false:=by
    rw[Bool.eq_false_iff];simp only[ne_eq,Bool.and_eq_true,decide_eq_true_eq];omega
   rw[e]
   rw[show (decide (Thr (cO c)→b1p (sO s) (oo c.Val)))=false by
    rw[decide_eq_false_iff_not]
    intro k
    have:=k h
    simp only[b1p,oo,sO] at this
    omega]
   rfl
 ·rw[decide_eq_false h,decide_eq_true (λk=>absurd k h)]
  rfl
theorem c6E(s:store_Store)(c:slab_Cell_store_Obj):K4 s c=some (decide (¬Thr (cO c)→b0n (oo c.Val))):=by
 unfold K4
 rw[b4X,d09]
 by_cases h:Thr (cO c)
 ·rw[decide_eq_true h,decide_eq_true (λk=>absurd h k)]
  rfl
 ·rw[decide_eq_false h]
  congr 1
  rw[Bool.eq_iff_iff,decide_eq_true_iff]
  simp only[Bool.false_or,Bool.and_eq_true,beq_iff_eq,Bool.not_eq_true',b0n,oo]
  constructor
  ·intro k _;obtain⟨⟨⟨k1,k2,k3,k4,_⟩,k5⟩,k6⟩:=k;exact⟨k1,k2,k3,k4,k5,by omega⟩
  ·intro k;obtain⟨k1,k2,k3,k4,k5,k6⟩:=k h;exact⟨⟨⟨k1,k2,k3,k4,trivial⟩,k5⟩,by omega⟩
def bb(s:store_Store)(c:slab_Cell_store_Obj):Nat→Bool
 | 0=>decide (0≤c.State∧c.State≤3)
 | 1=>decide (0≤c.Gen∧c.Gen≤s.S.Last)
 | 2=>decide (Thr (cO c)→b1p (sO s) (oo c.Val))
 | _=>decide (¬Thr (cO c)→b0n (oo c.Val))
def rls:List A9:=[(⟨some 292⟩:A9),(⟨some 293⟩:A9),(⟨some 294⟩:A9),(⟨some 295⟩:A9)]
theorem b9u(s:store_Store)(c:slab_Cell_store_Obj){m:Nat}(hm:m<rls.length):b1H rls[m].kept s c=some (bb s c m):=by
 have hm':m<4:=hm
 match m,hm' with
 | 0,_=>
  show S0 s c=some (decide (0≤c.State∧c.State≤3))
  unfold S0
  congr 1
  rw[Bool.eq_iff_iff,Bool.and_eq_true,decide_eq_true_iff,decide_eq_true_iff,decide_eq_true_iff]
 | 1,_=>
  show J1 s c=some (decide (0≤c.Gen∧c.Gen≤s.S.Last))
  unfold J1
  congr 1
  rw[Bool.eq_iff_iff,Bool.and_eq_true,decide_eq_true_iff,decide_eq_true_iff,decide_eq_true_iff]
 | 2,_=>
  show P8 s c=_
  rw[c4f];rfl
 | 3,_=>
  show K4 s c=_
  rw[c6E];rfl
def Dif(s:store_Store):Prop:=∀i (h:i<s.S.Cells.length) k (hk:k<i),Thr (cO s.S.Cells[i])→Thr (cO s.S.Cells[k])→s.S.Cells[k].Val.Serial≠s.S.Cells[i].Val.Serial
open Classical in
theorem differ (s:store_Store) (hl:s.S.Cells.length≤1000):O6 s=some (decide (Dif s)):=by
 unfold O6
 simp only[jn]
 refine X7 s.S.Cells.length (λk m=>(∀x,(y4 m x).getD false=true↔∃j,∃h:j<s.S.Cells.length,j<k∧Thr (cO s.S.Cells[j])∧s.S.Cells[j].Val.Serial=x) ∧
  ∀i (h:i<s.S.Cells.length) j (hj:j<i),i<k→Thr (cO s.S.Cells[i])→Thr (cO s.S.Cells[j])→s.S.Cells[j].Val.Serial≠s.S.Cells[i].Val.Serial) (by omega) ⟨λx=>⟨λq=>by simp[y4] at q,λ⟨j,h,q,_⟩=>by omega⟩,λi h j hj q=>by omega⟩ (λk m hk hP=>?_) (λm hP=>?_)
 ·obtain⟨h1,h2⟩:=hP
  simp only[Int.ofNat_lt,hk,decide_true,if_true,l6 hk,d09,b4X]
  by_cases ht:Thr (cO s.S.Cells[k])
  ·rw[decide_eq_true ht]
   simp only[Bool.not_true,Bool.false_eq_true,if_false]
   by_cases hd:(y4 m s.S.Cells[k].Val.Serial).getD false=true
   ·right
    refine⟨.inl false,by rw[if_pos hd],?_⟩
    simp only
    obtain⟨j,hj,q1,q2,q3⟩:=(h1 _).1 hd
    rw[decide_eq_false (λq:Dif s=>q k hk j q1 ht q2 q3)]
   ·left
    refine⟨_,by rw[if_neg hd,g9],λx=>?_,λi h j hj q a b=>?_⟩
    ·rw[a7h]
     constructor
     ·intro q
      split at q
      ·rename_i e
       exact⟨k,hk,by omega,ht,e.symm⟩
      ·obtain⟨j,hj,q1,q2,q3⟩:=(h1 x).1 q
       exact⟨j,hj,by omega,q2,q3⟩
     ·rintro⟨j,hj,q1,q2,q3⟩
      split
      ·rfl
      ·rename_i e
       refine (h1 x).2 ⟨j,hj,?_,q2,q3⟩
       rcases Nat.lt_or_ge j k with q | q
       ·exact q
       ·have:j=k:=by omega
        subst this
        exact absurd q3.symm e
    ·rcases Nat.lt_or_ge i k with q' | q'
     ·exact h2 i h j hj q' a b
     ·have:i=k:=by omega
      subst this
      exact λe=>hd ((h1 _).2 ⟨j,by omega,hj,b,e⟩)
  ·rw[decide_eq_false ht]
   left
   refine⟨_,by rw[if_pos (by rfl),g9],λx=>?_,λi h j hj q a b=>?_⟩
   ·rw[h1 x]
    constructor
    ·rintro⟨j,hj,q1,q2,q3⟩;exact⟨j,hj,by omega,q2,q3⟩
    ·rintro⟨j,hj,q1,q2,q3⟩
     refine⟨j,hj,?_,q2,q3⟩
     rcases Nat.lt_or_ge j k with q | q
     ·exact q
     ·have:j=k:=by omega
      subst this
      exact absurd q2 ht
   ·rcases Nat.lt_or_ge i k with q' | q'
    ·exact h2 i h j hj q' a b
    ·have:i=k:=by omega
     subst this
     exact absurd a ht
 ·refine⟨.inr (),by simp only[Int.lt_irrefl,decide_false,Bool.false_eq_true,if_false],?_⟩
  simp only
  rw[decide_eq_true (show Dif s from λi h k hk a b=>hP.2 i h k hk h a b)]
end Go.Sh
namespace Go.Sh
open Classical in
theorem b5P (s:store_Store) (hl:s.S.Cells.length≤1000):a14 s=some (decide (RtR (sO s))):=by
 unfold a14
 by_cases h0:s.S.Cells.length≤24∧0≤s.S.Last∧s.S.Last≤9∧0≤s.Serial
 ·rw[if_neg (by simp;omega)]
  simp only[jn]
  have key:((∀i (h:i<s.S.Cells.length),∀m,m<4→bb s s.S.Cells[i] m=true)∧Dif s)↔RtR (sO s):=by
   constructor
   ·rintro⟨h1,h2⟩
    have at_:∀i (h:i<(sO s).Cells.length),(sO s).Cells[i]=cO (s.S.Cells[i]'(by simpa[sO] using h)):=λi h=>by simp[sO]
    refine⟨by simpa[sO] using h0.1,h0.2.1,h0.2.2.1,h0.2.2.2,λi h=>?_,λi h=>?_,λi h=>?_,λi h k hk=>?_⟩
    ·have hi:i<s.S.Cells.length:=by simpa[sO] using h
     have q0:=of_decide_eq_true (h1 i hi 0 (by omega))
     have q1:=of_decide_eq_true (h1 i hi 1 (by omega))
     rw[at_ i h]
     exact⟨q0.1,q0.2,q1.1,q1.2⟩
    ·have hi:i<s.S.Cells.length:=by simpa[sO] using h
     rw[at_ i h]
     exact of_decide_eq_true (h1 i hi 3 (by omega))
    ·have hi:i<s.S.Cells.length:=by simpa[sO] using h
     rw[at_ i h]
     exact of_decide_eq_true (h1 i hi 2 (by omega))
    ·have hi:i<s.S.Cells.length:=by simpa[sO] using h
     rw[at_ i h,at_ k (by omega)]
     exact h2 i hi k hk
   ·intro q
    have at_:∀i (h:i<s.S.Cells.length),(sO s).Cells[i]'(by simpa[sO] using h)=cO s.S.Cells[i]:=λi h=>by simp[sO]
    refine⟨λi h m hm=>?_,λi h k hk a b=>?_⟩
    ·have hi:i<(sO s).Cells.length:=by simpa[sO] using h
     have c:=q.cell i hi
     have n:=q.no i hi
     have o:=q.ok i hi
     rw[at_ i h] at c n o
     match m,hm with
     | 0,_=>exact decide_eq_true ⟨c.1,c.2.1⟩
     | 1,_=>exact decide_eq_true ⟨c.2.2.1,c.2.2.2⟩
     | 2,_=>exact decide_eq_true o
     | 3,_=>exact decide_eq_true n
    ·have hi:i<(sO s).Cells.length:=by simpa[sO] using h
     have d:=q.dif i hi k hk
     rw[at_ i h,at_ k (by omega)] at d
     exact d a b
  refine E9 s.S.Cells.length (λk=>∀i (h:i<s.S.Cells.length),i<k→∀m,m<4→bb s s.S.Cells[i] m=true) (by omega) (λ_ _ h=>by omega) (λk hk hP=>?_) (λhP=>?_)
  ·have e:a3P=some rls:=rfl
   simp only[Int.ofNat_lt,hk,decide_true,if_true,l6 hk,d09,e]
   by_cases hall:∀m,m<4→bb s s.S.Cells[k] m=true
   ·refine .inl ⟨?_,λi h q=>?_⟩
    ·refine E9 rls.length (λ_=>True) (by decide) trivial (λm hm _=>.inl ⟨?_,trivial⟩) (λ_=>⟨.inr (),by simp,by rw[g9]⟩)
     simp only[Int.ofNat_lt,hm,decide_true,if_true,l6 hm,d09,b9u s _ hm]
     rw[hall m hm,if_neg (by simp),g9 (by have:m<4:=hm;omega)]
    ·rcases Nat.lt_or_ge i k with q' | q'
     ·exact hP i h q'
     ·have:i=k:=by omega
      subst this;exact hall
   ·refine .inr ⟨.inl false,?_,?_⟩
    ·obtain⟨m,⟨hm,hb⟩,hmin⟩:=V4 (p:=λm=>m<4∧bb s s.S.Cells[k] m=false) (by
      obtain⟨m,q⟩:=Classical.not_forall.1 hall
      obtain⟨h,q⟩:=Classical.not_forall.1 q
      exact⟨m,h,by simpa using q⟩)
     refine E9 rls.length (λj=>j≤m) (by decide) (Nat.zero_le _) (λj hj hP2=>?_) (λhP2=>by have:rls.length=4:=rfl;omega)
     simp only[Int.ofNat_lt,hj,decide_true,if_true,l6 hj,d09,b9u s _ hj]
     have hj4:j<4:=hj
     rcases Nat.lt_or_ge j m with g | g
     ·refine .inl ⟨?_,g⟩
      have:bb s s.S.Cells[k] j=true:=by
       cases hq:bb s s.S.Cells[k] j
       ·have:=hmin j ⟨hj4,hq⟩;omega
       ·rfl
      rw[this,if_neg (by simp),g9]
     ·have:j=m:=by omega
      subst this
      refine .inr ⟨.inl false,?_,rfl⟩
      rw[hb,if_pos (by simp)]
    ·simp only
     rw[decide_eq_false (λq:RtR (sO s)=>hall λm hm=>(key.2 q).1 k hk m hm)]
  ·refine⟨.inr (),by simp only[Int.lt_irrefl,decide_false,Bool.false_eq_true,if_false],?_⟩
   simp only
   rw[differ s hl,d09]
   congr 1
   rw[decide_eq_decide,←key]
   exact⟨λq=>⟨λi h=>hP i h h,q⟩,λq=>q.2⟩
 ·rw[if_pos (by simp;omega)]
  rw[decide_eq_false (λq:RtR (sO s)=>h0 ⟨by simpa[sO] using q.len,q.l0,q.l9,q.Y4⟩)]
end Go.Sh
namespace Go.Sh
end Go.Sh
namespace Go.Sh
noncomputable def lv(s:store_Store):List Int:=(E0 s).getD []
def ob(s:store_Store)(h:Int):store_Obj:=((p8 s h).getD (z0,0)).1
def outs(s:store_Store)(h:Int):List Int:=nz (ob s h).Fields
def FB(s:store_Store):Prop:=∀c∈s.S.Cells,∀x∈c.Val.Fields,x≤9223372036854775807
section
variable{s:store_Store}(hR:RtR (sO s))
include hR
theorem a5h:E0 s=some (lv s)∧(lv s).Perm (U3 0 s.S.Cells)∧(lv s).Pairwise (λa b=>sk s.S.Cells a<sk s.S.Cells b):=by
 obtain⟨l,h1,h2,h3⟩:=b81 hR
 have:lv s=l:=by unfold lv;rw[h1];rfl
 rw[this]
 exact⟨h1,h2,h3⟩
theorem a5g:E0 s=some (lv s):=(a5h hR).1
theorem b0D{h:Int}:h∈lv s↔h∈U3 0 s.S.Cells:=(a5h hR).2.1.mem_iff
theorem U5:(lv s).length≤24:=by
 rw[(a5h hR).2.1.length_eq]
 exact Nat.le_trans (a4j 0 s.S.Cells) (a06 hR)
theorem a9m:(lv s).Nodup:=(a5h hR).2.1.nodup_iff.2 (a41 0 _ (by have:=(a06 hR);omega))
theorem a5f{h:Int}(hh:h∈lv s):p8 s h=some (ob s h,0):=by
 obtain⟨i,hi,_,_,_,_,e⟩:=a4i hR ((b0D hR).1 hh)
 unfold ob
 rw[e]
 rfl
theorem b77{h:Int}(hh:h∈lv s):∃i,∃hi:i<s.S.Cells.length,s.S.Cells[i].State=1∧h=1+(i:Int)+32*s.S.Cells[i].Gen∧b0m s.S h i∧ob s h=s.S.Cells[i].Val:=by
 obtain⟨i,hi,h1,h2,h3,_,e⟩:=a4i hR ((b0D hR).1 hh)
 refine⟨i,hi,h1,h2,h3,?_⟩
 unfold ob
 rw[e]
 rfl
theorem b2v{h:Int}(hh:h∈lv s):1≤h∧h≤320:=by
 obtain⟨i,hi,_,_,hf,_⟩:=b77 hR hh
 exact b2o hf.2.1
theorem c5w{h:Int}(hh:h≤9223372036854775807)(hn:h∉lv s):∃e,e≠0∧p8 s h=some (z0,e):=by
 rcases a0P s.S hh with ⟨i,hf,_⟩ | ⟨hf,_⟩
 ·obtain⟨hi,e⟩:=b6w hf
  unfold p8
  rw[e]
  by_cases h2:s.S.Cells[i].State=2
  ·rw[if_pos h2];exact⟨3,by decide,rfl⟩
  ·exact absurd ((b0D hR).2 (c1G hf λ_=>hf.2.2.2.2.resolve_right h2)) hn
 ·unfold p8
  rw[c1J hh hf]
  exact⟨_,a0N h,rfl⟩
theorem a8d{h:Int}(hh:h≤9223372036854775807)(hn:h∉lv s):ob s h=z0:=by
 obtain⟨e,_,h1⟩:=c5w hR hh hn
 unfold ob
 rw[h1]
 rfl
theorem N3{h:Int}(hh:h≤9223372036854775807):∃e,p8 s h=some (ob s h,e)∧(e=0↔h∈lv s):=by
 by_cases q:h∈lv s
 ·exact⟨0,a5f hR q,by simp[q]⟩
 ·obtain⟨e,h0,h1⟩:=c5w hR hh q
  refine⟨e,?_,by simp[h0,q]⟩
  rw[h1,a8d hR hh q]
theorem c4q{h:Int}(hh:h≤9223372036854775807)(hn:h∉lv s):outs s h = []:=by
 unfold outs
 rw[a8d hR hh hn]
 rfl
theorem b49(h:Int)(hh:h≤9223372036854775807):(ob s h).Fields.length≤4:=by
 by_cases q:h∈lv s
 ·obtain⟨i,hi,h1,_,_,e⟩:=b77 hR q
  rw[e]
  exact (c2X hR i hi (.inl h1)).2.2.2.2.2.2
 ·rw[a8d hR hh q]
  exact Nat.zero_le _
theorem a6z(h:Int)(hh:h≤9223372036854775807):(outs s h).length≤4:=Nat.le_trans (b8b _) (b49 hR h hh)
end
theorem c4r{s:store_Store}{h x:Int}(hx:x∈outs s h):x≠0:=(a8y.1 hx).2
theorem a2j(s:store_Store)(hl:s.S.Cells.length≤1000){h:Int}(hh:h≤9223372036854775807):C6 (sO s) h=(p8 s h).map λp=>(oo p.1,p.2):=by
 unfold C6 p8 C2 a9z
 rw[a1Q _ (by rw[y6];exact hl),d09,a8r s hh]
 rcases a0P s.S hh with ⟨i,hf,e⟩ | ⟨hf,e⟩
 ·rw[e]
  have hi:=hf.1
  simp only[d09,bne_self_eq_false,Bool.false_eq_true,if_false]
  rw[b6U (by rw[y6];exact hi),l6 hi]
  simp only[d09,plc,sO,List.getElem_map,cO]
  split
  ·rfl
  ·simp only[d09,bne_self_eq_false,Bool.false_eq_true,if_false]
   rw[l6 (by simpa using hi)]
   simp[cO,oo]
 ·rw[e]
  simp only[d09]
  have hne:((if h=0 then 2 else 3:Int) != 0)=true:=by simpa using a0N h
  simp only[hne,if_true,d09]
  rfl
end Go.Sh
namespace Go.Sh
theorem c29{s:store_Store}(hR:RtR (sO s)){l:List Int}(hl:∀x∈l,x∈lv s)(hn:l.length≤100) :
  ∃m,a2Z (sO s) l=some m∧m.Perm l∧m.Pairwise (λa b=>sk s.S.Cells a≤sk s.S.Cells b):=by
 have hfind:∀x∈l,∃i:Nat,∃hi:i<s.S.Cells.length,K1 (pl (sO s)) x=some ((i:Int),0)∧s.S.Cells[i].Val.Serial=sk s.S.Cells x:=λx hx=>by
  obtain⟨i,hi,_,_,hf,h4,_⟩:=a4i hR ((b0D hR).1 (hl x hx))
  refine⟨i,hi,?_,h4.symm⟩
  rw[a8r s (by have:=b2o hf.2.1;omega),a7a hf]
 unfold a2Z
 rw[K5 (by omega) (by omega),d09]
 simp only[jn]
 let K:List Int→Nat→Int:=λo a=>sk s.S.Cells (o.getD a 0)
 have hplain:=a1Q (sO s) (by rw[y6];have:=a06 hR;omega)
 have inner:∀(n:Nat) (o:List Int),n<l.length→o.Perm l→(∀a b,a<b→b≤n→b≠n→K o a≤K o b) →
   ∃o',lp (S:=Int × (List Int)) (E:=(List Int)) (λ((s58,s59):Int × (List Int))=>
      if (decide (s58 > 0)) then
       (J5 (sO s)).bind λv62=>
       (ix s59 (s7 (s58-1))).bind λv63=>
       (K1 v62 v63).bind λv64=>
       (ix s59 s58).bind λv65=>
       (K1 v62 v65).bind λv66=>
       (n9 (((decide (v64.1<0))||(decide (v66.1<0)))==false) (⟨0,0,⟨0,0,0,0,false,[]⟩⟩:n0) (ix (sO s).Cells v64.1)).bind λv67=>
       (n9 (((decide (v64.1<0))||(decide (v66.1<0)))==false) (⟨0,0,⟨0,0,0,0,false,[]⟩⟩:n0) (ix (sO s).Cells v66.1)).bind λv68=>
       if (((decide (v64.1<0))||(decide (v66.1<0)))||(decide (v67.Val.Serial≤v68.Val.Serial))) then
        some (.inr s59)
       else
       (ix (s59.set (s58).toNat v63) (s7 (s58-1))).bind λv69=>
       some (.inl (s7 (s58-1),((s59.set (s58).toNat v63).set (s7 (s58-1)).toNat v65)))
      else
      some (.inr s59)) ((n:Int),o)=some o'∧o'.Perm l∧∀a b,a<b→b≤n→K o' a≤K o' b:=by
  intro n o hn' hp hk
  have hbn:(n:Int).toNat<4611686018427387904:=by rw[Int.toNat_natCast];omega
  refine b0C (s0:=((n:Int),o)) (λq=>∃k:Nat,q.1=(k:Int)∧k≤n∧q.2.Perm l∧∀a b,a<b→b≤n→b≠k→K q.2 a≤K q.2 b) (λo'=>o'.Perm l∧∀a b,a<b→b≤n→K o' a≤K o' b) (λq=>q.1.toNat) ⟨n,rfl,Nat.le_refl _,hp,hk⟩ hbn ?_
  rintro⟨_,o⟩ ⟨k,rfl,hkn,hp,hk⟩
  simp only at hp hk ⊢
  have hol:o.length=l.length:=hp.length_eq
  rcases Nat.eq_zero_or_pos k with rfl | hpos
  ·right
   refine⟨o,by rw[if_neg (by simp)],hp,λa b h1 h2=>hk a b h1 h2 (by omega)⟩
  ·obtain⟨j,rfl⟩:∃j,k=j+1:=⟨k-1,by omega⟩
   have hj1:j+1<o.length:=by omega
   have hj:j<o.length:=by omega
   have ew:s7 (((j+1:Nat):Int)-1)=(j:Int):=by rw[E5 (by omega) (by omega)];omega
   obtain⟨ia,hia,fa,ka⟩:=hfind o[j] (hp.mem_iff.1 (List.getElem_mem hj))
   obtain⟨ib,hib,fb,kb⟩:=hfind o[j+1] (hp.mem_iff.1 (List.getElem_mem hj1))
   have ea:ix (sO s).Cells (ia:Int)=some (cO s.S.Cells[ia]):=by rw[b9v,l6 hia];rfl
   have eb:ix (sO s).Cells (ib:Int)=some (cO s.S.Cells[ib]):=by rw[b9v,l6 hib];rfl
   have hneg:((decide ((ia:Int)<0))||(decide ((ib:Int)<0)))=false:=by simp
   have hpos':decide (((j+1:Nat):Int) > 0)=true:=by simp
   simp only[hpos',if_true,hplain,ew,l6 hj,l6 hj1,d09,fa,fb,hneg,beq_self_eq_true,L7,ea,eb,Bool.false_or,cO,oo,ka,kb,Int.toNat_natCast]
   have Kj:K o j=sk s.S.Cells o[j]:=by simp[K,List.getD,List.getElem?_eq_getElem hj]
   have Kj1:K o (j+1)=sk s.S.Cells o[j+1]:=by simp[K,List.getD,List.getElem?_eq_getElem hj1]
   by_cases hle:sk s.S.Cells o[j]≤sk s.S.Cells o[j+1]
   ·right
    refine⟨o,by rw[if_pos (by simpa using hle)],hp,λa b h1 h2=>?_⟩
    by_cases e:b=j+1
    ·subst e
     rcases Nat.lt_or_ge a j with q | q
     ·have:=hk a j q (by omega) (by omega)
      omega
     ·have:a=j:=by omega
      subst this
      omega
    ·exact hk a b h1 h2 e
   ·left
    refine⟨_,by rw[if_neg (by simpa using hle),l6 (by simpa using hj)];rfl,⟨j,rfl,by omega,?_,λa b h1 h2 h3=>?_⟩,by show (j:Int).toNat<((j+1:Nat):Int).toNat;omega⟩
    ·exact (List.set_set_perm hj1 hj).trans hp
    ·have hK:∀c,K ((o.set (j+1) o[j]).set j o[j+1]) c=if c=j then K o (j+1) else if c=j+1 then K o j else K o c:=λc=>by
      simp only[K,List.getD,List.getElem?_set,List.length_set]
      by_cases c1:c=j
      ·subst c1;simp[hj,List.getElem?_eq_getElem hj1]
      ·by_cases c2:c=j+1
       ·subst c2;simp[hj1,List.getElem?_eq_getElem hj]
       ·rw[if_neg (by omega),if_neg (by omega),if_neg c1,if_neg c2]
     show K ((o.set (j+1) o[j]).set ((j:Nat):Int).toNat o[j+1]) a≤K ((o.set (j+1) o[j]).set ((j:Nat):Int).toNat o[j+1]) b
     rw[Int.toNat_natCast,hK,hK]
     by_cases a1:a=j
     ·subst a1
      rw[if_pos rfl]
      by_cases b2:b=a+1
      ·subst b2
       rw[if_neg (by omega),if_pos rfl]
       omega
      ·rw[if_neg (by omega),if_neg b2]
       exact hk (a+1) b (by omega) h2 b2
     ·rw[if_neg a1]
      by_cases a2:a=j+1
      ·subst a2
       rw[if_pos rfl,if_neg (by omega),if_neg (by omega)]
       exact hk j b (by omega) h2 (by omega)
      ·rw[if_neg a2,if_neg h3]
       by_cases b2:b=j+1
       ·subst b2
        rw[if_pos rfl]
        exact hk a j (by omega) (by omega) (by omega)
       ·rw[if_neg b2]
        exact hk a b h1 h2 b2
 have outer:∃m,(lp (S:=Int × (List Int)) (E:=(List Int)) (λ((s38,s39):Int × (List Int))=>
   if (decide (s38<(s39.length:Int))) then
     (lp (S:=Int × (List Int)) (E:=(List Int)) (λ((s58,s59):Int × (List Int))=>
      if (decide (s58 > 0)) then
       (J5 (sO s)).bind λv62=>
       (ix s59 (s7 (s58-1))).bind λv63=>
       (K1 v62 v63).bind λv64=>
       (ix s59 s58).bind λv65=>
       (K1 v62 v65).bind λv66=>
       (n9 (((decide (v64.1<0))||(decide (v66.1<0)))==false) (⟨0,0,⟨0,0,0,0,false,[]⟩⟩:n0) (ix (sO s).Cells v64.1)).bind λv67=>
       (n9 (((decide (v64.1<0))||(decide (v66.1<0)))==false) (⟨0,0,⟨0,0,0,0,false,[]⟩⟩:n0) (ix (sO s).Cells v66.1)).bind λv68=>
       if (((decide (v64.1<0))||(decide (v66.1<0)))||(decide (v67.Val.Serial≤v68.Val.Serial))) then
        some (.inr s59)
       else
       (ix (s59.set (s58).toNat v63) (s7 (s58-1))).bind λv69=>
       some (.inl (s7 (s58-1),((s59.set (s58).toNat v63).set (s7 (s58-1)).toNat v65)))
      else
      some (.inr s59)) (s38,s39)).bind λe57=>
     some (.inl (s7 (s38+1),e57))
   else
   some (.inr s39)) (1,l))=some m∧m.Perm l∧m.Pairwise (λa b=>sk s.S.Cells a≤sk s.S.Cells b):=by
  have hb1:l.length+1-(1:Int).toNat<4611686018427387904:=by omega
  refine b0C (s0:=((1:Int),l)) (λq=>∃k:Nat,q.1=(k:Int)∧(k≤l.length∨k=1)∧1≤k∧q.2.Perm l∧∀a b,a<b→b<k→K q.2 a≤K q.2 b) (λ(o':List Int)=>o'.Perm l∧o'.Pairwise (λa b=>sk s.S.Cells a≤sk s.S.Cells b)) (λq=>l.length+1-q.1.toNat) ⟨1,rfl,.inr rfl,by omega,List.Perm.refl _,λa b h1 h2=>by omega⟩ hb1 ?_
  rintro⟨_,o⟩ ⟨k,rfl,hkl,hk1,hp,hk⟩
  simp only at hp hk ⊢
  have hol:o.length=l.length:=hp.length_eq
  rcases Nat.lt_or_ge k l.length with h1 | h1
  ·left
   obtain⟨o',e1,e2,e3⟩:=inner k o h1 hp λa b x1 x2 x3=>hk a b x1 (by omega)
   refine⟨(((k+1:Nat):Int),o'),?_,⟨k+1,rfl,by omega,by omega,e2,λa b x1 x2=>e3 a b x1 (by omega)⟩,by show l.length+1-((k+1:Nat):Int).toNat<l.length+1-(k:Int).toNat;omega⟩
   rw[if_pos (by simp;omega),e1,d09,g9 (by omega)]
  ·right
   refine⟨o,by rw[if_neg (by simp;omega)],hp,?_⟩
   rw[List.pairwise_iff_getElem]
   intro i j hi hj hij
   have:=hk i j hij (by omega)
   simpa[K,List.getD,List.getElem?_eq_getElem hi,List.getElem?_eq_getElem hj] using this
 obtain⟨m,e1,e2,e3⟩:=outer
 exact⟨m,by rw[show lp _ _=_ from e1];rfl,e2,e3⟩
theorem a8w{s:store_Store}(hR:RtR (sO s)):a0d (sO s)=some (lv s):=by
 have hlen:=a06 hR
 unfold a0d
 simp only[jn]
 have hloop:lp (S:=Int × (List Int)) (E:=(List Int)) (λ((s18,s19):Int × (List Int))=>
   if (decide (s18<((sO s).Cells.length:Int))) then
     (ix (sO s).Cells s18).bind λv27=>
     if (v27.State==1) then
      (a1Z s18 v27.Gen).bind λv28=>
      (app 8 s19 [v28]).bind λv29=>
      some (.inl (s7 (s18+1),v29))
     else
     some (.inl (s7 (s18+1),s19))
   else
   some (.inr s19)) (0,[])=some (U3 0 s.S.Cells):=by
  refine a2v (a0Y (T:=List Int) s.S.Cells.length (λk l=>l=U3 0 (s.S.Cells.take k)) (λe=>e=U3 0 s.S.Cells) (by omega) (by simp[U3]) (λk l hk hP=>?_) (λl hP=>?_))
  ·subst hP
   left
   have hc:=(b5E hR).gen k hk
   have hl:=a4j 0 (s.S.Cells.take k)
   have et:s.S.Cells.take (k+1)=s.S.Cells.take k ++ [s.S.Cells[k]]:=by rw[List.take_add_one,List.getElem?_eq_getElem hk];rfl
   have el:(s.S.Cells.take k).length=k:=by simp;omega
   refine⟨_,?_,rfl⟩
   simp only[y6,Int.ofNat_lt,hk,decide_true,if_true,b9v,l6 hk,Option.map_some,d09,cO]
   rw[et,a7d,el,Nat.zero_add]
   by_cases q:s.S.Cells[k].State=1
   ·rw[if_pos (by simpa using q),if_pos q,a3J,d09,if_pos (by omega),A0 (by omega) (by simp;omega),d09,g9]
   ·rw[if_neg (by simpa using q),if_neg q,g9,List.append_nil]
  ·subst hP
   refine⟨_,by simp only[y6,Int.lt_irrefl,decide_false,Bool.false_eq_true,if_false];rfl,by simp⟩
 rw[show lp _ _=_ from hloop,d09]
 obtain⟨m,h1,h2,h3⟩:=c29 hR (l:=U3 0 s.S.Cells) (λx hx=>(b0D hR).2 hx) (by have:=a4j 0 s.S.Cells;omega)
 rw[h1,d09]
 congr 1
 obtain⟨_,l2,l3⟩:=a5h hR
 exact a5F (key:=sk s.S.Cells) (h2.trans l2.symm) h3 (l3.imp λh=>by omega) λa ha b hb e=>b5L hR (h2.mem_iff.1 ha) (h2.mem_iff.1 hb) e
end Go.Sh
namespace Go.Sh
theorem b6N(v:List Int)(h:v.length≤1000000):a2H v=some (nz v):=by
 unfold a2H a2I
 simp only[jn,d09]
 rw[H2 v (λb x=>if x != 0 then b ++ [x] else b) id (λk b=>b.length≤k) (by omega) (by simp) (λk hk b hb=>?_) (λb _=>?_)]
 ·simp only[d09,id]
  rw[foldl_filter]
  rfl
 ·simp only[Int.ofNat_lt,hk,decide_true,if_true,l6 hk,d09]
  by_cases q:(v[k] != 0)=true
  ·rw[if_pos (by simpa using q),if_pos q,A0 (by omega) (by simp;omega),d09,g9]
   exact⟨rfl,by simp;omega⟩
  ·rw[if_neg (by simpa using q),if_neg q,g9]
   exact⟨rfl,by omega⟩
 ·simp only[Int.lt_irrefl,decide_false,Bool.false_eq_true,if_false]
  rfl
theorem b2y(v:List Int)(h:v.length≤1000000):a1x v=some (nz v):=by
 unfold a1x
 simp only[jn]
 rw[H2 v (λb x=>if x != 0 then b ++ [x] else b) id (λk b=>b.length≤k) (by omega) (by simp) (λk hk b hb=>?_) (λb _=>?_)]
 ·simp only[d09,id]
  rw[foldl_filter]
  rfl
 ·simp only[Int.ofNat_lt,hk,decide_true,if_true,l6 hk,d09]
  by_cases q:(v[k] != 0)=true
  ·rw[if_pos q,if_pos q,A0 (by omega) (by simp;omega),d09,g9]
   exact⟨rfl,by simp;omega⟩
  ·rw[if_neg q,if_neg q,g9]
   exact⟨rfl,by omega⟩
 ·simp only[Int.lt_irrefl,decide_false,Bool.false_eq_true,if_false]
  rfl
theorem a3j(l:List Int)(h:Int)(hl:l.length≤1000000):Y1 l h=some (Q3 l h:Int):=by
 unfold Y1
 simp only[jn]
 rw[b0B l (λ(b:Int) x=>if (x==h&&h != 0) then b+1 else b) id (λk b=>0≤b∧b≤k) (by omega) (by simp) (λk hk b hb=>?_) (λb _=>?_)]
 ·simp only[d09,id]
  rw[a6m]
  simp
 ·simp only[Int.ofNat_lt,hk,decide_true,if_true,l6 hk,d09]
  by_cases q:(l[k]==h&&h != 0)=true
  ·rw[if_pos q,if_pos q,g9,E5 (n:=b+1) (by omega) (by omega)]
   exact⟨rfl,by omega⟩
  ·rw[if_neg q,if_neg q,g9]
   exact⟨rfl,by omega⟩
 ·simp only[Int.lt_irrefl,decide_false,Bool.false_eq_true,if_false]
  rfl
theorem count_eq(l:List Int)(h:Int)(hl:l.length≤1000000):a7F l h=some (Q3 l h:Int):=by
 unfold a7F a2I
 simp only[jn,d09]
 rw[H2 l (λ(b:Int) x=>if (x==h&&h != 0) then b+1 else b) id (λk b=>0≤b∧b≤k) (by omega) (by simp) (λk hk b hb=>?_) (λb _=>?_)]
 ·simp only[d09,id]
  rw[a6m]
  simp
 ·simp only[Int.ofNat_lt,hk,decide_true,if_true,l6 hk,d09,Bool.and_false,Bool.false_eq_true,if_false]
  by_cases q0:l[k]=0
  ·have e1:((l[k] != 0)==true)=false:=by simp[q0]
   have e2:(l[k]==h&&h != 0)=false:=by rw[Bool.eq_false_iff];simp only[ne_eq,Bool.and_eq_true,beq_iff_eq,bne_iff_ne];omega
   rw[e1,e2,g9]
   exact⟨rfl,by simp;omega⟩
  ·have e1:((l[k] != 0)==true)=true:=by simp[q0]
   rw[e1,if_pos rfl]
   by_cases q:l[k]=h
   ·have e2:(l[k]==h&&h != 0)=true:=by simp only[Bool.and_eq_true,beq_iff_eq,bne_iff_ne];omega
    rw[e2,if_pos (by simpa using q),if_pos rfl,g9,E5 (n:=b+1) (by omega) (by omega)]
    exact⟨rfl,by omega⟩
   ·have e2:(l[k]==h&&h != 0)=false:=by rw[Bool.eq_false_iff];simp only[ne_eq,Bool.and_eq_true,beq_iff_eq,bne_iff_ne];omega
    rw[e2,if_neg (by simpa using q),g9]
    exact⟨rfl,by simp;omega⟩
 ·simp only[Int.lt_irrefl,decide_false,Bool.false_eq_true,if_false]
  rfl
theorem c3d(l:List Int)(h:Int)(hl:l.length≤1000000):a5u l h=some (Q3 l h:Int):=by
 unfold a5u
 rw[count_eq l h hl]
 rfl
noncomputable def inn(s:store_Store)(h:Int):Nat:=((lv s).map λx=>Q3 (outs s x) h).sum
theorem b83{s:store_Store}(hR:RtR (sO s)){k:Nat}(hk:k<(lv s).length):(lv s)[k]≤9223372036854775807:=by
 have:=b2v hR (List.getElem_mem hk)
 omega
section
variable{s:store_Store}(hR:RtR (sO s))
include hR
theorem c6T{h:Int}(hh:h≤9223372036854775807):a9Q s h=some (outs s h):=by
 obtain⟨e,h1,_⟩:=N3 hR hh
 unfold a9Q
 rw[h1,d09,b6N _ (by have:=b49 hR h hh;simp only;omega)]
 rfl
theorem b6Q{h:Int}(hh:h≤9223372036854775807):a9C (sO s) h=some (outs s h):=by
 unfold a9C
 rw[a2j s (by have:=a06 hR;omega) hh]
 obtain⟨e,h1,h2⟩:=N3 hR hh
 rw[h1]
 simp only[Option.map_some,d09]
 by_cases q:e=0
 ·subst q
  rw[if_neg (by simp),b2y _ (by have:=b49 hR h hh;simp only[oo];omega)]
  rfl
 ·rw[if_pos (by simpa using q),c4q hR hh (λq'=>q (h2.2 q'))]
theorem b74(h:Int):inn s h≤96:=by
 have:=b5S (λx=>Q3 (outs s x) h) 4 (lv s) λx hx=>Nat.le_trans (b8D _ _) (a6z hR x (by have:=b2v hR hx;omega))
 have:=U5 hR
 unfold inn
 omega
theorem c70(h:Int):b1S s h=some (inn s h:Int):=by
 unfold b1S a5v
 simp only[jn,d09]
 rw[show E0 s=_ from a5g hR,d09]
 have hl:=U5 hR
 rw[H2 (lv s) (λ(b:Int) x=>b+(Q3 (outs s x) h:Int)) id (λk b=>0≤b∧b≤4*k) (by omega) (by simp) (λk hk b hb=>?_) (λb _=>?_)]
 ·simp only[d09,id]
  have:=a8t (λx=>Q3 (outs s x) h) (lv s) 0
  rw[show ((0:Nat):Int)=0 from rfl] at this
  rw[this,Nat.zero_add]
  rfl
 ·have ho:=c6T hR (b83 hR hk)
  have hol:=a6z hR _ (b83 hR hk)
  have ht:=b8D (outs s (lv s)[k]) h
  simp only[Int.ofNat_lt,hk,decide_true,if_true,l6 hk,d09,ho]
  rw[H2 (outs s (lv s)[k]) (λ(b:Int) x=>if (x==h&&h != 0) then b+1 else b) id (λj c=>b≤c∧c≤b+j) (by omega) (by simp) (λj hj c hc=>?_) (λc _=>?_)]
  ·simp only[d09,id]
   rw[a6m,g9]
   exact⟨rfl,by omega⟩
  ·simp only[Int.ofNat_lt,hj,decide_true,if_true,l6 hj,d09]
   have hne:=c4r (List.getElem_mem hj)
   by_cases q:(outs s (lv s)[k])[j]=h
   ·have e2:((outs s (lv s)[k])[j]==h&&h != 0)=true:=by simp only[Bool.and_eq_true,beq_iff_eq,bne_iff_ne];omega
    rw[e2,if_pos (by simpa using q),if_pos rfl,g9,E5 (n:=c+1) (by omega) (by omega)]
    exact⟨rfl,by omega⟩
   ·have e2:((outs s (lv s)[k])[j]==h&&h != 0)=false:=by rw[Bool.eq_false_iff];simp only[ne_eq,Bool.and_eq_true,beq_iff_eq,bne_iff_ne];omega
    rw[e2,if_neg (by simpa using q),g9]
    exact⟨rfl,by simp;omega⟩
  ·simp only[Int.lt_irrefl,decide_false,Bool.false_eq_true,if_false]
   rfl
 ·simp only[Int.lt_irrefl,decide_false,Bool.false_eq_true,if_false]
  rfl
theorem c3T(h:Int):b5k (sO s) h=some (inn s h:Int):=by
 unfold b5k
 simp only[jn,a8w hR,d09]
 have hl:=U5 hR
 rw[b0B (lv s) (λ(b:Int) x=>b+(Q3 (outs s x) h:Int)) id (λk b=>0≤b∧b≤4*k) (by omega) (by simp) (λk hk b hb=>?_) (λb _=>?_)]
 ·simp only[d09,id]
  have:=a8t (λx=>Q3 (outs s x) h) (lv s) 0
  rw[show ((0:Nat):Int)=0 from rfl] at this
  rw[this,Nat.zero_add]
  rfl
 ·have hol:=a6z hR _ (b83 hR hk)
  have ht:=b8D (outs s (lv s)[k]) h
  simp only[Int.ofNat_lt,hk,decide_true,if_true,l6 hk,d09,b6Q hR (b83 hR hk)]
  rw[a3j _ _ (by omega),d09,g9,E5 (by omega) (by omega)]
  exact⟨rfl,by omega⟩
 ·simp only[Int.lt_irrefl,decide_false,Bool.false_eq_true,if_false]
  rfl
end
end Go.Sh
namespace Go.Sh
section
variable{s:store_Store}(hR:RtR (sO s))(hF:FB s)
include hR hF
end
theorem a83{α:Type}(p:α→Bool):∀l:List α,l.length=(l.filter p).length+(l.filter λx => !p x).length
 | []=>rfl
 | x::l=>by
  have:=a83 p l
  by_cases h:p x
  ·simp[h];omega
  ·simp[h];omega
theorem c77{s:store_Store}(hR:RtR (sO s)){l:List Int}(hp:l.Perm (U3 0 s.S.Cells))(hs:l.Pairwise (λa b=>sk s.S.Cells a<sk s.S.Cells b)):lv s=l:=by
 obtain⟨_,l2,l3⟩:=a5h hR
 exact a5F (key:=sk s.S.Cells) (l2.trans hp.symm) (l3.imp λh=>by omega) (hs.imp λh=>by omega) λa ha b hb e=>b5L hR (l2.mem_iff.1 ha) (l2.mem_iff.1 hb) e
end Go.Sh
namespace Go.Sh
inductive Rch (s:store_Store) (l:List Int):Int→Prop
 | base {h:Int}:h∈l→h∈lv s→Rch s l h
 | step {a b:Int}:Rch s l a→b∈outs s a→b∈lv s→Rch s l b
open Classical in
noncomputable def rcd (s:store_Store) (l:List Int):List Int:=(lv s).filter λh=>decide (Rch s l h)
def Cl(s:store_Store)(l:List Int):Prop:=∀a∈l,∀b∈outs s a,b∈lv s→b∈l
def LB(l:List Int):Prop:=∀x∈l,x≤9223372036854775807
theorem Rch.live{s:store_Store}{l:List Int}{h:Int}(q:Rch s l h):h∈lv s:=by cases q <;> assumption
open Classical in
theorem Y3 {s:store_Store} {l:List Int} {h:Int}:h∈rcd s l↔Rch s l h:=by
 unfold rcd
 rw[List.mem_filter]
 exact⟨λq=>of_decide_eq_true q.2,λq=>⟨q.live,decide_eq_true q⟩⟩
theorem c4D{s:store_Store}(hR:RtR (sO s))(l:List Int):(rcd s l).length≤24:=Nat.le_trans (List.length_filter_le ..) (U5 hR)
theorem c66(s:store_Store)(l:List Int):Cl s (rcd s l):=λa ha b hb hl=>Y3.2 (.step (Y3.1 ha) hb hl)
theorem Rch.least{s:store_Store}{l m:List Int}(hc:Cl s m)(hl:∀x∈l,x∈lv s→x∈m){h:Int}(q:Rch s l h):h∈m:=by
 induction q with
 | base h1 h2=>exact hl _ h1 h2
 | step _ h1 h2 ih=>exact hc _ ih _ h1 h2
theorem Rch.mono{s:store_Store}{l m:List Int}(hl:∀x∈l,x∈lv s→Rch s m x){h:Int}(q:Rch s l h):Rch s m h:=by
 induction q with
 | base h1 h2=>exact hl _ h1 h2
 | step _ h1 h2 ih=>exact .step ih h1 h2
theorem c0l{s:store_Store}{l m:List Int}(h:∀x,Rch s l x↔Rch s m x):rcd s l=rcd s m:=by
 unfold rcd
 exact List.filter_congr λx _=>decide_eq_decide.2 (h x)
theorem filter_lt{α:Type}{p q:α→Bool}:∀ {l:List α},(∀x∈l,p x=true→q x=true)→∀x∈l,q x=true→p x=false→(l.filter p).length<(l.filter q).length
 | [],_,x,hx,_,_=>by cases hx
 | y::l,h,x,hx,h1,h2=>by
  have hle:(l.filter p).length≤(l.filter q).length:=by
   have h':∀x∈l,p x=true→q x=true:=λx hx=>h x (List.mem_cons_of_mem _ hx)
   clear h hx
   induction l with
   | nil=>simp
   | cons z l ih=>
    have:=ih λx hx=>h' x (List.mem_cons_of_mem _ hx)
    have hz:=h' z (List.mem_cons_self ..)
    simp only[List.filter_cons]
    by_cases a:p z=true
    ·rw[if_pos a,if_pos (hz a)];simp only[List.length_cons];omega
    ·rw[if_neg a];split <;> (try simp only[List.length_cons]) <;> omega
  rcases List.mem_cons.1 hx with rfl | hx'
  ·simp only[List.filter_cons,h1,h2,if_true,Bool.false_eq_true,if_false,List.length_cons]
   omega
  ·have:=filter_lt (λx hx=>h x (List.mem_cons_of_mem _ hx)) x hx' h1 h2
   have hy:=h y (List.mem_cons_self ..)
   simp only[List.filter_cons]
   by_cases a:p y=true
   ·rw[if_pos a,if_pos (hy a)];simp only[List.length_cons];omega
   ·rw[if_neg a];split <;> (try simp only[List.length_cons]) <;> omega
theorem a9r{l m:List Int}(hn:l.Nodup)(h:∀x∈l,x∈m):l.length≤m.length:=by
 induction l generalizing m with
 | nil=>simp
 | cons x l ih=>
  rw[List.nodup_cons] at hn
  have hx:=h x (List.mem_cons_self ..)
  have:=ih (m:=m.erase x) hn.2 λy hy=>(List.mem_erase_of_ne (λe=>hn.1 (by subst e;exact hy))).2 (h y (List.mem_cons_of_mem _ hy))
  rw[List.length_erase_of_mem hx] at this
  have:0<m.length:=List.length_pos_of_mem hx
  simp only[List.length_cons]
  omega
section
variable{s:store_Store}(hR:RtR (sO s))
include hR
end
end Go.Sh
namespace Go.Sh
theorem c1U(l:List Int)(x:Int)(hl:l.length≤1000000):∃r:Int,M7 l x=some r∧(0≤r↔x∈l):=by
 unfold M7
 simp only[jn]
 by_cases h:x∈l
 ·obtain⟨i,hi,e⟩:=List.mem_iff_getElem.1 h
  obtain⟨j,⟨hj,ej⟩,hmin⟩:=V4 (p:=λi=>∃hi:i<l.length,l[i]=x) ⟨i,hi,e⟩
  refine⟨(j:Int),?_,by simp[h]⟩
  refine E9 l.length (λk=>k≤j) (by omega) (Nat.zero_le _) (λk hk hP=>?_) (λhP=>by omega)
  simp only[Int.ofNat_lt,hk,decide_true,if_true,l6 hk,d09]
  rcases Nat.lt_or_ge k j with q | q
  ·refine .inl ⟨?_,q⟩
   rw[if_neg (by
    rw[beq_iff_eq]
    intro e
    have:=hmin k ⟨hk,e.symm⟩
    omega),g9]
  ·have:k=j:=by omega
   subst this
   exact .inr ⟨_,by rw[if_pos (by simpa using ej.symm)],rfl⟩
 ·refine⟨-1,?_,by simp[h]⟩
  refine E9 l.length (λk=>True) (by omega) trivial (λk hk hP=>.inl ⟨?_,trivial⟩) (λhP=>⟨.inr (),by simp,rfl⟩)
  simp only[Int.ofNat_lt,hk,decide_true,if_true,l6 hk,d09]
  rw[if_neg (by
   rw[beq_iff_eq]
   intro e
   exact h (e▸List.getElem_mem hk)),g9]
theorem contains_eq(l:List Int)(x:Int)(hl:l.length≤1000000):J6 l x=some (decide (x∈l)):=by
 obtain⟨r,h1,h2⟩:=c1U l x hl
 unfold J6
 rw[h1,d09]
 congr 1
 exact decide_eq_decide.2 h2
theorem b2n(l:List Int)(x:Int)(hl:l.length≤1000000):a7m l x=some (decide (x≠0∧x∈l)):=by
 unfold a7m
 rw[a3j l x hl,d09]
 congr 1
 rw[decide_eq_decide,←a5I]
 omega
open Classical in
theorem b7n (all l:List Int) (b:Bool) (ha:all.length≤1000000) (hl:l.length≤1000000) (h0:∀x∈all,x≠0):a4A all l b=some (all.filter λx=>decide (x∈l)==b):=by
 unfold a4A
 simp only[jn]
 rw[H2 all (λacc x=>if decide (x∈l)==b then acc ++ [x] else acc) id (λk acc=>acc.length≤k) (by omega) (by simp) (λk hk acc hb=>?_) (λb _=>?_)]
 ·simp only[d09,id]
  rw[foldl_filter]
  rfl
 ·simp only[Int.ofNat_lt,hk,decide_true,if_true,l6 hk,d09,b2n _ _ hl]
  have e:decide (all[k]≠0∧all[k]∈l)=decide (all[k]∈l):=decide_eq_decide.2 ⟨λq=>q.2,λq=>⟨h0 _ (List.getElem_mem hk),q⟩⟩
  rw[e]
  by_cases q:(decide (all[k]∈l)==b)=true
  ·rw[if_pos q,if_pos q,A0 (by omega) (by simp;omega),d09,g9]
   exact⟨rfl,by simp;omega⟩
  ·rw[if_neg q,if_neg q,g9]
   exact⟨rfl,by omega⟩
 ·simp only[Int.lt_irrefl,decide_false,Bool.false_eq_true,if_false]
  rfl
section
variable{s:store_Store}(hR:RtR (sO s))
include hR
theorem c13:∀x∈lv s,x≠0:=λx hx=>by have:=b2v hR hx;omega
def grow(s:store_Store)(all seen:List Int):List Int:=all.filter λx=>decide (x∈seen++seen.flatMap (outs s))
def V5(s:store_Store)(all seen:List Int):Nat→List Int
 | 0=>seen
 | k+1=>grow s all (V5 s all seen k)
omit hR in
theorem a8u (all seen:List Int) (k:Nat):V5 s all seen (k+1)=grow s all (V5 s all seen k):=rfl
omit hR in
theorem a87 {all seen:List Int} {x:Int}:x∈grow s all seen↔x∈all∧(x∈seen∨∃a∈seen,x∈outs s a):=by
 unfold grow
 rw[List.mem_filter,decide_eq_true_iff,List.mem_append,List.mem_flatMap]
open Classical in
omit hR in
theorem c1O (l:List Int):V5 s (lv s) ((lv s).filter λx=>decide (x∈l)==true) (lv s).length=rcd s l:=by
 have hsub:∀k x,x∈V5 s (lv s) ((lv s).filter λx=>decide (x∈l)==true) k→Rch s l x:=by
  intro k
  induction k with
  | zero=>
   intro x hx
   have:=List.mem_filter.1 (show x∈(lv s).filter λx=>decide (x∈l)==true from hx)
   exact .base (by simpa using this.2) this.1
  | succ k ih=>
   intro x hx
   rw[a8u,a87] at hx
   rcases hx.2 with q | ⟨a,q1,q2⟩
   ·exact ih x q
   ·exact .step (ih a q1) q2 hx.1
 have hall:∀k x,x∈V5 s (lv s) ((lv s).filter λx=>decide (x∈l)==true) k→x∈lv s:=λk x hx=>(hsub k x hx).live
 have hfil:∀k,∃p:Int→Bool,V5 s (lv s) ((lv s).filter λx=>decide (x∈l)==true) k=(lv s).filter p:=by
  intro k
  cases k with
  | zero=>exact⟨_,rfl⟩
  | succ k=>exact⟨_,rfl⟩
 have hinc:∀k x,x∈V5 s (lv s) ((lv s).filter λx=>decide (x∈l)==true) k→x∈V5 s (lv s) ((lv s).filter λx=>decide (x∈l)==true) (k+1):=λk x hx=>a87.2 ⟨hall k x hx,.inl hx⟩
 have key:∀k,Cl s (V5 s (lv s) ((lv s).filter λx=>decide (x∈l)==true) k)∨k≤(V5 s (lv s) ((lv s).filter λx=>decide (x∈l)==true) k).length:=by
  intro k
  induction k with
  | zero=>exact .inr (Nat.zero_le _)
  | succ k ih=>
   by_cases hc:Cl s (V5 s (lv s) ((lv s).filter λx=>decide (x∈l)==true) k)
   ·left
    have:∀x,x∈V5 s (lv s) ((lv s).filter λx=>decide (x∈l)==true) (k+1)↔x∈V5 s (lv s) ((lv s).filter λx=>decide (x∈l)==true) k:=λx=>⟨λhx=>by
     rw[a8u,a87] at hx
     rcases hx.2 with q | ⟨a,q1,q2⟩
     ·exact q
     ·exact hc a q1 x q2 hx.1,hinc k x⟩
    intro a ha b hb hbl
    exact (this b).2 (hc a ((this a).1 ha) b hb hbl)
   ·right
    have hk:=ih.resolve_left hc
    obtain⟨b,hb1,hb2,hb3⟩:∃b,b∈lv s∧b∈V5 s (lv s) ((lv s).filter λx=>decide (x∈l)==true) (k+1)∧b∉V5 s (lv s) ((lv s).filter λx=>decide (x∈l)==true) k:=by
     refine Classical.byContradiction λq=>hc λa ha b hb hbl=>Classical.byContradiction λq2=>q ⟨b,hbl,a87.2 ⟨hbl,.inr ⟨a,ha,hb⟩⟩,q2⟩
    obtain⟨p,hp⟩:=hfil k
    obtain⟨p',hp'⟩:=hfil (k+1)
    have hi:=hinc k
    rw[hp] at hi hb3 hk
    rw[hp'] at hi hb2 ⊢
    have:=filter_lt (p:=p) (q:=p') (l:=lv s) (λx hx h=>(List.mem_filter.1 (hi x (List.mem_filter.2 ⟨hx,h⟩))).2) b hb1 (List.mem_filter.1 hb2).2 (by
     cases h:p b
     ·rfl
     ·exact absurd (List.mem_filter.2 ⟨hb1,h⟩) hb3)
    omega
 have hcl:Cl s (V5 s (lv s) ((lv s).filter λx=>decide (x∈l)==true) (lv s).length):=by
  rcases key (lv s).length with q | q
  ·exact q
  ·obtain⟨p,hp⟩:=hfil (lv s).length
   rw[hp] at q ⊢
   have:(lv s).filter p=lv s:=List.filter_eq_self.2 λx hx=>by
    cases h:p x
    ·have:=filter_lt (p:=p) (q:=λ_=>true) (l:=lv s) (λ_ _ _=>rfl) x hx rfl h
     rw[List.filter_eq_self.2 (λ_ _=>rfl)] at this
     omega
    ·rfl
   rw[this]
   exact λ_ _ _ _ h=>h
 have hbase:∀k x,x∈l→x∈lv s→x∈V5 s (lv s) ((lv s).filter λx=>decide (x∈l)==true) k:=by
  intro k
  induction k with
  | zero=>intro x h1 h2;exact List.mem_filter.2 ⟨h2,by simpa using h1⟩
  | succ k ih=>intro x h1 h2;exact hinc k x (ih x h1 h2)
 have hiff:∀x,x∈V5 s (lv s) ((lv s).filter λx=>decide (x∈l)==true) (lv s).length↔Rch s l x:=λx=>⟨hsub _ x,λq=>Rch.least hcl (hbase _) q⟩
 obtain⟨p,hp⟩:=hfil (lv s).length
 rw[hp]
 unfold rcd
 refine List.filter_congr λx hx=>?_
 have:=hiff x
 rw[hp,List.mem_filter] at this
 rw[Bool.eq_iff_iff,decide_eq_true_iff,←this]
 exact⟨λh=>⟨hx,h⟩,λh=>h.2⟩
open Classical in
theorem b38 {l:List Int} (hlen:l.length≤1000000):a4z (sO s) l=some (rcd s l):=by
 unfold a4z
 have h24:=U5 hR
 rw[a8w hR,d09,b7n _ _ _ (by omega) hlen (c13 hR),d09]
 simp only[jn]
 have hg:∀k,(V5 s (lv s) ((lv s).filter λx=>decide (x∈l)==true) k).length≤24∧∀x∈V5 s (lv s) ((lv s).filter λx=>decide (x∈l)==true) k,x∈lv s:=by
  intro k
  cases k with
  | zero=>exact⟨Nat.le_trans (List.length_filter_le ..) h24,λx hx=>(List.mem_filter.1 (show x∈(lv s).filter λx=>decide (x∈l)==true from hx)).1⟩
  | succ k=>exact⟨Nat.le_trans (List.length_filter_le ..) h24,λx hx=>(List.mem_filter.1 (show x∈(lv s).filter _ from hx)).1⟩
 refine a4p (p:=λk=>(V5 s (lv s) ((lv s).filter λx=>decide (x∈l)==true) k,(k:Int))) rfl (lv s).length (λ_=>True) (by omega) trivial (λk hk _=>.inl ⟨?_,trivial⟩) (λ_=>⟨_,by simp only[Int.lt_irrefl,decide_false,Bool.false_eq_true,if_false];rfl,by rw[c1O l]⟩)
 obtain⟨g1,g2⟩:=hg k
 simp only[Int.ofNat_lt,hk,decide_true,if_true]
 rw[K5 (by omega) (by omega),d09]
 generalize hS:V5 s (lv s) ((lv s).filter λx=>decide (x∈l)==true) k=S at g1 g2
 have hSle:∀x∈S,x≤9223372036854775807:=λx hx=>by have:=b2v hR (g2 x hx);omega
 have hflat:∀T:List Int,T.length≤24→(∀x∈T,x≤9223372036854775807)→(T.flatMap (outs s)).length≤96:=λT h1 h2=>by
  rw[List.length_flatMap]
  have:=b5S (λx=>(outs s x).length) 4 T λx hx=>a6z hR x (h2 x hx)
  omega
 rw[H2 S (λacc x=>acc++outs s x) id (λj acc=>acc.length≤S.length+4*j) (by omega) (by simp) (λj hj acc hb=>?_) (λb _=>?_)]
 ·simp only[d09,id]
  rw[a2O,b7n _ _ _ (by omega) (by
   have:=hflat S g1 hSle
   simp only[List.length_append]
   omega) (c13 hR),d09,g9,a8u,hS]
  unfold grow
  congr 3
  refine List.filter_congr λx _=>?_
  rw[Bool.eq_iff_iff]
  simp
 ·have ho:=a6z hR _ (hSle _ (List.getElem_mem hj))
  simp only[Int.ofNat_lt,hj,decide_true,if_true,l6 hj,d09,b6Q hR (hSle _ (List.getElem_mem hj))]
  rw[A0 (by omega) (by omega),d09,g9]
  exact⟨rfl,by simp;omega⟩
 ·simp only[Int.lt_irrefl,decide_false,Bool.false_eq_true,if_false]
  rfl
end
end Go.Sh
namespace Go.Sh
abbrev Tb:=List hash_Place
abbrev I1(p:hash_Place):j2:=⟨p.State,p.Key,p.Val⟩
def pt(t:Tb)(j:Nat):hash_Place:=t.getD j ⟨0,0,0⟩
theorem b1e{t:Tb}{j:Nat}(h:j<t.length):pt t j=t[j]:=by unfold pt;rw[List.getD_eq_getElem?_getD,List.getElem?_eq_getElem h];rfl
theorem b2q{t:Tb}{j:Nat}(h:j<t.length):ix t (j:Int)=some (pt t j):=by rw[l6 h,b1e h]
theorem b2I{t:Tb}{i:Nat}(h:i<t.length)(p:hash_Place)(j:Nat):pt (t.set i p) j=if j=i then p else pt t j:=by
 unfold pt
 rw[List.getD_eq_getElem?_getD,List.getD_eq_getElem?_getD,List.getElem?_set]
 by_cases e:i=j
 ·subst e;simp[h]
 ·rw[if_neg e,if_neg (Ne.symm e)]
def hm(n:Nat)(k:Int):Nat:=(s7 ((s7 (5*k))+1) % (n:Int)).toNat
theorem c1S{n:Nat}(h:1≤n)(k:Int):hm n k<n:=by
 unfold hm
 have h1:=Int.emod_nonneg (s7 ((s7 (5*k))+1)) (show (n:Int)≠0 by omega)
 have h2:=Int.emod_lt_of_pos (s7 ((s7 (5*k))+1)) (show (0:Int)<n by omega)
 omega
theorem a9h{n:Nat}(h:1≤n)(h2:n≤1000)(k:Int):X6 n k=some (hm n k:Int):=by
 unfold X6 hm
 rw[if_neg (by simp;omega)]
 generalize s7 ((s7 (5*k))+1)=a
 have hp:=Int.emod_nonneg a (show (n:Int)≠0 by omega)
 have hl:=Int.emod_lt_of_pos a (show (0:Int)<n by omega)
 unfold rem
 rw[if_neg (by omega),d09,Int.toNat_of_nonneg hp]
 rw[Int.tmod_eq_emod]
 split
 ·rw[show a % (n:Int)-((0:Nat):Int)=a % n by simp,if_neg (by simp;omega)]
 ·have:((n:Int).natAbs:Int)=n:=by simp
  rw[this]
  rw[if_pos (by simp;omega),E5 (by omega) (by omega)]
  congr 1
  omega
def pos(n:Nat)(k:Int)(d:Nat):Nat:=(hm n k+d) % n
theorem a1w{n:Nat}(h:1≤n)(k:Int)(d:Nat):pos n k d<n:=Nat.mod_lt _ h
theorem c5H{n:Nat}(h:1≤n)(h8:n≤8):n=1∨n=2∨n=3∨n=4∨n=5∨n=6∨n=7∨n=8:=by omega
theorem c2d{n m i:Nat}(h:1≤n)(h8:n≤8)(hm:m<n)(hi:i<n):∃d,d<n∧(m+d) % n=i:=by
 refine⟨(i+n-m) % n,Nat.mod_lt _ h,?_⟩
 rcases c5H h h8 with rfl | rfl | rfl | rfl | rfl | rfl | rfl | rfl <;> omega
theorem c37{n m d d':Nat}(h:1≤n)(h8:n≤8)(hd:d<n)(hd':d'<n)(e:(m+d) % n=(m+d') % n):d=d':=by
 rcases c5H h h8 with rfl | rfl | rfl | rfl | rfl | rfl | rfl | rfl <;> omega
theorem b2G{n:Nat}(h:1≤n)(h8:n≤8)(k:Int){i:Nat}(hi:i<n):∃d,d<n∧pos n k d=i:=c2d h h8 (c1S h k) hi
theorem b5c{n:Nat}(h:1≤n)(h8:n≤8){k:Int}{d d':Nat}(hd:d<n)(hd':d'<n)(e:pos n k d=pos n k d'):d=d':=c37 h h8 hd hd' e
structure HR (t:Tb):Prop where
 l1:1≤t.length
 l8:t.length≤8
 st:∀i,i<t.length→((pt t i).State=0∨(pt t i).State=1∨(pt t i).State=2)∧((pt t i).State≠1→(pt t i).Key=0∧(pt t i).Val=0)
 uq:∀i j,i<t.length→j<t.length→(pt t i).State=1→(pt t j).State=1→(pt t i).Key=(pt t j).Key→i=j
 rd:∀i,i<t.length→(pt t i).State=1→∀d,d<t.length→(∀d',d'≤d→pos t.length (pt t i).Key d'≠i)→(pt t (pos t.length (pt t i).Key d)).State≠0
def Fk(t:Tb)(k:Int)(i:Nat):Prop:=i<t.length∧(pt t i).State=1∧(pt t i).Key=k
instance(t:Tb)(k:Int)(i:Nat):Decidable (Fk t k i):=by unfold Fk;infer_instance
theorem step_eq{n:Nat}(h:1≤n)(h2:n≤1000)(k:Int){d:Nat}(hd:d<n):rem (s7 ((hm n k:Int)+d)) n=some ((pos n k d:Nat):Int):=by
 have:=c1S h k
 rw[E5 (by omega) (by omega),a9R (by omega) (by omega)]
 unfold pos
 simp[Int.natCast_emod]
theorem a7b{t:Tb}(h1:1≤t.length)(h8:t.length≤8)(k:Int) :
  (∃d,d<t.length∧(∀j,j<d→(pt t (pos t.length k j)).State≠0∧¬Fk t k (pos t.length k j))∧Fk t k (pos t.length k d)∧J4 t k=some ((pos t.length k d:Nat):Int)) ∨
  (∃d,d≤t.length∧(∀j,j<d→(pt t (pos t.length k j)).State≠0∧¬Fk t k (pos t.length k j))∧(d=t.length∨(pt t (pos t.length k d)).State=0)∧J4 t k=some (-1)):=by
 unfold J4
 simp only[jn,a2z,d09]
 generalize hq:(lp (S:=Int) (E:=Int ⊕ Unit) _ 0)=q
 have body:∀d:Nat,d<t.length→(if (decide ((d:Int)<(t.length:Int))) then
    (X6 (t.length:Int) k).bind λv14=>
    (rem (s7 (v14+d)) (t.length:Int)).bind λv15=>
    (ix t v15).bind λv16=>
    if (v16.State==0) then
     some (.inr (.inr ()))
    else
    if ((v16.State==1)&&(v16.Key==k)) then
     some (.inr (.inl v15))
    else
    some (.inl (s7 ((d:Int)+1)))
   else
   some (.inr (.inr ())):Option (Int ⊕ (Int ⊕ Unit)))=if (pt t (pos t.length k d)).State=0 then some (.inr (.inr ())) else if Fk t k (pos t.length k d) then some (.inr (.inl ((pos t.length k d:Nat):Int))) else some (.inl ((d+1:Nat):Int)):=λd hd=>by
  have hp:=a1w h1 k d
  rw[if_pos (by simpa using hd),a9h h1 (by omega),d09,step_eq h1 (by omega) k hd,d09,b2q hp,d09,g9 (by omega)]
  by_cases a:(pt t (pos t.length k d)).State=0
  ·rw[if_pos (by simpa using a),if_pos a]
  ·rw[if_neg (by simpa using a),if_neg a]
   by_cases b:Fk t k (pos t.length k d)
   ·rw[if_pos (by simp[b.2.1,b.2.2]),if_pos b]
   ·rw[if_neg (by simp;exact λh1 h2=>b ⟨hp,h1,h2⟩),if_neg b]
 have key:=b4g (f:=λ(s12:Int)=>if (decide (s12<(t.length:Int))) then
    (X6 (t.length:Int) k).bind λv14=>
    (rem (s7 (v14+s12)) (t.length:Int)).bind λv15=>
    (ix t v15).bind λv16=>
    if (v16.State==0) then
     some (.inr (.inr ()))
    else
    if ((v16.State==1)&&(v16.Key==k)) then
     some (.inr (.inl v15))
    else
    some (.inl (s7 (s12+1)))
   else
   some (.inr (.inr ()))) t.length (λd=>∀j,j<d→(pt t (pos t.length k j)).State≠0∧¬Fk t k (pos t.length k j))
   (λ(e:Int ⊕ Unit)=>(∃d,d<t.length∧(∀j,j<d→(pt t (pos t.length k j)).State≠0∧¬Fk t k (pos t.length k j))∧Fk t k (pos t.length k d)∧e = .inl ((pos t.length k d:Nat):Int)) ∨
    (∃d,d≤t.length∧(∀j,j<d→(pt t (pos t.length k j)).State≠0∧¬Fk t k (pos t.length k j))∧(d=t.length∨(pt t (pos t.length k d)).State=0)∧e = .inr ())) (by omega) (λj hj=>by omega)
   (λd hd hP=>by
    rw[body d hd]
    by_cases a:(pt t (pos t.length k d)).State=0
    ·rw[if_pos a]
     exact .inr ⟨_,rfl,.inr ⟨d,by omega,hP,.inr a,rfl⟩⟩
    ·rw[if_neg a]
     by_cases b:Fk t k (pos t.length k d)
     ·rw[if_pos b]
      exact .inr ⟨_,rfl,.inl ⟨d,hd,hP,b,rfl⟩⟩
     ·rw[if_neg b]
      refine .inl ⟨rfl,λj hj=>?_⟩
      rcases Nat.lt_or_ge j d with q | q
      ·exact hP j q
      ·have:j=d:=by omega
       subst this;exact⟨a,b⟩)
   (λhP=>⟨.inr (),by simp,.inr ⟨t.length,Nat.le_refl _,hP,.inl rfl,rfl⟩⟩)
 obtain⟨e,he,hQ⟩:=key
 rw[he] at hq
 subst hq
 rcases hQ with ⟨d,a1,a2,a3,rfl⟩ | ⟨d,a1,a2,a3,rfl⟩
 ·exact .inl ⟨d,a1,a2,a3,rfl⟩
 ·exact .inr ⟨d,a1,a2,a3,rfl⟩
theorem a3z{t:Tb}(hR:HR t){k:Int}{i:Nat}(hi:Fk t k i):J4 t k=some (i:Int):=by
 obtain⟨di,hdi,hpi⟩:=b2G hR.l1 hR.l8 k hi.1
 have road:∀d,d<di→(pt t (pos t.length k d)).State≠0:=λd hd=>by
  have:=hR.rd i hi.1 hi.2.1 d (by omega) (λd' hd' e=>by
   rw[hi.2.2] at e
   have:=b5c hR.l1 hR.l8 (by omega) hdi (e.trans hpi.symm)
   omega)
  rwa [hi.2.2] at this
 rcases a7b hR.l1 hR.l8 k with ⟨d,a1,a2,a3,a4⟩ | ⟨d,a1,a2,a3,a4⟩
 ·rw[a4,hR.uq _ i (a1w hR.l1 k d) hi.1 a3.2.1 hi.2.1 (by rw[a3.2.2,hi.2.2])]
 ·exfalso
  rcases Nat.lt_or_ge di d with q | q
  ·exact (a2 di q).2 (by rw[hpi];exact hi)
  ·rcases a3 with rfl | a3
   ·omega
   ·rcases Nat.lt_or_ge d di with q' | q'
    ·exact road d q' a3
    ·have:d=di:=by omega
     subst this
     rw[hpi,hi.2.1] at a3
     cases a3
theorem a3y{t:Tb}(h1:1≤t.length)(h8:t.length≤8){k:Int}(hi:∀i,¬Fk t k i):J4 t k=some (-1):=by
 rcases a7b h1 h8 k with ⟨d,a1,a2,a3,a4⟩ | ⟨d,a1,a2,a3,a4⟩
 ·exact absurd a3 (hi _)
 ·exact a4
theorem b1a(t:Tb)(k:Int):(∃i,Fk t k i)∨∀i,¬Fk t k i:=by
 by_cases h:∃i,Fk t k i
 ·exact .inl h
 ·exact .inr λi hi=>h ⟨i,hi⟩
theorem b3m{t:Tb}{i:Nat}(h8:t.length≤1000)(hi:i<t.length)(p:hash_Place):a0z t (i:Int) p=some (t.set i p):=by
 unfold a0z C3
 rw[K5 (by omega) (by omega),d09,l6 hi,d09,Int.toNat_natCast]
inductive b1q (t:Tb) (k v:Int):Tb × Int→Prop
 | old (i:Nat) (hi:Fk t k i):b1q t k v (t.set i ⟨1,k,v⟩,0)
 | new (d:Nat) (hn:∀i,¬Fk t k i) (hd:d<t.length) (hb:∀j,j<d→(pt t (pos t.length k j)).State=1) (hf:(pt t (pos t.length k d)).State≠1):b1q t k v (t.set (pos t.length k d) ⟨1,k,v⟩,0)
 | full (hn:∀i,¬Fk t k i) (ha:∀i,i<t.length→(pt t i).State=1):b1q t k v (t,8)
theorem b8i{t:Tb}(hR:HR t)(k v:Int):∃r,a6q t k v=some r∧b1q t k v r:=by
 have h1:=hR.l1
 have h8:=hR.l8
 unfold a6q
 rcases b1a t k with ⟨i,hi⟩ | hn
 ·rw[a3z hR hi,d09,if_pos (by simp),b3m (by omega) hi.1]
  exact⟨_,rfl,.old i hi⟩
 ·rw[a3y h1 h8 hn,d09,if_neg (by decide)]
  simp only[jn,a2z,d09]
  have key:=b4g (f:=λ(s15:Int)=>
   if (decide (s15<(t.length:Int))) then
    (X6 (t.length:Int) k).bind λv17=>
    (rem (s7 (v17+s15)) (t.length:Int)).bind λv18=>
    (ix t v18).bind λv19=>
    if (v19.State != 1) then
     (a0z t v18 (⟨1,k,v⟩:hash_Place)).bind λv20=>
     some (Sum.inr (.inl (v20,(0:Int))))
    else
    some (.inl (s7 (s15+1)))
   else
   some (.inr (.inr ()))) t.length (λd=>∀j,j<d→(pt t (pos t.length k j)).State=1)
   (λ(e:(Tb × Int) ⊕ Unit)=>(∃r,e = .inl r∧b1q t k v r)∨(e = .inr ()∧b1q t k v (t,8))) (by omega) (λj hj=>by omega)
   (λd hd hP=>by
    have hp:=a1w h1 k d
    rw[if_pos (by simpa using hd),a9h h1 (by omega),d09,step_eq h1 (by omega) k hd,d09,b2q hp,d09]
    by_cases a:(pt t (pos t.length k d)).State=1
    ·rw[if_neg (by simpa using a),g9 (by omega)]
     refine .inl ⟨rfl,λj hj=>?_⟩
     rcases Nat.lt_or_ge j d with q | q
     ·exact hP j q
     ·have:j=d:=by omega
      subst this;exact a
    ·rw[if_pos (by simpa using a),b3m (by omega) hp,d09]
     exact .inr ⟨_,rfl,.inl ⟨_,rfl,.new d hn hd hP a⟩⟩)
   (λhP=>⟨.inr (),by simp,.inr ⟨rfl,.full hn λi hi=>by
    obtain⟨d,hd,rfl⟩:=b2G h1 h8 k hi
    exact hP d hd⟩⟩)
  obtain⟨e,he,hQ⟩:=key
  rw[he,d09]
  rcases hQ with ⟨r,rfl,hr⟩ | ⟨rfl,hr⟩
  ·exact⟨r,rfl,hr⟩
  ·exact⟨_,rfl,hr⟩
theorem b72{t:Tb}(hR:HR t){k:Int}{i:Nat}(hi:Fk t k i):I6 t k=some ((pt t i).Val,0):=by
 unfold I6
 rw[a3z hR hi,d09,if_neg (by simp),b2q hi.1,d09]
theorem b71{t:Tb}(hR:HR t){k:Int}(hi:∀i,¬Fk t k i):I6 t k=some (0,9):=by
 unfold I6
 rw[a3y hR.l1 hR.l8 hi,d09,if_pos (by decide)]
theorem a67{t:Tb}(hR:HR t){k:Int}{i:Nat}(hi:Fk t k i):T1 t k=some (t.set i ⟨2,0,0⟩,(pt t i).Val,0):=by
 have:=hR.l8
 unfold T1
 rw[a3z hR hi,d09,if_neg (by simp),b3m (by omega) hi.1,d09,b2q hi.1,d09]
theorem a65{t:Tb}(hR:HR t){k:Int}(hi:∀i,¬Fk t k i):T1 t k=some (t,0,9):=by
 unfold T1
 rw[a3y hR.l1 hR.l8 hi,d09,if_pos (by decide)]
theorem HR.set{t:Tb}(hR:HR t){i:Nat}(hi:i<t.length){p:hash_Place}(h0:p.State=1∨p=⟨2,0,0⟩)
  (hu:p.State=1→∀j,j≠i→¬Fk t p.Key j)(hr:p.State=1→∀d,d<t.length→(∀d',d'≤d→pos t.length p.Key d'≠i)→(pt t (pos t.length p.Key d)).State≠0):HR (t.set i p):=by
 have hnz:p.State≠0:=by
  rcases h0 with h | rfl
  ·omega
  ·simp
 refine⟨by simpa using hR.l1,by simpa using hR.l8,λj hj=>?_,λj j' hj hj' s1 s2 hk=>?_,λj hj s1 d hd hne=>?_⟩ <;> simp only[List.length_set] at *
 ·rw[b2I hi]
  split
  ·rcases h0 with h | rfl
   ·exact⟨.inr (.inl h),λq=>absurd h q⟩
   ·exact⟨.inr (.inr rfl),λ_=>⟨rfl,rfl⟩⟩
  ·exact hR.st j hj
 ·rw[b2I hi] at s1 s2 hk
  rw[b2I hi] at hk
  by_cases e1:j=i <;> by_cases e2:j'=i
  ·rw[e1,e2]
  ·rw[if_pos e1] at s1 hk
   rw[if_neg e2] at s2 hk
   exact absurd ⟨hj',s2,hk.symm⟩ (hu s1 j' e2)
  ·rw[if_neg e1] at s1 hk
   rw[if_pos e2] at s2 hk
   exact absurd ⟨hj,s1,hk⟩ (hu s2 j e1)
  ·rw[if_neg e1] at s1 hk
   rw[if_neg e2] at s2 hk
   exact hR.uq j j' hj hj' s1 s2 hk
 ·simp only[b2I hi] at s1 hne ⊢
  by_cases e1:j=i
  ·simp only[if_pos e1] at s1 hne ⊢
   split
   ·exact hnz
   ·exact hr s1 d hd (by rw[←e1];exact hne)
  ·simp only[if_neg e1] at s1 hne ⊢
   split
   ·exact hnz
   ·exact hR.rd j hj s1 d hd hne
theorem a8B{t:Tb}(hR:HR t){k v:Int}{r:Tb × Int}(h:b1q t k v r):HR r.1:=by
 cases h with
 | old i hi=>
  refine hR.set hi.1 (.inl rfl) (λ_ j hj q=>hj (hR.uq j i q.1 hi.1 q.2.1 hi.2.1 (q.2.2.trans hi.2.2.symm))) λ_ d hd hne=>?_
  have:=hR.rd i hi.1 hi.2.1 d hd (by rw[hi.2.2];exact hne)
  rwa [hi.2.2] at this
 | new d hn hd hb hf=>
  refine hR.set (a1w hR.l1 k d) (.inl rfl) (λ_ j _=>hn j) λ_ d' hd' hne=>?_
  rcases Nat.lt_or_ge d' d with q | q
  ·have:=hb d' q
   simp only
   omega
  ·exact absurd rfl (hne d q)
 | full hn ha=>exact hR
theorem a3v{t:Tb}(hR:HR t){i:Nat}(hi:i<t.length):HR (t.set i ⟨2,0,0⟩):=hR.set hi (.inr rfl) (λq=>by cases q) λq=>by cases q
end Go.Sh
namespace Go.Sh
theorem ixm{t:Tb}{j:Nat}(h:j<t.length):ix (t.map I1) (j:Int)=some (I1 (pt t j)):=by rw[a0X,b2q h];rfl
theorem b7b{t:Tb}(h8:t.length≤1000){k:Int}{i:Nat}(hi:Fk t k i)(hf:∀j,j<i→¬Fk t k j):a0e (t.map I1) k=some (i:Int):=by
 unfold a0e
 simp only[jn]
 refine E9 t.length (λj=>j≤i) (by omega) (Nat.zero_le _) (λj hj hP=>?_) (λhP=>by have:=hi.1;omega)
 rw[if_pos (by simpa using hj),ixm hj,d09]
 by_cases e:j=i
 ·subst e
  exact .inr ⟨.inl (j:Int),by rw[if_pos (by simp[I1,hi.2.1,hi.2.2])],rfl⟩
 ·have:=hf j (by omega)
  refine .inl ⟨by rw[if_neg (by simp[I1];exact λh1 h2=>this ⟨hj,h1,h2⟩),g9 (by omega)],by omega⟩
theorem c2O{t:Tb}(h8:t.length≤1000){k:Int}(hf:∀j,¬Fk t k j):a0e (t.map I1) k=some (-1):=by
 unfold a0e
 simp only[jn]
 refine E9 t.length (λj=>True) (by omega) trivial (λj hj hP=>?_) (λhP=>⟨.inr (),by simp,rfl⟩)
 rw[if_pos (by simpa using hj),ixm hj,d09]
 refine .inl ⟨by rw[if_neg (by simp[I1];exact λh1 h2=>hf j ⟨hj,h1,h2⟩),g9 (by omega)],trivial⟩
theorem b6t{t:Tb}{k:Int}(h:∃i,Fk t k i):∃i,Fk t k i∧∀j,j<i→¬Fk t k j:=by
 obtain⟨i,h1,h2⟩:=V4 h
 exact⟨i,h1,λj hj q=>by have:=h2 j q;omega⟩
theorem b4v{t:Tb}{i:Nat}(h8:t.length≤1000)(hi:i<t.length)(p:hash_Place):a12 (t.map I1) (i:Int) (I1 p)=some ((t.set i p).map I1):=by
 unfold a12
 rw[K5 (by omega) (by simp;omega),d09,ixm hi,d09,Int.toNat_natCast,List.map_set]
theorem b2T:a9F=X6:=rfl
theorem c2U{n:Nat}(h1:1≤n)(h8:n≤8)(k:Int)(d:Nat):rem (s7 (((pos n k d:Nat):Int)+1)) n=some ((pos n k (d+1):Nat):Int):=by
 have:=a1w h1 k d
 rw[E5 (by omega) (by omega),a9R (by omega) (by omega)]
 unfold pos
 congr 1
 have:((hm n k+d) % n+1) % n=(hm n k+(d+1)) % n:=by rw[Nat.mod_add_mod];rfl
 rw[←this]
 simp[Int.natCast_emod]
theorem b2H{n:Nat}(h1:1≤n)(k:Int):pos n k 0=hm n k:=by
 unfold pos
 rw[Nat.add_zero,Nat.mod_eq_of_lt (c1S h1 k)]
theorem c8A{t:Tb}(h1:1≤t.length)(h8:t.length≤8)(k:Int){i di:Nat}(hi:i<t.length)(hdi:di<t.length)(hp:pos t.length k di=i) :
  ∃e,lp (S:=Int) (E:=Bool ⊕ Unit) (λ(s41:Int)=>
      if (s41 != (i:Int)) then
       (ix (t.map I1) s41).bind λv43=>
       if (v43.State==0) then
        some (.inr (.inl false))
       else
       (rem (s7 (s41+1)) (t.length:Int)).bind λv44=>
       some (.inl v44)
      else
      some (.inr (.inr ()))) (hm t.length k:Int)=some e∧((e = .inr ()∧∀d,d<di→(pt t (pos t.length k d)).State≠0)∨(e = .inl false∧∃d,d<di∧(pt t (pos t.length k d)).State=0)):=by
 rw[←b2H h1 k]
 refine b1K (λd=>((pos t.length k d:Nat):Int)) di (λd=>∀d',d'<d→(pt t (pos t.length k d')).State≠0) _ (by omega) (λd' hd'=>by omega) (λd hd hP=>?_) (λhP=>?_)
 ·have hne:pos t.length k d≠i:=λe=>by
   have:=b5c h1 h8 (by omega) hdi (e.trans hp.symm)
   omega
  have hlt:=a1w h1 k d
  rw[if_pos (by simp;omega),ixm hlt,d09]
  by_cases a:(pt t (pos t.length k d)).State=0
  ·rw[if_pos (by simpa[I1] using a)]
   exact .inr ⟨_,rfl,.inr ⟨rfl,d,hd,a⟩⟩
  ·rw[if_neg (by simpa[I1] using a),c2U h1 h8,d09]
   refine .inl ⟨rfl,λd' hd'=>?_⟩
   rcases Nat.lt_or_ge d' d with q | q
   ·exact hP d' q
   ·have:d'=d:=by omega
    subst this;exact a
 ·rw[if_neg (by simp;omega)]
  exact⟨_,rfl,.inl ⟨rfl,hP⟩⟩
def Ok(t:Tb)(i:Nat):Prop:=((pt t i).State=0∨(pt t i).State=1∨(pt t i).State=2)∧((pt t i).State≠1→(pt t i).Key=0∧(pt t i).Val=0)∧((pt t i).State=1→(∀j,j<i→¬Fk t (pt t i).Key j)∧∀d,d<t.length→(∀d',d'≤d→pos t.length (pt t i).Key d'≠i)→(pt t (pos t.length (pt t i).Key d)).State≠0)
theorem c5o{t:Tb}(h1:1≤t.length)(h8:t.length≤8):HR t↔∀i,i<t.length→Ok t i:=by
 constructor
 ·intro hR i hi
  exact⟨(hR.st i hi).1,(hR.st i hi).2,λs=>⟨λj hj q=>by have:=hR.uq j i q.1 hi q.2.1 s q.2.2;omega,hR.rd i hi s⟩⟩
 ·intro hO
  refine⟨h1,h8,λi hi=>⟨(hO i hi).1,(hO i hi).2.1⟩,λi j hi hj s1 s2 hk=>?_,λi hi s=>((hO i hi).2.2 s).2⟩
  rcases Nat.lt_trichotomy i j with q | q | q
  ·exact absurd ⟨hi,s1,hk⟩ (((hO j hj).2.2 s2).1 i q)
  ·exact q
  ·exact absurd ⟨hj,s2,hk.symm⟩ (((hO i hi).2.2 s1).1 j q)
theorem c0u(t:Tb)(h:t.length≤1000):∃b,a7o (t.map I1)=some b∧(b=true↔HR t):=by
 unfold a7o
 rw[List.length_map]
 by_cases hl:1≤t.length∧t.length≤8
 ·obtain⟨h1,h8⟩:=hl
  rw[if_neg (by simp;omega)]
  simp only[jn]
  suffices hs:∀(b:Bool),(b=true↔HR t)→_=some b by
   by_cases q:HR t
   ·exact⟨true,hs true (by simp[q]),by simp[q]⟩
   ·exact⟨false,hs false (by simp[q]),by simp[q]⟩
  intro b hb
  refine E9 t.length (λi=>∀j,j<i→Ok t j) (by omega) (λj hj=>by omega) (λi hi hP=>?_) (λhP=>⟨.inr (),by simp,by
   simp only
   rw[hb.2 ((c5o h1 h8).2 hP)]⟩)
  have good:Ok t i→∀j,j<i+1→Ok t j:=λo j hj=>by
   rcases Nat.lt_or_ge j i with q | q
   ·exact hP j q
   ·have:j=i:=by omega
    subst this;exact o
  have bad:¬Ok t i→some false=some b:=λo=>by
   have:b=false:=by
    cases hbb:b with
    | false=>rfl
    | true=>exact absurd ((c5o h1 h8).1 (hb.1 hbb) i hi) o
   rw[this]
  rw[if_pos (by simpa using hi)]
  rw[ixm hi,d09,g9 (by omega)]
  dsimp only[I1]
  by_cases a:((pt t i).State=0∨(pt t i).State=1∨(pt t i).State=2)∧((pt t i).State≠1→(pt t i).Key=0∧(pt t i).Val=0)
  ·rw[if_neg (by
    have a1:=a.1
    have a2:=a.2
    simp only[Bool.or_eq_true,Bool.and_eq_true,decide_eq_true_eq,bne_iff_ne,ne_eq,not_or,not_and]
    refine⟨⟨by omega,by omega⟩,λq=>?_⟩
    have:=a2 q
    omega)]
   by_cases s:(pt t i).State=1
   ·rw[if_neg (by simpa using s)]
    obtain⟨f,hf1,hf2⟩:=b6t (t:=t) (k:=(pt t i).Key) ⟨i,hi,s,rfl⟩
    rw[b7b h hf1 hf2,d09]
    by_cases e:f=i
    ·rw[e] at hf2
     rw[if_neg (by simp[e]),b2T,a9h h1 (by omega),d09]
     obtain⟨di,hdi,hpi⟩:=b2G h1 h8 (pt t i).Key hi
     obtain⟨e,he,hQ⟩:=c8A h1 h8 (pt t i).Key hi hdi hpi
     rw[he,d09]
     rcases hQ with ⟨rfl,q⟩ | ⟨rfl,d,hd,q⟩
     ·refine .inl ⟨rfl,good ⟨a.1,a.2,λ_=>⟨hf2,λd hd hne=>?_⟩⟩⟩
      rcases Nat.lt_or_ge d di with q' | q'
      ·exact q d q'
      ·exact absurd hpi (hne di q')
     ·refine .inr ⟨_,rfl,bad λo=>(o.2.2 s).2 d (by omega) (λd' hd' e=>?_) q⟩
      have:=b5c h1 h8 (by omega) hdi (e.trans hpi.symm)
      omega
    ·rw[if_pos (by simp;omega)]
     refine .inr ⟨_,rfl,bad λo=>?_⟩
     rcases Nat.lt_or_ge f i with q | q
     ·exact (o.2.2 s).1 f q hf1
     ·exact hf2 i (by omega) ⟨hi,s,rfl⟩
   ·rw[if_pos (by simpa using s)]
    exact .inl ⟨rfl,good ⟨a.1,a.2,λq=>absurd q s⟩⟩
  ·rw[if_pos (by
    simp only[Bool.or_eq_true,Bool.and_eq_true,decide_eq_true_eq,bne_iff_ne,ne_eq]
    omega)]
   exact .inr ⟨_,rfl,bad λo=>a ⟨o.1,o.2.1⟩⟩
 ·rw[if_pos (by simp;omega)]
  exact⟨false,rfl,⟨λq=>(by cases q),λhR=>absurd ⟨hR.l1,hR.l8⟩ hl⟩⟩
end Go.Sh
namespace Go.Sh
def Has(t:Tb)(k v:Int):Prop:=∃i,Fk t k i∧(pt t i).Val=v
theorem c1Q{t:Tb}{k:Int}:(∀v,¬Has t k v)↔∀i,¬Fk t k i:=by
 constructor
 ·intro h i hi;exact h _ ⟨i,hi,rfl⟩
 ·rintro h v ⟨i,hi,_⟩;exact h i hi
theorem c6n(t:Tb)(k:Int):(∃v,Has t k v)∨∀v,¬Has t k v:=by
 by_cases h:∃v,Has t k v
 ·exact .inl h
 ·exact .inr λv hv=>h ⟨v,hv⟩
theorem Has.fn{t:Tb}(hR:HR t){k v v':Int}(h:Has t k v)(h':Has t k v'):v=v':=by
 obtain⟨i,a,rfl⟩:=h
 obtain⟨j,b,rfl⟩:=h'
 rw[hR.uq i j a.1 b.1 a.2.1 b.2.1 (a.2.2.trans b.2.2.symm)]
theorem b1I{t:Tb}(hR:HR t){k v:Int}(h:Has t k v):I6 t k=some (v,0):=by
 obtain⟨i,a,rfl⟩:=h
 exact b72 hR a
theorem b91{t:Tb}(hR:HR t){k:Int}(h:∀v,¬Has t k v):I6 t k=some (0,9):=b71 hR (c1Q.1 h)
theorem b4U{t:Tb}{i:Nat}(hi:i<t.length){k v:Int}(p:hash_Place)(h:∀j,j≠i→Fk t p.Key j→p.State≠1)(k' v':Int) :
  Has (t.set i p) k' v'↔(p.State=1∧p.Key=k'∧p.Val=v')∨∃j,j≠i∧Fk t k' j∧(pt t j).Val=v':=by
 unfold Has Fk
 simp only[List.length_set,b2I hi]
 constructor
 ·rintro⟨j,⟨h1,h2,h3⟩,h4⟩
  by_cases e:j=i
  ·rw[if_pos e] at h2 h3 h4;exact .inl ⟨h2,h3,h4⟩
  ·rw[if_neg e] at h2 h3 h4;exact .inr ⟨j,e,⟨h1,h2,h3⟩,h4⟩
 ·rintro (⟨h1,h2,h3⟩ | ⟨j,e,⟨h1,h2,h3⟩,h4⟩)
  ·exact⟨i,by simp[hi,h1,h2,h3]⟩
  ·exact⟨j,by simp[e,h1,h2,h3,h4]⟩
theorem a9u{t:Tb}(hR:HR t){k v:Int}{r:Tb × Int}(h:b1q t k v r)(h0:r.2=0)(k' v':Int):Has r.1 k' v'↔(k'=k∧v'=v)∨(k'≠k∧Has t k' v'):=by
 cases h with
 | old i hi=>
  rw[b4U (k:=k) (v:=v) hi.1 _ (λj hj q=>absurd (hR.uq j i q.1 hi.1 q.2.1 hi.2.1 (q.2.2.trans hi.2.2.symm)) hj)]
  constructor
  ·rintro (⟨_,rfl,rfl⟩ | ⟨j,e,h1,h2⟩)
   ·exact .inl ⟨rfl,rfl⟩
   ·refine .inr ⟨λq=>?_,j,h1,h2⟩
    subst q
    exact e (hR.uq j i h1.1 hi.1 h1.2.1 hi.2.1 (h1.2.2.trans hi.2.2.symm))
  ·rintro (⟨rfl,rfl⟩ | ⟨e,j,h1,h2⟩)
   ·exact .inl ⟨rfl,rfl,rfl⟩
   ·refine .inr ⟨j,λq=>?_,h1,h2⟩
    subst q
    exact e (h1.2.2.symm.trans hi.2.2)
 | new d hn hd hb hf=>
  rw[b4U (k:=k) (v:=v) (a1w hR.l1 k d) _ (λj hj q=>absurd q (hn j))]
  constructor
  ·rintro (⟨_,rfl,rfl⟩ | ⟨j,e,h1,h2⟩)
   ·exact .inl ⟨rfl,rfl⟩
   ·refine .inr ⟨λq=>?_,j,h1,h2⟩
    subst q
    exact hn j h1
  ·rintro (⟨rfl,rfl⟩ | ⟨e,j,h1,h2⟩)
   ·exact .inl ⟨rfl,rfl,rfl⟩
   ·refine .inr ⟨j,λq=>?_,h1,h2⟩
    subst q
    exact hf h1.2.1
 | full hn ha=>cases h0
theorem a81{t:Tb}(hR:HR t){k:Int}{i:Nat}(hi:Fk t k i)(k' v':Int):Has (t.set i ⟨2,0,0⟩) k' v'↔k'≠k∧Has t k' v':=by
 rw[b4U (k:=k) (v:=0) hi.1 _ (λj hj q=>by simp)]
 constructor
 ·rintro (⟨h,_⟩ | ⟨j,e,h1,h2⟩)
  ·cases h
  ·refine⟨λq=>?_,j,h1,h2⟩
   subst q
   exact e (hR.uq j i h1.1 hi.1 h1.2.1 hi.2.1 (h1.2.2.trans hi.2.2.symm))
 ·rintro⟨e,j,h1,h2⟩
  refine .inr ⟨j,λq=>?_,h1,h2⟩
  subst q
  exact e (h1.2.2.symm.trans hi.2.2)
def keys(t:Tb):List Int:=(t.filter (·.State==1)).map (·.Key)
theorem b2g{α β:Type}(p:α→Bool)(f:α→β)(l:List α)(k:Nat)(h:k<l.length):((l.take (k+1)).filter p).map f=((l.take k).filter p).map f++(if p l[k] then [f l[k]] else []):=by
 rw[List.take_succ_eq_append_getElem h,List.filter_append,List.map_append]
 congr 1
 simp only[List.filter_cons,List.filter_nil]
 split <;> rfl
theorem keys_eq{t:Tb}(h:t.length≤1000):a4h t=some (keys t):=by
 unfold a4h keys
 simp only[jn]
 refine X7 t.length (λk l=>l=((t.take k).filter (·.State==1)).map (·.Key)) (by omega) (by simp) ?_ (λl hl=>⟨_,by simp;rfl,by rw[hl,List.take_length]⟩)
 rintro k l hk rfl
 left
 rw[b2g _ _ _ _ hk]
 rw[if_pos (by simpa using hk),l6 hk,d09,g9 (by omega)]
 have hle:(List.map (·.Key) (List.filter (·.State==1) (List.take k t))).length≤1000:=by
  rw[List.length_map]
  exact Nat.le_trans (List.length_filter_le ..) (by simp;omega)
 by_cases c:(t[k].State==1)=true
 ·rw[if_pos c,if_pos c,A0 (by omega) (by simp only[List.length_cons,List.length_nil];omega),d09]
  exact⟨_,rfl,rfl⟩
 ·rw[if_neg c,if_neg c]
  exact⟨_,rfl,by simp⟩
theorem c2Q{t:Tb}(h:t.length≤1000):a9G (t.map I1)=some (keys t):=by
 unfold a9G keys
 simp only[jn]
 refine X7 t.length (λk l=>l=((t.take k).filter (·.State==1)).map (·.Key)) (by omega) (by simp) ?_ (λl hl=>⟨_,by simp;rfl,by rw[hl,List.take_length]⟩)
 rintro k l hk rfl
 left
 rw[b2g _ _ _ _ hk]
 rw[if_pos (by simpa using hk),a0X,l6 hk,Option.map_some,d09,g9 (by omega)]
 have hle:(List.map (·.Key) (List.filter (·.State==1) (List.take k t))).length≤1000:=by
  rw[List.length_map]
  exact Nat.le_trans (List.length_filter_le ..) (by simp;omega)
 by_cases c:(t[k].State==1)=true
 ·rw[if_pos (by simpa[I1] using c),if_pos c,A0 (by omega) (by simp only[List.length_cons,List.length_nil];omega),d09]
  exact⟨_,rfl,rfl⟩
 ·rw[if_neg (by simpa[I1] using c),if_neg c]
  exact⟨_,rfl,by simp⟩
theorem b5C{t:Tb}(hR:HR t)(k:Int):a0e (t.map I1) k=J4 t k:=by
 have h8:=hR.l8
 rcases b1a t k with ⟨i,hi⟩ | hn
 ·rw[a3z hR hi]
  obtain⟨f,hf1,hf2⟩:=b6t ⟨i,hi⟩
  rw[b7b (by omega) hf1 hf2,hR.uq f i hf1.1 hi.1 hf1.2.1 hi.2.1 (hf1.2.2.trans hi.2.2.symm)]
 ·rw[a3y hR.l1 hR.l8 hn,c2O (by omega) hn]
theorem c2P{t:Tb}(hR:HR t)(k:Int):a7n (t.map I1) k=I6 t k:=by
 unfold a7n I6
 rw[b5C hR]
 rcases b1a t k with ⟨i,hi⟩ | hn
 ·rw[a3z hR hi,d09,d09,if_neg (by simp),if_neg (by simp),ixm hi.1,b2q hi.1];rfl
 ·rw[a3y hR.l1 hR.l8 hn];rfl
theorem c2N{t:Tb}(hR:HR t)(k:Int):a6E (t.map I1) k=(T1 t k).map λr=>(r.1.map I1,r.2):=by
 have h8:=hR.l8
 rcases b1a t k with ⟨i,hi⟩ | hn
 ·rw[a67 hR hi]
  unfold a6E
  rw[b5C hR,a3z hR hi,d09,if_neg (by simp)]
  have:=b4v (t:=t) (by omega) hi.1 ⟨2,0,0⟩
  dsimp only[I1] at this
  rw[this,d09,ixm hi.1]
  rfl
 ·rw[a65 hR hn]
  unfold a6E
  rw[b5C hR,a3y hR.l1 hR.l8 hn]
  rfl
theorem c8z{t:Tb}(hR:HR t)(k v:Int){r:Tb × Int}(h:b1q t k v r):b5m (t.map I1) k v=some (r.1.map I1,r.2):=by
 have h1:=hR.l1
 have h8:=hR.l8
 unfold b5m
 rw[b5C hR]
 have hw:∀i,i<t.length→a12 (t.map I1) (i:Int) ⟨1,k,v⟩=some ((t.set i ⟨1,k,v⟩).map I1):=λi hi=>b4v (t:=t) (by omega) hi ⟨1,k,v⟩
 cases h with
 | old i hi=>
  rw[a3z hR hi,d09,if_pos (by simp),hw i hi.1]
  rfl
 | new d hn hd hb hf=>
  rw[a3y h1 h8 hn,d09,if_neg (by decide),List.length_map,b2T,a9h h1 (by omega),d09]
  simp only[jn]
  rw[←b2H h1 k]
  obtain⟨e,he,hQ⟩:=b1K (f:=λ((s15,s16):Int × Int)=>
   if (decide (s16<(t.length:Int))) then
    (ix (t.map I1) s15).bind λv19=>
    if (v19.State != 1) then
     (a12 (t.map I1) s15 (⟨1,k,v⟩:j2)).bind λv20=>
     some (Sum.inr (Sum.inl (β:=Unit) (v20,(0:Int))))
    else
    (rem (s7 (s15+1)) (t.length:Int)).bind λv21=>
    some (Sum.inl (v21,s7 (s16+1)))
   else
   some (Sum.inr (Sum.inr ()))) (λd=>(((pos t.length k d:Nat):Int),(d:Int))) d (λ_=>True) (λe=>e = .inl ((t.set (pos t.length k d) ⟨1,k,v⟩).map I1,0)) (by omega) trivial (λj hj _=>by
    have hp:=a1w h1 k j
    dsimp only
    rw[if_pos (by simp;omega),ixm hp,d09,if_neg (by simpa[I1] using hb j hj),c2U h1 h8,d09,g9 (by omega)]
    exact .inl ⟨rfl,trivial⟩) (λ_=>by
    have hp:=a1w h1 k d
    dsimp only
    rw[if_pos (by simpa using hd),ixm hp,d09,if_pos (by simpa[I1] using hf),hw _ hp]
    exact⟨_,rfl,rfl⟩)
  have he':lp _ (((pos t.length k 0:Nat):Int),(0:Int))=some e:=he
  rw[he',hQ]
  rfl
 | full hn ha=>
  rw[a3y h1 h8 hn,d09,if_neg (by decide),List.length_map,b2T,a9h h1 (by omega),d09]
  simp only[jn]
  rw[←b2H h1 k]
  obtain⟨e,he,hQ⟩:=b1K (f:=λ((s15,s16):Int × Int)=>
   if (decide (s16<(t.length:Int))) then
    (ix (t.map I1) s15).bind λv19=>
    if (v19.State != 1) then
     (a12 (t.map I1) s15 (⟨1,k,v⟩:j2)).bind λv20=>
     some (Sum.inr (Sum.inl (β:=Unit) (v20,(0:Int))))
    else
    (rem (s7 (s15+1)) (t.length:Int)).bind λv21=>
    some (Sum.inl (v21,s7 (s16+1)))
   else
   some (Sum.inr (Sum.inr ()))) (λd=>(((pos t.length k d:Nat):Int),(d:Int))) t.length (λ_=>True) (λe=>e = .inr ()) (by omega) trivial (λj hj _=>by
    have hp:=a1w h1 k j
    dsimp only
    rw[if_pos (by simp;omega),ixm hp,d09,if_neg (by simpa[I1] using ha _ hp),c2U h1 h8,d09,g9 (by omega)]
    exact .inl ⟨rfl,trivial⟩) (λ_=>⟨.inr (),by simp,rfl⟩)
  have he':lp _ (((pos t.length k 0:Nat):Int),(0:Int))=some e:=he
  rw[he',hQ]
  rfl
theorem b2J{t:Tb}{k v:Int}{r:Tb × Int}(h:b1q t k v r):r.1.length=t.length:=by cases h <;> simp
end Go.Sh
namespace Go.Sh
theorem a4o(t:Tb):(keys t).length=t.countP (·.State==1):=by
 unfold keys
 rw[List.length_map,List.countP_eq_length_filter]
theorem a9k{t:Tb}{i:Nat}(h:i<t.length)(p:hash_Place):(keys (t.set i p)).length+(if (pt t i).State=1 then 1 else 0)=(keys t).length+if p.State=1 then 1 else 0:=by
 rw[a4o,a4o,List.countP_set h,b1e h]
 simp only[beq_iff_eq]
 have:(if t[i].State=1 then 1 else 0)≤t.countP λc=>c.State==1:=by
  split
  ·rename_i e
   exact List.countP_pos_iff.2 ⟨t[i],List.getElem_mem h,by simpa using e⟩
  ·exact Nat.zero_le _
 omega
theorem b94{t:Tb}(h:∀i,i<t.length→(pt t i).State=1):(keys t).length=t.length:=by
 rw[a4o,List.countP_eq_length]
 intro a ha
 obtain⟨i,hi,rfl⟩:=List.getElem_of_mem ha
 have:=h i hi
 rw[b1e hi] at this
 simpa using this
theorem c3X{t:Tb}{i:Nat}(hi:i<t.length)(h:(pt t i).State≠1):(keys t).length<t.length:=by
 have h1:(keys t).length≤t.length:=by rw[a4o];exact List.countP_le_length
 rcases Nat.lt_or_ge (keys t).length t.length with q | q
 ·exact q
 ·exfalso
  have e:(keys t).length=t.length:=by omega
  rw[a4o,List.countP_eq_length] at e
  have:=e t[i] (List.getElem_mem hi)
  rw[b1e hi] at h
  exact h (by simpa using this)
structure TM {V:Type} (φ:V→Int→Prop) (t:Tb) (m:List (Int × V)):Prop where
 R:HR t
 nd:(m.map (·.1)).Nodup
 len:(keys t).length=m.length
 has:∀k,(∀v,Has t k v→∃u,y4 m k=some u∧φ u v)∧((y4 m k).isSome=true→∃v,Has t k v)
theorem TM.some{V:Type}{φ:V→Int→Prop}{t:Tb}{m:List (Int × V)}(h:TM φ t m)(k:Int):(∃v u,Has t k v∧y4 m k=some u∧φ u v)∨(y4 m k=none∧∀v,¬Has t k v):=by
 rcases c6n t k with ⟨v,hv⟩ | hn
 ·obtain⟨u,h1,h2⟩:=(h.has k).1 v hv
  exact .inl ⟨v,u,hv,h1,h2⟩
 ·refine .inr ⟨?_,hn⟩
  cases hq:y4 m k with
  | none=>rfl
  | some u=>
   obtain⟨v,hv⟩:=(h.has k).2 (by rw[hq];rfl)
   exact absurd hv (hn v)
theorem TM.put{V:Type}{φ:V→Int→Prop}{t:Tb}{m:List (Int × V)}(h:TM φ t m)(k v:Int)(u:V)(hφ:φ u v):∃r,a6q t k v = .some r∧r.1.length=t.length∧((r.2=0∧TM φ r.1 (m9 m k u)∧((y4 m k).isSome=true∨m.length<t.length))∨(r=(t,8)∧(y4 m k)=none∧m.length=t.length)):=by
 obtain⟨r,hr,hp⟩:=b8i h.R k v
 refine⟨r,hr,b2J hp,?_⟩
 have hRr:=a8B h.R hp
 by_cases h0:r.2=0
 ·left
  have hh:=a9u h.R hp h0
  have hmem:∀k',(∀w,Has r.1 k' w→∃x,y4 (m9 m k u) k' = .some x∧φ x w)∧((y4 (m9 m k u) k').isSome=true→∃w,Has r.1 k' w):=λk'=>by
   rw[a7h]
   by_cases e:k'=k
   ·subst e
    rw[if_pos rfl]
    refine⟨λw hw=>?_,λ_=>⟨v,(hh _ _).2 (.inl ⟨rfl,rfl⟩)⟩⟩
    rcases (hh _ _).1 hw with ⟨_,rfl⟩ | ⟨q,_⟩
    ·exact⟨u,rfl,hφ⟩
    ·exact absurd rfl q
   ·rw[if_neg e]
    refine⟨λw hw=>?_,λq=>?_⟩
    ·rcases (hh _ _).1 hw with ⟨q,_⟩ | ⟨_,q⟩
     ·exact absurd q e
     ·exact (h.has k').1 w q
    ·obtain⟨w,hw⟩:=(h.has k').2 q
     exact⟨w,(hh _ _).2 (.inr ⟨e,hw⟩)⟩
  have hlen:(keys r.1).length=(m9 m k u).length∧((y4 m k).isSome=true∨m.length<t.length):=by
   rw[c2e]
   cases hp with
   | old i hi=>
    have h1:(y4 m k).isSome=true:=by
     obtain⟨x,h1,_⟩:=(h.has k).1 _ ⟨i,hi,rfl⟩
     rw[h1];rfl
    have:=a9k hi.1 ⟨1,k,v⟩
    rw[if_pos hi.2.1,if_pos rfl,h.len] at this
    rw[if_pos h1]
    exact⟨by simp only;omega,.inl h1⟩
   | new d hn hd hb hf=>
    have h1:(y4 m k)=none:=by
     rcases h.some k with ⟨w,x,hw,_⟩ | ⟨q,_⟩
     ·obtain⟨i,hi,_⟩:=hw
      exact absurd hi (hn i)
     ·exact q
    have hlt:=a1w h.R.l1 k d
    have:=a9k hlt ⟨1,k,v⟩
    rw[if_neg hf,if_pos rfl,h.len] at this
    rw[h1]
    have h2:=c3X hlt hf
    rw[h.len] at h2
    exact⟨by simpa using this,.inr h2⟩
   | full hn ha=>cases h0
  exact⟨h0,⟨hRr,b8a h.nd k u,hlen.1,hmem⟩,hlen.2⟩
 ·right
  cases hp with
  | old i hi=>exact absurd rfl h0
  | new d hn hd hb hf=>exact absurd rfl h0
  | full hn ha=>
   refine⟨rfl,?_,?_⟩
   ·rcases h.some k with ⟨w,x,hw,_⟩ | ⟨q,_⟩
    ·obtain⟨i,hi,_⟩:=hw
     exact absurd hi (hn i)
    ·exact q
   ·rw[←h.len,b94 ha]
theorem TM.drop{V:Type}{φ:V→Int→Prop}{t:Tb}{m:List (Int × V)}(h:TM φ t m)(k:Int):(∃r v u,T1 t k = .some (r,v,0)∧r.length=t.length∧y4 m k = .some u∧φ u v∧TM φ r (b0F m k))∨(T1 t k = .some (t,0,9)∧y4 m k=none∧b0F m k=m):=by
 rcases b1a t k with ⟨i,hi⟩ | hn
 ·left
  obtain⟨u,h1,h2⟩:=(h.has k).1 _ ⟨i,hi,rfl⟩
  refine⟨_,_,u,a67 h.R hi,by simp,h1,h2,a3v h.R hi.1,(c18 m k).nodup h.nd,?_,λk'=>?_⟩
  ·have:=a9k hi.1 ⟨2,0,0⟩
   rw[if_pos hi.2.1,if_neg (by decide),h.len] at this
   rw[c17,h1]
   simp only[Option.isSome_some,if_true]
   omega
  ·have hh:=a81 h.R hi
   rw[b98 h.nd]
   by_cases e:k'=k
   ·subst e
    rw[if_pos rfl]
    exact⟨λw hw=>absurd rfl ((hh _ _).1 hw).1,λq=>by cases q⟩
   ·rw[if_neg e]
    refine⟨λw hw=>(h.has k').1 w ((hh _ _).1 hw).2,λq=>?_⟩
    obtain⟨w,hw⟩:=(h.has k').2 q
    exact⟨w,(hh _ _).2 ⟨e,hw⟩⟩
 ·right
  have h1:y4 m k=none:=by
   rcases h.some k with ⟨w,x,hw,_⟩ | ⟨q,_⟩
   ·obtain⟨i,hi,_⟩:=hw
    exact absurd hi (hn i)
   ·exact q
  refine⟨a65 h.R hn,h1,?_⟩
  have:∀(l:List (Int × V)),y4 l k=none→b0F l k=l:=by
   intro l
   induction l with
   | nil=>intro _;rfl
   | cons p l ih=>
    intro q
    unfold y4 at q
    unfold b0F
    by_cases e:k=p.1
    ·rw[if_pos (by simpa using e)] at q;cases q
    ·rw[if_neg (by simpa using e)] at q
     rw[if_neg (by simpa using e),ih q]
  exact this m h1
end Go.Sh
namespace Go.Sh
abbrev pp(p:j5):r7:=⟨p.Key,p.Val⟩
def Y9(t:Tb):List j5:=(t.filter (·.State==1)).map λp=>⟨p.Key,p.Val⟩
theorem a9j(t:Tb):keys t=(Y9 t).map (·.Key):=by
 unfold keys Y9
 rw[List.map_map]
 rfl
theorem X9(t:Tb):(Y9 t).length=(keys t).length:=by rw[a9j,List.length_map]
theorem a33{t:Tb}(h:t.length≤8):(Y9 t).length≤8:=by
 rw[X9,a4o]
 exact Nat.le_trans List.countP_le_length h
theorem a0m{t:Tb}{p:j5}:p∈Y9 t↔Has t p.Key p.Val:=by
 unfold Y9 Has
 rw[List.mem_map]
 constructor
 ·rintro⟨q,hq,rfl⟩
  obtain⟨h1,h2⟩:=List.mem_filter.1 hq
  obtain⟨i,hi,rfl⟩:=List.getElem_of_mem h1
  refine⟨i,⟨hi,?_,?_⟩,?_⟩ <;> rw[b1e hi]
  simpa using h2
 ·rintro⟨i,⟨hi,h1,h2⟩,h3⟩
  rw[b1e hi] at h1 h2 h3
  refine⟨t[i],List.mem_filter.2 ⟨List.getElem_mem hi,by simpa using h1⟩,?_⟩
  cases p
  simp at h2 h3 ⊢
  exact⟨h2,h3⟩
theorem b5d{t:Tb}(hR:HR t){j:Nat}(h:j<(Y9 t).length):I6 t (Y9 t)[j].Key=some ((Y9 t)[j].Val,0):=b1I hR (a0m.1 (List.getElem_mem h))
theorem c49{E R:Type}{x:Option E}{r:E}{κ:E→Option R}{y:Option R}(h:x=some r)(hy:κ r=y):((x.bind λe=>some e).bind κ)=y:=by rw[h];exact hy
theorem c2C{t:Tb}(hR:HR t):a3x t=some (Y9 t):=by
 have h8:=hR.l8
 have hp:=a33 h8
 unfold a3x x4 a0x a1K
 simp only[jn,d09]
 rw[keys_eq (by omega),d09]
 refine c49 (a2v (a0Y (Y9 t).length (λk l=>l=(Y9 t).take k) (λe=>e=Y9 t) (by omega) (by simp) ?_ ?_)) rfl
 ·rintro k l hk rfl
  refine .inl ⟨_,?_,rfl⟩
  dsimp only
  rw[if_pos (by rw[←X9];simpa using hk),l6 (by rw[←X9];exact hk),d09]
  have e:(keys t)[k]'(by rw[←X9];exact hk)=(Y9 t)[k].Key:=by simp[a9j]
  rw[e,b5d hR hk,d09,if_pos (by trivial),A0 (by omega) (by simp;omega),d09,g9 (by omega),List.take_succ_eq_append_getElem hk]
 ·rintro l rfl
  exact⟨_,by rw[←X9];simp;rfl,by simp⟩
theorem b0P{t:Tb}(hR:HR t):a2D (t.map I1)=some ((Y9 t).map pp):=by
 have h8:=hR.l8
 have hp:=a33 h8
 unfold a2D
 simp only[jn]
 rw[c2Q (by omega),d09]
 refine X7 (Y9 t).length (λk l=>l=((Y9 t).take k).map pp) (by omega) (by simp) ?_ (λl hl=>⟨_,by rw[←X9];simp;rfl,by rw[hl,List.take_length]⟩)
 rintro k l hk rfl
 refine .inl ⟨_,?_,rfl⟩
 rw[if_pos (by rw[←X9];simpa using hk),l6 (by rw[←X9];exact hk),d09]
 have e:(keys t)[k]'(by rw[←X9];exact hk)=(Y9 t)[k].Key:=by simp[a9j]
 rw[e,c2P hR,b5d hR hk,d09,A0 (by omega) (by simp;omega),d09,g9 (by omega),List.take_succ_eq_append_getElem hk,List.map_append]
 rfl
def own(t:Tb)(h:Int):Nat:=(Y9 t).countP λp=>(h != 0)&&(p.Val==h)
theorem c2x{t:Tb}(hR:HR t)(h:Int):a3w t h=some (own t h:Int):=by
 have h8:=hR.l8
 have hp:=a33 h8
 unfold a3w w9 a0x a1J
 simp only[jn,d09]
 rw[keys_eq (by omega),d09]
 refine c49 (r:=(Y9 t).filter λp=>(h != 0)&&(p.Val==h)) (a2v (a0Y (Y9 t).length (λk l=>l=((Y9 t).take k).filter λp=>(h != 0)&&(p.Val==h)) (λe=>e=(Y9 t).filter λp=>(h != 0)&&(p.Val==h)) (by omega) (by simp) ?_ ?_)) (by unfold own;rw[List.countP_eq_length_filter])
 ·rintro k l hk rfl
  refine .inl ⟨((Y9 t).take (k+1)).filter λp=>(h != 0)&&(p.Val==h),?_,rfl⟩
  dsimp only
  rw[if_pos (by rw[←X9];simpa using hk),l6 (by rw[←X9];exact hk),d09]
  have e:(keys t)[k]'(by rw[←X9];exact hk)=(Y9 t)[k].Key:=by simp[a9j]
  have hle:(((Y9 t).take k).filter λp=>(h != 0)&&(p.Val==h)).length≤8:=Nat.le_trans (List.length_filter_le ..) (by simp;omega)
  rw[e,b5d hR hk,d09,g9 (by omega),List.take_succ_eq_append_getElem hk,List.filter_append,List.filter_cons,List.filter_nil]
  by_cases c:((h != 0)&&((Y9 t)[k].Val==h))=true
  ·rw[if_pos c,if_pos c,A0 (by omega) (by simp only[List.length_cons,List.length_nil];omega),d09]
  ·rw[if_neg c,if_neg c,List.append_nil]
 ·rintro l rfl
  exact⟨_,by rw[←X9];simp;rfl,by simp⟩
theorem c0t{t:Tb}(hR:HR t)(h:Int):a7p (t.map I1) h=some (own t h:Int):=by
 have h8:=hR.l8
 have hp:=a33 h8
 unfold a7p
 simp only[jn]
 rw[b0P hR,d09,List.length_map]
 refine c33 (λs=>∃k:Nat,k≤(Y9 t).length∧s.2=(k:Int)∧s.1=((((Y9 t).take k).countP λp=>(h != 0)&&(p.Val==h):Nat):Int)) (λs=>(Y9 t).length+1-s.2.toNat) ⟨0,by omega,rfl,by simp⟩ (by simp;omega) ?_
 rintro⟨_,_⟩ ⟨k,hk,rfl,rfl⟩
 dsimp only
 by_cases hlt:k<(Y9 t).length
 ·left
  rw[if_pos (by simpa using hlt),a0X,l6 hlt,Option.map_some,d09,g9 (n:=k) (by omega)]
  have hle:(((Y9 t).take k).countP λp=>(h != 0)&&(p.Val==h))≤8:=Nat.le_trans List.countP_le_length (by simp;omega)
  have hstep:(((Y9 t).take (k+1)).countP λp=>(h != 0)&&(p.Val==h))=(((Y9 t).take k).countP λp=>(h != 0)&&(p.Val==h))+if ((h != 0)&&((Y9 t)[k].Val==h))=true then 1 else 0:=by
   rw[List.take_succ_eq_append_getElem hlt,List.countP_append,List.countP_cons,List.countP_nil,Nat.zero_add]
  by_cases c:((h != 0)&&((Y9 t)[k].Val==h))=true
  ·rw[if_pos (by simp only[Bool.and_eq_true] at c ⊢;exact⟨c.2,c.1⟩),g9 (by omega)]
   rw[if_pos c] at hstep
   exact⟨_,rfl,⟨k+1,by omega,rfl,by rw[hstep]⟩,by simp;omega⟩
  ·rw[if_neg (by simp only[Bool.and_eq_true] at c ⊢;exact λq=>c ⟨q.2,q.1⟩)]
   rw[if_neg c] at hstep
   exact⟨_,rfl,⟨k+1,by omega,rfl,by rw[hstep];rfl⟩,by simp;omega⟩
 ·right
  have:k=(Y9 t).length:=by omega
  subst this
  exact⟨_,by rw[if_neg (by simp)],by rw[List.take_length];rfl⟩
theorem a8H{t:Tb}(hR:HR t)(k v:Int):∃r,P1 t k v=some r∧HR r.1∧r.1.length=t.length ∧
  ((k=0∧r=(t,0,2))∨(k≠0∧v=0∧((∃i,Fk t k i∧r=(t.set i ⟨2,0,0⟩,(pt t i).Val,0))∨((∀i,¬Fk t k i)∧r=(t,0,0)))) ∨
   (k≠0∧v≠0∧((∃i,Fk t k i∧r=(t.set i ⟨1,k,v⟩,(pt t i).Val,0))∨(∃d,(∀i,¬Fk t k i)∧d<t.length∧(pt t d).State≠1∧b1q t k v (t.set d ⟨1,k,v⟩,0)∧r=(t.set d ⟨1,k,v⟩,0,0))∨((∀i,¬Fk t k i)∧(∀i,i<t.length→(pt t i).State=1)∧r=(t,0,8))))):=by
 unfold P1
 by_cases hk:k=0
 ·rw[if_pos (by simpa using hk)]
  exact⟨_,rfl,hR,rfl,.inl ⟨hk,rfl⟩⟩
 ·rw[if_neg (by simpa using hk)]
  obtain⟨g,hg,hgv⟩:∃g,I6 t k=some g∧((∃i,Fk t k i∧g=((pt t i).Val,0))∨((∀i,¬Fk t k i)∧g=(0,9))):=by
   rcases b1a t k with ⟨i,hi⟩ | hn
   ·exact⟨_,b72 hR hi,.inl ⟨i,hi,rfl⟩⟩
   ·exact⟨_,b71 hR hn,.inr ⟨hn,rfl⟩⟩
  rw[hg,d09]
  by_cases hv:v=0
  ·rw[if_pos (by simpa using hv)]
   rcases hgv with ⟨i,hi,rfl⟩ | ⟨hn,rfl⟩
   ·rw[a67 hR hi,d09]
    exact⟨_,rfl,a3v hR hi.1,by simp,.inr (.inl ⟨hk,hv,.inl ⟨i,hi,rfl⟩⟩)⟩
   ·rw[a65 hR hn,d09]
    exact⟨_,rfl,hR,rfl,.inr (.inl ⟨hk,hv,.inr ⟨hn,rfl⟩⟩)⟩
  ·rw[if_neg (by simpa using hv)]
   obtain⟨r,hr,hp⟩:=b8i hR k v
   rw[hr,d09]
   have hRr:=a8B hR hp
   have hl:=b2J hp
   have hp':=hp
   cases hp with
   | old i hi=>
    rcases hgv with ⟨j,hj,rfl⟩ | ⟨hn,rfl⟩
    ·rw[hR.uq j i hj.1 hi.1 hj.2.1 hi.2.1 (hj.2.2.trans hi.2.2.symm)]
     exact⟨_,rfl,hRr,hl,.inr (.inr ⟨hk,hv,.inl ⟨i,hi,rfl⟩⟩)⟩
    ·exact absurd hi (hn i)
   | new d hn hd hb hf=>
    rcases hgv with ⟨j,hj,rfl⟩ | ⟨_,rfl⟩
    ·exact absurd hj (hn j)
    ·exact⟨_,rfl,hRr,hl,.inr (.inr ⟨hk,hv,.inr (.inl ⟨_,hn,a1w hR.l1 k d,hf,hp',rfl⟩)⟩)⟩
   | full hn ha=>exact⟨_,rfl,hR,rfl,.inr (.inr ⟨hk,hv,.inr (.inr ⟨hn,ha,rfl⟩)⟩)⟩
theorem c0x{t:Tb}(hR:HR t)(k v:Int):∃r,P1 t k v=some r∧HR r.1∧r.1.length=t.length∧b5p (t.map I1) k v=some (r.1.map I1,r.2) ∧
  ((k=0∧r=(t,0,2))∨(k≠0∧v=0∧((∃i,Fk t k i∧r=(t.set i ⟨2,0,0⟩,(pt t i).Val,0))∨((∀i,¬Fk t k i)∧r=(t,0,0)))) ∨
   (k≠0∧v≠0∧((∃i,Fk t k i∧r=(t.set i ⟨1,k,v⟩,(pt t i).Val,0))∨(∃d,(∀i,¬Fk t k i)∧d<t.length∧(pt t d).State≠1∧b1q t k v (t.set d ⟨1,k,v⟩,0)∧r=(t.set d ⟨1,k,v⟩,0,0))∨((∀i,¬Fk t k i)∧(∀i,i<t.length→(pt t i).State=1)∧r=(t,0,8))))):=by
 unfold P1 b5p
 by_cases hk:k=0
 ·rw[if_pos (by simpa using hk),if_pos (by simpa using hk)]
  exact⟨_,rfl,hR,rfl,rfl,.inl ⟨hk,rfl⟩⟩
 ·rw[if_neg (by simpa using hk),if_neg (by simpa using hk),c2P hR]
  obtain⟨g,hg,hgv⟩:∃g,I6 t k=some g∧((∃i,Fk t k i∧g=((pt t i).Val,0))∨((∀i,¬Fk t k i)∧g=(0,9))):=by
   rcases b1a t k with ⟨i,hi⟩ | hn
   ·exact⟨_,b72 hR hi,.inl ⟨i,hi,rfl⟩⟩
   ·exact⟨_,b71 hR hn,.inr ⟨hn,rfl⟩⟩
  rw[hg,d09,d09]
  by_cases hv:v=0
  ·rw[if_pos (by simpa using hv),if_pos (by simpa using hv),c2N hR]
   rcases hgv with ⟨i,hi,rfl⟩ | ⟨hn,rfl⟩
   ·rw[a67 hR hi,d09]
    exact⟨_,rfl,a3v hR hi.1,by simp,rfl,.inr (.inl ⟨hk,hv,.inl ⟨i,hi,rfl⟩⟩)⟩
   ·rw[a65 hR hn,d09]
    exact⟨_,rfl,hR,rfl,rfl,.inr (.inl ⟨hk,hv,.inr ⟨hn,rfl⟩⟩)⟩
  ·rw[if_neg (by simpa using hv),if_neg (by simpa using hv)]
   obtain⟨r,hr,hp⟩:=b8i hR k v
   rw[hr,d09,c8z hR k v hp,d09]
   have hRr:=a8B hR hp
   have hl:=b2J hp
   have hp':=hp
   cases hp with
   | old i hi=>
    rcases hgv with ⟨j,hj,rfl⟩ | ⟨hn,rfl⟩
    ·rw[hR.uq j i hj.1 hi.1 hj.2.1 hi.2.1 (hj.2.2.trans hi.2.2.symm)]
     exact⟨_,rfl,hRr,hl,rfl,.inr (.inr ⟨hk,hv,.inl ⟨i,hi,rfl⟩⟩)⟩
    ·exact absurd hi (hn i)
   | new d hn hd hb hf=>
    rcases hgv with ⟨j,hj,rfl⟩ | ⟨_,rfl⟩
    ·exact absurd hj (hn j)
    ·exact⟨_,rfl,hRr,hl,rfl,.inr (.inr ⟨hk,hv,.inr (.inl ⟨_,hn,a1w hR.l1 k d,hf,hp',rfl⟩)⟩)⟩
   | full hn ha=>exact⟨_,rfl,hR,rfl,rfl,.inr (.inr ⟨hk,hv,.inr (.inr ⟨hn,ha,rfl⟩)⟩)⟩
theorem b4p(t:Tb)(h:Int):own t h=t.countP λp=>(p.State==1)&&((h != 0)&&(p.Val==h)):=by
 unfold own Y9
 rw[List.countP_map,List.countP_filter]
 congr 1
 funext p
 simp[Bool.and_comm]
theorem b9i{t:Tb}{i:Nat}(hi:i<t.length)(p:hash_Place)(h:Int):own (t.set i p) h+(if (((pt t i).State==1)&&((h != 0)&&((pt t i).Val==h)))=true then 1 else 0)=own t h+if ((p.State==1)&&((h != 0)&&(p.Val==h)))=true then 1 else 0:=by
 rw[b4p,b4p,List.countP_set hi,b1e hi]
 have:(if ((t[i].State==1)&&((h != 0)&&(t[i].Val==h)))=true then 1 else 0)≤t.countP λp=>(p.State==1)&&((h != 0)&&(p.Val==h)):=by
  split
  ·rename_i e
   exact List.countP_pos_iff.2 ⟨t[i],List.getElem_mem hi,e⟩
  ·exact Nat.zero_le _
 omega
theorem b8f{t:Tb}(h8:t.length≤8)(h:Int):own t h≤8:=Nat.le_trans List.countP_le_length (a33 h8)
end Go.Sh
namespace Go.Sh
end Go.Sh
namespace Go.Sh
theorem b7x{t:Tb}(hR:HR t)(ks:List Int)(hks:ks.length≤1000):∃a had,T0 t ks=some (a,had)∧HR a∧a.length=t.length∧had.length≤ks.length∧a3L (t.map I1) ks=some (a.map I1,had) ∧
  (∀k v,Has a k v↔k∉ks∧Has t k v)∧(keys a).length+had.length=(keys t).length∧(∀k v,k∈ks→Has t k v→v∈had)∧∀y,own a y+Q3 had y=own t y:=by
 have key:∀n,n≤ks.length→∃a had,HR a∧a.length=t.length∧had.length≤n∧(∀k v,Has a k v↔k∉ks.take n∧Has t k v)∧(keys a).length+had.length=(keys t).length∧(∀k v,k∈ks.take n→Has t k v→v∈had)∧(∀y,own a y+Q3 had y=own t y) ∧
   ∃f:Nat→Tb × List Int,f 0=(t,[])∧f n=(a,had)∧∀j,(hj:j<n)→HR (f j).1∧(f j).2.length≤j∧((∃i,∃hjk:j<ks.length,Fk (f j).1 ks[j] i∧f (j+1)=((f j).1.set i ⟨2,0,0⟩,(f j).2 ++ [(pt (f j).1 i).Val]))∨((∀i,∀hjk:j<ks.length,¬Fk (f j).1 ks[j] i)∧f (j+1)=f j)):=by
  intro n
  induction n with
  | zero=>exact λ_=>⟨t,[],hR,rfl,by simp,by simp,by simp,by simp,λy=>by unfold Q3;split <;> simp,λ_=>(t,[]),rfl,rfl,λj hj=>by omega⟩
  | succ n ih=>
   intro hn
   obtain⟨a,had,h1,h2,h3,h4,h5,h6,h7,f,f0,fn,fs⟩:=ih (by omega)
   have hlt:n<ks.length:=by omega
   have htk:∀k,k∈ks.take (n+1)↔k∈ks.take n∨k=ks[n]:=λk=>by
    rw[List.take_succ_eq_append_getElem hlt,List.mem_append,List.mem_singleton]
   rcases b1a a ks[n] with ⟨i,hi⟩ | hno
   ·have hd:=a81 h1 hi
    refine⟨a.set i ⟨2,0,0⟩,had ++ [(pt a i).Val],a3v h1 hi.1,by simpa using h2,by simp;omega,λk v=>?_,?_,λk v hk hv=>?_,λy=>?_,λj=>if j=n+1 then (a.set i ⟨2,0,0⟩,had ++ [(pt a i).Val]) else f j,by simp[f0],by simp,λj hj=>?_⟩
    ·rw[hd,h4,htk]
     constructor
     ·rintro⟨q1,q2,q3⟩;exact⟨λq=>q.elim q2 q1,q3⟩
     ·rintro⟨q1,q2⟩;exact⟨λq=>q1 (.inr q),λq=>q1 (.inl q),q2⟩
    ·have:=a9k hi.1 ⟨2,0,0⟩
     rw[if_pos hi.2.1,if_neg (by decide)] at this
     simp only[List.length_append,List.length_cons,List.length_nil]
     omega
    ·rw[List.mem_append]
     rcases (htk k).1 hk with q | q
     ·exact .inl (h6 k v q hv)
     ·subst q
      by_cases q':ks[n]∈ks.take n
      ·exact .inl (h6 _ v q' hv)
      ·have:=(h4 _ _).2 ⟨q',hv⟩
       rw[this.fn h1 ⟨i,hi,rfl⟩]
       exact .inr (by simp)
    ·have:=b9i hi.1 ⟨2,0,0⟩ y
     have h7':=h7 y
     rw[R5]
     have e:Q3 [(pt a i).Val] y=if (((pt a i).State==1)&&((y != 0)&&((pt a i).Val==y)))=true then 1 else 0:=by
      rw[hi.2.1]
      unfold Q3
      by_cases y0:y=0
      ·simp[y0]
      ·by_cases e:(pt a i).Val=y
       ·simp[y0,e]
       ·simp[y0,e]
     rw[e]
     rw[if_neg (show ¬((((2:Int)==1)&&((y != 0)&&((0:Int)==y)))=true) by simp)] at this
     omega
    ·rcases Nat.lt_or_ge j n with q | q
     ·have:=fs j q
      dsimp only
      rw[if_neg (by omega),if_neg (by omega)]
      exact this
     ·have:j=n:=by omega
      subst this
      dsimp only
      rw[if_neg (by omega),if_pos rfl,fn]
      exact⟨h1,h3,.inl ⟨i,hlt,hi,rfl⟩⟩
   ·refine⟨a,had,h1,h2,by omega,λk v=>?_,h5,λk v hk hv=>?_,h7,λj=>if j=n+1 then (a,had) else f j,by simp[f0],by simp,λj hj=>?_⟩
    ·rw[h4,htk]
     constructor
     ·rintro⟨q1,q2⟩
      refine⟨λq=>q.elim q1 λq=>?_,q2⟩
      subst q
      obtain⟨i,hi,_⟩:=(h4 _ _).2 ⟨q1,q2⟩
      exact hno i hi
     ·rintro⟨q1,q2⟩;exact⟨λq=>q1 (.inl q),q2⟩
    ·rcases (htk k).1 hk with q | q
     ·exact h6 k v q hv
     ·subst q
      by_cases q':ks[n]∈ks.take n
      ·exact h6 _ v q' hv
      ·obtain⟨i,hi,_⟩:=(h4 _ _).2 ⟨q',hv⟩
       exact absurd hi (hno i)
    ·rcases Nat.lt_or_ge j n with q | q
     ·have:=fs j q
      dsimp only
      rw[if_neg (by omega),if_neg (by omega)]
      exact this
     ·have:j=n:=by omega
      subst this
      dsimp only
      rw[if_neg (by omega),if_pos rfl,fn]
      exact⟨h1,h3,.inr ⟨λi _=>hno i,rfl⟩⟩
 obtain⟨a,had,h1,h2,h3,h4,h5,h6,h7,f,f0,fn,fs⟩:=key ks.length (Nat.le_refl _)
 rw[List.take_length] at h4 h6
 refine⟨a,had,?_,h1,h2,h3,?_,h4,h5,h6,h7⟩
 ·unfold T0
  simp only[jn]
  refine a4p (λj=>((f j).1,(j:Int),(f j).2)) (by rw[f0];rfl) ks.length (λ_=>True) (by omega) trivial (λj hj _=>?_) (λ_=>⟨(a,had),by dsimp only;rw[if_neg (by simp),fn],rfl⟩)
  obtain⟨g1,g2,g3⟩:=fs j hj
  left
  refine⟨?_,trivial⟩
  dsimp only
  rw[if_pos (by simpa using hj),l6 hj,d09,g9 (by omega)]
  rcases g3 with ⟨i,_,hi,e⟩ | ⟨hno,e⟩
  ·rw[a67 g1 hi,d09,e]
   dsimp only
   rw[if_pos (by decide),A0 (by omega) (by simp;omega),d09]
  ·rw[a65 g1 (λi=>hno i hj),d09,e]
   dsimp only
   rw[if_neg (by decide)]
 ·unfold a3L
  simp only[jn]
  refine a4p (λj=>((f j).1.map I1,(j:Int),(f j).2)) (by rw[f0];rfl) ks.length (λ_=>True) (by omega) trivial (λj hj _=>?_) (λ_=>⟨(a.map I1,had),by dsimp only;rw[if_neg (by simp),fn],rfl⟩)
  obtain⟨g1,g2,g3⟩:=fs j hj
  left
  refine⟨?_,trivial⟩
  dsimp only
  rw[if_pos (by simpa using hj),l6 hj,d09,g9 (by omega),c2N g1]
  rcases g3 with ⟨i,_,hi,e⟩ | ⟨hno,e⟩
  ·rw[a67 g1 hi,Option.map_some,d09,e]
   dsimp only
   rw[if_pos (by decide),A0 (by omega) (by simp;omega),d09]
  ·rw[a65 g1 (λi=>hno i hj),Option.map_some,d09,e]
   dsimp only
   rw[if_neg (by decide)]
end Go.Sh
namespace Go.Sh
theorem b93(t:Tb)(h:t.length≤1000):∃b,a4Z t=some b∧(b=true↔HR t):=by
 unfold a4Z
 by_cases hl:1≤t.length∧t.length≤8
 ·obtain⟨h1,h8⟩:=hl
  rw[if_neg (by simp;omega)]
  simp only[jn]
  suffices hs:∀(b:Bool),(b=true↔HR t)→_=some b by
   by_cases q:HR t
   ·exact⟨true,hs true (by simp[q]),by simp[q]⟩
   ·exact⟨false,hs false (by simp[q]),by simp[q]⟩
  intro b hb
  let Ok':Nat→Prop:=λi=>((pt t i)=⟨0,0,0⟩∨(pt t i)=⟨2,0,0⟩)∨(pt t i).State=1∧J4 t (pt t i).Key=some (i:Int)
  have hall:(∀i,i<t.length→Ok' i)↔HR t:=by
   constructor
   ·intro hO
    have full:∀i,i<t.length→(pt t i).State=1→J4 t (pt t i).Key=some (i:Int):=λi hi s=>by
     rcases hO i hi with (e | e) | e
     ·rw[e] at s;cases s
     ·rw[e] at s;cases s
     ·exact e.2
    refine⟨h1,h8,λi hi=>?_,λi j hi hj s1 s2 hk=>?_,λi hi s d hd hne=>?_⟩
    ·rcases hO i hi with (e | e) | e
     ·rw[e];exact⟨.inl rfl,λ_=>⟨rfl,rfl⟩⟩
     ·rw[e];exact⟨.inr (.inr rfl),λ_=>⟨rfl,rfl⟩⟩
     ·exact⟨.inr (.inl e.1),λq=>absurd e.1 q⟩
    ·have e1:=full i hi s1
     have e2:=full j hj s2
     rw[hk,e2] at e1
     cases e1
     rfl
    ·have e1:=full i hi s
     rcases a7b h1 h8 (pt t i).Key with ⟨d0,a1,a2,a3,a4⟩ | ⟨d0,a1,a2,a3,a4⟩
     ·rw[e1] at a4
      have a5:pos t.length (pt t i).Key d0=i:=by have:=Option.some.inj a4;omega
      rcases Nat.lt_or_ge d d0 with q | q
      ·exact (a2 d q).1
      ·exact absurd a5 (hne d0 q)
     ·rw[e1] at a4
      cases a4
   ·intro hR i hi
    rcases (hR.st i hi).1 with s | s | s
    ·have:=(hR.st i hi).2 (by omega)
     exact .inl (.inl (by cases hp:pt t i;rw[hp] at s this;simp at s this;simp[s,this]))
    ·exact .inr ⟨s,a3z hR ⟨hi,s,rfl⟩⟩
    ·have:=(hR.st i hi).2 (by omega)
     exact .inl (.inr (by cases hp:pt t i;rw[hp] at s this;simp at s this;simp[s,this]))
  refine E9 t.length (λi=>∀j,j<i→Ok' j) (by omega) (λj hj=>by omega) (λi hi hP=>?_) (λhP=>⟨.inr (),by simp,by
   simp only
   rw[hb.2 (hall.1 hP)]⟩)
  have good:Ok' i→∀j,j<i+1→Ok' j:=λo j hj=>by
   rcases Nat.lt_or_ge j i with q | q
   ·exact hP j q
   ·have:j=i:=by omega
    subst this;exact o
  have bad:¬Ok' i→some false=some b:=λo=>by
   have:b=false:=by
    cases hbb:b with
    | false=>rfl
    | true=>exact absurd (hall.2 (hb.1 hbb) i hi) o
   rw[this]
  rw[if_pos (by simpa using hi),b2q hi,d09,g9 (by omega)]
  by_cases a:pt t i=⟨0,0,0⟩∨pt t i=⟨2,0,0⟩
  ·refine .inl ⟨?_,good (.inl a)⟩
   rcases a with a | a <;> rw[a] <;> simp[n9]
  ·have hne:(!(((pt t i).State==0)&&(((pt t i).Key==0)&&(((pt t i).Val==0)&&true))||((pt t i).State==2)&&(((pt t i).Key==0)&&(((pt t i).Val==0)&&true))))=true:=by
    cases hp:pt t i with
    | mk s k v=>
     rw[hp] at a
     simp at a ⊢
     omega
   rw[hne]
   by_cases s:(pt t i).State=1
   ·rw[show ((pt t i).State != 1)=false by simpa using s]
    obtain⟨r,hr⟩:∃r,J4 t (pt t i).Key=some r:=by
     rcases a7b h1 h8 (pt t i).Key with ⟨d,_,_,_,e⟩ | ⟨d,_,_,_,e⟩
     ·exact⟨_,e⟩
     ·exact⟨_,e⟩
    simp only[n9,beq_self_eq_true,Bool.and_self,if_true,hr,d09,Bool.false_or,Bool.true_and]
    by_cases e:r=i
    ·rw[if_neg (by simpa using e)]
     exact .inl ⟨rfl,good (.inr ⟨s,by rw[hr,e]⟩)⟩
    ·rw[if_pos (by simpa using e)]
     refine .inr ⟨_,rfl,bad λo=>?_⟩
     rcases o with o | o
     ·exact a o
     ·rw[hr] at o;exact e (Option.some.inj o.2)
   ·rw[show ((pt t i).State != 1)=true by simpa using s]
    simp only[n9,beq_self_eq_true,Bool.true_and,Bool.true_or,if_true]
    refine .inr ⟨.inl false,by simp,bad λo=>?_⟩
    rcases o with o | o
    ·exact a o
    ·exact s o.1
 ·rw[if_pos (by simp;omega)]
  exact⟨false,rfl,⟨λq=>(by cases q),λhR=>absurd ⟨hR.l1,hR.l8⟩ hl⟩⟩
end Go.Sh
namespace Go.Sh
inductive a3U (s:store_Store) (t:Tb) (l:List Int):Int→Prop
 | base {h:Int}:h∈l→h∈lv s→a3U s t l h
 | step {a b:Int}:a3U s t l a→b∈outs s a→b∈lv s→a3U s t l b
 | pair {k v:Int}:Has t k v→a3U s t l k→v∈lv s→a3U s t l v
open Classical in
noncomputable def frc (s:store_Store) (t:Tb) (l:List Int):List Int:=(lv s).filter λh=>decide (a3U s t l h)
noncomputable def owd(s:store_Store)(t:Tb)(l:List Int):List Int:=((Y9 t).filter λp=>decide (p.Key∈l∧p.Key∈lv s∧p.Val∈lv s)).map (·.Val)
def TB(t:Tb):Prop:=∀p∈t,p.Key≤9223372036854775807∧p.Val≤9223372036854775807
def PCl(s:store_Store)(t:Tb)(l:List Int):Prop:=∀k v,Has t k v→k∈l→k∈lv s→v∈lv s→v∈l
theorem TB.has{t:Tb}(h:TB t){k v:Int}(q:Has t k v):k≤9223372036854775807∧v≤9223372036854775807:=by
 obtain⟨i,⟨h1,_,h2⟩,h3⟩:=q
 rw[b1e h1] at h2 h3
 have:=h _ (List.getElem_mem h1)
 rw[h2,h3] at this
 exact this
theorem a3U.live{s:store_Store}{t:Tb}{l:List Int}{h:Int}(q:a3U s t l h):h∈lv s:=by cases q <;> assumption
open Classical in
theorem c3R {s:store_Store} {t:Tb} {l:List Int} {h:Int}:h∈frc s t l↔a3U s t l h:=by
 unfold frc
 rw[List.mem_filter]
 exact⟨λq=>of_decide_eq_true q.2,λq=>⟨q.live,decide_eq_true q⟩⟩
theorem c3Q{s:store_Store}(hR:RtR (sO s))(t:Tb)(l:List Int):(frc s t l).length≤24:=Nat.le_trans (List.length_filter_le ..) (U5 hR)
theorem a3U.least{s:store_Store}{t:Tb}{l m:List Int}(hc:Cl s m)(hp:PCl s t m)(hl:∀x∈l,x∈lv s→x∈m){h:Int}(q:a3U s t l h):h∈m:=by
 induction q with
 | base h1 h2=>exact hl _ h1 h2
 | step _ h1 h2 ih=>exact hc _ ih _ h1 h2
 | pair h1 h2 h3 ih=>exact hp _ _ h1 ih h2.live h3
theorem a3U.mono{s:store_Store}{t u:Tb}{l m:List Int}(ht:∀k v,Has t k v→Has u k v)(hl:∀x∈l,x∈lv s→a3U s u m x){h:Int}(q:a3U s t l h):a3U s u m h:=by
 induction q with
 | base h1 h2=>exact hl _ h1 h2
 | step _ h1 h2 ih=>exact .step ih h1 h2
 | pair h1 _ h3 ih=>exact .pair (ht _ _ h1) ih h3
theorem Rch.c9O{s:store_Store}(t:Tb){l:List Int}{h:Int}(q:Rch s l h):a3U s t l h:=by
 induction q with
 | base h1 h2=>exact .base h1 h2
 | step _ h1 h2 ih=>exact .step ih h1 h2
theorem b1M{s:store_Store}{t:Tb}{l:List Int}{v:Int}:v∈owd s t l↔∃k,Has t k v∧k∈l∧k∈lv s∧v∈lv s:=by
 unfold owd
 rw[List.mem_map]
 constructor
 ·rintro⟨p,hp,rfl⟩
  obtain⟨h1,h2⟩:=List.mem_filter.1 hp
  exact⟨p.Key,a0m.1 h1,of_decide_eq_true h2⟩
 ·rintro⟨k,h1,h2⟩
  exact⟨⟨k,v⟩,List.mem_filter.2 ⟨a0m.2 h1,decide_eq_true h2⟩,rfl⟩
theorem c2w{s:store_Store}{t:Tb}{l:List Int}:(∀v∈owd s t l,v∈l)↔PCl s t l:=by
 constructor
 ·exact λh k v h1 h2 h3 h4=>h v (b1M.2 ⟨k,h1,h2,h3,h4⟩)
 ·intro h v hv
  obtain⟨k,h1,h2,h3,h4⟩:=b1M.1 hv
  exact h k v h1 h2 h3 h4
theorem c4s{s:store_Store}{t:Tb}(hT:HR t)(l:List Int):(owd s t l).length≤8:=by
 unfold owd
 rw[List.length_map]
 exact Nat.le_trans (List.length_filter_le ..) (a33 hT.l8)
noncomputable def M1(s:store_Store)(t:Tb)(l:List Int):Nat→List Int
 | 0=>rcd s l
 | k+1=>rcd s (M1 s t l k++owd s t (M1 s t l k))
section
variable{s:store_Store}{t:Tb}{l:List Int}
theorem b4r(k:Nat):M1 s t l (k+1)=rcd s (M1 s t l k++owd s t (M1 s t l k)):=rfl
theorem a6M(k:Nat):∃m,M1 s t l k=rcd s m:=by
 cases k with
 | zero=>exact⟨_,rfl⟩
 | succ k=>exact⟨_,rfl⟩
theorem c4G(k:Nat):Cl s (M1 s t l k):=by
 obtain⟨m,e⟩:=a6M (s:=s) (t:=t) (l:=l) k
 rw[e]
 exact c66 s m
theorem c0p(k:Nat){x:Int}(h:x∈M1 s t l k):x∈lv s:=by
 obtain⟨m,e⟩:=a6M (s:=s) (t:=t) (l:=l) k
 rw[e] at h
 exact (Y3.1 h).live
theorem b7e(k:Nat){x:Int}(h:x∈M1 s t l k):x∈M1 s t l (k+1):=Y3.2 (.base (List.mem_append.2 (.inl h)) (c0p k h))
theorem c0o(k:Nat):∀x∈l,x∈lv s→x∈M1 s t l k:=by
 induction k with
 | zero=>exact λx h1 h2=>Y3.2 (.base h1 h2)
 | succ k ih=>exact λx h1 h2=>b7e k (ih x h1 h2)
theorem c2T(k:Nat):∀x∈M1 s t l k,a3U s t l x:=by
 induction k with
 | zero=>exact λx h=>(Y3.1 h).c9O t
 | succ k ih=>
  intro x h
  have:=Y3.1 h
  induction this with
  | base h1 h2=>
   rcases List.mem_append.1 h1 with q | q
   ·exact ih _ q
   ·obtain⟨k',q1,q2,q3,q4⟩:=b1M.1 q
    exact .pair q1 (ih _ q2) q4
  | step h0 h1 h2 ih2=>exact .step (ih2 (Y3.2 h0)) h1 h2
theorem c0q{k:Nat}(h:PCl s t (M1 s t l k)):M1 s t l k=frc s t l:=by
 obtain⟨m,e⟩:=a6M (s:=s) (t:=t) (l:=l) k
 have hm:∀x,Rch s m x↔a3U s t l x:=λx=>by
  rw[←Y3,←e]
  exact⟨c2T k x,λq=>q.least (c4G k) h (c0o k)⟩
 rw[e]
 unfold rcd frc
 exact List.filter_congr λx _=>decide_eq_decide.2 (hm x)
theorem b8s{k:Nat}(h:PCl s t (M1 s t l k)):M1 s t l (k+1)=M1 s t l k:=by
 obtain⟨m,e⟩:=a6M (s:=s) (t:=t) (l:=l) k
 rw[b4r]
 have h':=c2w.2 h
 rw[e] at h' ⊢
 refine c0l λx=>⟨λq=>?_,λq=>.base (List.mem_append.2 (.inl (Y3.2 q))) q.live⟩
 refine q.mono λy hy _=>?_
 rcases List.mem_append.1 hy with c | c
 ·exact Y3.1 c
 ·exact Y3.1 (h' y c)
theorem b0O{k:Nat}(h:¬PCl s t (M1 s t l k)):((Y9 t).filter λp=>decide (p.Val∈M1 s t l k)).length<((Y9 t).filter λp=>decide (p.Val∈M1 s t l (k+1))).length:=by
 obtain⟨v,hv,hn⟩:∃v,v∈owd s t (M1 s t l k)∧v∉M1 s t l k:=Classical.byContradiction λq=>h (c2w.1 λv hv=>Classical.byContradiction λq2=>q ⟨v,hv,q2⟩)
 obtain⟨k',h1,h2,h3,h4⟩:=b1M.1 hv
 refine filter_lt (λp _ hp=>?_) ⟨k',v⟩ (a0m.2 h1) ?_ ?_
 ·rw[decide_eq_true_iff] at hp ⊢
  exact b7e k hp
 ·rw[decide_eq_true_iff]
  exact Y3.2 (.base (List.mem_append.2 (.inr hv)) h4)
 ·exact decide_eq_false hn
theorem a9W(s:store_Store)(t:Tb)(l:List Int):∃n,n≤(Y9 t).length∧PCl s t (M1 s t l n)∧∀j,j<n→¬PCl s t (M1 s t l j):=by
 have key:∀k,(∃j,j≤k∧PCl s t (M1 s t l j))∨k<((Y9 t).filter λp=>decide (p.Val∈M1 s t l (k+1))).length:=by
  intro k
  induction k with
  | zero=>
   by_cases h:PCl s t (M1 s t l 0)
   ·exact .inl ⟨0,Nat.le_refl _,h⟩
   ·have:=b0O h
    exact .inr (by omega)
  | succ k ih=>
   rcases ih with ⟨j,h1,h2⟩ | ih
   ·exact .inl ⟨j,by omega,h2⟩
   ·by_cases h:PCl s t (M1 s t l (k+1))
    ·exact .inl ⟨k+1,Nat.le_refl _,h⟩
    ·have:=b0O h
     exact .inr (by omega)
 obtain⟨j,h1,h2⟩:∃j,j≤(Y9 t).length∧PCl s t (M1 s t l j):=by
  rcases key (Y9 t).length with q | q
  ·exact q
  ·have:=List.length_filter_le (λp:j5=>decide (p.Val∈M1 s t l ((Y9 t).length+1))) (Y9 t)
   omega
 obtain⟨n,hn,hmin⟩:=V4 (p:=λj=>PCl s t (M1 s t l j)) ⟨j,h2⟩
 exact⟨n,Nat.le_trans (hmin j h2) h1,hn,λi hi q=>by have:=hmin i q;omega⟩
end
noncomputable def rnd(s:store_Store)(t:Tb)(l:List Int):Nat:=Classical.choose (a9W s t l)
theorem c7c(s:store_Store)(t:Tb)(l:List Int):rnd s t l≤(Y9 t).length:=(Classical.choose_spec (a9W s t l)).1
theorem c2S(s:store_Store)(t:Tb)(l:List Int):PCl s t (M1 s t l (rnd s t l)):=(Classical.choose_spec (a9W s t l)).2.1
theorem c4F(s:store_Store)(t:Tb)(l:List Int){j:Nat}(h:j<rnd s t l):¬PCl s t (M1 s t l j):=(Classical.choose_spec (a9W s t l)).2.2 j h
section
variable{s:store_Store}(hR:RtR (sO s)){t:Tb}(hT:HR t)(hTB:TB t)
include hR hT hTB
omit hT hTB in
theorem b2u {h:Int} (hh:h≤9223372036854775807):a4B (sO s) h=some (decide (h∈lv s)):=by
 obtain⟨e,h1,h2⟩:=N3 hR hh
 unfold a4B
 rw[a2j s (by have:=a06 hR;omega) hh,h1]
 simp only[Option.map_some,d09]
 congr 1
 rw[Bool.eq_iff_iff,beq_iff_eq,decide_eq_true_iff]
 exact h2
theorem b92{l:List Int}(hl:l.length≤1000000):a6F (sO s) (t.map I1) l=some (owd s t l):=by
 unfold a6F
 simp only[jn,b0P hT,d09]
 have h8:=a33 hT.l8
 rw[H2 ((Y9 t)) (λb p=>b++(if decide (p.Key∈l∧p.Key∈lv s∧p.Val∈lv s) then [p.Val] else [])) id (λk b=>b.length≤k) (by omega) (by simp) (λk hk b hb=>?_) (λb _=>?_)]
 ·simp only[d09,id]
  rw[a2O]
  congr 1
  unfold owd
  rw[List.nil_append]
  generalize Y9 t=P
  induction P with
  | nil=>rfl
  | cons p P ih=>
   rw[List.flatMap_cons,List.filter_cons,ih]
   by_cases q:p.Key∈l∧p.Key∈lv s∧p.Val∈lv s
   ·simp[q]
   ·simp[q]
 ·have hb':=hTB.has (a0m.1 (List.getElem_mem hk))
  have hk':k<((Y9 t).map pp).length:=by simpa using hk
  have eix:ix ((Y9 t).map pp) (k:Int)=some (pp (Y9 t)[k]):=by rw[a0X,l6 hk];rfl
  simp only[List.length_map,Int.ofNat_lt,hk,decide_true,if_true,eix,d09,b2n _ _ hl,pp]
  rw[b2u hR hb'.1,b2u hR hb'.2]
  simp only[d09]
  by_cases q1:(Y9 t)[k].Key∈lv s
  ·rw[decide_eq_true q1]
   simp only[beq_self_eq_true,L7,d09,Bool.true_and]
   have h0:=c13 hR _ q1
   by_cases q2:(Y9 t)[k].Key∈l
   ·rw[decide_eq_true (show (Y9 t)[k].Key≠0∧(Y9 t)[k].Key∈l from ⟨h0,q2⟩)]
    simp only[beq_self_eq_true,L7,d09,Bool.true_and]
    by_cases q3:(Y9 t)[k].Val∈lv s
    ·rw[if_pos (by simpa using q3),A0 (by omega) (by simp;omega),d09,g9,if_pos (by simp[q1,q2,q3])]
     exact⟨rfl,by simp;omega⟩
    ·rw[if_neg (by simpa using q3),g9,if_neg (by simp[q3]),List.append_nil]
     exact⟨rfl,by omega⟩
   ·rw[decide_eq_false (show ¬((Y9 t)[k].Key≠0∧(Y9 t)[k].Key∈l) from λq=>q2 q.2)]
    simp only[show ((false==true):Bool)=false from rfl,b1d,d09,Bool.false_and,Bool.false_eq_true,if_false]
    rw[g9,if_neg (by simp[q2]),List.append_nil]
    exact⟨rfl,by omega⟩
  ·rw[decide_eq_false q1]
   simp only[show ((false==true):Bool)=false from rfl,b1d,d09,Bool.false_and,Bool.false_eq_true,if_false]
   rw[g9,if_neg (by simp[q1]),List.append_nil]
   exact⟨rfl,by omega⟩
 ·simp only[List.length_map,Int.lt_irrefl,decide_false,Bool.false_eq_true,if_false]
  rfl
theorem b7f{l:List Int}(hlen:l.length≤1000000):a5q (sO s) (t.map I1) l=some (frc s t l,(rnd s t l:Int)):=by
 unfold a5q
 rw[b38 hR hlen,d09]
 simp only[jn]
 have hn:=c7c s t l
 have h8:=a33 hT.l8
 have hone:∀k,a4z (sO s) (M1 s t l k++owd s t (M1 s t l k))=some (M1 s t l (k+1))∧(M1 s t l k).length≤24∧(owd s t (M1 s t l k)).length≤8∧a6F (sO s) (t.map I1) (M1 s t l k)=some (owd s t (M1 s t l k)):=λk=>by
  obtain⟨m,hm⟩:=a6M (s:=s) (t:=t) (l:=l) k
  have hlk:(M1 s t l k).length≤24:=by rw[hm];exact c4D hR m
  have ho:=c4s (s:=s) hT (M1 s t l k)
  exact⟨by rw[b38 hR (by simp;omega),b4r],hlk,ho,b92 hR hT hTB (by omega)⟩
 refine a4p (p:=λk=>(M1 s t l k,(k:Int))) rfl (rnd s t l) (λ_=>True) (by omega) trivial (λk hk _=>.inl ⟨?_,trivial⟩) (λ_=>?_)
 ·obtain⟨h1,h2,h3,h4⟩:=hone k
  obtain⟨_,h2',_,_⟩:=hone (k+1)
  have hne:M1 s t l (k+1)≠M1 s t l k:=λe=>by
   have:=b0O (c4F s t l hk)
   rw[e] at this
   omega
  simp only
  rw[if_pos (by simp;omega),K5 (by omega) (by omega),d09,h4,d09,A0 (by omega) (by omega),d09,h1,d09,b8L _ _ (by omega),d09,if_neg (by simpa using hne),g9]
 ·obtain⟨h1,h2,h3,h4⟩:=hone (rnd s t l)
  obtain⟨_,h2',_,_⟩:=hone (rnd s t l+1)
  have hst:=c2S s t l
  refine⟨.inl (frc s t l,(rnd s t l:Int)),?_,rfl⟩
  simp only
  rw[if_pos (by simp;omega),K5 (by omega) (by omega),d09,h4,d09,A0 (by omega) (by omega),d09,h1,d09,b8L _ _ (by omega),d09,if_pos (by simpa using b8s hst),c0q hst]
theorem b7T{l:List Int}(hlen:l.length≤1000000):a9H (sO s) (t.map I1) l=some (frc s t l):=by
 unfold a9H
 rw[b7f hR hT hTB hlen]
 rfl
end
end Go.Sh
namespace Go.Sh
end Go.Sh
namespace Go.Sh
end Go.Sh
namespace Go.Sh
section
variable(s:store_Store)(hF:FB s)(t:Tb)(hTB:TB t)
include hF hTB
end
end Go.Sh
namespace Go.Sh
def ce(s:store_Store)(i:Nat):slab_Cell_store_Obj:=s.S.Cells.getD i ⟨0,0,z0⟩
theorem C9{s:store_Store}{i:Nat}(h:i<s.S.Cells.length):ce s i=s.S.Cells[i]:=by
 unfold ce
 rw[List.getD_eq_getElem?_getD,List.getElem?_eq_getElem h]
 rfl
theorem b4c{s:store_Store}{i:Nat}(h:i<s.S.Cells.length):ix s.S.Cells (i:Int)=some (ce s i):=by rw[l6 h,C9 h]
def Th(c:slab_Cell_store_Obj):Prop:=c.State=1∨c.State=2
instance(c:slab_Cell_store_Obj):Decidable (Th c):=by unfold Th;infer_instance
structure OkO (s:store_Store) (o:store_Obj):Prop where
 s1:1≤o.Serial
 s2:o.Serial≤s.Serial
 st:0≤o.Strong
 wk:0≤o.Weak
 p1 : -1≤o.Prog
 p2:o.Prog≤5
 fl:o.Fields.length≤4
structure SR (s:store_Store):Prop where
 len:s.S.Cells.length≤24
 l0:0≤s.S.Last
 l9:s.S.Last≤9
 Y4:0≤s.Serial
 cell:∀i,i<s.S.Cells.length→0≤(ce s i).State∧(ce s i).State≤3∧0≤(ce s i).Gen∧(ce s i).Gen≤s.S.Last
 no:∀i,i<s.S.Cells.length→¬Th (ce s i)→b0n (oo (ce s i).Val)
 ok:∀i,i<s.S.Cells.length→Th (ce s i)→OkO s (ce s i).Val
 dif:∀i j,i<s.S.Cells.length→j<s.S.Cells.length→Th (ce s i)→Th (ce s j)→(ce s i).Val.Serial=(ce s j).Val.Serial→i=j
theorem p5{s:store_Store}:RtR (sO s)↔SR s:=by
 constructor
 ·intro h
  refine⟨a06 h,h.l0,h.l9,h.Y4,λi hi=>?_,λi hi hn=>?_,λi hi ht=>?_,λi j hi hj a b e=>?_⟩
  ·rw[C9 hi];exact b5D h i hi
  ·rw[C9 hi] at hn ⊢
   have:=h.no i (by rw[y6];exact hi)
   simp only[sO,List.getElem_map] at this
   exact this hn
  ·rw[C9 hi] at ht ⊢
   obtain⟨a,b,c,d,e,f,g⟩:=c2X h i hi ht
   exact⟨a,b,c,d,e,f,g⟩
  ·rw[C9 hi] at a e
   rw[C9 hj] at b e
   exact c2W h hi hj a b e
 ·intro h
  refine⟨by rw[y6];exact h.len,h.l0,h.l9,h.Y4,λi hi=>?_,λi hi hn=>?_,λi hi ht=>?_,λi hi k hk a b=>?_⟩
  ·rw[y6] at hi
   have:=h.cell i hi
   rw[C9 hi] at this
   simpa[sO,cO] using this
  ·rw[y6] at hi
   have:=h.no i hi
   rw[C9 hi] at this
   simp only[sO,List.getElem_map] at hn ⊢
   exact this hn
  ·rw[y6] at hi
   have:=h.ok i hi
   rw[C9 hi] at this
   simp only[sO,List.getElem_map] at ht ⊢
   obtain⟨a,b,c,d,e,f,g⟩:=this ht
   exact⟨a,b,c,d,e,f,g⟩
  ·rw[y6] at hi
   have hk':k<s.S.Cells.length:=by omega
   have:=h.dif i k hi hk'
   rw[C9 hi,C9 hk'] at this
   simp only[sO,List.getElem_map,cO,oo] at a b ⊢
   intro e
   have:=this a b e.symm
   omega
def At(s:store_Store)(h:Int)(i:Nat):Prop:=i<s.S.Cells.length∧(ce s i).State=1∧h=1+(i:Int)+32*(ce s i).Gen
def Q4(s:store_Store)(h:Int)(i:Nat):Prop:=i<s.S.Cells.length∧Th (ce s i)∧h=1+(i:Int)+32*(ce s i).Gen
theorem At.d{s:store_Store}{h:Int}{i:Nat}(q:At s h i):Q4 s h i:=⟨q.1,.inl q.2.1,q.2.2⟩
theorem Q4.one{s:store_Store}(hR:SR s){h:Int}{i j:Nat}(q:Q4 s h i)(q':Q4 s h j):i=j:=by
 obtain⟨a1,_,a2⟩:=q
 obtain⟨b1,_,b2⟩:=q'
 have:=hR.len
 omega
theorem Q4.rng{s:store_Store}(hR:SR s){h:Int}{i:Nat}(q:Q4 s h i):1≤h∧h≤320:=by
 obtain⟨a1,_,a2⟩:=q
 have:=hR.len
 have:=hR.cell i a1
 have:=hR.l9
 omega
theorem b6K{s:store_Store}{h:Int}:h∈U3 0 s.S.Cells↔∃i,At s h i:=by
 rw[a6r]
 constructor
 ·rintro⟨i,hi,h1,h2⟩
  refine⟨i,hi,by rw[C9 hi];exact h1,?_⟩
  rw[C9 hi,h2,Nat.zero_add]
 ·rintro⟨i,hi,h1,h2⟩
  rw[C9 hi] at h1 h2
  exact⟨i,hi,h1,by rw[h2,Nat.zero_add]⟩
theorem a5V{s:store_Store}(hR:SR s){h:Int}:h∈lv s↔∃i,At s h i:=by rw[b0D (p5.2 hR),b6K]
theorem a8s{s:store_Store}(hR:SR s){h:Int}{i:Nat}:b0m s.S h i↔Q4 s h i:=by
 constructor
 ·rintro⟨hi,h1,h2,h3,h4⟩
  unfold Hnd at h1
  refine⟨hi,by rw[C9 hi];exact h4,?_⟩
  rw[C9 hi]
  omega
 ·rintro⟨hi,h1,h2⟩
  have l:=hR.len
  have l9:=hR.l9
  have c:=hR.cell i hi
  rw[C9 hi] at h1 h2 c
  exact⟨hi,by unfold Hnd;omega,by omega,by omega,h1⟩
theorem O9{s:store_Store}(hR:SR s){h:Int}{i:Nat}(q:At s h i):ob s h=(ce s i).Val:=by
 obtain⟨j,hj,h1,h2,_,e⟩:=b77 (p5.2 hR) ((a5V hR).2 ⟨i,q⟩)
 have:j=i:=Q4.one hR ⟨hj,by rw[C9 hj];exact .inl h1,by rw[C9 hj];exact h2⟩ q.d
 subst this
 rw[e,C9 hj]
theorem c5S{s:store_Store}(hR:SR s){h:Int}{i:Nat}(q:At s h i):p8 s h=some ((ce s i).Val,0):=by
 rw[a5f (p5.2 hR) ((a5V hR).2 ⟨i,q⟩),O9 hR q]
theorem c48{s:store_Store}(hR:SR s){h:Int}{i:Nat}(q:At s h i):sk s.S.Cells h=(ce s i).Val.Serial:=by
 have:=hR.len
 have hi:=q.1
 rw[q.2.2,b7k hi (by omega),C9 hi]
theorem a2q{s:store_Store}(hR:SR s){h:Int}{i:Nat}(q:Q4 s h i):o9 s.S h=some ((i:Int),0):=a7a ((a8s hR).2 q)
theorem a2K{s:store_Store}(hR:SR s){h:Int}(hh:h≤9223372036854775807)(q:∀i,¬Q4 s h i):o9 s.S h=some (-1,if h=0 then 2 else 3):=b0y hh λi hi=>q i ((a8s hR).1 hi)
theorem c15{s s':store_Store}(hR:SR s)(hR':SR s')(P:Int→Bool)(hm:∀h,(∃i,At s' h i)↔(∃i,At s h i)∧P h=true)(hk:∀h i j,At s' h i→At s h j→(ce s' i).Val.Serial=(ce s j).Val.Serial):lv s'=(lv s).filter P:=by
 have hk':∀h∈lv s,P h=true→sk s'.S.Cells h=sk s.S.Cells h:=λh hh hp=>by
  obtain⟨j,hj⟩:=(a5V hR).1 hh
  obtain⟨i,hi⟩:=(hm h).2 ⟨⟨j,hj⟩,hp⟩
  rw[c48 hR' hi,c48 hR hj,hk h i j hi hj]
 refine c77 (p5.2 hR') ?_ ?_
 ·rw[List.perm_ext_iff_of_nodup ((a9m (p5.2 hR)).filter _) (a41 0 _ (by have:=hR'.len;omega))]
  intro h
  rw[List.mem_filter,a5V hR,b6K,hm h]
 ·refine ((a5h (p5.2 hR)).2.2.filter P).imp_of_mem λ{a b} ha hb hab=>?_
  rw[List.mem_filter] at ha hb
  rw[hk' a ha.1 ha.2,hk' b hb.1 hb.2]
  exact hab
theorem c34{s s':store_Store}(hR:SR s)(hR':SR s')(hl:s'.S.Cells.length=s.S.Cells.length)(h1:∀i,i<s.S.Cells.length→((ce s' i).State=1↔(ce s i).State=1)∧(ce s' i).Gen=(ce s i).Gen∧(ce s' i).Val.Serial=(ce s i).Val.Serial):lv s'=lv s:=by
 have ha:∀h i,At s' h i↔At s h i:=λh i=>by
  unfold At
  rw[hl]
  constructor
  ·rintro⟨a,b,c⟩
   obtain⟨x,y,z⟩:=h1 i a
   exact⟨a,x.1 b,by rw[←y];exact c⟩
  ·rintro⟨a,b,c⟩
   obtain⟨x,y,z⟩:=h1 i a
   exact⟨a,x.2 b,by rw[y];exact c⟩
 rw[c15 hR hR' (λ_=>true) (λh=>by simp only[and_true];exact⟨λ⟨i,q⟩=>⟨i,(ha h i).1 q⟩,λ⟨i,q⟩=>⟨i,(ha h i).2 q⟩⟩) (λh i j q q'=>by
  have:=Q4.one hR ((ha h i).1 q).d q'.d
  subst this
  exact (h1 i q'.1).2.2)]
 simp
def a02(s:store_Store)(i:Nat)(o:store_Obj):store_Store:=⟨⟨s.S.Cells.set i ⟨(ce s i).State,(ce s i).Gen,o⟩,s.S.Last⟩,s.Serial⟩
theorem L3(s:store_Store)(i:Nat)(o:store_Obj):(a02 s i o).S.Cells.length=s.S.Cells.length:=by simp[a02]
theorem a4g{α:Type}{l:List α}{i:Nat}(hi:i<l.length)(c d:α)(j:Nat):(l.set i c).getD j d=if j=i then c else l.getD j d:=by
 rw[List.getD_eq_getElem?_getD,List.getD_eq_getElem?_getD,List.getElem?_set]
 by_cases h:j=i
 ·subst h
  rw[if_pos rfl,if_pos hi,if_pos rfl]
  rfl
 ·rw[if_neg (Ne.symm h),if_neg h]
theorem a4V{s:store_Store}{i:Nat}(hi:i<s.S.Cells.length)(o:store_Obj)(j:Nat):ce (a02 s i o) j=if j=i then ⟨(ce s i).State,(ce s i).Gen,o⟩ else ce s j:=a4g hi _ _ j
theorem b3d{s:store_Store}{i:Nat}(hi:i<s.S.Cells.length)(o:store_Obj)(j:Nat):(ce (a02 s i o) j).State=(ce s j).State∧(ce (a02 s i o) j).Gen=(ce s j).Gen:=by
 rw[a4V hi]
 split
 ·rename_i q;subst q;exact⟨rfl,rfl⟩
 ·exact⟨rfl,rfl⟩
theorem b1E{s:store_Store}{i:Nat}(hi:i<s.S.Cells.length)(o:store_Obj){h:Int}{j:Nat}:Q4 (a02 s i o) h j↔Q4 s h j:=by
 unfold Q4 Th
 rw[L3,(b3d hi o j).1,(b3d hi o j).2]
theorem b13{s:store_Store}{i:Nat}(hi:i<s.S.Cells.length)(o:store_Obj){h:Int}{j:Nat}:At (a02 s i o) h j↔At s h j:=by
 unfold At
 rw[L3,(b3d hi o j).1,(b3d hi o j).2]
theorem b5K{s:store_Store}(hR:SR s){h:Int}{i:Nat}(q:Q4 s h i)(o:store_Obj):H9 s h o=some (a02 s i o,0):=by
 obtain⟨hi,e⟩:=b7j (v:=o) hR.len ((a8s hR).2 q)
 unfold H9
 rw[e]
 simp[a02,C9 hi]
theorem SR.put{s:store_Store}(hR:SR s){i:Nat}(hi:i<s.S.Cells.length)(ht:Th (ce s i)){o:store_Obj}(hs:o.Serial=(ce s i).Val.Serial)(ho:OkO s o):SR (a02 s i o):=by
 have hst:=b3d hi o
 have hse:∀j,(ce (a02 s i o) j).Val.Serial=(ce s j).Val.Serial:=λj=>by
  rw[a4V hi]
  split
  ·rename_i q;subst q;exact hs
  ·rfl
 refine⟨by rw[L3];exact hR.len,hR.l0,hR.l9,hR.Y4,λj hj=>?_,λj hj hn=>?_,λj hj hn=>?_,λj k hj hk a b e=>?_⟩
 ·rw[L3] at hj
  rw[(hst j).1,(hst j).2]
  exact hR.cell j hj
 ·rw[L3] at hj
  unfold Th at hn
  rw[(hst j).1] at hn
  rw[a4V hi]
  split
  ·rename_i q;subst q;exact absurd ht hn
  ·exact hR.no j hj hn
 ·rw[L3] at hj
  unfold Th at hn
  rw[(hst j).1] at hn
  rw[a4V hi]
  split
  ·exact⟨ho.s1,ho.s2,ho.st,ho.wk,ho.p1,ho.p2,ho.fl⟩
  ·have:=hR.ok j hj hn
   exact⟨this.s1,this.s2,this.st,this.wk,this.p1,this.p2,this.fl⟩
 ·rw[L3] at hj hk
  unfold Th at a b
  rw[(hst j).1] at a
  rw[(hst k).1] at b
  rw[hse,hse] at e
  exact hR.dif j k hj hk a b e
theorem c14{s:store_Store}(hR:SR s){i:Nat}(hi:i<s.S.Cells.length){o:store_Obj}(hs:o.Serial=(ce s i).Val.Serial)(hR':SR (a02 s i o)):lv (a02 s i o)=lv s:=by
 refine c34 hR hR' (L3 ..) λj hj=>?_
 rw[a4V hi]
 split
 ·rename_i q;subst q;exact⟨Iff.rfl,rfl,hs⟩
 ·exact⟨Iff.rfl,rfl,rfl⟩
theorem c6N{s:store_Store}(hR:SR s){h:Int}{i:Nat}(q:At s h i){o:store_Obj}(hR':SR (a02 s i o)){k:Int}(hk:k≤9223372036854775807):ob (a02 s i o) k=if k=h then o else ob s k:=by
 by_cases e:k=h
 ·subst e
  rw[if_pos rfl,O9 hR' ((b13 q.1 o).2 q),a4V q.1,if_pos rfl]
 ·rw[if_neg e]
  by_cases hl:∃j,At s k j
  ·obtain⟨j,hj⟩:=hl
   rw[O9 hR' ((b13 q.1 o).2 hj),O9 hR hj,a4V q.1,if_neg]
   intro e2
   subst e2
   exact e (hj.2.2.trans q.2.2.symm)
  ·rw[a8d (p5.2 hR) hk (λq2=>hl ((a5V hR).1 q2)),a8d (p5.2 hR') hk λq2=>hl (by
    obtain⟨j,hj⟩:=(a5V hR').1 q2
    exact⟨j,(b13 q.1 o).1 hj⟩)]
def B5(h:Int):Nat:=((h-1) % 32).toNat
theorem Q4.B5{s:store_Store}(hR:SR s){h:Int}{i:Nat}(q:Q4 s h i):B5 h=i:=by
 obtain⟨a,_,c⟩:=q
 have:=hR.len
 unfold Sh.B5
 omega
def seO(s:store_Store)(h:Int)(o:store_Obj):store_Store:=a02 s (B5 h) o
theorem u6{s:store_Store}(hR:SR s){h:Int}(hh:h∈lv s):At s h (B5 h):=by
 obtain⟨i,hi⟩:=(a5V hR).1 hh
 rw[hi.d.B5 hR]
 exact hi
theorem H6{s:store_Store}(hR:SR s){h:Int}(hh:h∈lv s):OkO s (ob s h):=by
 have q:=u6 hR hh
 rw[O9 hR q]
 exact hR.ok _ q.1 (.inl q.2.1)
theorem H7{s:store_Store}(hR:SR s){h:Int}(hh:h∈lv s):1≤h∧h≤320:=(u6 hR hh).d.rng hR
theorem a4q{s:store_Store}(hR:SR s):(0:Int)∉lv s:=λh=>by have:=H7 hR h;omega
section
variable{s:store_Store}(hR:SR s){h:Int}(hh:h∈lv s){o:store_Obj}(hs:o.Serial=(ob s h).Serial)(ho:OkO s o)
include hR hh hs ho
theorem a07:SR (seO s h o):=by
 have q:=u6 hR hh
 exact hR.put q.1 (.inl q.2.1) (by rw[hs,O9 hR q]) ho
theorem a3d:lv (seO s h o)=lv s:=by
 have q:=u6 hR hh
 exact c14 hR q.1 (by rw[hs,O9 hR q]) (a07 hR hh hs ho)
theorem a1B{k:Int}(hk:k≤9223372036854775807):ob (seO s h o) k=if k=h then o else ob s k:=c6N hR (u6 hR hh) (a07 hR hh hs ho) hk
theorem a93:H9 s h o=some (seO s h o,0):=b5K hR (u6 hR hh).d o
theorem b8z{k:Int}{i:Nat}:Q4 (seO s h o) k i↔Q4 s k i:=b1E (u6 hR hh).1 o
theorem b8A(i:Nat):ce (seO s h o) i=if i=B5 h then ⟨(ce s i).State,(ce s i).Gen,o⟩ else ce s i:=by
 unfold seO
 rw[a4V (u6 hR hh).1]
 split
 ·rename_i q;rw[q]
 ·rfl
end
abbrev stg(o:store_Obj)(n:Int):store_Obj:=⟨o.Serial,n,o.Weak,o.Prog,o.Started,o.Fields⟩
structure Kin (s s':store_Store):Prop where
 sr:SR s'
 len:s'.S.Cells.length=s.S.Cells.length
 last:s'.S.Last=s.S.Last
 Y4:s'.Serial=s.Serial
 lv:lv s'=lv s
 ad:∀k i,Q4 s' k i↔Q4 s k i
 ob:∀k,k≤9223372036854775807→∃n,ob s' k=(stg (ob s k) (n))
 ce:∀i,i<s.S.Cells.length→(ce s' i).State=(ce s i).State∧(ce s' i).Gen=(ce s i).Gen∧(ce s' i).Val.Weak=(ce s i).Val.Weak∧(ce s' i).Val.Fields=(ce s i).Val.Fields∧((ce s i).State≠1→ce s' i=ce s i)
theorem Kin.refl{s:store_Store}(hR:SR s):Kin s s:=⟨hR,rfl,rfl,rfl,rfl,λ_ _=>Iff.rfl,λk _=>⟨_,rfl⟩,λi _=>⟨rfl,rfl,rfl,rfl,λ_=>rfl⟩⟩
theorem Kin.trans{a b c:store_Store}(h:Kin a b)(q:Kin b c):Kin a c:=by
 refine⟨q.sr,q.len.trans h.len,q.last.trans h.last,q.Y4.trans h.Y4,q.lv.trans h.lv,λk i=>(q.ad k i).trans (h.ad k i),λk hk=>?_,λi hi=>?_⟩
 ·obtain⟨n,e⟩:=h.ob k hk
  obtain⟨m,f⟩:=q.ob k hk
  exact⟨m,by rw[f,e]⟩
 ·obtain⟨a1,a2,a3,a4,a5⟩:=h.ce i hi
  obtain⟨b1,b2,b3,b4,b5⟩:=q.ce i (by rw[h.len];exact hi)
  refine⟨b1.trans a1,b2.trans a2,b3.trans a3,b4.trans a4,λhn=>?_⟩
  rw[b5 (by rw[a1];exact hn),a5 hn]
theorem Kin.outs{s s':store_Store}(k:Kin s s'){h:Int}(hh:h≤9223372036854775807):outs s' h=outs s h:=by
 obtain⟨n,e⟩:=k.ob h hh
 unfold Sh.outs
 rw[e]
theorem Kin.inn{s s':store_Store}(hR:SR s)(k:Kin s s')(h:Int):inn s' h=inn s h:=by
 unfold Sh.inn
 rw[k.lv]
 congr 1
 refine List.map_congr_left λx hx=>?_
 rw[k.outs (by have:=H7 hR hx;omega)]
theorem c3Z{s:store_Store}(hR:SR s){h:Int}(hh:h∈lv s){n:Int}(hn:0≤n):Kin s (seO s h (stg (ob s h) (n))):=by
 have ho:OkO s (stg (ob s h) (n)):=by
  have:=H6 hR hh
  exact⟨this.s1,this.s2,hn,this.wk,this.p1,this.p2,this.fl⟩
 have q:=u6 hR hh
 refine⟨a07 hR hh rfl ho,L3 ..,rfl,rfl,a3d hR hh rfl ho,λk i=>b8z (o:=(stg (ob s h) (n))) hR hh rfl ho,λk hk=>?_,λi hi=>?_⟩
 ·rw[a1B (o:=(stg (ob s h) (n))) hR hh rfl ho hk]
  split
  ·rename_i e;subst e;exact⟨n,rfl⟩
  ·exact⟨_,rfl⟩
 ·rw[b8A (o:=(stg (ob s h) (n))) hR hh rfl ho]
  split
  ·rename_i e
   subst e
   rw[O9 hR q]
   exact⟨rfl,rfl,rfl,rfl,λhn=>absurd q.2.1 hn⟩
  ·exact⟨rfl,rfl,rfl,rfl,λ_=>rfl⟩
def SB(s:store_Store):Prop:=∀c∈s.S.Cells,c.Val.Strong≤9223372036854775807
theorem c5j{s:store_Store}:FB s↔∀i,i<s.S.Cells.length→∀x∈(ce s i).Val.Fields,x≤9223372036854775807:=by
 constructor
 ·intro h i hi x hx
  rw[C9 hi] at hx
  exact h _ (List.getElem_mem hi) x hx
 ·intro h c hc x hx
  obtain⟨i,hi,rfl⟩:=List.getElem_of_mem hc
  exact h i hi x (by rw[C9 hi];exact hx)
theorem c8D{s:store_Store}:SB s↔∀i,i<s.S.Cells.length→(ce s i).Val.Strong≤9223372036854775807:=by
 constructor
 ·intro h i hi
  rw[C9 hi]
  exact h _ (List.getElem_mem hi)
 ·intro h c hc
  obtain⟨i,hi,rfl⟩:=List.getElem_of_mem hc
  have:=h i hi
  rwa [C9 hi] at this
end Go.Sh
namespace Go.Sh
noncomputable def inr(s:store_Store)(t:Tb)(h:Int):Nat:=inn s h+own t h
noncomputable def rst(s:store_Store)(t:Tb)(h:Int):Int:=if h∈lv s then (ob s h).Strong-(inr s t h:Int) else 0
def b31(s:store_Store)(t:Tb)(l:List Int):Prop:=∀h∈lv s,(ob s h).Strong<12→rst s t h=(Q3 l h:Int)
noncomputable instance(s:store_Store)(t:Tb)(l:List Int):Decidable (b31 s t l):=Classical.propDecidable _
section
variable{s:store_Store}(hR:RtR (sO s)){t:Tb}(hT:HR t)
include hR hT
theorem c1V(h:Int):a3R s t h=some (inr s t h:Int):=by
 unfold a3R
 have h1:=b74 hR h
 have h2:=b8f hT.l8 h
 rw[c70 hR,d09,c2x hT,d09,E5 (by omega) (by omega)]
 unfold inr
 simp
theorem b75(h:Int):a7q (sO s) (t.map I1) h=some (inr s t h:Int):=by
 unfold a7q
 have h1:=b74 hR h
 have h2:=b8f hT.l8 h
 rw[c3T hR,d09,c0t hT,d09,E5 (by omega) (by omega)]
 unfold inr
 simp
theorem c1W(h:Int):inr s t h≤104:=by
 have h1:=b74 hR h
 have h2:=b8f hT.l8 h
 unfold inr
 omega
omit hT in
theorem b01 (hB:SB s) {h:Int} (hh:h∈lv s):0≤(ob s h).Strong∧(ob s h).Strong≤9223372036854775807:=by
 obtain⟨i,hi⟩:=(a5V (p5.1 hR)).1 hh
 rw[O9 (p5.1 hR) hi]
 refine⟨((p5.1 hR).ok i hi.1 (.inl hi.2.1)).st,?_⟩
 rw[C9 hi.1]
 exact hB _ (List.getElem_mem _)
theorem c4E(hB:SB s){h:Int}(hh:h≤9223372036854775807):a5K s t h=some (rst s t h):=by
 unfold a5K
 obtain⟨e,h1,h2⟩:=N3 hR hh
 rw[h1,d09]
 by_cases q:h∈lv s
 ·have:=h2.2 q
  subst this
  have h3:=c1W hR hT h
  have h4:=b01 hR hB q
  rw[if_neg (by simp),c1V hR hT,d09,E5 (by dsimp only;omega) (by dsimp only;omega)]
  unfold rst
  rw[if_pos q]
 ·rw[if_pos (by simpa using λq2=>q (h2.1 q2))]
  unfold rst
  rw[if_neg q]
theorem c0m(hB:SB s){h:Int}(hh:h≤9223372036854775807):a9K (sO s) (t.map I1) h=some (rst s t h):=by
 unfold a9K
 obtain⟨e,h1,h2⟩:=N3 hR hh
 rw[a2j s (by have:=a06 hR;omega) hh,h1,Option.map_some,d09]
 by_cases q:h∈lv s
 ·have:=h2.2 q
  subst this
  have h3:=c1W hR hT h
  have h4:=b01 hR hB q
  rw[if_neg (by simp),b75 hR hT,d09]
  simp only[oo]
  rw[E5 (by omega) (by omega)]
  unfold rst
  rw[if_pos q]
 ·rw[if_pos (by simpa using λq2=>q (h2.1 q2))]
  unfold rst
  rw[if_neg q]
omit hT in
theorem b8C {h:Int} (hh:h≤9223372036854775807):a7r (sO s) h=some (decide (12≤(ob s h).Strong)):=by
 unfold a7r Y0
 obtain⟨e,h1,h2⟩:=N3 hR hh
 rw[a2j s (by have:=a06 hR;omega) hh,h1,Option.map_some,d09,d09]
 rfl
omit hT in
theorem c12 {k:Nat} (hk:k<(lv s).length):(lv s)[k]≤9223372036854775807:=by
 have:=b2v hR (List.getElem_mem hk)
 omega
theorem c3P(hB:SB s){l:List Int}(hl:l.length≤1000000):a5J s t l=some (decide (b31 s t l)):=by
 unfold a5J
 simp only[jn]
 have h24:=U5 hR
 rw[a5g hR,d09,H2 (lv s) (λb x=>if decide ((ob s x).Strong<12∧rst s t x≠(Q3 l x:Int)) then b ++ [x] else b) id (λk b=>b.length≤k) (by omega) (by simp) (λk hk b hI=>?_) (λb _=>by simp),d09]
 ·rw[foldl_filter]
  simp only[id,List.nil_append]
  congr 1
  rw[Bool.eq_iff_iff,decide_eq_true_iff,beq_iff_eq]
  constructor
  ·intro e h hh hs
   have:(lv s).filter (λx=>decide ((ob s x).Strong<12∧rst s t x≠(Q3 l x:Int))) = []:=List.eq_nil_of_length_eq_zero (by omega)
   rw[List.filter_eq_nil_iff] at this
   have:=this h hh
   simp only[decide_eq_true_eq,not_and,Decidable.not_not] at this
   exact this hs
  ·intro q
   rw[List.filter_eq_nil_iff.2]
   ·rfl
   ·intro h hh
    simp only[decide_eq_true_eq,not_and,Decidable.not_not]
    exact q h hh
 ·have hm:=List.getElem_mem hk
  have hle:=c12 hR hk
  simp only[Int.ofNat_lt,hk,decide_true,if_true,l6 hk,d09]
  rw[a5f hR hm,d09]
  unfold a2x a6h E1
  simp only[d09]
  by_cases q2:12≤(ob s (lv s)[k]).Strong
  ·rw[decide_eq_true (show (ob s (lv s)[k]).Strong≥12 from q2)]
   simp only[Bool.not_true,show ((false==true):Bool)=false from rfl,b1d,d09,Bool.false_and,Bool.false_eq_true,if_false]
   rw[g9,if_neg (by simp;omega)]
   exact⟨rfl,by omega⟩
  ·rw[decide_eq_false (show ¬(ob s (lv s)[k]).Strong≥12 from q2)]
   simp only[Bool.not_false,beq_self_eq_true,L7,Bool.true_and]
   rw[c4E hR hT hB hle,d09,c3d _ _ hl,d09,d09]
   by_cases q3:rst s t (lv s)[k]=(Q3 l (lv s)[k]:Int)
   ·rw[if_neg (by simpa using q3),g9,if_neg (by simp only[decide_eq_true_eq];exact λc=>c.2 q3)]
    exact⟨rfl,by omega⟩
   ·rw[if_pos (by simpa using q3),A0 (by omega) (by simp;omega),d09,g9,if_pos (decide_eq_true ⟨by omega,q3⟩)]
    exact⟨rfl,by simp;omega⟩
theorem b9U(hB:SB s){l:List Int}(hl:l.length≤1000000):a9J (sO s) (t.map I1) l=some (decide (b31 s t l)):=by
 unfold a9J
 simp only[jn]
 have h24:=U5 hR
 rw[a8w hR,d09,c6A (lv s) (λx => !decide ((ob s x).Strong<12∧rst s t x≠(Q3 l x:Int))) (.inr ()) (.inl false) (by omega) (λk hk=>?_) (by simp),d09]
 ·have:(lv s).all (λx => !decide ((ob s x).Strong<12∧rst s t x≠(Q3 l x:Int)))=decide (b31 s t l):=by
   rw[Bool.eq_iff_iff,decide_eq_true_iff,List.all_eq_true]
   constructor
   ·intro e h hh hs
    have:=e h hh
    simp only[Bool.not_eq_true',decide_eq_false_iff_not,not_and,Decidable.not_not] at this
    exact this hs
   ·intro q h hh
    simp only[Bool.not_eq_true',decide_eq_false_iff_not,not_and,Decidable.not_not]
    exact q h hh
  rw[this]
  by_cases q:b31 s t l
  ·rw[decide_eq_true q];rfl
  ·rw[decide_eq_false q];rfl
 ·have hle:=c12 hR hk
  simp only[Int.ofNat_lt,hk,decide_true,if_true,l6 hk,d09]
  rw[b8C hR hle,d09]
  by_cases q2:12≤(ob s (lv s)[k]).Strong
  ·rw[decide_eq_true q2]
   simp only[Bool.not_true,show ((false==true):Bool)=false from rfl,b1d,d09,Bool.false_and,Bool.false_eq_true,if_false]
   rw[g9,if_pos (by simp;omega)]
  ·rw[decide_eq_false q2]
   simp only[Bool.not_false,beq_self_eq_true,L7,Bool.true_and]
   rw[c0m hR hT hB hle,d09,a3j _ _ hl,d09]
   by_cases q3:rst s t (lv s)[k]=(Q3 l (lv s)[k]:Int)
   ·rw[if_neg (by simpa using q3),g9,if_pos (by simp[q3])]
   ·rw[if_pos (by simpa using q3),if_neg (by simp;exact⟨by omega,q3⟩)]
end
end Go.Sh
namespace Go.Sh
abbrev TQ:=queue_Queue_task_Task
def tad(q:TQ)(t:task_Task):TQ × Int:=if q.Cap≤q.L.length then (q,4) else (⟨q.L ++ [t],q.Cap⟩,0)
theorem c5F{q:TQ}(t:task_Task)(h:q.L.length≤1000):a6X q t=some (tad q t):=by
 unfold tad
 unfold a6X M4 O4 M5
 simp only[d09]
 by_cases c:q.Cap≤q.L.length
 ·rw[if_pos (by simpa using c),if_pos c,d09]
 ·rw[if_neg (by simpa using c),if_neg c]
  have e:cut q.L 0 (q.L.length:Int)=some q.L:=by
   have:=c5W (xs:=q.L) (i:=0) (j:=q.L.length) (Nat.zero_le _) (Nat.le_refl _)
   simpa using this
  rw[e,d09,d09,A0 (by omega) (by simp;omega),d09,d09]
theorem b36{α β:Type}(p:α→Bool)(f:α→β)(l:List α)(k:Nat)(h:k<l.length):((l.take (k+1)).filter p).map f=((l.take k).filter p).map f++(if p l[k] then [f l[k]] else []):=by
 rw[List.take_succ_eq_append_getElem h,List.filter_append,List.map_append]
 congr 1
 simp only[List.filter_cons,List.filter_nil]
 split <;> rfl
theorem c7l{q:TQ}(h:q.L.length≤1000):a4K q=some ((q.L.filter (·.Kind==1)).map (·.At)):=by
 unfold a4K a7C
 simp only[jn,d09]
 refine X7 q.L.length (λk l=>l=((q.L.take k).filter (·.Kind==1)).map (·.At)) (by omega) (by simp) ?_ (λl hl=>⟨_,by simp;rfl,by rw[hl,List.take_length]⟩)
 rintro k l hk rfl
 left
 rw[b36 _ _ _ _ hk]
 simp only[Int.ofNat_lt,hk,decide_true,if_true,l6 hk,d09]
 have hle:(List.map (·.At) (List.filter (·.Kind==1) (List.take k q.L))).length≤1000:=by
  rw[List.length_map]
  exact Nat.le_trans (List.length_filter_le ..) (by simp;omega)
 by_cases c:(q.L[k].Kind==1)=true
 ·rw[c,if_pos (by decide),A0 (by omega) (by simp only[List.length_cons,List.length_nil];omega),d09,g9]
  exact⟨_,rfl,rfl⟩
 ·have c:(q.L[k].Kind==1)=false:=by simpa using c
  rw[c,if_neg (by decide),g9]
  exact⟨_,rfl,by simp⟩
theorem b9A{q:TQ}{w:Int}(h:q.L.length≤1000):a1C q w=some (q.L.any λt=>t.Kind==2&&t.At==w):=by
 unfold a1C a7C
 simp only[jn,d09]
 refine E9 q.L.length (λk=>(q.L.take k).any (λt=>t.Kind==2&&t.At==w)=false) (by omega) (by simp) ?_ (λhl=>⟨.inr (),by simp,by rw[List.take_length] at hl;rw[hl]⟩)
 intro k hk hP
 simp only[Int.ofNat_lt,hk,decide_true,if_true,l6 hk,d09]
 rw[List.take_succ_eq_append_getElem hk,List.any_append,hP,Bool.false_or]
 by_cases c:(q.L[k].Kind==2)=true
 ·rw[c,if_pos (by decide)]
  by_cases d:(q.L[k].At==w)=true
  ·right
   rw[d,if_pos rfl]
   refine⟨.inl true,rfl,?_⟩
   simp only[Option.some.injEq]
   symm
   rw[List.any_eq_true]
   exact⟨_,List.getElem_mem hk,by rw[c,d];rfl⟩
  ·have d:(q.L[k].At==w)=false:=by simpa using d
   left
   rw[d,if_neg (by decide),g9]
   exact⟨rfl,by simp[d]⟩
 ·have c:(q.L[k].Kind==2)=false:=by simpa using c
  left
  rw[c,if_neg (by decide),g9]
  exact⟨rfl,by simp[c]⟩
end Go.Sh
namespace Go.Sh
def tkR(t:task_Task):p6:=⟨t.Kind,t.At,t.Prog⟩
def tqR(q:TQ):x6:=⟨q.L.map tkR,q.Cap⟩
theorem c5z{q:TQ}(t:task_Task)(h:q.L.length≤1000):a5r (tqR q) (tkR t)=some (tqR (tad q t).1,(tad q t).2):=by
 unfold a5r tad
 have hl:(tqR q).L.length=q.L.length:=by simp[tqR]
 by_cases c:q.Cap≤q.L.length
 ·rw[if_pos (by simp[hl];exact c),if_pos c]
 ·rw[if_neg (by simp[hl];exact Int.not_le.1 c),if_neg c,K5 (by omega) (by rw[hl];omega),d09,A0 (by omega) (by simp[hl];omega),d09]
  simp[tqR]
theorem c65{q:TQ}(h:q.L.length≤1000):a6G (tqR q)=some ((q.L.filter (·.Kind==1)).map (·.At)):=by
 unfold a6G
 have hl:(tqR q).L.length=q.L.length:=by simp[tqR]
 simp only[jn,hl]
 refine X7 q.L.length (λk l=>l=((q.L.take k).filter (·.Kind==1)).map (·.At)) (by omega) (by simp) ?_ (λl hl=>⟨_,by simp;rfl,by rw[hl,List.take_length]⟩)
 rintro k l hk rfl
 left
 rw[b36 _ _ _ _ hk]
 have e:ix (tqR q).L (k:Int)=some (tkR q.L[k]):=by rw[show (tqR q).L=q.L.map tkR from rfl,a0X,l6 hk];rfl
 simp only[Int.ofNat_lt,hk,decide_true,if_true,e,d09]
 have hle:(List.map (·.At) (List.filter (·.Kind==1) (List.take k q.L))).length≤1000:=by
  rw[List.length_map]
  exact Nat.le_trans (List.length_filter_le ..) (by simp;omega)
 by_cases c:(q.L[k].Kind==1)=true
 ·rw[show ((tkR q.L[k]).Kind==1)=true from c,if_pos rfl,A0 (by omega) (by simp only[List.length_cons,List.length_nil];omega),d09,g9,if_pos c]
  exact⟨_,rfl,rfl⟩
 ·have c:(q.L[k].Kind==1)=false:=by simpa using c
  rw[show ((tkR q.L[k]).Kind==1)=false from c,if_neg (by decide),g9,if_neg (by simp[c])]
  exact⟨_,rfl,by simp⟩
theorem b9k{q:TQ}{w:Int}(h:q.L.length≤1000):a1y (tqR q) w=some (q.L.any λt=>t.Kind==2&&t.At==w):=by
 unfold a1y
 have hl:(tqR q).L.length=q.L.length:=by simp[tqR]
 simp only[jn,hl]
 refine E9 q.L.length (λk=>(q.L.take k).any (λt=>t.Kind==2&&t.At==w)=false) (by omega) (by simp) ?_ (λhl=>⟨.inr (),by simp,by rw[List.take_length] at hl;rw[hl]⟩)
 intro k hk hP
 have e:ix (tqR q).L (k:Int)=some (tkR q.L[k]):=by rw[show (tqR q).L=q.L.map tkR from rfl,a0X,l6 hk];rfl
 simp only[Int.ofNat_lt,hk,decide_true,if_true,e,d09]
 rw[List.take_succ_eq_append_getElem hk,List.any_append,hP,Bool.false_or]
 by_cases c:(q.L[k].Kind==2&&q.L[k].At==w)=true
 ·right
  rw[show ((tkR q.L[k]).Kind==2&&(tkR q.L[k]).At==w)=true from c,if_pos rfl]
  refine⟨.inl true,rfl,?_⟩
  simp only[Option.some.injEq]
  symm
  rw[List.any_eq_true]
  exact⟨_,List.getElem_mem hk,c⟩
 ·have c:(q.L[k].Kind==2&&q.L[k].At==w)=false:=by simpa using c
  left
  rw[show ((tkR q.L[k]).Kind==2&&(tkR q.L[k]).At==w)=false from c,if_neg (by decide),g9]
  exact⟨rfl,by simp[c]⟩
end Go.Sh
namespace Go.Sh
abbrev Hp:=hold_Heap
abbrev wS(x:Hp)(s:store_Store):Hp:=⟨s,x.Roots,x.Cells,x.T,x.Q⟩
abbrev wR(x:Hp)(l:List Int):Hp:=⟨x.S,l,x.Cells,x.T,x.Q⟩
abbrev wC(x:Hp)(l:List weak_Cell):Hp:=⟨x.S,x.Roots,l,x.T,x.Q⟩
abbrev wT(x:Hp)(t:Tb):Hp:=⟨x.S,x.Roots,x.Cells,t,x.Q⟩
def nmg(l:List weak_Cell)(h:Int):Nat:=l.countP λc=>(h != 0)&&(c.Target==h)
def b1v(q:TQ):List Int:=(q.L.filter (·.Kind==1)).map (·.At)
def wts(q:TQ)(w:Int):Bool:=q.L.any λt=>t.Kind==2&&t.At==w
def otr(x:Hp):List Int:=nz x.Roots++b1v x.Q
noncomputable def nms(x:Hp)(h:Int):Nat:=inn x.S h+own x.T h+Q3 (otr x) h
def E7(s:store_Store)(i:Nat)(c:slab_Cell_store_Obj):store_Store:=⟨⟨s.S.Cells.set i c,s.S.Last⟩,s.Serial⟩
theorem W4(s:store_Store)(i:Nat)(c:slab_Cell_store_Obj):(E7 s i c).S.Cells.length=s.S.Cells.length:=by simp[E7]
theorem J3{s:store_Store}{i:Nat}(hi:i<s.S.Cells.length)(c:slab_Cell_store_Obj)(j:Nat):ce (E7 s i c) j=if j=i then c else ce s j:=a4g hi _ _ j
theorem SR.E7{s:store_Store}(hR:SR s){i:Nat}(hi:i<s.S.Cells.length){c:slab_Cell_store_Obj}(h1:0≤c.State∧c.State≤3∧0≤c.Gen∧c.Gen≤s.S.Last)(h2:¬Th c→b0n (oo c.Val))(h3:Th c→OkO s c.Val∧Th (ce s i)∧c.Val.Serial=(ce s i).Val.Serial):SR (E7 s i c):=by
 have key:∀j,Th (ce (Sh.E7 s i c) j)→Th (ce s j)∧(ce (Sh.E7 s i c) j).Val.Serial=(ce s j).Val.Serial:=λj hj=>by
  rw[J3 hi] at hj ⊢
  split at hj
  ·rename_i e
   subst e
   rw[if_pos rfl]
   exact (h3 hj).2
  ·rename_i e
   rw[if_neg e]
   exact⟨hj,rfl⟩
 refine⟨by rw[W4];exact hR.len,hR.l0,hR.l9,hR.Y4,λj hj=>?_,λj hj hn=>?_,λj hj hn=>?_,λj k hj hk a b e=>?_⟩
 ·rw[W4] at hj
  rw[J3 hi]
  split
  ·exact h1
  ·exact hR.cell j hj
 ·rw[W4] at hj
  rw[J3 hi] at hn ⊢
  split at hn
  ·rename_i e
   rw[if_pos e];exact h2 hn
  ·rename_i e
   rw[if_neg e];exact hR.no j hj hn
 ·rw[W4] at hj
  rw[J3 hi] at hn ⊢
  split at hn
  ·rename_i e
   rw[if_pos e]
   have:=(h3 hn).1
   exact⟨this.s1,this.s2,this.st,this.wk,this.p1,this.p2,this.fl⟩
  ·rename_i e
   rw[if_neg e]
   have:=hR.ok j hj hn
   exact⟨this.s1,this.s2,this.st,this.wk,this.p1,this.p2,this.fl⟩
 ·rw[W4] at hj hk
  obtain⟨a1,a2⟩:=key j a
  obtain⟨b1,b2⟩:=key k b
  rw[a2,b2] at e
  exact hR.dif j k hj hk a1 b1 e
theorem c0U{s:store_Store}{i:Nat}(hi:i<s.S.Cells.length)(c:slab_Cell_store_Obj){h:Int}{j:Nat}(hj:j≠i):Q4 (E7 s i c) h j↔Q4 s h j:=by
 unfold Q4
 rw[W4,J3 hi,if_neg hj]
theorem b1F{s:store_Store}{i:Nat}(hi:i<s.S.Cells.length)(c:slab_Cell_store_Obj){h:Int}{j:Nat}(hj:j≠i):At (E7 s i c) h j↔At s h j:=by
 unfold At
 rw[W4,J3 hi,if_neg hj]
theorem b85{s:store_Store}(hR:SR s){i:Nat}(hi:i<s.S.Cells.length){c:slab_Cell_store_Obj}(hc:c.State≠1)(hR':SR (E7 s i c)):lv (E7 s i c)=(lv s).filter λh=>decide (B5 h≠i):=by
 have hno:∀h,¬At (E7 s i c) h i:=λh q=>by
  have:=q.2.1
  rw[J3 hi,if_pos rfl] at this
  exact hc this
 refine c15 hR hR' _ (λh=>?_) (λh j k q q'=>?_)
 ·rw[decide_eq_true_iff]
  constructor
  ·rintro⟨j,hj⟩
   have hne:j≠i:=λe=>hno h (e▸hj)
   have:=(b1F hi c hne).1 hj
   exact⟨⟨j,this⟩,by rw[this.d.B5 hR];exact hne⟩
  ·rintro⟨⟨j,hj⟩,hp⟩
   rw[hj.d.B5 hR] at hp
   exact⟨j,(b1F hi c hp).2 hj⟩
 ·have hne:j≠i:=λe=>hno h (e▸q)
  have q2:=(b1F hi c hne).1 q
  have:=Q4.one hR q2.d q'.d
  subst this
  rw[J3 hi,if_neg hne]
theorem b9c{s:store_Store}(hR:SR s){i:Nat}(hi:i<s.S.Cells.length){c:slab_Cell_store_Obj}(hR':SR (E7 s i c)){k:Int}(hk:k∈lv s)(hp:B5 k≠i):ob (E7 s i c) k=ob s k:=by
 have q:=u6 hR hk
 rw[O9 hR' ((b1F hi c hp).2 q),O9 hR q,J3 hi,if_neg hp]
structure Kn (s s':store_Store):Prop where
 sr:SR s'
 len:s'.S.Cells.length=s.S.Cells.length
 lv:lv s'=lv s
 ad:∀k i,Q4 s' k i↔Q4 s k i
 ob:∀k,k∈Sh.lv s→∃n m,ob s' k=⟨(ob s k).Serial,n,m,(ob s k).Prog,(ob s k).Started,(ob s k).Fields⟩
theorem Kin.kn{s s':store_Store}(hR:SR s)(k:Kin s s'):Kn s s':=⟨k.sr,k.len,k.lv,k.ad,λh hh=>by
 obtain⟨n,e⟩:=k.ob h (by have:=H7 hR hh;omega)
 exact⟨n,_,e⟩⟩
theorem Kn.inn{s s':store_Store}(k:Kn s s')(h:Int):inn s' h=inn s h:=by
 unfold Sh.inn
 rw[k.lv]
 congr 1
 refine List.map_congr_left λx hx=>?_
 obtain⟨n,m,e⟩:=k.ob x hx
 unfold Sh.outs
 rw[e]
structure HpS (x:Hp):Prop where
 sr:SR x.S
 hr:HR x.T
 r6:x.Roots.length=6
 c6:x.Cells.length=6
 cap:x.Q.Cap=30
 q30:x.Q.L.length≤30
 tk:∀t∈x.Q.L,0≤t.Prog∧t.Prog≤5∧((t.Kind=1∧t.At∈lv x.S∧(ob x.S t.At).Started=true)∨(t.Kind=2∧0≤t.At∧t.At≤5))
 td:x.Q.L.Pairwise λa b=>¬(a.Kind=b.Kind∧a.At=b.At)
 rt:∀h∈x.Roots,h=0∨h∈lv x.S
 fl:∀h∈lv x.S,∀v∈(ob x.S h).Fields,v=0∨v∈lv x.S
 pr:∀k v,Has x.T k v→k∈lv x.S∧v∈lv x.S
 cl:∀i (hi:i<x.Cells.length),-1≤x.Cells[i].Call∧x.Cells[i].Call≤5∧(x.Cells[i].Target=0→x.Cells[i].Intact=false)∧(x.Cells[i].Target≠0→∃p,Q4 x.S x.Cells[i].Target p)∧(x.Cells[i].Intact=true→x.Cells[i].Target∈lv x.S∧wts x.Q i=false)
def Wk(x:Hp):Prop:=∀i,i<x.S.S.Cells.length→Th (ce x.S i)→(ce x.S i).Val.Weak=(nmg x.Cells (1+(i:Int)+32*(ce x.S i).Gen):Int)∧((ce x.S i).State=2→1≤(ce x.S i).Val.Weak∧(ce x.S i).Val.Fields = []∧(ce x.S i).Val.Strong=0)
def a2J(x:Hp)(L:List Int):Prop:=∀h∈lv x.S,(ob x.S h).Strong<12→(ob x.S h).Strong=((nms x h+Q3 L h:Nat):Int)
structure Q5 (x:Hp):Prop where
 sh:HpS x
 wk:Wk x
 fair:a2J x []
theorem HpS.of{x:Hp}(h:HpS x){s':store_Store}(hS:SR s')(hl:lv s'=lv x.S)(hd:∀k i,Q4 x.S k i→Q4 s' k i)(hst:∀k∈lv x.S,(ob x.S k).Started=true→(ob s' k).Started=true)(hfl:∀k∈lv x.S,∀v∈(ob s' k).Fields,v=0∨v∈lv x.S):HpS (wS x s'):=by
 refine⟨hS,h.hr,h.r6,h.c6,h.cap,h.q30,λt ht=>?_,h.td,λk hk=>?_,λk hk=>?_,λk v hkv=>?_,λi hi=>?_⟩
 ·obtain⟨a,b,c⟩:=h.tk t ht
  refine⟨a,b,?_⟩
  rcases c with ⟨c1,c2,c3⟩ | c
  ·exact .inl ⟨c1,by rw[hl];exact c2,hst _ c2 c3⟩
  ·exact .inr c
 ·dsimp only
  rw[hl]
  exact h.rt k hk
 ·dsimp only at hk ⊢
  rw[hl] at hk ⊢
  exact hfl k hk
 ·dsimp only
  rw[hl]
  exact h.pr k v hkv
 ·obtain⟨a,b,c,d,e⟩:=h.cl i hi
  refine⟨a,b,c,λq=>?_,λq=>?_⟩
  ·obtain⟨p,hp⟩:=d q
   exact⟨p,hd _ _ hp⟩
  ·dsimp only
   rw[hl]
   exact e q
theorem HpS.kn{x:Hp}(h:HpS x){s':store_Store}(k:Kn x.S s'):HpS (wS x s'):=by
 refine h.of k.sr k.lv (λj i q=>(k.ad j i).2 q) (λj hj q=>?_) (λj hj=>?_)
 ·obtain⟨n,m,e⟩:=k.ob j hj
  rw[e];exact q
 ·obtain⟨n,m,e⟩:=k.ob j hj
  rw[e];exact h.fl j hj
theorem HpS.kin{x:Hp}(h:HpS x){s':store_Store}(k:Kin x.S s'):HpS (wS x s'):=h.kn (k.kn h.sr)
theorem Wk.kin{x:Hp}(h:Wk x){s':store_Store}(k:Kin x.S s'):Wk (wS x s'):=by
 intro i hi ht
 dsimp only at hi ht ⊢
 rw[k.len] at hi
 obtain⟨a,b,c,d,e⟩:=k.ce i hi
 unfold Th at ht
 rw[a] at ht
 obtain⟨f,g⟩:=h i hi ht
 rw[a,b,c]
 refine⟨f,λq=>?_⟩
 have e':=e (by omega)
 rw[←c,e']
 exact g q
theorem HpS.roots{x:Hp}(h:HpS x){l:List Int}(hl:l.length=6)(hr:∀v∈l,v=0∨v∈lv x.S):HpS (wR x l):=⟨h.sr,h.hr,hl,h.c6,h.cap,h.q30,h.tk,h.td,hr,h.fl,h.pr,h.cl⟩
theorem HpS.table{x:Hp}(h:HpS x){t:Tb}(hr:HR t)(hp:∀k v,Has t k v→k∈lv x.S∧v∈lv x.S):HpS (wT x t):=⟨h.sr,hr,h.r6,h.c6,h.cap,h.q30,h.tk,h.td,h.rt,h.fl,hp,h.cl⟩
def Z2(c:Int):Int:=if 12≤c then 12 else if c<0 then 1 else c+1
def a7P(c:Int):Int:=if 12≤c then 12 else if c<1 then c else c-1
theorem E2{c:Int}(h:0≤c):0≤Z2 c:=by unfold Z2;split <;> (try split) <;> omega
theorem X0{c:Int}(h:0≤c):0≤a7P c:=by unfold a7P;split <;> (try split) <;> omega
noncomputable def stO(x:Hp)(h:Int)(f:Int→Int):Hp:=if h∈lv x.S then wS x (seO x.S h (stg (ob x.S h) (f (ob x.S h).Strong))) else x
noncomputable def C0(x:Hp)(h:Int):Hp:=stO x h Z2
noncomputable def O1(x:Hp)(h:Int):Hp:=stO x h a7P
theorem b28(x:Hp)(h:Int)(f:Int→Int):stO x h f=wS x (stO x h f).S:=by
 unfold stO
 split <;> rfl
theorem b2Y(x:Hp)(h:Int):C0 x h=wS x (C0 x h).S:=b28 x h Z2
theorem c7a(x:Hp)(h:Int):O1 x h=wS x (O1 x h).S:=b28 x h a7P
section
variable{x:Hp}(hR:SR x.S)(h:Int){f:Int→Int}(hf:∀c,0≤c→0≤f c)
include hR hf
theorem G0:Kin x.S (stO x h f).S:=by
 unfold stO
 split
 ·rename_i q
  exact c3Z hR q (hf _ (H6 hR q).st)
 ·exact Kin.refl hR
theorem b5O{k:Int}(hk:k∈lv x.S):(ob (stO x h f).S k).Strong=if k=h then f (ob x.S k).Strong else (ob x.S k).Strong:=by
 unfold stO
 split
 ·rename_i q
  dsimp only
  have ho:OkO x.S (stg (ob x.S h) (f (ob x.S h).Strong)):=by
   have:=H6 hR q
   exact⟨this.s1,this.s2,hf _ this.st,this.wk,this.p1,this.p2,this.fl⟩
  rw[a1B (o:=stg (ob x.S h) (f (ob x.S h).Strong)) hR q rfl ho (by have:=H7 hR hk;omega)]
  split
  ·rename_i e;subst e;rfl
  ·rfl
 ·rename_i q
  rw[if_neg]
  intro e
  subst e
  exact q hk
theorem b1T(k:Int):nms (stO x h f) k=nms x k:=by
 rw[b28]
 unfold nms otr
 dsimp only
 rw[(G0 hR h hf).inn hR]
end
theorem HpS.st{x:Hp}(h:HpS x)(k:Int){f:Int→Int}(hf:∀c,0≤c→0≤f c):HpS (stO x k f):=by
 rw[b28]
 exact h.kin (G0 h.sr k hf)
theorem Wk.st{x:Hp}(h:Wk x)(hR:SR x.S)(k:Int){f:Int→Int}(hf:∀c,0≤c→0≤f c):Wk (stO x k f):=by
 rw[b28]
 exact h.kin (G0 hR k hf)
theorem R6(h:Int):Q3 [] h=0:=by unfold Q3;split <;> rfl
theorem J2(v:Int)(L:List Int)(h:Int):Q3 (v::L) h=Q3 L h+if v=h∧h≠0 then 1 else 0:=by
 unfold Q3
 by_cases h0:h=0
 ·simp[h0]
 ·rw[if_neg h0,if_neg h0,List.count_cons]
  by_cases e:v=h
  ·simp[e,h0]
  ·simp[e]
theorem c2Y{x:Hp}(hR:SR x.S){L:List Int}(hf:a2J x L)(v:Int):a2J (C0 x v) (v::L):=by
 intro h hh hlt
 unfold C0 at hh hlt ⊢
 rw[(G0 hR v λc=>E2).lv] at hh
 rw[b5O hR v (λc=>E2) hh] at hlt ⊢
 rw[b1T hR v λc=>E2,J2]
 have h0:h≠0:=λe=>a4q hR (e▸hh)
 have hp:=(H6 hR hh).st
 by_cases e:h=v
 ·subst e
  rw[if_pos rfl] at hlt ⊢
  have:=hf h hh (by unfold Z2 at hlt;split at hlt <;> omega)
  rw[if_pos ⟨rfl,h0⟩]
  unfold Z2 at hlt ⊢
  split at hlt
  ·omega
  ·rename_i q
   rw[if_neg q,if_neg (by omega)]
   omega
 ·rw[if_neg e] at hlt ⊢
  rw[if_neg (λq=>e q.1.symm)]
  exact hf h hh hlt
theorem b7c{x:Hp}(hR:SR x.S){L:List Int}{v:Int}(hf:a2J x (v::L)):a2J (O1 x v) L:=by
 intro h hh hlt
 unfold O1 at hh hlt ⊢
 rw[(G0 hR v λc=>X0).lv] at hh
 rw[b5O hR v (λc=>X0) hh] at hlt ⊢
 rw[b1T hR v λc=>X0]
 have h0:h≠0:=λe=>a4q hR (e▸hh)
 have hp:=(H6 hR hh).st
 by_cases e:h=v
 ·subst e
  rw[if_pos rfl] at hlt ⊢
  have:=hf h hh (by unfold a7P at hlt;split at hlt <;> omega)
  rw[J2,if_pos ⟨rfl,h0⟩] at this
  unfold a7P at hlt ⊢
  split at hlt
  ·omega
  ·rename_i q
   rw[if_neg q,if_neg (by omega)]
   omega
 ·rw[if_neg e] at hlt ⊢
  have:=hf h hh hlt
  rw[J2,if_neg (λq=>e q.1.symm)] at this
  exact this
theorem a2J.mv{x x':Hp}{L L':List Int}(hf:a2J x L)(hl:lv x'.S=lv x.S)(hs:∀h∈lv x.S,(ob x'.S h).Strong=(ob x.S h).Strong)(hn:∀h∈lv x.S,nms x' h+Q3 L' h=nms x h+Q3 L h):a2J x' L':=by
 intro h hh hlt
 rw[hl] at hh
 rw[hs h hh] at hlt ⊢
 rw[hf h hh hlt,hn h hh]
end Go.Sh
namespace Go.Sh
theorem b5Z:∀ {l:List Int} {r:Nat} (hr:r<l.length) (h k:Int),Q3 (l.set r h) k+Q3 [l.getD r 0] k=Q3 l k+Q3 [h] k
 | [],_,hr,_,_=>by simp at hr
 | a::l,0,_,h,k=>by
  rw[List.set_cons_zero,List.getD_cons_zero,J2 h l,J2 a l,J2 a [],J2 h [],R6]
  omega
 | a::l,r+1,hr,h,k=>by
  rw[List.set_cons_succ,List.getD_cons_succ,J2 a,J2 a l]
  have:=b5Z (l:=l) (r:=r) (by simpa using hr) h k
  omega
theorem a8K{x x1:Hp}(hx:Q5 x){old new:Int}(h1:HpS (C0 x new)→Wk (C0 x new)→HpS x1∧Wk x1)
  (hl:lv x1.S=lv (C0 x new).S)(hs:∀h∈lv x.S,(ob x1.S h).Strong=(ob (C0 x new).S h).Strong)(hn:∀h∈lv x.S,nms x1 h+Q3 [old] h=nms x h+Q3 [new] h):Q5 (O1 x1 old):=by
 have l1:lv (C0 x new).S=lv x.S:=(G0 hx.sh.sr new λc=>E2).lv
 have f1:a2J (C0 x new) [new]:=c2Y hx.sh.sr hx.fair new
 obtain⟨h2,w2⟩:=h1 (hx.sh.st new λc=>E2) (hx.wk.st hx.sh.sr new λc=>E2)
 have f2:a2J x1 [old]:=f1.mv hl (λh hh=>hs h (l1▸hh)) λh hh=>by
  rw[hn h (l1▸hh)]
  unfold C0
  rw[b1T hx.sh.sr new λc=>E2]
 exact⟨h2.st _ λc=>X0,w2.st h2.sr _ λc=>X0,b7c h2.sr f2⟩
noncomputable def Q6(x:Hp)(r:Nat)(h:Int):Hp:=O1 (wR (C0 x h) (x.Roots.set r h)) (x.Roots.getD r 0)
theorem a3N{x:Hp}(hx:Q5 x){r:Nat}(hr:r<6){h:Int}(hh:h=0∨h∈lv x.S):Q5 (Q6 x r h):=by
 have l1:lv (C0 x h).S=lv x.S:=(G0 hx.sh.sr h λc=>E2).lv
 refine a8K hx (λa b=>⟨a.roots (by rw[List.length_set];exact hx.sh.r6) (λv hv=>?_),b⟩) rfl (λ_ _=>rfl) (λk hk=>?_)
 ·rw[l1]
  rcases List.mem_or_eq_of_mem_set hv with q | q
  ·exact hx.sh.rt v q
  ·exact q▸hh
 ·have hi:=(G0 hx.sh.sr h λc=>E2).inn hx.sh.sr k
  rw[b2Y]
  unfold nms otr
  dsimp only
  rw[show inn (C0 x h).S k=inn x.S k from hi,R5,R5,b5X,b5X]
  have:=b5Z (l:=x.Roots) (r:=r) (by rw[hx.sh.r6];exact hr) h k
  omega
theorem b9z{α:Type}:∀ {l:List α} (hn:l.Nodup) {a:α} (ha:a∈l) (f g:α→Nat) (h:∀x∈l,x≠a→f x=g x),(l.map g).sum+f a=(l.map f).sum+g a
 | [],_,_,ha,_,_,_=>by cases ha
 | b::l,hn,a,ha,f,g,h=>by
  rw[List.nodup_cons] at hn
  rw[List.map_cons,List.map_cons,List.sum_cons,List.sum_cons]
  rcases List.mem_cons.1 ha with e | e
  ·subst e
   have:l.map g=l.map f:=List.map_congr_left λx hx=>(h x (List.mem_cons_of_mem _ hx) λe=>hn.1 (e▸hx)).symm
   rw[this]
   omega
  ·have:=b9z hn.2 e f g λx hx=>h x (List.mem_cons_of_mem _ hx)
   have:=h b (List.mem_cons_self ..) λq=>hn.1 (q▸e)
   omega
abbrev flg(o:store_Obj)(l:List Int):store_Obj:=⟨o.Serial,o.Strong,o.Weak,o.Prog,o.Started,l⟩
theorem b8Y{s:store_Store}(hR:SR s){h:Int}(hh:h∈lv s){o:store_Obj}(hs:o.Serial=(ob s h).Serial)(ho:OkO s o)(y:Int):inn (seO s h o) y+Q3 (ob s h).Fields y=inn s y+Q3 o.Fields y:=by
 have hle:=H7 hR hh
 have:=b9z (a9m (p5.2 hR)) hh (λx=>Q3 (outs s x) y) (λx=>Q3 (outs (seO s h o) x) y) λx hx hne=>by
  have:=H7 hR hx
  unfold outs
  rw[a1B hR hh hs ho (by omega),if_neg hne]
 have e:Q3 (outs (seO s h o) h) y=Q3 o.Fields y:=by
  unfold outs
  rw[a1B hR hh hs ho (by omega),if_pos rfl,b5X]
 have e2:Q3 (outs s h) y=Q3 (ob s h).Fields y:=b5X _ _
 rw[e,e2] at this
 unfold inn
 rw[a3d hR hh hs ho]
 exact this
noncomputable def K8(x:Hp)(h:Int)(k:Nat)(v:Int):Hp:=O1 (wS (C0 x v) (seO (C0 x v).S h (flg (ob (C0 x v).S h) ((ob x.S h).Fields.set k v)))) ((ob x.S h).Fields.getD k 0)
theorem b4N{x:Hp}(hx:Q5 x){h:Int}(hh:h∈lv x.S){k:Nat}(hk:k<(ob x.S h).Fields.length){v:Int}(hv:v=0∨v∈lv x.S):Q5 (K8 x h k v):=by
 have kin:=G0 hx.sh.sr v (f:=Z2) λc=>E2
 have l1:lv (C0 x v).S=lv x.S:=kin.lv
 have hR1:SR (C0 x v).S:=kin.sr
 have hh1:h∈lv (C0 x v).S:=by rw[l1];exact hh
 have hle:=H7 hx.sh.sr hh
 have hof:(ob (C0 x v).S h).Fields=(ob x.S h).Fields:=by
  obtain⟨n,e⟩:=kin.ob h (by omega)
  show (ob (stO x v Z2).S h).Fields=_
  rw[e]
 have ho:OkO (C0 x v).S (flg (ob (C0 x v).S h) ((ob x.S h).Fields.set k v)):=by
  have:=H6 hR1 hh1
  refine⟨this.s1,this.s2,this.st,this.wk,this.p1,this.p2,?_⟩
  have h4:=this.fl
  rw[hof] at h4
  simpa using h4
 have hob:∀j,j∈lv x.S→ob (seO (C0 x v).S h (flg (ob (C0 x v).S h) ((ob x.S h).Fields.set k v))) j=if j=h then flg (ob (C0 x v).S h) ((ob x.S h).Fields.set k v) else ob (C0 x v).S j:=λj hj=>by
  have:=H7 hx.sh.sr hj
  exact a1B (o:=flg (ob (C0 x v).S h) ((ob x.S h).Fields.set k v)) hR1 hh1 rfl ho (by omega)
 refine a8K hx (λa b=>⟨?_,?_⟩) (a3d (o:=flg (ob (C0 x v).S h) ((ob x.S h).Fields.set k v)) hR1 hh1 rfl ho) (λj hj=>?_) (λj hj=>?_)
 ·refine a.of (a07 (o:=flg (ob (C0 x v).S h) ((ob x.S h).Fields.set k v)) hR1 hh1 rfl ho) (a3d (o:=flg (ob (C0 x v).S h) ((ob x.S h).Fields.set k v)) hR1 hh1 rfl ho) (λj i q=>(b8z (o:=flg (ob (C0 x v).S h) ((ob x.S h).Fields.set k v)) hR1 hh1 rfl ho).2 q) (λj hj q=>?_) (λj hj u hu=>?_)
  ·rw[hob j (l1▸hj)]
   split
   ·rename_i e;subst e;exact q
   ·exact q
  ·rw[hob j (l1▸hj)] at hu
   split at hu
   ·rename_i e
    subst e
    rcases List.mem_or_eq_of_mem_set hu with q | q
    ·exact a.fl j hj u (by rw[hof];exact q)
    ·rw[l1,q];exact hv
   ·exact a.fl j hj u hu
 ·intro i hi ht
  dsimp only at hi ht ⊢
  have hp:=u6 hR1 hh1
  unfold seO at hi
  rw[L3] at hi
  have hce:=b8A (o:=flg (ob (C0 x v).S h) ((ob x.S h).Fields.set k v)) hR1 hh1 rfl ho i
  rw[hce] at ht ⊢
  split at ht
  ·rename_i e
   subst e
   rw[if_pos rfl]
   have:=b _ hp.1 (.inl hp.2.1)
   dsimp only
   refine⟨?_,λq=>absurd q (by rw[hp.2.1];decide)⟩
   rw[←this.1,O9 hR1 hp]
  ·rename_i e
   rw[if_neg e]
   exact b i hi ht
 ·rw[hob j hj]
  split
  ·rename_i e;subst e;rfl
  ·rfl
 ·have hi:=b8Y (o:=flg (ob (C0 x v).S h) ((ob x.S h).Fields.set k v)) hR1 hh1 rfl ho j
  have hi2:=kin.inn hx.sh.sr j
  have hi2:inn (C0 x v).S j=inn x.S j:=hi2
  rw[hi2,hof] at hi
  dsimp only at hi
  have:=b5Z hk v j
  have hrest:C0 x v=wS x (C0 x v).S:=b2Y x v
  unfold nms otr
  dsimp only
  rw[show (C0 x v).T=x.T by rw[hrest],show (C0 x v).Roots=x.Roots by rw[hrest],show (C0 x v).Q=x.Q by rw[hrest]]
  omega
theorem c2B{t:Tb}(hT:HR t){k v:Int}{r:Tb × Int × Int}(h:P1 t k v=some r)(h0:r.2.2=0):HR r.1∧(∀y,own r.1 y+Q3 [r.2.1] y=own t y+Q3 [v] y)∧∀k' v',Has r.1 k' v'→Has t k' v'∨(k'=k∧v'=v∧v≠0):=by
 obtain⟨r',e1,e2,_,e3⟩:=a8H hT k v
 rw[h] at e1
 cases e1
 refine⟨e2,?_⟩
 have hos:∀(i:Nat) (p:hash_Place) (y:Int),i<t.length→own (t.set i p) y+(if (pt t i).State=1∧(pt t i).Val=y∧y≠0 then 1 else 0)=own t y+if p.State=1∧p.Val=y∧y≠0 then 1 else 0:=λi p y hi=>by
  have key:∀q:hash_Place,(if ((q.State==1)&&((y != 0)&&(q.Val==y)))=true then 1 else 0:Nat)=if q.State=1∧q.Val=y∧y≠0 then 1 else 0:=λq=>by
   by_cases c:q.State=1∧q.Val=y∧y≠0
   ·rw[if_pos c,if_pos (by simp[c.1,c.2.1,c.2.2])]
   ·rw[if_neg c,if_neg (by simp only[Bool.and_eq_true,beq_iff_eq,bne_iff_ne,ne_eq];exact λq=>c ⟨q.1,q.2.2,q.2.1⟩)]
  have:=b9i hi p y
  rw[key,key] at this
  exact this
 rcases e3 with ⟨_,rfl⟩ | ⟨hk,hv,⟨i,hi,rfl⟩ | ⟨hn,rfl⟩⟩ | ⟨hk,hv,⟨i,hi,rfl⟩ | ⟨d,hn,hd,hf,hp,rfl⟩ | ⟨hn,ha,rfl⟩⟩
 ·simp at h0
 ·refine⟨λy=>?_,λk' v' q=>.inl ((a81 hT hi k' v').1 q).2⟩
  have:=hos i ⟨2,0,0⟩ y hi.1
  rw[J2,J2,R6]
  subst hv
  dsimp only at this ⊢
  rw[if_neg (show ¬((2:Int)=1∧(0:Int)=y∧y≠0) by omega)] at this
  rw[if_neg (show ¬((0:Int)=y∧y≠0) by omega)]
  simp only[hi.2.1,true_and] at this
  omega
 ·refine⟨λy=>?_,λk' v' q=>.inl q⟩
  rw[hv]
 ·refine⟨λy=>?_,λk' v' q=>?_⟩
  ·have:=hos i ⟨1,k,v⟩ y hi.1
   rw[J2,J2,R6]
   simp only[hi.2.1,true_and] at this
   dsimp only
   omega
  ·rcases (a9u hT (.old i hi) rfl k' v').1 q with ⟨a,b⟩ | ⟨_,b⟩
   ·exact .inr ⟨a,b,hv⟩
   ·exact .inl b
 ·refine⟨λy=>?_,λk' v' q=>?_⟩
  ·have:=hos d ⟨1,k,v⟩ y hd
   rw[J2,J2,R6]
   dsimp only
   rw[if_neg (show ¬((0:Int)=y∧y≠0) by omega)]
   simp only[hf,false_and,true_and,if_false] at this
   omega
  ·rcases (a9u hT hp rfl k' v').1 q with ⟨a,b⟩ | ⟨_,b⟩
   ·exact .inr ⟨a,b,hv⟩
   ·exact .inl b
 ·simp at h0
noncomputable def a3I(x:Hp)(v:Int)(t:Tb)(old:Int):Hp:=O1 (wT (C0 x v) t) old
theorem b6T{x:Hp}(hx:Q5 x){k v:Int}(hk:k∈lv x.S)(hv:v=0∨v∈lv x.S){r:Tb × Int × Int}(h:P1 x.T k v=some r)(h0:r.2.2=0):Q5 (a3I x v r.1 r.2.1):=by
 have kin:=G0 hx.sh.sr v (f:=Z2) λc=>E2
 have l1:lv (C0 x v).S=lv x.S:=kin.lv
 obtain⟨p1,p2,p3⟩:=c2B hx.sh.hr h h0
 refine a8K hx (λa b=>⟨a.table p1 λk' v' q=>?_,b⟩) rfl (λ_ _=>rfl) (λj hj=>?_)
 ·rw[l1]
  rcases p3 k' v' q with q | ⟨rfl,rfl,hne⟩
  ·exact hx.sh.pr k' v' q
  ·exact⟨hk,hv.resolve_left hne⟩
 ·have hi2:inn (C0 x v).S j=inn x.S j:=kin.inn hx.sh.sr j
  have hrest:C0 x v=wS x (C0 x v).S:=b2Y x v
  unfold nms otr
  dsimp only
  rw[show (C0 x v).Roots=x.Roots by rw[hrest],show (C0 x v).Q=x.Q by rw[hrest],hi2]
  have:=p2 j
  omega
end Go.Sh
namespace Go.Sh
instance(s:store_Store)(h:Int)(i:Nat):Decidable (Q4 s h i):=by unfold Q4;infer_instance
abbrev wkg(o:store_Obj)(n:Int):store_Obj:=⟨o.Serial,o.Strong,n,o.Prog,o.Started,o.Fields⟩
def mkA(s:store_Store)(i:Nat)(d:Int):store_Store:=a02 s i (wkg (ce s i).Val ((ce s i).Val.Weak+d))
def gvA(s:store_Store)(i:Nat):store_Store:=E7 s i (if (ce s i).Gen=s.S.Last then ⟨3,(ce s i).Gen,z0⟩ else ⟨0,(ce s i).Gen+1,z0⟩)
def hdl(s:store_Store)(i:Nat):Int:=1+(i:Int)+32*(ce s i).Gen
theorem b8O{s:store_Store}{i:Nat}(hi:i<s.S.Cells.length)(ht:Th (ce s i)):Q4 s (hdl s i) i:=⟨hi,ht,rfl⟩
theorem b1J{s:store_Store}(hR:SR s){i:Nat}(hi:i<s.S.Cells.length):1≤hdl s i:=by
 have:=hR.cell i hi
 unfold hdl
 omega
section
variable{s:store_Store}(hR:SR s){i:Nat}(hi:i<s.S.Cells.length)(ht:Th (ce s i))
include hR hi ht
theorem b44{d:Int}(hd:0≤(ce s i).Val.Weak+d):SR (mkA s i d):=by
 have:=hR.ok i hi ht
 exact hR.put hi ht rfl ⟨this.s1,this.s2,this.st,hd,this.p1,this.p2,this.fl⟩
theorem a2X(d:Int)(j:Nat):ce (mkA s i d) j=if j=i then ⟨(ce s i).State,(ce s i).Gen,wkg (ce s i).Val ((ce s i).Val.Weak+d)⟩ else ce s j:=a4V hi _ j
theorem a5i{d:Int}(hd:0≤(ce s i).Val.Weak+d):Kn s (mkA s i d):=by
 have hS:=b44 hR hi ht hd
 refine⟨hS,L3 ..,c14 hR hi rfl hS,λk j=>b1E hi _,λk hk=>?_⟩
 have q:=u6 hR hk
 rw[O9 hS ((b13 hi _).2 q),O9 hR q,a2X hR hi ht]
 split
 ·rename_i e
  rw[e]
  exact⟨_,_,rfl⟩
 ·exact⟨_,_,rfl⟩
theorem a5j{d:Int}(hd:0≤(ce s i).Val.Weak+d){k:Int}(hk:k∈lv s):(ob (mkA s i d) k).Strong=(ob s k).Strong:=by
 have hS:=b44 hR hi ht hd
 have q:=u6 hR hk
 rw[O9 hS ((b13 hi _).2 q),O9 hR q,a2X hR hi ht]
 split
 ·rename_i e
  rw[e]
 ·rfl
omit ht in
theorem b4T:SR (gvA s i):=by
 have hc:=hR.cell i hi
 have no:b0n (oo z0):=⟨rfl,rfl,rfl,rfl,rfl,rfl⟩
 unfold gvA
 split
 ·exact hR.E7 hi ⟨by simp,by simp,hc.2.2.1,hc.2.2.2⟩ (λ_=>no) (λq=>absurd q (by unfold Th;simp))
 ·refine hR.E7 hi ⟨by simp,by simp,?_,?_⟩ (λ_=>no) (λq=>absurd q (by unfold Th;simp))
  ·show 0≤(ce s i).Gen+1;omega
  ·show (ce s i).Gen+1≤s.S.Last;omega
omit hR ht in
theorem b4Q:∃c,(c.State=0∨c.State=3)∧gvA s i=E7 s i c∧∀j,ce (gvA s i) j=if j=i then c else ce s j:=by
 unfold gvA
 split
 ·exact⟨_,.inr rfl,rfl,λj=>J3 hi _ j⟩
 ·exact⟨_,.inl rfl,rfl,λj=>J3 hi _ j⟩
omit ht in
theorem b4R (h2:(ce s i).State=2):lv (gvA s i)=lv s:=by
 obtain⟨c,c1,c2,_⟩:=b4Q (s:=s) hi
 have hS:=b4T hR hi
 rw[c2] at hS ⊢
 rw[b85 hR hi (by omega) hS,List.filter_eq_self]
 intro h hh
 rw[decide_eq_true_iff]
 intro e
 have:=(u6 hR hh).2.1
 rw[e] at this
 omega
omit ht in
theorem b4S (h2:(ce s i).State=2) {k:Int} (hk:k∈lv s):ob (gvA s i) k=ob s k:=by
 obtain⟨c,c1,c2,_⟩:=b4Q (s:=s) hi
 have hS:=b4T hR hi
 rw[c2] at hS ⊢
 refine b9c hR hi hS hk λe=>?_
 have:=(u6 hR hk).2.1
 rw[e] at this
 omega
omit ht in
theorem c6l {k:Int} {j:Nat}:Q4 (gvA s i) k j↔Q4 s k j∧j≠i:=by
 obtain⟨c,c1,c2,c3⟩:=b4Q (s:=s) hi
 by_cases e:j=i
 ·subst e
  constructor
  ·rintro⟨_,h,_⟩
   rw[c3,if_pos rfl] at h
   unfold Th at h
   omega
  ·rintro⟨_,h⟩
   exact absurd rfl h
 ·rw[c2,c0U hi c e]
  simp[e]
theorem c3S(h2:(ce s i).State=2)(y:Int):inn (gvA s i) y=inn s y:=by
 unfold inn
 rw[b4R hR hi h2]
 congr 1
 refine List.map_congr_left λx hx=>?_
 unfold outs
 rw[b4S hR hi h2 hx]
end
def mkd(x:Hp)(h:Int)(d:Int):Hp:=if Q4 x.S h (B5 h) then wS x (mkA x.S (B5 h) d) else x
def a8L(x:Hp)(h:Int):Hp:=
 if Q4 x.S h (B5 h) then
  (if (ce x.S (B5 h)).State=2∧(ce x.S (B5 h)).Val.Weak=1 then wS x (gvA (mkA x.S (B5 h) (-1)) (B5 h)) else wS x (mkA x.S (B5 h) (-1)))
 else x
abbrev wcl(h call:Int):weak_Cell:=⟨h,h != 0,call⟩
def tgt(x:Hp)(w:Nat):Int:=(x.Cells.getD w ⟨0,false,0⟩).Target
def S9(x:Hp)(w:Nat)(h call:Int):Hp:=a8L (mkd (wC x (x.Cells.set w (wcl h call))) h 1) (tgt x w)
theorem c4b{l:List weak_Cell}{w:Nat}(hw:w<l.length)(c:weak_Cell){k:Int}(hk:k≠0):nmg (l.set w c) k+(if l[w].Target=k then 1 else 0)=nmg l k+if c.Target=k then 1 else 0:=by
 unfold nmg
 rw[List.countP_set hw]
 have e:∀d:weak_Cell,(((k != 0)&&(d.Target==k))=true)=(d.Target=k):=λd=>by simp[hk]
 simp only[e]
 have:(if l[w].Target=k then 1 else 0)≤l.countP λc=>(k != 0)&&(c.Target==k):=by
  split
  ·rename_i q
   exact List.countP_pos_iff.2 ⟨l[w],List.getElem_mem hw,by simp[q,hk]⟩
  ·exact Nat.zero_le _
 omega
theorem a9q{l:List weak_Cell}{i:Nat}(hi:i<l.length)(h0:l[i].Target≠0):0<nmg l l[i].Target:=List.countP_pos_iff.2 ⟨l[i],List.getElem_mem hi,by simp[h0]⟩
theorem b7t{x:Hp}(hx:Q5 x){w:Nat}(hw:w<6){h call:Int}(hh:h=0∨h∈lv x.S)(hc : -1≤call∧call≤5)(hq:wts x.Q w=false):Q5 (S9 x w h call):=by
 have hR:=hx.sh.sr
 have hwl:w<x.Cells.length:=by rw[hx.sh.c6];exact hw
 have htg:tgt x w=x.Cells[w].Target:=by
  unfold tgt
  rw[List.getD_eq_getElem?_getD,List.getElem?_eq_getElem hwl]
  rfl
 have s1:HpS (wC x (x.Cells.set w (wcl h call))):=by
  have:=hx.sh
  refine⟨this.sr,this.hr,this.r6,by simpa using this.c6,this.cap,this.q30,this.tk,this.td,this.rt,this.fl,this.pr,λi hi=>?_⟩
  dsimp only at hi ⊢
  rw[List.getElem_set]
  rw[List.length_set] at hi
  split
  ·rename_i e
   subst e
   dsimp only
   refine⟨hc.1,hc.2,λq=>by simp[q],λq=>?_,λq=>?_⟩
   ·exact⟨_,(u6 hR (hh.resolve_left q)).d⟩
   ·have q:h≠0:=by simpa using q
    exact⟨hh.resolve_left q,hq⟩
  ·exact this.cl i hi
 have k2:∃s2,mkd (wC x (x.Cells.set w (wcl h call))) h 1=wS (wC x (x.Cells.set w (wcl h call))) s2∧Kn x.S s2∧(∀k∈lv x.S,(ob s2 k).Strong=(ob x.S k).Strong) ∧
   ∀i,i<x.S.S.Cells.length→(ce s2 i).State=(ce x.S i).State∧(ce s2 i).Gen=(ce x.S i).Gen∧(ce s2 i).Val.Fields=(ce x.S i).Val.Fields∧(ce s2 i).Val.Strong=(ce x.S i).Val.Strong∧(Th (ce x.S i)→(ce s2 i).Val.Weak=(ce x.S i).Val.Weak+if h=hdl x.S i then 1 else 0):=by
  unfold mkd
  rcases hh with h0 | hh
  ·have hno:¬Q4 x.S h (B5 h):=λq=>by have:=q.rng hR;omega
   rw[if_neg hno]
   refine⟨x.S,rfl,(Kin.refl hR).kn hR,λ_ _=>rfl,λi hi=>⟨rfl,rfl,rfl,rfl,λht=>?_⟩⟩
   have:=b1J hR hi
   rw[if_neg (by omega)]
   omega
  ·have hp:=u6 hR hh
   have hwk:=(hR.ok _ hp.1 (.inl hp.2.1)).wk
   rw[if_pos hp.d]
   refine⟨_,rfl,a5i hR hp.1 (.inl hp.2.1) (by omega),λk hk=>a5j hR hp.1 (.inl hp.2.1) (by omega) hk,λi hi=>?_⟩
   rw[a2X hR hp.1 (.inl hp.2.1)]
   split
   ·rename_i e
    subst e
    refine⟨rfl,rfl,rfl,rfl,λ_=>?_⟩
    rw[if_pos (show h=hdl x.S (B5 h) from hp.2.2)]
   ·rename_i e
    refine⟨rfl,rfl,rfl,rfl,λht=>?_⟩
    rw[if_neg]
    ·omega
    ·intro q
     exact e (Q4.one hR (q▸b8O hi ht) hp.d)
 obtain⟨s2,e2,kn2,st2,ce2⟩:=k2
 have hR2:=kn2.sr
 have len2:=kn2.len
 have hS2:HpS (wS (wC x (x.Cells.set w (wcl h call))) s2):=s1.kn kn2
 have hdl2:∀i,i<x.S.S.Cells.length→hdl s2 i=hdl x.S i:=λi hi=>by unfold hdl;rw[(ce2 i hi).2.1]
 have th2:∀i,i<x.S.S.Cells.length→(Th (ce s2 i)↔Th (ce x.S i)):=λi hi=>by unfold Th;rw[(ce2 i hi).1]
 have wk2:∀i,i<x.S.S.Cells.length→Th (ce x.S i)→(ce s2 i).Val.Weak=(nmg (x.Cells.set w (wcl h call)) (hdl x.S i):Int)+if tgt x w=hdl x.S i then 1 else 0:=λi hi ht=>by
  have h0:hdl x.S i≠0:=by have:=b1J hR hi;omega
  have:=c4b hwl (wcl h call) h0
  rw[(ce2 i hi).2.2.2.2 ht,(hx.wk i hi ht).1,htg]
  dsimp only at this
  unfold hdl at this ⊢
  by_cases a:h=1+(i:Int)+32*(ce x.S i).Gen <;> by_cases b:x.Cells[w].Target=1+(i:Int)+32*(ce x.S i).Gen
  ·rw[if_pos a,if_pos b] at *;omega
  ·rw[if_pos a,if_neg b] at *;omega
  ·rw[if_neg a,if_pos b] at *;omega
  ·rw[if_neg a,if_neg b] at *;omega
 have dd2:∀i,i<x.S.S.Cells.length→(ce s2 i).State=2→(ce s2 i).Val.Fields = []∧(ce s2 i).Val.Strong=0:=λi hi q=>by
  obtain⟨a,_,b,c,_⟩:=ce2 i hi
  rw[a] at q
  rw[b,c]
  exact ((hx.wk i hi (.inr q)).2 q).2
 have nms2:∀k,nms (wS (wC x (x.Cells.set w (wcl h call))) s2) k=nms x k:=λk=>by
  unfold nms otr
  dsimp only
  rw[kn2.inn]
 have fair2:a2J (wS (wC x (x.Cells.set w (wcl h call))) s2) []:=hx.fair.mv kn2.lv st2 λk _=>by rw[nms2]
 unfold S9
 rw[e2]
 unfold a8L
 dsimp only
 by_cases hold:tgt x w=0
 ·have hno:¬Q4 s2 (tgt x w) (B5 (tgt x w)):=λq=>by have:=q.rng hR2;omega
  rw[if_neg hno]
  refine⟨hS2,λi hi ht=>?_,fair2⟩
  dsimp only at hi ht ⊢
  rw[len2] at hi
  have ht':=(th2 i hi).1 ht
  have h0:=b1J hR hi
  have hw2:=wk2 i hi ht'
  rw[if_neg (by omega)] at hw2
  rw[show (1+(i:Int)+32*(ce s2 i).Gen)=hdl x.S i from hdl2 i hi]
  refine⟨by omega,λq=>⟨?_,dd2 i hi q⟩⟩
  have q':(ce x.S i).State=2:=by rw[←(ce2 i hi).1];exact q
  have:=((hx.wk i hi ht').2 q').1
  rw[(ce2 i hi).2.2.2.2 ht']
  split <;> omega
 ·obtain⟨p,hp⟩:∃p,Q4 x.S (tgt x w) p:=by
   rw[htg] at hold ⊢
   exact (hx.sh.cl w hwl).2.2.2.1 hold
  have hpp:=hp.B5 hR
  have hp2:Q4 s2 (tgt x w) p:=(kn2.ad _ _).2 hp
  have hth:tgt x w=hdl x.S p:=hp.2.2
  rw[hpp,if_pos hp2]
  have hpl2:=hp2.1
  have hw2:=wk2 p hp.1 hp.2.1
  rw[if_pos hth] at hw2
  have hd:0≤(ce s2 p).Val.Weak+(-1):=by omega
  have kn3:=a5i hR2 hpl2 hp2.2.1 hd
  have hR3:=kn3.sr
  have ce3:=a2X hR2 hpl2 hp2.2.1 (-1)
  have hS3:HpS (wS (wC x (x.Cells.set w (wcl h call))) (mkA s2 p (-1))):=hS2.kn kn3
  have fair3:a2J (wS (wC x (x.Cells.set w (wcl h call))) (mkA s2 p (-1))) []:=fair2.mv kn3.lv (λk hk=>a5j hR2 hpl2 hp2.2.1 hd hk) λk _=>by
   unfold nms otr
   dsimp only
   rw[kn3.inn]
  have wk3:∀i,i<x.S.S.Cells.length→Th (ce x.S i)→(ce (mkA s2 p (-1)) i).Val.Weak=(nmg (x.Cells.set w (wcl h call)) (hdl x.S i):Int):=λi hi ht=>by
   rw[ce3]
   by_cases e:i=p
   ·subst e
    rw[if_pos rfl]
    dsimp only
    omega
   ·rw[if_neg e,wk2 i hi ht,if_neg]
    ·omega
    ·intro q
     exact e (Q4.one hR (q▸b8O hi ht) hp)
  have cs3:∀i,(ce (mkA s2 p (-1)) i).State=(ce s2 i).State∧(ce (mkA s2 p (-1)) i).Gen=(ce s2 i).Gen∧(ce (mkA s2 p (-1)) i).Val.Fields=(ce s2 i).Val.Fields∧(ce (mkA s2 p (-1)) i).Val.Strong=(ce s2 i).Val.Strong:=λi=>by
   rw[ce3]
   split
   ·rename_i e
    subst e
    exact⟨rfl,rfl,rfl,rfl⟩
   ·exact⟨rfl,rfl,rfl,rfl⟩
  by_cases hg:(ce s2 p).State=2∧(ce s2 p).Val.Weak=1
  ·-- the slot is given back
   rw[if_pos hg]
   have hpl3:p<(mkA s2 p (-1)).S.Cells.length:=by rw[kn3.len];exact hpl2
   have h23:(ce (mkA s2 p (-1)) p).State=2:=by rw[(cs3 p).1];exact hg.1
   have hn0:nmg (x.Cells.set w (wcl h call)) (tgt x w)=0:=by rw[hth];omega
   have hlv:=b4R hR3 hpl3 h23
   have hob:=λk hk=>b4S (k:=k) hR3 hpl3 h23 hk
   obtain⟨c,c1,c2,c3⟩:=b4Q (s:=mkA s2 p (-1)) hpl3
   refine⟨⟨b4T hR3 hpl3,hS3.hr,hS3.r6,hS3.c6,hS3.cap,hS3.q30,λt htt=>?_,hS3.td,λv hv=>?_,λv hv u hu=>?_,λk v hkv=>?_,λi hi=>?_⟩,λi hi ht=>?_,?_⟩
   ·obtain⟨a,b,d⟩:=hS3.tk t htt
    refine⟨a,b,?_⟩
    dsimp only at d ⊢
    rw[hlv]
    rcases d with ⟨d1,d2,d3⟩ | d
    ·exact .inl ⟨d1,d2,by rw[hob _ d2];exact d3⟩
    ·exact .inr d
   ·dsimp only
    rw[hlv]
    exact hS3.rt v hv
   ·dsimp only at hv hu ⊢
    rw[hlv] at hv ⊢
    rw[hob _ hv] at hu
    exact hS3.fl v hv u hu
   ·dsimp only
    rw[hlv]
    exact hS3.pr k v hkv
   ·obtain⟨a1,a2,a3,a4,a5⟩:=hS3.cl i hi
    refine⟨a1,a2,a3,λq=>?_,λq=>?_⟩
    ·obtain⟨j,hj⟩:=a4 q
     refine⟨j,(c6l hR3 hpl3).2 ⟨hj,λe=>?_⟩⟩
     subst e
     have e1:=(kn2.ad _ _).1 ((kn3.ad _ _).1 hj)
     have e2:(x.Cells.set w (wcl h call))[i].Target=tgt x w:=e1.2.2.trans hp.2.2.symm
     have:=a9q hi q
     dsimp only at this
     rw[e2] at this
     omega
    ·dsimp only
     rw[hlv]
     exact a5 q
   ·dsimp only at hi ht ⊢
    rw[show (gvA (mkA s2 p (-1)) p).S.Cells.length=x.S.S.Cells.length by rw[c2,W4,kn3.len,len2]] at hi
    rw[c3] at ht ⊢
    split at ht
    ·unfold Th at ht;omega
    ·rename_i e
     rw[if_neg e]
     have ht':Th (ce x.S i):=(th2 i hi).1 (by unfold Th at ht ⊢;rw[(cs3 i).1] at ht;exact ht)
     have:=wk3 i hi ht'
     rw[show (1+(i:Int)+32*(ce (mkA s2 p (-1)) i).Gen)=hdl x.S i by rw[(cs3 i).2.1];exact hdl2 i hi]
     refine⟨this,λq=>?_⟩
     rw[(cs3 i).1] at q
     rw[(cs3 i).2.2.1,(cs3 i).2.2.2,ce3,if_neg e]
     refine⟨?_,dd2 i hi q⟩
     have q':(ce x.S i).State=2:=by rw[←(ce2 i hi).1];exact q
     have:=((hx.wk i hi ht').2 q').1
     rw[(ce2 i hi).2.2.2.2 ht']
     split <;> omega
   ·refine fair3.mv hlv (λk hk=>by rw[hob k hk]) λk _=>?_
    unfold nms otr
    dsimp only
    rw[c3S hR3 hpl3 (.inr h23) h23]
  ·rw[if_neg hg]
   refine⟨hS3,λi hi ht=>?_,fair3⟩
   dsimp only at hi ht ⊢
   rw[kn3.len,len2] at hi
   have ht':Th (ce x.S i):=(th2 i hi).1 (by unfold Th at ht ⊢;rw[(cs3 i).1] at ht;exact ht)
   have:=wk3 i hi ht'
   rw[show (1+(i:Int)+32*(ce (mkA s2 p (-1)) i).Gen)=hdl x.S i by rw[(cs3 i).2.1];exact hdl2 i hi]
   refine⟨this,λq=>?_⟩
   rw[(cs3 i).1] at q
   rw[(cs3 i).2.2.1,(cs3 i).2.2.2]
   refine⟨?_,dd2 i hi q⟩
   rw[ce3]
   split
   ·rename_i e
    subst e
    dsimp only
    have:(ce s2 i).Val.Weak≠1:=λq2=>hg ⟨q,q2⟩
    omega
   ·have q':(ce x.S i).State=2:=by rw[←(ce2 i hi).1];exact q
    have:=((hx.wk i hi ht').2 q').1
    rw[(ce2 i hi).2.2.2.2 ht']
    split <;> omega
end Go.Sh
