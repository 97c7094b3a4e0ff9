/-
 Several texts of one kind, one behind the other.
-/
import Derived.Test.YtlkcpapbolbjnaaGreatO20fSh
import Derived.Test.YtlkcpapbolbjnaaGreatO20fSh1
import Derived.Test.YtlkcpapbolbjnaaGreatO20fSh
import Derived.Test.YtlkcpapbolbjnaaGreatO20fSh
import Derived.Test.YtlkcpapbolbjnaaGreatO20fSh
set_option linter.unusedVariables false
set_option linter.unusedSimpArgs false
set_option linter.unusedSectionVars false
namespace Go.Sh
def Hnd(h:Int):Prop:=1≤h∧(h-1) % 32<24∧(h-1) / 32≤9
instance(h:Int):Decidable (Hnd h):=by unfold Hnd;infer_instance
theorem b40{h:Int}(q:Hnd h):1≤h∧h≤320:=by unfold Hnd at q;omega
theorem a4c{i g:Int}(h1:0≤i)(h2:i<24)(h3:0≤g)(h4:g≤9):a0k i g=some (1+i+32*g):=by
 unfold a0k;rw[if_neg (by simp;omega)]
 rw[show x6 (i*1)=i by rw[a3S];omega,show x6 (1+i)=1+i by rw[a3S];omega,show x6 (g*32)=32*g by rw[a3S];omega,show x6 (1+i+32*g)=1+i+32*g by rw[a3S];omega]
theorem a5a{i g:Int}:a3e i g=some (if 0≤i∧i<24∧0≤g∧g≤9 then 1+i+32*g else 0):=by
 unfold a3e;split;·rename_i h;rw[if_neg (by simp at h;omega)]
 ·rename_i h;have h:0≤i∧i<24∧0≤g∧g≤9:=by simp at h;omega
  rw[if_pos h];rw[show x6 (1+i)=1+i by rw[a3S];omega,show x6 (32*g)=32*g by rw[a3S];omega,show x6 (1+i+32*g)=1+i+32*g by rw[a3S];omega]
theorem a7x{h:Int}(hh:h≤9223372036854775807):a1Q h=some (if Hnd h then ((h-1) % 32,(h-1) / 32,true) else (-1,-1,false)):=by
 unfold a1Q;split
 ·rename_i q;rw[if_neg (by unfold Hnd;simp at q;omega)]
 ·rename_i q;have q:1≤h:=by simpa using q
  rw[F7 (n:=h-1),b17 (by omega) (by omega),d4l,b4b (by omega) (by omega) (by omega),d4l,b4b (by omega) (by omega) (by omega),d4l,Int.ediv_one]
  split
  ·rename_i q2;rw[if_neg (by unfold Hnd;simp at q2;omega)]
  ·rename_i q2;rw[if_pos (by unfold Hnd;simp at q2;omega)]
theorem a4e{h:Int}(hh:h≤9223372036854775807):a27 h=some (if Hnd h then (h-1) % 32 else -1):=by
 unfold a27;rw[a7x hh,d4l];split <;> rfl
theorem a5B{h:Int}(hh:h≤9223372036854775807):a4b h=some (if Hnd h then (h-1) / 32 else -1):=by
 unfold a4b;rw[a7x hh,d4l];split <;> rfl
theorem b1I{h:Int}:a6a h=some (decide (Hnd h)):=by
 unfold a6a;split
 ·rename_i q;rw[decide_eq_false (by unfold Hnd;simp at q;omega)]
 ·rename_i q;have q:1≤h∧h≤400:=by simp at q;omega
  rw[F7 (n:=h-1),b17 (by omega) (by omega),d4l,b4b (by omega) (by omega) (by omega),d4l,a5a,d4l]
  congr 1;by_cases k:Hnd h
  ·rw[decide_eq_true k,if_pos (by unfold Hnd at k;omega)]
   simp;omega
  ·rw[decide_eq_false k,if_neg (by unfold Hnd at k;omega)]
   simp;omega
theorem a8o{h:Int}:a59 h=some (if Hnd h then (h-1) % 32 else -1):=by
 unfold a59;rw[b1I,d4l];by_cases k:Hnd h
 ·have:=b40 k;rw[decide_eq_true k,if_neg (by simp),if_pos k,F7 (n:=h-1),b17 (by omega) (by omega),d4l]
 ·rw[decide_eq_false k,if_pos (by simp),if_neg k]
theorem c1z{h:Int}:b4c h=some (if Hnd h then (h-1) / 32 else -1):=by
 unfold b4c;rw[b1I,d4l];by_cases k:Hnd h
 ·have:=b40 k;rw[decide_eq_true k,if_neg (by simp),if_pos k,F7 (n:=h-1),b4b (by omega) (by omega) (by omega),d4l]
 ·rw[decide_eq_false k,if_pos (by simp),if_neg k]
end Go.Sh
namespace Go.Sh
theorem c69(a b:List Int)(ha:a.length<4611686018427387904):a4m a b=some (decide (a=b)):=by
 unfold a4m;by_cases hl:a.length=b.length
 ·rw[if_neg (by simp[hl])]
  simp only[jn];refine G2 a.length (λk=>∀j (h1:j<a.length) (h2:j<b.length),j<k→a[j]=b[j]) ha (λ_ _ _ h=>by omega) (λk hk hP=>?_) (λhP=>?_)
  ·have hk2:k<b.length:=by omega
   simp only[Int.ofNat_lt,hk,decide_true,if_true,o8 hk,o8 hk2,d4l];by_cases e:a[k]=b[k]
   ·refine .inl ⟨?_,λj h1 h2 hj=>?_⟩;·rw[if_neg (by simpa using e),k8]
    ·rcases Nat.lt_or_ge j k with q | q
     ·exact hP j h1 h2 q
     ·have:j=k:=by omega
      subst this;exact e
   ·refine .inr ⟨.inl false,by rw[if_pos (by simpa using e)],?_⟩
    simp only;rw[decide_eq_false (λq=>e (by subst q;rfl))]
  ·refine⟨.inr (),by simp,?_⟩
   simp only;rw[decide_eq_true (List.ext_getElem hl λi h1 h2=>hP i h1 h2 h1)]
 ·rw[if_pos (by rw[bne_iff_ne];omega)]
  rw[decide_eq_false (λq=>hl (by rw[q]))]
end Go.Sh
namespace Go.Sh
abbrev z0:k9:=⟨0,0,0,0,false,[]⟩
structure SlO (s:g9):Prop where
 len:s.Cells.length≤24
 l0:0≤s.Last
 l9:s.Last≤9
 cell:∀i (h:i<s.Cells.length),0≤s.Cells[i].State∧s.Cells[i].State≤3∧0≤s.Cells[i].Gen∧s.Cells[i].Gen≤s.Last
theorem a6v{s:g9}{i:Int}{k:Nat}{c:b8}(hi:i=k)(hk:k<s.Cells.length)(hl:s.Cells.length≤24):D1 s i c=some ⟨s.Cells.set k c,s.Last⟩:=by
 subst hi;unfold D1 y6;rw[Q2 (by omega) (by omega),d4l,o8 hk,d4l,Int.toNat_natCast]
theorem b8S{s:g9}(hR:SlO s)(v:k9) :
  (∃i,∃h:i<s.Cells.length,s.Cells[i].State=0∧(∀j (hj:j<i),s.Cells[j].State≠0)∧J5 s v=some (⟨s.Cells.set i ⟨1,s.Cells[i].Gen,v⟩,s.Last⟩,1+i+32*s.Cells[i].Gen,0)) ∨
  ((∀i (h:i<s.Cells.length),s.Cells[i].State≠0)∧J5 s v=some (s,0,4)):=by
 have hlen:=hR.len;by_cases q:∃i,∃h:i<s.Cells.length,s.Cells[i].State=0
 ·obtain⟨i,⟨hi,h0⟩,hmin⟩:=a0i (p:=λi=>∃h:i<s.Cells.length,s.Cells[i].State=0) q;left;refine⟨i,hi,h0,λj hj=>λe=>by have:=hmin j ⟨by omega,e⟩;omega,?_⟩
  unfold J5;simp only[jn,O4,d4l];have hc:=hR.cell i hi;refine G2 s.Cells.length (λk=>k≤i) (by omega) (by omega) (λk hk hP=>?_) (λhP=>by omega)
  rcases Nat.lt_or_ge k i with g | g
  ·refine .inl ⟨?_,g⟩;have:s.Cells[k].State≠0:=λe=>by have:=hmin k ⟨hk,e⟩;omega
   simp only[Int.ofNat_lt,hk,decide_true,if_true,o8 hk,d4l];rw[if_neg (by simpa using this),k8]
  ·have:k=i:=by omega
   subst this;refine .inr ⟨.inl _,?_,rfl⟩;simp only[Int.ofNat_lt,hk,decide_true,if_true,o8 hk,d4l,h0,a6v rfl hk hlen];rw[a4c (by omega) (by omega) hc.2.2.1 (by have:=hR.l9;omega)]
   simp
 ·right;refine⟨λi h e=>q ⟨i,h,e⟩,?_⟩;unfold J5;simp only[jn,O4,d4l];refine G2 s.Cells.length (λk=>True) (by omega) trivial (λk hk _=>?_) (λhP=>⟨.inr (),by simp,rfl⟩)
  refine .inl ⟨?_,trivial⟩;have:s.Cells[k].State≠0:=λe=>q ⟨k,hk,e⟩;simp only[Int.ofNat_lt,hk,decide_true,if_true,o8 hk,d4l];rw[if_neg (by simpa using this),k8]
def b2t(s:g9)(h:Int)(i:Nat):Prop:=∃hi:i<s.Cells.length,Hnd h∧(h-1) % 32=i∧s.Cells[i].Gen=(h-1) / 32∧(s.Cells[i].State=1∨s.Cells[i].State=2)
theorem a1P(s:g9){h:Int}(hh:h≤9223372036854775807) :
  (∃i,b2t s h i∧u7 s h=some ((i:Int),0))∨((∀i,¬b2t s h i)∧u7 s h=some (-1,if h=0 then 2 else 3)):=by
 unfold u7;by_cases h0:h=0
 ·right;subst h0;exact⟨λi ⟨_,h1,_⟩=>by unfold Hnd at h1;omega,by simp⟩
 ·rw[if_neg (by simpa using h0),a4e hh,d4l,if_neg h0]
  by_cases hd:Hnd h
  ·rw[if_pos hd];have hd':=hd;unfold Hnd at hd';obtain⟨k,hk⟩:∃k:Nat,(h-1) % 32=k:=⟨((h-1) % 32).toNat,by omega⟩
   rw[hk];by_cases hl:k<s.Cells.length
   ·rw[if_neg (by simp;omega),o8 hl,d4l,a5B hh,d4l,if_pos hd]
    by_cases g:s.Cells[k].Gen=(h-1) / 32∧(s.Cells[k].State=1∨s.Cells[k].State=2)
    ·left;refine⟨k,⟨hl,hd,hk,g⟩,?_⟩;rw[if_neg];simp;omega
    ·right;refine⟨λi ⟨hi,_,h2,h3⟩=>?_,?_⟩
     ·have:i=k:=by omega
      subst this;exact g h3
     ·rw[if_pos];simp;omega
   ·right;refine⟨λi ⟨hi,_,h2,h3⟩=>by omega,?_⟩
    rw[if_pos (by simp;omega)]
  ·right;refine⟨λi ⟨hi,h1,_⟩=>hd h1,?_⟩;rw[if_neg hd,if_pos (by simp)]
theorem a85{s:g9}{h:Int}{i:Nat}(hf:b2t s h i):u7 s h=some ((i:Int),0):=by
 have hh:=b40 hf.2.1;rcases a1P s (h:=h) (by omega) with ⟨j,h1,h2⟩ | ⟨h1,_⟩
 ·obtain⟨_,_,e1,_⟩:=hf;obtain⟨_,_,e2,_⟩:=h1;have:i=j:=by omega
  subst this;exact h2
 ·exact absurd hf (h1 i)
theorem b2N{s:g9}{h:Int}(hh:h≤9223372036854775807)(hf:∀i,¬b2t s h i):u7 s h=some (-1,if h=0 then 2 else 3):=by
 rcases a1P s hh with ⟨j,h1,_⟩ | ⟨_,h2⟩;·exact absurd h1 (hf j)
 ·exact h2
theorem a1M(h:Int):(if h=0 then 2 else 3:Int)≠0:=by split <;> omega
theorem b9t{s:g9}{h:Int}{i:Nat}(hf:b2t s h i):∃hi:i<s.Cells.length,D8 s h=some (if s.Cells[i].State=2 then (z0,3) else (s.Cells[i].Val,0)):=by
 refine⟨hf.1,?_⟩;unfold D8;rw[a85 hf,d4l,if_neg (by simp),o8 hf.1,d4l]
 split <;> rename_i q
 ·rw[if_pos (by simpa using q)]
 ·rw[if_neg (by simpa using q)]
theorem c5p{s:g9}{h:Int}(hh:h≤9223372036854775807)(hf:∀i,¬b2t s h i):D8 s h=some (z0,if h=0 then 2 else 3):=by
 unfold D8;rw[b2N hh hf,d4l,if_pos (by simpa using a1M h)]
theorem c0m{s:g9}{h:Int}{v:k9}{i:Nat}(hl:s.Cells.length≤24)(hf:b2t s h i):∃hi:i<s.Cells.length,K9 s h v=some (⟨s.Cells.set i ⟨s.Cells[i].State,s.Cells[i].Gen,v⟩,s.Last⟩,0):=by
 refine⟨hf.1,?_⟩;unfold K9;rw[a85 hf,d4l,if_neg (by simp),o8 hf.1,d4l,a6v rfl hf.1 hl,d4l]
theorem c6I{s:g9}{h:Int}{v:k9}(hh:h≤9223372036854775807)(hf:∀i,¬b2t s h i):K9 s h v=some (s,if h=0 then 2 else 3):=by
 unfold K9;rw[b2N hh hf,d4l,if_pos (by simpa using a1M h)]
end Go.Sh
namespace Go.Sh
def oo(o:k9):B0:=⟨o.Serial,o.Strong,o.Weak,o.Prog,o.Started,o.Fields⟩
def cO(c:b8):l7:=⟨c.State,c.Gen,oo c.Val⟩
def sO(s:a7):k7:=⟨s.S.Cells.map cO,s.S.Last,s.Serial⟩
def Sm(s:a7):Prop:=s.S.Cells.length≤30∧∀i (h:i<s.S.Cells.length),s.S.Cells[i].Val.Fields.length≤10
instance(s:a7):Decidable (Sm s):=by unfold Sm;infer_instance
def plc(i:Nat)(c:l7):x4:=⟨c.State,c.Gen,(i:Int)⟩
def pl(t:k7):x8:=⟨t.Cells.mapIdx plc,t.Last⟩
theorem a2V(t:k7)(h:t.Cells.length≤1000):N5 t=some (pl t):=by
 unfold N5;simp only[jn];refine Z4 t.Cells.length (λk acc=>acc=(t.Cells.mapIdx plc).take k) (by omega) (by simp) (λk acc hk hP=>?_) (λacc hP=>?_)
 ·subst hP;refine .inl ⟨_,?_,rfl⟩;simp only[Int.ofNat_lt,hk,decide_true,if_true,o8 hk,d4l];rw[C6 (by omega) (by simp;omega),d4l,k8]
  have e:(t.Cells.mapIdx plc).take (k+1)=(t.Cells.mapIdx plc).take k ++ [plc k t.Cells[k]]:=by
   rw[List.take_add_one,List.getElem?_eq_getElem (by simpa using hk)]
   simp
  rw[e];rfl
 ·subst hP;rw[List.take_of_length_le (by simp)]
  exact⟨t.Cells.mapIdx plc,by simp only[Int.lt_irrefl,decide_false,Bool.false_eq_true,if_false],rfl⟩
theorem c7c(s:x8):a9g s=some (decide (s.Cells.length≤24∧0≤s.Last∧s.Last≤9∧∀i (h:i<s.Cells.length),0≤s.Cells[i].State∧s.Cells[i].State≤3∧0≤s.Cells[i].Gen∧s.Cells[i].Gen≤s.Last)):=by
 unfold a9g;split
 ·rename_i q;rw[decide_eq_false (by simp at q;omega)]
 ·rename_i q;have q:s.Cells.length≤24∧0≤s.Last∧s.Last≤9:=by simp at q;omega
  simp only[jn];refine G2 s.Cells.length (λk=>∀j (h:j<s.Cells.length),j<k→0≤s.Cells[j].State∧s.Cells[j].State≤3∧0≤s.Cells[j].Gen∧s.Cells[j].Gen≤s.Last) (by omega) (λ_ _ h=>by omega) (λk hk hP=>?_) (λhP=>?_)
  ·by_cases g:0≤s.Cells[k].State∧s.Cells[k].State≤3∧0≤s.Cells[k].Gen∧s.Cells[k].Gen≤s.Last
   ·refine .inl ⟨?_,λj h hj=>?_⟩
    ·simp only[Int.ofNat_lt,hk,decide_true,if_true,o8 hk,d4l];rw[if_neg (by simp;omega),k8]
    ·rcases Nat.lt_or_ge j k with q' | q'
     ·exact hP j h q'
     ·have:j=k:=by omega
      subst this;exact g
   ·refine .inr ⟨.inl false,?_,?_⟩
    ·simp only[Int.ofNat_lt,hk,decide_true,if_true,o8 hk,d4l];rw[if_pos (by simp;omega)]
    ·simp only;rw[decide_eq_false (λq'=>g (q'.2.2.2 k hk))]
  ·refine⟨.inr (),by simp,?_⟩
   simp only;rw[decide_eq_true ⟨q.1,q.2.1,q.2.2,λi h=>hP i h h⟩]
def Thr(c:l7):Prop:=c.State=1∨c.State=2
instance(c:l7):Decidable (Thr c):=by unfold Thr;infer_instance
theorem b2j(c:l7):a3X c=some (decide (Thr c)):=by
 unfold a3X;congr 1;rw[Bool.eq_iff_iff,decide_eq_true_iff,Bool.or_eq_true,beq_iff_eq,beq_iff_eq];rfl
def b3L(t:k7)(o:B0):Prop:=1≤o.Serial∧o.Serial≤t.Serial∧0≤o.Strong∧0≤o.Weak ∧ -1≤o.Prog∧o.Prog≤5∧o.Fields.length≤4
def b0Q(o:B0):Prop:=o.Serial=0∧o.Strong=0∧o.Weak=0∧o.Prog=0∧o.Started=false∧o.Fields.length=0
structure RtR (t:k7):Prop where
 len:t.Cells.length≤24
 l0:0≤t.Last
 l9:t.Last≤9
 ser:0≤t.Serial
 cell:∀i (h:i<t.Cells.length),0≤t.Cells[i].State∧t.Cells[i].State≤3∧0≤t.Cells[i].Gen∧t.Cells[i].Gen≤t.Last
 no:∀i (h:i<t.Cells.length),¬Thr t.Cells[i]→b0Q t.Cells[i].Val
 ok:∀i (h:i<t.Cells.length),Thr t.Cells[i]→b3L t t.Cells[i].Val
 dif:∀i (h:i<t.Cells.length) k (hk:k<i),Thr t.Cells[i]→Thr t.Cells[k]→t.Cells[k].Val.Serial≠t.Cells[i].Val.Serial
def c68(t:k7)(i:Nat)(h:i<t.Cells.length):Prop:=
 (¬Thr t.Cells[i]→b0Q t.Cells[i].Val)∧(Thr t.Cells[i]→b3L t t.Cells[i].Val)∧∀k (hk:k<i),Thr t.Cells[i]→Thr t.Cells[k]→t.Cells[k].Val.Serial≠t.Cells[i].Val.Serial
theorem c7d(t:k7)(hl:t.Cells.length≤1000):∃b,a9h t=some b∧(b=true↔RtR t):=by
 unfold a9h;rw[a2V t hl,d4l,c7c,d4l];by_cases hR:(pl t).Cells.length≤24∧0≤(pl t).Last∧(pl t).Last≤9∧∀i (h:i<(pl t).Cells.length),0≤(pl t).Cells[i].State∧(pl t).Cells[i].State≤3∧0≤(pl t).Cells[i].Gen∧(pl t).Cells[i].Gen≤(pl t).Last
 ·by_cases hs:0≤t.Serial
  ·rw[decide_eq_true hR];rw[if_neg (by simp;omega)]
   simp only[jn];have hcell:∀i (h:i<t.Cells.length),0≤t.Cells[i].State∧t.Cells[i].State≤3∧0≤t.Cells[i].Gen∧t.Cells[i].Gen≤t.Last:=λi h=>by
    have:=hR.2.2.2 i (by simpa[pl] using h)
    simpa[pl,plc] using this
   have key:(∀i (h:i<t.Cells.length),c68 t i h)↔RtR t:=by
    constructor
    ·intro q;exact⟨by simpa[pl] using hR.1,hR.2.1,hR.2.2.1,hs,hcell,λi h=>(q i h).1,λi h=>(q i h).2.1,λi h=>(q i h).2.2⟩
    ·intro q i h;exact⟨q.no i h,q.ok i h,q.dif i h⟩
   by_cases hall:∀i (h:i<t.Cells.length),c68 t i h
   ·refine⟨true,?_,by simpa using key.1 hall⟩
    refine G2 t.Cells.length (λ_=>True) (by omega) trivial (λk hk _=>.inl ⟨?_,trivial⟩) (λ_=>⟨.inr (),by simp,rfl⟩)
    obtain⟨q1,q2,q3⟩:=hall k hk;simp only[Int.ofNat_lt,hk,decide_true,if_true,o8 hk,d4l,b2j];by_cases ht:Thr t.Cells[k]
    ·rw[decide_eq_true ht];obtain⟨o1,o2,o3,o4,o5,o6,o7⟩:=q2 ht;rw[if_neg (by simp),if_neg (by simp;omega)]
     refine G2 k (λ_=>True) (by omega) trivial (λj hj _=>.inl ⟨?_,trivial⟩) (λ_=>⟨.inr (),by simp,by rw[k8]⟩)
     have hj':j<t.Cells.length:=by omega
     simp only[Int.ofNat_lt,hj,decide_true,if_true,o8 hj',d4l,b2j];rw[if_neg (by simp only[Bool.and_eq_true,decide_eq_true_eq,beq_iff_eq,not_and];exact λa=>q3 j hj ht a),k8]
    ·rw[decide_eq_false ht];obtain⟨o1,o2,o3,o4,o5,o6⟩:=q1 ht;rw[if_pos (by simp),if_neg (by simp[o1,o2,o3,o4,o5,o6]),k8]
   ·refine⟨false,?_,by simpa using λq=>hall (key.2 q)⟩
    obtain⟨i,⟨hi,hbad⟩,hmin⟩:=a0i (p:=λi=>∃h:i<t.Cells.length,¬c68 t i h) (by
     have:=Classical.not_forall.1 hall;obtain⟨i,q⟩:=this;obtain⟨h,q⟩:=Classical.not_forall.1 q;exact⟨i,h,q⟩)
    refine G2 t.Cells.length (λk=>k≤i) (by omega) (by omega) (λk hk hP=>?_) (λhP=>by omega)
    simp only[Int.ofNat_lt,hk,decide_true,if_true,o8 hk,d4l,b2j];rcases Nat.lt_or_ge k i with g | g
    ·refine .inl ⟨?_,g⟩;have hok:c68 t k hk:=Classical.byContradiction λq=>by have:=hmin k ⟨hk,q⟩;omega
     obtain⟨q1,q2,q3⟩:=hok;by_cases ht:Thr t.Cells[k]
     ·rw[decide_eq_true ht];obtain⟨o1,o2,o3,o4,o5,o6,o7⟩:=q2 ht;rw[if_neg (by simp),if_neg (by simp;omega)]
      refine G2 k (λ_=>True) (by omega) trivial (λj hj _=>.inl ⟨?_,trivial⟩) (λ_=>⟨.inr (),by simp,by rw[k8]⟩)
      have hj':j<t.Cells.length:=by omega
      simp only[Int.ofNat_lt,hj,decide_true,if_true,o8 hj',d4l,b2j];rw[if_neg (by simp only[Bool.and_eq_true,decide_eq_true_eq,beq_iff_eq,not_and];exact λa=>q3 j hj ht a),k8]
     ·rw[decide_eq_false ht];obtain⟨o1,o2,o3,o4,o5,o6⟩:=q1 ht;rw[if_pos (by simp),if_neg (by simp[o1,o2,o3,o4,o5,o6]),k8]
    ·have:k=i:=by omega
     subst this;refine .inr ⟨.inl false,?_,rfl⟩;by_cases ht:Thr t.Cells[k]
     ·rw[decide_eq_true ht];rw[if_neg (by simp)]
      by_cases ho:b3L t t.Cells[k].Val
      ·have ho':=ho;obtain⟨o1,o2,o3,o4,o5,o6,o7⟩:=ho';rw[if_neg (by simp;omega)]
       have:∃j,j<k∧∃h:j<t.Cells.length,Thr t.Cells[j]∧t.Cells[j].Val.Serial=t.Cells[k].Val.Serial:=Classical.byContradiction λq=>hbad ⟨λn=>absurd ht n,λ_=>ho,λj hj _ h2 h3=>q ⟨j,hj,by omega,h2,h3⟩⟩
       obtain⟨j,⟨hj,hj',h2,h3⟩,hjm⟩:=a0i this;refine G2 k (λm=>m≤j) (by omega) (by omega) (λm hm hP2=>?_) (λhP2=>by omega)
       have hm':m<t.Cells.length:=by omega
       simp only[Int.ofNat_lt,hm,decide_true,if_true,o8 hm',d4l,b2j];rcases Nat.lt_or_ge m j with g2 | g2
       ·refine .inl ⟨?_,g2⟩;rw[if_neg (by
         simp only[Bool.and_eq_true,decide_eq_true_eq,beq_iff_eq,not_and];intro a b;have:=hjm m ⟨by omega,hm',a,b⟩
         omega),k8]
       ·have:m=j:=by omega
        subst this;refine .inr ⟨.inl false,?_,rfl⟩;rw[if_pos (by simp only[Bool.and_eq_true,decide_eq_true_eq,beq_iff_eq];exact⟨h2,h3⟩)]
      ·rw[if_pos (by
        unfold b3L at ho;simp only[Bool.or_eq_true,decide_eq_true_eq];omega)]
     ·rw[decide_eq_false ht];rw[if_pos (by simp)]
      have hno:¬b0Q t.Cells[k].Val:=λq=>hbad ⟨λ_=>q,λn=>absurd n ht,λj hj h1 _=>absurd h1 ht⟩;rw[if_pos (by
       unfold b0Q at hno;simp only[Bool.or_eq_true,bne_iff_ne,ne_eq];cases hst:t.Cells[k].Val.Started
       ·simp only[hst,true_and,Bool.false_eq_true,or_false] at hno ⊢;omega
       ·simp)]
  ·refine⟨false,?_,by simp;exact λq=>hs q.ser⟩
   rw[if_pos (by simp;omega)]
 ·refine⟨false,?_,?_⟩;·rw[decide_eq_false hR,if_pos (by simp)]
  ·simp only[Bool.false_eq_true,false_iff];intro q;exact hR ⟨by simpa[pl] using q.len,q.l0,q.l9,λi h=>by have:=q.cell i (by simpa[pl] using h);simpa[pl,plc] using this⟩
end Go.Sh
namespace Go.Sh
theorem c0o{c:Int→Int→Option Int}{xs:List Int}(key:Int→Int)(hc:∀x y,∃r,c x y=some r∧(r<0↔key x<key y))(hl:xs.length<4611686018427387904) :
  ∃ys,b3a c xs=some ys∧ys.Perm xs∧ys.Pairwise (λa b=>key a≤key b):=by
 have hlt:∀x y,Go.Proofs.ltOf (λx y=>(c x y).getD 0) x y=decide (key x<key y):=λx y=>by
  obtain⟨r,h1,h2⟩:=hc x y;show decide ((c x y).getD 0<0)=_;rw[h1,Option.getD_some];exact decide_eq_decide.2 h2
 have hO:Go.Sort.SWO (Go.Proofs.ltOf λx y=>(c x y).getD 0):=by
  refine⟨λx=>?_,λx y z=>?_,λx y z=>?_⟩;·rw[hlt];simp
  ·rw[hlt,hlt,hlt];simp;omega
  ·rw[hlt,hlt,hlt];simp;omega
 have hcond:(∀x y,(c x y).isSome=true)∧Go.Sort.SWO (Go.Proofs.ltOf λx y=>(c x y).getD 0)∧xs.length<4611686018427387904:=⟨λx y=>by
  obtain⟨r,h1,_⟩:=hc x y;rw[h1];rfl,hO,hl⟩
 unfold b3a;rw[if_pos hcond];refine⟨_,rfl,?_⟩;obtain⟨⟨p1,p2,p3⟩,p4⟩:=Go.Sort.pdq_sorts (Go.Proofs.ltOf λx y=>(c x y).getD 0) hO xs.toArray 0 xs.length (Go.Lib.bitLen xs.length) true true (Nat.zero_le _) (by simp) (Or.inl rfl)
 generalize Go.Sort.pdq (Go.Proofs.ltOf λx y=>(c x y).getD 0) xs.toArray 0 xs.length (Go.Lib.bitLen xs.length) true true=d at p1 p2 p3 p4 ⊢;have hs:d.size=xs.length:=by simpa using p1
 refine⟨?_,?_⟩
 ·have e1:d.extract 0 xs.length=d:=by rw[←hs];exact Array.extract_size
  have e2:xs.toArray.extract 0 xs.length=xs.toArray:=by
   simp
  rw[e1,e2] at p3;simpa using p3
 ·rw[List.pairwise_iff_getElem];intro i j hi hj hij;have hi':i<d.size:=by simpa using hi
  have hj':j<d.size:=by simpa using hj
  have:=p4 i j (Nat.zero_le _) hij (by omega)
  rw[hlt,getElem!_pos d j hj',getElem!_pos d i hi'] at this;have:=of_decide_eq_false this;simp only[Array.getElem_toList];omega
def Z0:Nat→List b8→List Int
 | _,[]=>[]
 | k,c::r=>(if c.State=1 then [1+(k:Int)+32*c.Gen] else [])++Z0 (k+1) r
theorem a89(c:b8):∀(k:Nat) (xs:List b8),Z0 k (xs ++ [c])=Z0 k xs++(if c.State=1 then [1+((k+xs.length:Nat):Int)+32*c.Gen] else [])
 | k,[]=>by simp[Z0]
 | k,x::r=>by
  simp only[List.cons_append,Z0,a89 c (k+1) r,List.append_assoc,List.length_cons];rw[show k+1+r.length=k+(r.length+1) by omega]
theorem a5X:∀(k:Nat) (xs:List b8),(Z0 k xs).length≤xs.length
 | _,[]=>by simp[Z0]
 | k,c::r=>by
  have:=a5X (k+1) r;simp only[Z0,List.length_append,List.length_cons];split <;> simp <;> omega
theorem a8g{h:Int}:∀ {k:Nat} {xs:List b8},h∈Z0 k xs↔∃i,∃hi:i<xs.length,xs[i].State=1∧h=1+((k+i:Nat):Int)+32*xs[i].Gen
 | k,[]=>by simp[Z0]
 | k,c::r=>by
  simp only[Z0,List.mem_append,a8g (k:=k+1) (xs:=r)];constructor
  ·rintro (q | ⟨i,hi,q1,q2⟩)
   ·by_cases hc:c.State=1
    ·rw[if_pos hc] at q;exact⟨0,by simp,by simpa using hc,by simpa using q⟩
    ·rw[if_neg hc] at q;cases q
   ·exact⟨i+1,by simpa using hi,by simpa using q1,by simp only[List.getElem_cons_succ];rw[q2,show k+1+i=k+(i+1) by omega]⟩
  ·rintro⟨i,hi,q1,q2⟩;cases i with
   | zero=>
    left;simp only[List.getElem_cons_zero] at q1 q2;rw[if_pos q1];simp[q2]
   | succ i=>
    right;simp only[List.getElem_cons_succ] at q1 q2;exact⟨i,by simpa using hi,q1,by rw[q2,show k+1+i=k+(i+1) by omega]⟩
def sk(cs:List b8)(h:Int):Int:=match cs[((h-1) % 32).toNat]? with
 | some c=>c.Val.Serial
 | none=>0
theorem c0n{cs:List b8}{i:Nat}{g:Int}(h:i<cs.length)(h32:cs.length≤32):sk cs (1+(i:Int)+32*g)=cs[i].Val.Serial:=by
 unfold sk;have:((1+(i:Int)+32*g-1) % 32).toNat=i:=by omega
 rw[this,List.getElem?_eq_getElem h]
structure Slb (cs:List b8):Prop where
 len:cs.length≤24
 gen:∀i (h:i<cs.length),0≤cs[i].Gen∧cs[i].Gen≤9
theorem b6Z{s:a7}(hR:Slb s.S.Cells):∃l,J1 s=some l∧l.Perm (Z0 0 s.S.Cells)∧l.Pairwise (λa b=>sk s.S.Cells a≤sk s.S.Cells b):=by
 have hlen:=hR.len;unfold J1;simp only[jn];have hh:=a5X 0 s.S.Cells;have hloop:∃e:List (Int × Int) × List Int,lp (S:=Int × (List (Int × Int)) × (List Int)) (E:=((List (Int × Int)) × (List Int))) (λ((s23,s24,s25):Int × (List (Int × Int)) × (List Int))=>
   if (decide (s23<(s.S.Cells.length:Int))) then
    ((ix s.S.Cells s23).bind λv35=>
     if (v35.State==1) then
      (a0k s23 v35.Gen).bind λv36=>
      (app 8 s25 [v36]).bind λv37=>
      some (.inl (x6 (s23+1),(r7 s24 v36 v35.Val.Serial),v37))
     else
     some (.inl (x6 (s23+1),s24,s25)))
   else
   some (.inr (s24,s25))) (0,[],[])=some e∧e.2=Z0 0 s.S.Cells∧∀h∈e.2,B4 e.1 h=some (sk s.S.Cells h):=by
  refine a1X (T:=List (Int × Int) × List Int) s.S.Cells.length (λk e=>e.2=Z0 0 (s.S.Cells.take k)∧∀h∈e.2,B4 e.1 h=some (sk s.S.Cells h)) (λe:List (Int × Int) × List Int=>e.2=Z0 0 s.S.Cells∧∀h∈e.2,B4 e.1 h=some (sk s.S.Cells h)) (by omega) ⟨by simp[Z0],by simp⟩ (λk e hk hP=>?_) (λe hP=>?_)
  ·obtain⟨h1,h2⟩:=hP;obtain⟨m,l⟩:=e;simp only at h1 h2;left;have hc:=hR.gen k hk;have hl:l.length≤24:=by rw[h1];have:=a5X 0 (s.S.Cells.take k);simp at this;omega
   have et:s.S.Cells.take (k+1)=s.S.Cells.take k ++ [s.S.Cells[k]]:=by rw[List.take_add_one,List.getElem?_eq_getElem hk];rfl
   have el:(s.S.Cells.take k).length=k:=by simp;omega
   by_cases q:s.S.Cells[k].State=1
   ·refine⟨(r7 m (1+(k:Int)+32*s.S.Cells[k].Gen) s.S.Cells[k].Val.Serial,l ++ [1+(k:Int)+32*s.S.Cells[k].Gen]),?_,?_,?_⟩
    ·simp only[Int.ofNat_lt,hk,decide_true,if_true,o8 hk,d4l,q,beq_self_eq_true];rw[a4c (by omega) (by omega) hc.1 hc.2,d4l,C6 (by omega) (by simp;omega),d4l,k8]
    ·simp only;rw[et,a89,if_pos q,el,h1,Nat.zero_add]
    ·intro h hh;simp only[List.mem_append,List.mem_singleton] at hh ⊢;rw[a9c];rcases hh with hh | rfl
     ·split;·rename_i e;rw[e,c0n hk (by omega)]
      ·exact h2 h hh
     ·rw[if_pos rfl,c0n hk (by omega)]
   ·refine⟨(m,l),?_,?_,h2⟩
    ·simp only[Int.ofNat_lt,hk,decide_true,if_true,o8 hk,d4l];rw[if_neg (by simpa using q),k8]
    ·simp only;rw[et,a89,if_neg q,h1,List.append_nil]
  ·obtain⟨h1,h2⟩:=hP;obtain⟨m,l⟩:=e;refine⟨(m,l),by simp only[Int.lt_irrefl,decide_false,Bool.false_eq_true,if_false],?_,h2⟩
   simpa using h1
 obtain⟨⟨m,l⟩,e1,e2,e3⟩:=hloop;rw[show lp _ _=_ from e1,d4l];simp only at e2 e3 ⊢;subst e2;obtain⟨ys,q1,q2,q3⟩:=c0o (c:=λp q=>a3O p q m) (xs:=Z0 0 s.S.Cells) (λh=>(B4 m h).getD 0) (λx y=>by
  unfold a3O a3q a04;simp only[d4l,bne_self_eq_false,Bool.false_eq_true,if_false];generalize (B4 m x).getD 0=a;generalize (B4 m y).getD 0=b;by_cases h1:a<b
  ·rw[decide_eq_true h1];exact⟨-1,rfl,by simp[h1]⟩
  ·rw[decide_eq_false h1];by_cases h2:a > b
   ·rw[decide_eq_true h2];exact⟨1,rfl,by simp[h1]⟩
   ·rw[decide_eq_false h2];exact⟨0,rfl,by simp[h1]⟩) (by omega)
 refine⟨ys,by rw[q1];rfl,q2,q3.imp_of_mem λ{a b} ha hb hab=>?_⟩
 rw[e3 a (q2.mem_iff.1 ha),e3 b (q2.mem_iff.1 hb)] at hab;simpa using hab
theorem a7i{key:Int→Int}:∀ {l m:List Int},l.Perm m→l.Pairwise (λa b=>key a≤key b)→m.Pairwise (λa b=>key a≤key b)→(∀a∈l,∀b∈l,key a=key b→a=b)→l=m
 | [],m,hp,_,_,_=>(List.nil_perm.1 hp).symm
 | a::l,[],hp,_,_,_=>by simp at hp
 | a::l,b::m,hp,h1,h2,hk=>by
  have ha:=List.pairwise_cons.1 h1;have hb:=List.pairwise_cons.1 h2;have e:a=b:=by
   have m1:b∈a::l:=hp.mem_iff.2 (List.mem_cons_self ..);have m2:a∈b::m:=hp.mem_iff.1 (List.mem_cons_self ..);rcases List.mem_cons.1 m1 with q | q
   ·exact q.symm
   ·rcases List.mem_cons.1 m2 with q' | q'
    ·exact q'
    ·exact hk a (List.mem_cons_self ..) b m1 (Int.le_antisymm (ha.1 b q) (hb.1 a q'))
  subst e;rw[a7i (List.perm_cons a |>.1 hp) ha.2 hb.2 λx hx y hy=>hk x (List.mem_cons_of_mem _ hx) y (List.mem_cons_of_mem _ hy)]
end Go.Sh
namespace Go.Sh
theorem c0G(o:B0)(h:o.Fields.length<4611686018427387904):a6c o o=some true:=by
 unfold a6c;simp only[beq_self_eq_true,Bool.and_self,Bool.true_and,G9];rw[c69 _ _ h,d4l,decide_eq_true rfl]
theorem c3u(t:k7)(h:t.Cells.length<4611686018427387904)(hf:∀i (h:i<t.Cells.length),t.Cells[i].Val.Fields.length<4611686018427387904):b1Q t t=some true:=by
 unfold b1Q;rw[if_neg (by simp)]
 simp only[jn];refine G2 t.Cells.length (λ_=>True) h trivial (λk hk _=>.inl ⟨?_,trivial⟩) (λ_=>⟨.inr (),by simp,rfl⟩)
 simp only[Int.ofNat_lt,hk,decide_true,if_true,o8 hk,d4l,bne_self_eq_false,Bool.or_self,beq_self_eq_true,G9];rw[c0G _ (hf k hk),d4l,if_neg (by simp),k8]
theorem B2(s:a7):(sO s).Cells.length=s.S.Cells.length:=by simp[sO]
theorem c3g(s:a7)(i:Int):ix (sO s).Cells i=(ix s.S.Cells i).map cO:=a1g cO s.S.Cells i
theorem a1o(t:k7):(pl t).Cells.length=t.Cells.length:=by simp[pl]
theorem b9S{t:k7}{k:Nat}(h:k<t.Cells.length):ix (pl t).Cells k=some (plc k t.Cells[k]):=by
 rw[o8 (by simpa[pl] using h)]
 simp[pl]
theorem b0s(s:a7){h:Int}(hh:h≤9223372036854775807):O2 (pl (sO s)) h=u7 s.S h:=by
 unfold O2 u7;rw[a8o,a4e hh,c1z,a5B hh];simp only[d4l,a1o,B2];generalize (if Hnd h then (h-1) % 32 else -1:Int)=v
 generalize (if Hnd h then (h-1) / 32 else -1:Int)=g
 split;·rfl
 ·split;·rfl
  ·rename_i q;have q:0≤v∧v<s.S.Cells.length:=by simp at q;omega
   obtain⟨k,rfl⟩:∃k:Nat,v=k:=⟨v.toNat,by omega⟩
   have hk:k<s.S.Cells.length:=by omega
   rw[b9S (by rw[B2];exact hk),o8 hk]
   simp only[d4l,plc,sO,List.getElem_map,cO]
theorem c6H(s:a7)(hl:s.S.Cells.length≤24){h:Int}(hh:h≤9223372036854775807)(o:k9):N6 (sO s) h (oo o)=(L0 s h o).map λp=>(sO p.1,p.2):=by
 unfold N6 L0;rw[a2V _ (by rw[B2];omega),d4l,b0s s hh]
 rcases a1P s.S hh with ⟨i,hf,e⟩ | ⟨hf,e⟩
 ·obtain⟨hi,e2⟩:=c0m (v:=o) hl hf;rw[e,e2];simp only[d4l,bne_self_eq_false,Bool.false_eq_true,if_false,Option.map_some];unfold a07;rw[Q2 (by omega) (by rw[B2];omega),d4l,o8 (by rw[B2];exact hi),d4l]
  simp[sO,cO,oo,List.map_set]
 ·rw[e,c6I hh hf];simp only[d4l];rw[if_pos (by simpa using a1M h)]
  rfl
end Go.Sh
namespace Go.Sh
theorem a2G{s:a7}(h:RtR (sO s)):s.S.Cells.length≤24:=by have:=h.len;rwa [B2] at this
theorem b8C{s:a7}(h:RtR (sO s))(i:Nat)(hi:i<s.S.Cells.length):0≤s.S.Cells[i].State∧s.S.Cells[i].State≤3∧0≤s.S.Cells[i].Gen∧s.S.Cells[i].Gen≤s.S.Last:=by
 have:=h.cell i (by rw[B2];exact hi)
 simpa[sO,cO] using this
theorem b8D{s:a7}(h:RtR (sO s)):Slb s.S.Cells:=⟨a2G h,λi hi=>by have:=b8C h i hi;have h9:s.S.Last≤9:=h.l9;omega⟩
theorem c6z{s:a7}(h:RtR (sO s))(i:Nat)(hi:i<s.S.Cells.length)(ht:s.S.Cells[i].State=1∨s.S.Cells[i].State=2):b3L (sO s) (oo s.S.Cells[i].Val):=by
 have:=h.ok i (by rw[B2];exact hi)
 simp only[sO,List.getElem_map,cO,Thr] at this;exact this ht
theorem c6y{s:a7}(h:RtR (sO s)){i j:Nat}(hi:i<s.S.Cells.length)(hj:j<s.S.Cells.length)(a:s.S.Cells[i].State=1∨s.S.Cells[i].State=2)(b:s.S.Cells[j].State=1∨s.S.Cells[j].State=2)(e:s.S.Cells[i].Val.Serial=s.S.Cells[j].Val.Serial):i=j:=by
 have key:∀i (hi:i<s.S.Cells.length) j (hj:j<i),(s.S.Cells[i].State=1∨s.S.Cells[i].State=2)→(s.S.Cells[j].State=1∨s.S.Cells[j].State=2)→s.S.Cells[j].Val.Serial≠s.S.Cells[i].Val.Serial:=λi hi j hj a b=>by
  have:=h.dif i (by rw[B2];exact hi) j hj
  simp only[sO,List.getElem_map,cO,Thr,oo] at this;exact this a b
 rcases Nat.lt_trichotomy i j with q | q | q
 ·exact absurd e (key j hj i q b a)
 ·exact q
 ·exact absurd e.symm (key i hi j q a b)
theorem a5W{s:a7}(hR:RtR (sO s)){x:Int}(hx:x∈Z0 0 s.S.Cells):∃i,∃hi:i<s.S.Cells.length,s.S.Cells[i].State=1∧x=1+(i:Int)+32*s.S.Cells[i].Gen∧b2t s.S x i∧sk s.S.Cells x=s.S.Cells[i].Val.Serial∧y5 s x=some (s.S.Cells[i].Val,0):=by
 obtain⟨i,hi,h1,h2⟩:=a8g.1 hx;rw[Nat.zero_add] at h2;have hl:=(a2G hR);have hc:=(b8D hR).gen i hi;have hf:b2t s.S x i:=⟨hi,by unfold Hnd;omega,by omega,by omega,.inl h1⟩
 refine⟨i,hi,h1,h2,hf,by rw[h2];exact c0n hi (by omega),?_⟩
 obtain⟨_,e⟩:=b9t hf;unfold y5;rw[e,if_neg (by omega)]
 rfl
theorem c5n{s:a7}{x:Int}{i:Nat}(hf:b2t s.S x i)(h1:∀hi:i<s.S.Cells.length,s.S.Cells[i].State=1):x∈Z0 0 s.S.Cells:=by
 obtain⟨hi,q1,q2,q3,_⟩:=hf;refine a8g.2 ⟨i,hi,h1 hi,?_⟩;unfold Hnd at q1;rw[Nat.zero_add];omega
theorem b8L{s:a7}(hR:RtR (sO s)){x y:Int}(hx:x∈Z0 0 s.S.Cells)(hy:y∈Z0 0 s.S.Cells)(e:sk s.S.Cells x=sk s.S.Cells y):x=y:=by
 obtain⟨i,hi,a1,a2,_,a4,_⟩:=a5W hR hx;obtain⟨j,hj,b1,b2,_,b4,_⟩:=a5W hR hy;have:=(c6y hR) hi hj (.inl a1) (.inl b1) (by rw[←a4,←b4];exact e)
 subst this;rw[a2,b2]
theorem a6P:∀(k:Nat) (cs:List b8),k+cs.length≤32→(Z0 k cs).Nodup
 | _,[],_=>List.nodup_nil
 | k,c::r,h=>by
  simp only[List.length_cons] at h;unfold Z0;rw[List.nodup_append];refine⟨by split <;> simp,a6P (k+1) r (by omega),λa ha b hb e=>?_⟩
  split at ha
  ·simp only[List.mem_singleton] at ha;subst ha;subst e;obtain⟨i,hi,h1,h2⟩:=a8g.1 hb;have:((1+(k:Int)+32*c.Gen)-1) % 32=((1+((k+1+i:Nat):Int)+32*r[i].Gen)-1) % 32:=by rw[h2]
   omega
  ·cases ha
theorem c2N{s:a7}(hR:RtR (sO s)):∃l,J1 s=some l∧l.Perm (Z0 0 s.S.Cells)∧l.Pairwise (λa b=>sk s.S.Cells a<sk s.S.Cells b):=by
 obtain⟨l,h1,h2,h3⟩:=b6Z (b8D hR);refine⟨l,h1,h2,?_⟩;have hn:l.Nodup:=h2.nodup_iff.2 (a6P 0 _ (by have:=(a2G hR);omega))
 have:=List.Pairwise.and h3 hn;refine this.imp_of_mem λ{a b} ha hb ⟨q1,q2⟩=>?_;rcases Int.lt_or_eq_of_le q1 with q | q
 ·exact q
 ·exact absurd (b8L hR (h2.mem_iff.1 ha) (h2.mem_iff.1 hb) q) q2
end Go.Sh
namespace Go.Sh
theorem b1n:∀(k:Nat) (cs:List b8) (i:Nat) (c:b8) (hi:i<cs.length),cs[i].State≠1→c.State=1→(Z0 k (cs.set i c)).Perm ((1+((k+i:Nat):Int)+32*c.Gen)::Z0 k cs)
 | _,[],i,_,hi,_,_=>by simp at hi
 | k,d::r,0,c,hi,h1,h2=>by
  simp only[List.getElem_cons_zero] at h1;simp only[List.set_cons_zero,Z0,if_pos h2,if_neg h1,List.nil_append,Nat.add_zero];exact List.Perm.refl _
 | k,d::r,i+1,c,hi,h1,h2=>by
  simp only[List.getElem_cons_succ] at h1;simp only[List.set_cons_succ,Z0];have:=b1n (k+1) r i c (by simpa using hi) h1 h2
  rw[show k+1+i=k+(i+1) by omega] at this
  exact (List.Perm.append_left _ this).trans List.perm_middle
theorem d1l{cs:List b8}{i:Nat}{c:b8}{x:Int}(h:((x-1) % 32).toNat≠i):sk (cs.set i c) x=sk cs x:=by
 unfold sk;rw[List.getElem?_set_ne (by omega)]
theorem c1l{s:a7}(hR:RtR (sO s)){i:Nat}(hi:i<s.S.Cells.length)(h0:s.S.Cells[i].State=0)(o:k9)(ho:o.Serial=s.Serial+1){l:List Int}(hl:J1 s=some l) :
  J1 ⟨⟨s.S.Cells.set i ⟨1,s.S.Cells[i].Gen,o⟩,s.S.Last⟩,s.Serial+1⟩=some (l ++ [1+(i:Int)+32*s.S.Cells[i].Gen]):=by
 obtain⟨l',e,l1,l2⟩:=c2N hR;rw[hl] at e;cases e;have hlen:=a2G hR;have hsl:Slb (s.S.Cells.set i ⟨1,s.S.Cells[i].Gen,o⟩):=⟨by simpa using hlen,λj hj=>by
  rw[List.getElem_set];have:=(b8D hR).gen;split;·exact this i hi
  ·exact this j (by simpa using hj)⟩
 obtain⟨m,m1,m2,m3⟩:=b6Z (s:=⟨⟨s.S.Cells.set i ⟨1,s.S.Cells[i].Gen,o⟩,s.S.Last⟩,s.Serial+1⟩) hsl;have hp:=b1n 0 s.S.Cells i ⟨1,s.S.Cells[i].Gen,o⟩ hi (by omega) rfl
 rw[Nat.zero_add] at hp;have hold:∀x∈l,sk (s.S.Cells.set i ⟨1,s.S.Cells[i].Gen,o⟩) x=sk s.S.Cells x∧sk s.S.Cells x≤s.Serial:=λx hx=>by
  obtain⟨j,hj,a1,a2,a3,a4,_⟩:=a5W hR (l1.mem_iff.1 hx);refine⟨d1l ?_,?_⟩
  ·obtain⟨_,_,q,_⟩:=a3;intro e;have:j=i:=by omega
   subst this;omega
  ·rw[a4];exact (c6z hR j hj (.inl a1)).2.1
 have hnew:sk (s.S.Cells.set i ⟨1,s.S.Cells[i].Gen,o⟩) (1+(i:Int)+32*s.S.Cells[i].Gen)=s.Serial+1:=by
  rw[c0n (by simpa using hi) (by simp;omega)]
  simp[ho]
 rw[m1];congr 1;refine a7i (key:=sk (s.S.Cells.set i ⟨1,s.S.Cells[i].Gen,o⟩)) ?_ m3 ?_ ?_
 ·refine m2.trans (hp.trans ?_);refine List.Perm.trans (List.Perm.cons _ l1.symm) ?_;exact (List.perm_append_singleton _ _).symm
 ·rw[List.pairwise_append];refine⟨l2.imp_of_mem λ{a b} ha hb hab=>?_,by simp,λa ha b hb=>?_⟩
  ·rw[(hold a ha).1,(hold b hb).1];omega
  ·rw[List.mem_singleton] at hb;subst hb;rw[hnew,(hold a ha).1];have:=(hold a ha).2;omega
 ·have hm:∀a∈m,a∈l∨a=1+(i:Int)+32*s.S.Cells[i].Gen:=λa ha=>by
   have:=hp.mem_iff.1 (m2.mem_iff.1 ha);rcases List.mem_cons.1 this with q | q
   ·exact .inr q
   ·exact .inl (l1.mem_iff.2 q)
  intro a ha b hb hab;rcases hm a ha with qa | rfl <;> rcases hm b hb with qb | rfl
  ·rw[(hold a qa).1,(hold b qb).1] at hab;exact b8L hR (l1.mem_iff.1 qa) (l1.mem_iff.1 qb) hab
  ·rw[(hold a qa).1,hnew] at hab;have:=(hold a qa).2;omega
  ·rw[(hold b qb).1,hnew] at hab;have:=(hold b qb).2;omega
  ·rfl
end Go.Sh
namespace Go.Sh
instance(t:k7)(o:B0):Decidable (b3L t o):=by unfold b3L;infer_instance
instance(o:B0):Decidable (b0Q o):=by unfold b0Q;infer_instance
theorem b7T(c:b8):J2 c=some (decide (Thr (cO c))):=by
 unfold J2;congr 1;rw[Bool.eq_iff_iff,decide_eq_true_iff,Bool.or_eq_true,beq_iff_eq,beq_iff_eq];rfl
theorem c8s(s:a7)(c:b8):U8 s c=some (decide (Thr (cO c)→b3L (sO s) (oo c.Val))):=by
 unfold U8;rw[b7T,d4l];by_cases h:Thr (cO c)
 ·rw[decide_eq_true h];by_cases q:1≤c.Val.Serial∧c.Val.Serial≤s.Serial∧0≤c.Val.Strong∧0≤c.Val.Weak
  ·have e:(((decide (c.Val.Serial≥1))&&(decide (c.Val.Serial≤s.Serial)))&&(decide (c.Val.Strong≥0))&&(decide (c.Val.Weak≥0)))=true:=by simp;omega
   rw[e];simp only[Bool.not_true,beq_self_eq_true,Bool.and_self,G9,J3,d4l,Bool.false_or,Bool.true_and];congr 1;rw[Bool.eq_iff_iff,decide_eq_true_iff];simp only[Bool.and_eq_true,decide_eq_true_eq,b3L,oo,sO];constructor;·intro k _;omega
   ·intro k;have:=k h;omega
  ·have e:(((decide (c.Val.Serial≥1))&&(decide (c.Val.Serial≤s.Serial)))&&(decide (c.Val.Strong≥0))&&(decide (c.Val.Weak≥0)))=false:=by
    rw[Bool.eq_false_iff];simp only[ne_eq,Bool.and_eq_true,decide_eq_true_eq];omega
   rw[e];rw[show (decide (Thr (cO c)→b3L (sO s) (oo c.Val)))=false by
    rw[decide_eq_false_iff_not];intro k;have:=k h;simp only[b3L,oo,sO] at this;omega]
   rfl
 ·rw[decide_eq_false h,decide_eq_true (λk=>absurd k h)];rfl
theorem d0F(s:a7)(c:b8):O5 s c=some (decide (¬Thr (cO c)→b0Q (oo c.Val))):=by
 unfold O5;rw[b7T,d4l];by_cases h:Thr (cO c)
 ·rw[decide_eq_true h,decide_eq_true (λk=>absurd h k)];rfl
 ·rw[decide_eq_false h];congr 1;rw[Bool.eq_iff_iff,decide_eq_true_iff];simp only[Bool.false_or,Bool.and_eq_true,beq_iff_eq,Bool.not_eq_true',b0Q,oo];constructor;·intro k _;obtain⟨⟨⟨k1,k2,k3,k4,_⟩,k5⟩,k6⟩:=k;exact⟨k1,k2,k3,k4,k5,by omega⟩
  ·intro k;obtain⟨k1,k2,k3,k4,k5,k6⟩:=k h;exact⟨⟨⟨k1,k2,k3,k4,trivial⟩,k5⟩,by omega⟩
def bb(s:a7)(c:b8):Nat→Bool
 | 0=>decide (0≤c.State∧c.State≤3)
 | 1=>decide (0≤c.Gen∧c.Gen≤s.S.Last)
 | 2=>decide (Thr (cO c)→b3L (sO s) (oo c.Val))
 | _=>decide (¬Thr (cO c)→b0Q (oo c.Val))
def rls:List C4:=[(⟨some 338⟩:C4),(⟨some 339⟩:C4),(⟨some 340⟩:C4),(⟨some 341⟩:C4)]
theorem c3f(s:a7)(c:b8){m:Nat}(hm:m<rls.length):b34 rls[m].kept s c=some (bb s c m):=by
 have hm':m<4:=hm;match m,hm' with
 | 0,_=>
  show X5 s c=some (decide (0≤c.State∧c.State≤3));unfold X5;congr 1;rw[Bool.eq_iff_iff,Bool.and_eq_true,decide_eq_true_iff,decide_eq_true_iff,decide_eq_true_iff]
 | 1,_=>
  show M6 s c=some (decide (0≤c.Gen∧c.Gen≤s.S.Last));unfold M6;congr 1;rw[Bool.eq_iff_iff,Bool.and_eq_true,decide_eq_true_iff,decide_eq_true_iff,decide_eq_true_iff]
 | 2,_=>
  show U8 s c=_;rw[c8s];rfl
 | 3,_=>
  show O5 s c=_;rw[d0F];rfl
def Dif(s:a7):Prop:=∀i (h:i<s.S.Cells.length) k (hk:k<i),Thr (cO s.S.Cells[i])→Thr (cO s.S.Cells[k])→s.S.Cells[k].Val.Serial≠s.S.Cells[i].Val.Serial
open Classical in
theorem differ (s:a7) (hl:s.S.Cells.length≤1000):T3 s=some (decide (Dif s)):=by
 unfold T3;simp only[jn];refine Z4 s.S.Cells.length (λk m=>(∀x,(B4 m x).getD false=true↔∃j,∃h:j<s.S.Cells.length,j<k∧Thr (cO s.S.Cells[j])∧s.S.Cells[j].Val.Serial=x) ∧
  ∀i (h:i<s.S.Cells.length) j (hj:j<i),i<k→Thr (cO s.S.Cells[i])→Thr (cO s.S.Cells[j])→s.S.Cells[j].Val.Serial≠s.S.Cells[i].Val.Serial) (by omega) ⟨λx=>⟨λq=>by simp[B4] at q,λ⟨j,h,q,_⟩=>by omega⟩,λi h j hj q=>by omega⟩ (λk m hk hP=>?_) (λm hP=>?_)
 ·obtain⟨h1,h2⟩:=hP;simp only[Int.ofNat_lt,hk,decide_true,if_true,o8 hk,d4l,b7T];by_cases ht:Thr (cO s.S.Cells[k])
  ·rw[decide_eq_true ht];simp only[Bool.not_true,Bool.false_eq_true,if_false];by_cases hd:(B4 m s.S.Cells[k].Val.Serial).getD false=true
   ·right;refine⟨.inl false,by rw[if_pos hd],?_⟩
    simp only;obtain⟨j,hj,q1,q2,q3⟩:=(h1 _).1 hd;rw[decide_eq_false (λq:Dif s=>q k hk j q1 ht q2 q3)]
   ·left;refine⟨_,by rw[if_neg hd,k8],λx=>?_,λi h j hj q a b=>?_⟩
    ·rw[a9c];constructor
     ·intro q;split at q
      ·rename_i e;exact⟨k,hk,by omega,ht,e.symm⟩
      ·obtain⟨j,hj,q1,q2,q3⟩:=(h1 x).1 q;exact⟨j,hj,by omega,q2,q3⟩
     ·rintro⟨j,hj,q1,q2,q3⟩;split;·rfl
      ·rename_i e;refine (h1 x).2 ⟨j,hj,?_,q2,q3⟩;rcases Nat.lt_or_ge j k with q | q
       ·exact q
       ·have:j=k:=by omega
        subst this;exact absurd q3.symm e
    ·rcases Nat.lt_or_ge i k with q' | q'
     ·exact h2 i h j hj q' a b
     ·have:i=k:=by omega
      subst this;exact λe=>hd ((h1 _).2 ⟨j,by omega,hj,b,e⟩)
  ·rw[decide_eq_false ht];left;refine⟨_,by rw[if_pos (by rfl),k8],λx=>?_,λi h j hj q a b=>?_⟩
   ·rw[h1 x];constructor;·rintro⟨j,hj,q1,q2,q3⟩;exact⟨j,hj,by omega,q2,q3⟩
    ·rintro⟨j,hj,q1,q2,q3⟩;refine⟨j,hj,?_,q2,q3⟩;rcases Nat.lt_or_ge j k with q | q
     ·exact q
     ·have:j=k:=by omega
      subst this;exact absurd q2 ht
   ·rcases Nat.lt_or_ge i k with q' | q'
    ·exact h2 i h j hj q' a b
    ·have:i=k:=by omega
     subst this;exact absurd a ht
 ·refine⟨.inr (),by simp only[Int.lt_irrefl,decide_false,Bool.false_eq_true,if_false],?_⟩
  simp only;rw[decide_eq_true (show Dif s from λi h k hk a b=>hP.2 i h k hk h a b)]
end Go.Sh
namespace Go.Sh
open Classical in
theorem b8P (s:a7) (hl:s.S.Cells.length≤1000):a3i s=some (decide (RtR (sO s))):=by
 unfold a3i;by_cases h0:s.S.Cells.length≤24∧0≤s.S.Last∧s.S.Last≤9∧0≤s.Serial
 ·rw[if_neg (by simp;omega)]
  simp only[jn];have key:((∀i (h:i<s.S.Cells.length),∀m,m<4→bb s s.S.Cells[i] m=true)∧Dif s)↔RtR (sO s):=by
   constructor
   ·rintro⟨h1,h2⟩;have at_:∀i (h:i<(sO s).Cells.length),(sO s).Cells[i]=cO (s.S.Cells[i]'(by simpa[sO] using h)):=λi h=>by simp[sO]
    refine⟨by simpa[sO] using h0.1,h0.2.1,h0.2.2.1,h0.2.2.2,λi h=>?_,λi h=>?_,λi h=>?_,λi h k hk=>?_⟩
    ·have hi:i<s.S.Cells.length:=by simpa[sO] using h
     have q0:=of_decide_eq_true (h1 i hi 0 (by omega))
     have q1:=of_decide_eq_true (h1 i hi 1 (by omega))
     rw[at_ i h];exact⟨q0.1,q0.2,q1.1,q1.2⟩
    ·have hi:i<s.S.Cells.length:=by simpa[sO] using h
     rw[at_ i h];exact of_decide_eq_true (h1 i hi 3 (by omega))
    ·have hi:i<s.S.Cells.length:=by simpa[sO] using h
     rw[at_ i h];exact of_decide_eq_true (h1 i hi 2 (by omega))
    ·have hi:i<s.S.Cells.length:=by simpa[sO] using h
     rw[at_ i h,at_ k (by omega)]
     exact h2 i hi k hk
   ·intro q;have at_:∀i (h:i<s.S.Cells.length),(sO s).Cells[i]'(by simpa[sO] using h)=cO s.S.Cells[i]:=λi h=>by simp[sO]
    refine⟨λi h m hm=>?_,λi h k hk a b=>?_⟩
    ·have hi:i<(sO s).Cells.length:=by simpa[sO] using h
     have c:=q.cell i hi;have n:=q.no i hi;have o:=q.ok i hi;rw[at_ i h] at c n o;match m,hm with
     | 0,_=>exact decide_eq_true ⟨c.1,c.2.1⟩
     | 1,_=>exact decide_eq_true ⟨c.2.2.1,c.2.2.2⟩
     | 2,_=>exact decide_eq_true o
     | 3,_=>exact decide_eq_true n
    ·have hi:i<(sO s).Cells.length:=by simpa[sO] using h
     have d:=q.dif i hi k hk;rw[at_ i h,at_ k (by omega)] at d
     exact d a b
  refine G2 s.S.Cells.length (λk=>∀i (h:i<s.S.Cells.length),i<k→∀m,m<4→bb s s.S.Cells[i] m=true) (by omega) (λ_ _ h=>by omega) (λk hk hP=>?_) (λhP=>?_)
  ·have e:a5l=some rls:=rfl;simp only[Int.ofNat_lt,hk,decide_true,if_true,o8 hk,d4l,e];by_cases hall:∀m,m<4→bb s s.S.Cells[k] m=true
   ·refine .inl ⟨?_,λi h q=>?_⟩
    ·refine G2 rls.length (λ_=>True) (by decide) trivial (λm hm _=>.inl ⟨?_,trivial⟩) (λ_=>⟨.inr (),by simp,by rw[k8]⟩)
     simp only[Int.ofNat_lt,hm,decide_true,if_true,o8 hm,d4l,c3f s _ hm];rw[hall m hm,if_neg (by simp),k8 (by have:m<4:=hm;omega)]
    ·rcases Nat.lt_or_ge i k with q' | q'
     ·exact hP i h q'
     ·have:i=k:=by omega
      subst this;exact hall
   ·refine .inr ⟨.inl false,?_,?_⟩
    ·obtain⟨m,⟨hm,hb⟩,hmin⟩:=a0i (p:=λm=>m<4∧bb s s.S.Cells[k] m=false) (by
      obtain⟨m,q⟩:=Classical.not_forall.1 hall;obtain⟨h,q⟩:=Classical.not_forall.1 q;exact⟨m,h,by simpa using q⟩)
     refine G2 rls.length (λj=>j≤m) (by decide) (Nat.zero_le _) (λj hj hP2=>?_) (λhP2=>by have:rls.length=4:=rfl;omega)
     simp only[Int.ofNat_lt,hj,decide_true,if_true,o8 hj,d4l,c3f s _ hj];have hj4:j<4:=hj;rcases Nat.lt_or_ge j m with g | g
     ·refine .inl ⟨?_,g⟩;have:bb s s.S.Cells[k] j=true:=by
       cases hq:bb s s.S.Cells[k] j;·have:=hmin j ⟨hj4,hq⟩;omega
       ·rfl
      rw[this,if_neg (by simp),k8]
     ·have:j=m:=by omega
      subst this;refine .inr ⟨.inl false,?_,rfl⟩;rw[hb,if_pos (by simp)]
    ·simp only;rw[decide_eq_false (λq:RtR (sO s)=>hall λm hm=>(key.2 q).1 k hk m hm)]
  ·refine⟨.inr (),by simp only[Int.lt_irrefl,decide_false,Bool.false_eq_true,if_false],?_⟩
   simp only;rw[differ s hl,d4l];congr 1;rw[decide_eq_decide,←key];exact⟨λq=>⟨λi h=>hP i h h,q⟩,λq=>q.2⟩
 ·rw[if_pos (by simp;omega)]
  rw[decide_eq_false (λq:RtR (sO s)=>h0 ⟨by simpa[sO] using q.len,q.l0,q.l9,q.ser⟩)]
end Go.Sh
namespace Go.Sh
end Go.Sh
namespace Go.Sh
noncomputable def lv(s:a7):List Int:=(J1 s).getD []
def ob(s:a7)(h:Int):k9:=((y5 s h).getD (z0,0)).1
def outs(s:a7)(h:Int):List Int:=nz (ob s h).Fields
def FB(s:a7):Prop:=∀c∈s.S.Cells,∀x∈c.Val.Fields,x≤9223372036854775807
section
variable{s:a7}(hR:RtR (sO s))
include hR
theorem a6X:J1 s=some (lv s)∧(lv s).Perm (Z0 0 s.S.Cells)∧(lv s).Pairwise (λa b=>sk s.S.Cells a<sk s.S.Cells b):=by
 obtain⟨l,h1,h2,h3⟩:=c2N hR;have:lv s=l:=by unfold lv;rw[h1];rfl
 rw[this];exact⟨h1,h2,h3⟩
theorem a9a:J1 s=some (lv s):=(a6X hR).1
theorem b2U{h:Int}:h∈lv s↔h∈Z0 0 s.S.Cells:=(a6X hR).2.1.mem_iff
theorem a1Y:(lv s).length≤24:=by
 rw[(a6X hR).2.1.length_eq];exact Nat.le_trans (a5X 0 s.S.Cells) (a2G hR)
theorem b46:(lv s).Nodup:=(a6X hR).2.1.nodup_iff.2 (a6P 0 _ (by have:=(a2G hR);omega))
theorem a8m{h:Int}(hh:h∈lv s):y5 s h=some (ob s h,0):=by
 obtain⟨i,hi,_,_,_,_,e⟩:=a5W hR ((b2U hR).1 hh);unfold ob;rw[e];rfl
theorem c1j{h:Int}(hh:h∈lv s):∃i,∃hi:i<s.S.Cells.length,s.S.Cells[i].State=1∧h=1+(i:Int)+32*s.S.Cells[i].Gen∧b2t s.S h i∧ob s h=s.S.Cells[i].Val:=by
 obtain⟨i,hi,h1,h2,h3,_,e⟩:=a5W hR ((b2U hR).1 hh);refine⟨i,hi,h1,h2,h3,?_⟩;unfold ob;rw[e];rfl
theorem c1k{h:Int}(hh:h∈lv s):1≤h∧h≤320:=by
 obtain⟨i,hi,_,_,hf,_⟩:=c1j hR hh;exact b40 hf.2.1
theorem c9y{h:Int}(hh:h≤9223372036854775807)(hn:h∉lv s):∃e,e≠0∧y5 s h=some (z0,e):=by
 rcases a1P s.S hh with ⟨i,hf,_⟩ | ⟨hf,_⟩
 ·obtain⟨hi,e⟩:=b9t hf;unfold y5;rw[e];by_cases h2:s.S.Cells[i].State=2
  ·rw[if_pos h2];exact⟨3,by decide,rfl⟩
  ·exact absurd ((b2U hR).2 (c5n hf λ_=>hf.2.2.2.2.resolve_right h2)) hn
 ·unfold y5;rw[c5p hh hf];exact⟨_,a1M h,rfl⟩
theorem b0a{h:Int}(hh:h≤9223372036854775807)(hn:h∉lv s):ob s h=z0:=by
 obtain⟨e,_,h1⟩:=c9y hR hh hn;unfold ob;rw[h1];rfl
theorem W0{h:Int}(hh:h≤9223372036854775807):∃e,y5 s h=some (ob s h,e)∧(e=0↔h∈lv s):=by
 by_cases q:h∈lv s
 ·exact⟨0,a8m hR q,by simp[q]⟩
 ·obtain⟨e,h0,h1⟩:=c9y hR hh q;refine⟨e,?_,by simp[h0,q]⟩
  rw[h1,b0a hR hh q]
theorem c8D{h:Int}(hh:h≤9223372036854775807)(hn:h∉lv s):outs s h = []:=by
 unfold outs;rw[b0a hR hh hn];rfl
theorem b72(h:Int)(hh:h≤9223372036854775807):(ob s h).Fields.length≤4:=by
 by_cases q:h∈lv s
 ·obtain⟨i,hi,h1,_,_,e⟩:=c1j hR q;rw[e];exact (c6z hR i hi (.inl h1)).2.2.2.2.2.2
 ·rw[b0a hR hh q];exact Nat.zero_le _
theorem b5f(h:Int)(hh:h≤9223372036854775807):(outs s h).length≤4:=Nat.le_trans (c1o _) (b72 hR h hh)
end
theorem c8E{s:a7}{h x:Int}(hx:x∈outs s h):x≠0:=(b0y.1 hx).2
theorem a4X(s:a7)(hl:s.S.Cells.length≤1000){h:Int}(hh:h≤9223372036854775807):F9 (sO s) h=(y5 s h).map λp=>(oo p.1,p.2):=by
 unfold F9 y5 D8 b1K;rw[a2V _ (by rw[B2];exact hl),d4l,b0s s hh]
 rcases a1P s.S hh with ⟨i,hf,e⟩ | ⟨hf,e⟩
 ·rw[e];have hi:=hf.1;simp only[d4l,bne_self_eq_false,Bool.false_eq_true,if_false];rw[b9S (by rw[B2];exact hi),o8 hi]
  simp only[d4l,plc,sO,List.getElem_map,cO];split;·rfl
  ·simp only[d4l,bne_self_eq_false,Bool.false_eq_true,if_false];rw[o8 (by simpa using hi)]
   simp[cO,oo]
 ·rw[e];simp only[d4l];have hne:((if h=0 then 2 else 3:Int) != 0)=true:=by simpa using a1M h
  simp only[hne,if_true,d4l];rfl
end Go.Sh
namespace Go.Sh
theorem c6K{s:a7}(hR:RtR (sO s)){l:List Int}(hl:∀x∈l,x∈lv s)(hn:l.length≤100) :
  ∃m,a4o (sO s) l=some m∧m.Perm l∧m.Pairwise (λa b=>sk s.S.Cells a≤sk s.S.Cells b):=by
 have hfind:∀x∈l,∃i:Nat,∃hi:i<s.S.Cells.length,O2 (pl (sO s)) x=some ((i:Int),0)∧s.S.Cells[i].Val.Serial=sk s.S.Cells x:=λx hx=>by
  obtain⟨i,hi,_,_,hf,h4,_⟩:=a5W hR ((b2U hR).1 (hl x hx));refine⟨i,hi,?_,h4.symm⟩;rw[b0s s (by have:=b40 hf.2.1;omega),a85 hf]
 unfold a4o;rw[Q2 (by omega) (by omega),d4l]
 simp only[jn];let K:List Int→Nat→Int:=λo a=>sk s.S.Cells (o.getD a 0)
 have hplain:=a2V (sO s) (by rw[B2];have:=a2G hR;omega)
 have inner:∀(n:Nat) (o:List Int),n<l.length→o.Perm l→(∀a b,a<b→b≤n→b≠n→K o a≤K o b) →
   ∃o',lp (S:=Int × (List Int)) (E:=(List Int)) (λ((s58,s59):Int × (List Int))=>
      if (decide (s58 > 0)) then
       (N5 (sO s)).bind λv62=>
       (ix s59 (x6 (s58-1))).bind λv63=>
       (O2 v62 v63).bind λv64=>
       (ix s59 s58).bind λv65=>
       (O2 v62 v65).bind λv66=>
       (p7 (((decide (v64.1<0))||(decide (v66.1<0)))==false) (⟨0,0,⟨0,0,0,0,false,[]⟩⟩:l7) (ix (sO s).Cells v64.1)).bind λv67=>
       (p7 (((decide (v64.1<0))||(decide (v66.1<0)))==false) (⟨0,0,⟨0,0,0,0,false,[]⟩⟩:l7) (ix (sO s).Cells v66.1)).bind λv68=>
       if (((decide (v64.1<0))||(decide (v66.1<0)))||(decide (v67.Val.Serial≤v68.Val.Serial))) then
        some (.inr s59)
       else
       (ix (s59.set (s58).toNat v63) (x6 (s58-1))).bind λv69=>
       some (.inl (x6 (s58-1),((s59.set (s58).toNat v63).set (x6 (s58-1)).toNat v65)))
      else
      some (.inr s59)) ((n:Int),o)=some o'∧o'.Perm l∧∀a b,a<b→b≤n→K o' a≤K o' b:=by
  intro n o hn' hp hk;have hbn:(n:Int).toNat<4611686018427387904:=by rw[Int.toNat_natCast];omega
  refine b2S (s0:=((n:Int),o)) (λq=>∃k:Nat,q.1=(k:Int)∧k≤n∧q.2.Perm l∧∀a b,a<b→b≤n→b≠k→K q.2 a≤K q.2 b) (λo'=>o'.Perm l∧∀a b,a<b→b≤n→K o' a≤K o' b) (λq=>q.1.toNat) ⟨n,rfl,Nat.le_refl _,hp,hk⟩ hbn ?_;rintro⟨_,o⟩ ⟨k,rfl,hkn,hp,hk⟩;simp only at hp hk ⊢;have hol:o.length=l.length:=hp.length_eq;rcases Nat.eq_zero_or_pos k with rfl | hpos
  ·right;refine⟨o,by rw[if_neg (by simp)],hp,λa b h1 h2=>hk a b h1 h2 (by omega)⟩
  ·obtain⟨j,rfl⟩:∃j,k=j+1:=⟨k-1,by omega⟩
   have hj1:j+1<o.length:=by omega
   have hj:j<o.length:=by omega
   have ew:x6 (((j+1:Nat):Int)-1)=(j:Int):=by rw[F7 (by omega) (by omega)];omega
   obtain⟨ia,hia,fa,ka⟩:=hfind o[j] (hp.mem_iff.1 (List.getElem_mem hj));obtain⟨ib,hib,fb,kb⟩:=hfind o[j+1] (hp.mem_iff.1 (List.getElem_mem hj1));have ea:ix (sO s).Cells (ia:Int)=some (cO s.S.Cells[ia]):=by rw[c3g,o8 hia];rfl
   have eb:ix (sO s).Cells (ib:Int)=some (cO s.S.Cells[ib]):=by rw[c3g,o8 hib];rfl
   have hneg:((decide ((ia:Int)<0))||(decide ((ib:Int)<0)))=false:=by simp
   have hpos':decide (((j+1:Nat):Int) > 0)=true:=by simp
   simp only[hpos',if_true,hplain,ew,o8 hj,o8 hj1,d4l,fa,fb,hneg,beq_self_eq_true,G9,ea,eb,Bool.false_or,cO,oo,ka,kb,Int.toNat_natCast];have Kj:K o j=sk s.S.Cells o[j]:=by simp[K,List.getD,List.getElem?_eq_getElem hj]
   have Kj1:K o (j+1)=sk s.S.Cells o[j+1]:=by simp[K,List.getD,List.getElem?_eq_getElem hj1]
   by_cases hle:sk s.S.Cells o[j]≤sk s.S.Cells o[j+1]
   ·right;refine⟨o,by rw[if_pos (by simpa using hle)],hp,λa b h1 h2=>?_⟩
    by_cases e:b=j+1
    ·subst e;rcases Nat.lt_or_ge a j with q | q
     ·have:=hk a j q (by omega) (by omega)
      omega
     ·have:a=j:=by omega
      subst this;omega
    ·exact hk a b h1 h2 e
   ·left;refine⟨_,by rw[if_neg (by simpa using hle),o8 (by simpa using hj)];rfl,⟨j,rfl,by omega,?_,λa b h1 h2 h3=>?_⟩,by show (j:Int).toNat<((j+1:Nat):Int).toNat;omega⟩
    ·exact (List.set_set_perm hj1 hj).trans hp
    ·have hK:∀c,K ((o.set (j+1) o[j]).set j o[j+1]) c=if c=j then K o (j+1) else if c=j+1 then K o j else K o c:=λc=>by
      simp only[K,List.getD,List.getElem?_set,List.length_set];by_cases c1:c=j
      ·subst c1;simp[hj,List.getElem?_eq_getElem hj1]
      ·by_cases c2:c=j+1
       ·subst c2;simp[hj1,List.getElem?_eq_getElem hj]
       ·rw[if_neg (by omega),if_neg (by omega),if_neg c1,if_neg c2]
     show K ((o.set (j+1) o[j]).set ((j:Nat):Int).toNat o[j+1]) a≤K ((o.set (j+1) o[j]).set ((j:Nat):Int).toNat o[j+1]) b;rw[Int.toNat_natCast,hK,hK];by_cases a1:a=j
     ·subst a1;rw[if_pos rfl];by_cases b2:b=a+1
      ·subst b2;rw[if_neg (by omega),if_pos rfl]
       omega
      ·rw[if_neg (by omega),if_neg b2]
       exact hk (a+1) b (by omega) h2 b2
     ·rw[if_neg a1];by_cases a2:a=j+1
      ·subst a2;rw[if_pos rfl,if_neg (by omega),if_neg (by omega)]
       exact hk j b (by omega) h2 (by omega)
      ·rw[if_neg a2,if_neg h3];by_cases b2:b=j+1
       ·subst b2;rw[if_pos rfl];exact hk a j (by omega) (by omega) (by omega)
       ·rw[if_neg b2];exact hk a b h1 h2 b2
 have outer:∃m,(lp (S:=Int × (List Int)) (E:=(List Int)) (λ((s38,s39):Int × (List Int))=>
   if (decide (s38<(s39.length:Int))) then
     (lp (S:=Int × (List Int)) (E:=(List Int)) (λ((s58,s59):Int × (List Int))=>
      if (decide (s58 > 0)) then
       (N5 (sO s)).bind λv62=>
       (ix s59 (x6 (s58-1))).bind λv63=>
       (O2 v62 v63).bind λv64=>
       (ix s59 s58).bind λv65=>
       (O2 v62 v65).bind λv66=>
       (p7 (((decide (v64.1<0))||(decide (v66.1<0)))==false) (⟨0,0,⟨0,0,0,0,false,[]⟩⟩:l7) (ix (sO s).Cells v64.1)).bind λv67=>
       (p7 (((decide (v64.1<0))||(decide (v66.1<0)))==false) (⟨0,0,⟨0,0,0,0,false,[]⟩⟩:l7) (ix (sO s).Cells v66.1)).bind λv68=>
       if (((decide (v64.1<0))||(decide (v66.1<0)))||(decide (v67.Val.Serial≤v68.Val.Serial))) then
        some (.inr s59)
       else
       (ix (s59.set (s58).toNat v63) (x6 (s58-1))).bind λv69=>
       some (.inl (x6 (s58-1),((s59.set (s58).toNat v63).set (x6 (s58-1)).toNat v65)))
      else
      some (.inr s59)) (s38,s39)).bind λe57=>
     some (.inl (x6 (s38+1),e57))
   else
   some (.inr s39)) (1,l))=some m∧m.Perm l∧m.Pairwise (λa b=>sk s.S.Cells a≤sk s.S.Cells b):=by
  have hb1:l.length+1-(1:Int).toNat<4611686018427387904:=by omega
  refine b2S (s0:=((1:Int),l)) (λq=>∃k:Nat,q.1=(k:Int)∧(k≤l.length∨k=1)∧1≤k∧q.2.Perm l∧∀a b,a<b→b<k→K q.2 a≤K q.2 b) (λ(o':List Int)=>o'.Perm l∧o'.Pairwise (λa b=>sk s.S.Cells a≤sk s.S.Cells b)) (λq=>l.length+1-q.1.toNat) ⟨1,rfl,.inr rfl,by omega,List.Perm.refl _,λa b h1 h2=>by omega⟩ hb1 ?_
  rintro⟨_,o⟩ ⟨k,rfl,hkl,hk1,hp,hk⟩;simp only at hp hk ⊢;have hol:o.length=l.length:=hp.length_eq;rcases Nat.lt_or_ge k l.length with h1 | h1
  ·left;obtain⟨o',e1,e2,e3⟩:=inner k o h1 hp λa b x1 x2 x3=>hk a b x1 (by omega)
   refine⟨(((k+1:Nat):Int),o'),?_,⟨k+1,rfl,by omega,by omega,e2,λa b x1 x2=>e3 a b x1 (by omega)⟩,by show l.length+1-((k+1:Nat):Int).toNat<l.length+1-(k:Int).toNat;omega⟩
   rw[if_pos (by simp;omega),e1,d4l,k8 (by omega)]
  ·right;refine⟨o,by rw[if_neg (by simp;omega)],hp,?_⟩
   rw[List.pairwise_iff_getElem];intro i j hi hj hij;have:=hk i j hij (by omega)
   simpa[K,List.getD,List.getElem?_eq_getElem hi,List.getElem?_eq_getElem hj] using this
 obtain⟨m,e1,e2,e3⟩:=outer;exact⟨m,by rw[show lp _ _=_ from e1];rfl,e2,e3⟩
theorem b7Y{s:a7}(hR:RtR (sO s)):a4n (sO s)=some (lv s):=by
 have hlen:=a2G hR;unfold a4n;simp only[jn];have hloop:lp (S:=Int × (List Int)) (E:=(List Int)) (λ((s18,s19):Int × (List Int))=>
   if (decide (s18<((sO s).Cells.length:Int))) then
     (ix (sO s).Cells s18).bind λv27=>
     if (v27.State==1) then
      (a3e s18 v27.Gen).bind λv28=>
      (app 8 s19 [v28]).bind λv29=>
      some (.inl (x6 (s18+1),v29))
     else
     some (.inl (x6 (s18+1),s19))
   else
   some (.inr s19)) (0,[])=some (Z0 0 s.S.Cells):=by
  refine a3N (a1X (T:=List Int) s.S.Cells.length (λk l=>l=Z0 0 (s.S.Cells.take k)) (λe=>e=Z0 0 s.S.Cells) (by omega) (by simp[Z0]) (λk l hk hP=>?_) (λl hP=>?_))
  ·subst hP;left;have hc:=(b8D hR).gen k hk;have hl:=a5X 0 (s.S.Cells.take k);have et:s.S.Cells.take (k+1)=s.S.Cells.take k ++ [s.S.Cells[k]]:=by rw[List.take_add_one,List.getElem?_eq_getElem hk];rfl
   have el:(s.S.Cells.take k).length=k:=by simp;omega
   refine⟨_,?_,rfl⟩;simp only[B2,Int.ofNat_lt,hk,decide_true,if_true,c3g,o8 hk,Option.map_some,d4l,cO];rw[et,a89,el,Nat.zero_add];by_cases q:s.S.Cells[k].State=1
   ·rw[if_pos (by simpa using q),if_pos q,a5a,d4l,if_pos (by omega),C6 (by omega) (by simp;omega),d4l,k8]
   ·rw[if_neg (by simpa using q),if_neg q,k8,List.append_nil]
  ·subst hP;refine⟨_,by simp only[B2,Int.lt_irrefl,decide_false,Bool.false_eq_true,if_false];rfl,by simp⟩
 rw[show lp _ _=_ from hloop,d4l];obtain⟨m,h1,h2,h3⟩:=c6K hR (l:=Z0 0 s.S.Cells) (λx hx=>(b2U hR).2 hx) (by have:=a5X 0 s.S.Cells;omega)
 rw[h1,d4l];congr 1;obtain⟨_,l2,l3⟩:=a6X hR;exact a7i (key:=sk s.S.Cells) (h2.trans l2.symm) h3 (l3.imp λh=>by omega) λa ha b hb e=>b8L hR (h2.mem_iff.1 ha) (h2.mem_iff.1 hb) e
end Go.Sh
namespace Go.Sh
theorem b9K(v:List Int)(h:v.length≤1000000):a32 v=some (nz v):=by
 unfold a32 a33;simp only[jn,d4l];rw[P7 v (λb x=>if x != 0 then b ++ [x] else b) id (λk b=>b.length≤k) (by omega) (by simp) (λk hk b hb=>?_) (λb _=>?_)]
 ·simp only[d4l,id];rw[foldl_filter];rfl
 ·simp only[Int.ofNat_lt,hk,decide_true,if_true,o8 hk,d4l];by_cases q:(v[k] != 0)=true
  ·rw[if_pos (by simpa using q),if_pos q,C6 (by omega) (by simp;omega),d4l,k8]
   exact⟨rfl,by simp;omega⟩
  ·rw[if_neg (by simpa using q),if_neg q,k8]
   exact⟨rfl,by omega⟩
 ·simp only[Int.lt_irrefl,decide_false,Bool.false_eq_true,if_false];rfl
theorem b5a(v:List Int)(h:v.length≤1000000):a2x v=some (nz v):=by
 unfold a2x;simp only[jn];rw[P7 v (λb x=>if x != 0 then b ++ [x] else b) id (λk b=>b.length≤k) (by omega) (by simp) (λk hk b hb=>?_) (λb _=>?_)]
 ·simp only[d4l,id];rw[foldl_filter];rfl
 ·simp only[Int.ofNat_lt,hk,decide_true,if_true,o8 hk,d4l];by_cases q:(v[k] != 0)=true
  ·rw[if_pos q,if_pos q,C6 (by omega) (by simp;omega),d4l,k8]
   exact⟨rfl,by simp;omega⟩
  ·rw[if_neg q,if_neg q,k8];exact⟨rfl,by omega⟩
 ·simp only[Int.lt_irrefl,decide_false,Bool.false_eq_true,if_false];rfl
theorem a7m(l:List Int)(h:Int)(hl:l.length≤1000000):a1x l h=some (V2 l h:Int):=by
 unfold a1x;simp only[jn];rw[b2R l (λ(b:Int) x=>if (x==h&&h != 0) then b+1 else b) id (λk b=>0≤b∧b≤k) (by omega) (by simp) (λk hk b hb=>?_) (λb _=>?_)]
 ·simp only[d4l,id];rw[a8c];simp
 ·simp only[Int.ofNat_lt,hk,decide_true,if_true,o8 hk,d4l];by_cases q:(l[k]==h&&h != 0)=true
  ·rw[if_pos q,if_pos q,k8,F7 (n:=b+1) (by omega) (by omega)]
   exact⟨rfl,by omega⟩
  ·rw[if_neg q,if_neg q,k8];exact⟨rfl,by omega⟩
 ·simp only[Int.lt_irrefl,decide_false,Bool.false_eq_true,if_false];rfl
theorem count_eq(l:List Int)(h:Int)(hl:l.length≤1000000):a9G l h=some (V2 l h:Int):=by
 unfold a9G a33;simp only[jn,d4l];rw[P7 l (λ(b:Int) x=>if (x==h&&h != 0) then b+1 else b) id (λk b=>0≤b∧b≤k) (by omega) (by simp) (λk hk b hb=>?_) (λb _=>?_)]
 ·simp only[d4l,id];rw[a8c];simp
 ·simp only[Int.ofNat_lt,hk,decide_true,if_true,o8 hk,d4l,Bool.and_false,Bool.false_eq_true,if_false];by_cases q0:l[k]=0
  ·have e1:((l[k] != 0)==true)=false:=by simp[q0]
   have e2:(l[k]==h&&h != 0)=false:=by rw[Bool.eq_false_iff];simp only[ne_eq,Bool.and_eq_true,beq_iff_eq,bne_iff_ne];omega
   rw[e1,e2,k8];exact⟨rfl,by simp;omega⟩
  ·have e1:((l[k] != 0)==true)=true:=by simp[q0]
   rw[e1,if_pos rfl];by_cases q:l[k]=h
   ·have e2:(l[k]==h&&h != 0)=true:=by simp only[Bool.and_eq_true,beq_iff_eq,bne_iff_ne];omega
    rw[e2,if_pos (by simpa using q),if_pos rfl,k8,F7 (n:=b+1) (by omega) (by omega)]
    exact⟨rfl,by omega⟩
   ·have e2:(l[k]==h&&h != 0)=false:=by rw[Bool.eq_false_iff];simp only[ne_eq,Bool.and_eq_true,beq_iff_eq,bne_iff_ne];omega
    rw[e2,if_neg (by simpa using q),k8]
    exact⟨rfl,by simp;omega⟩
 ·simp only[Int.lt_irrefl,decide_false,Bool.false_eq_true,if_false];rfl
theorem c6Q(l:List Int)(h:Int)(hl:l.length≤1000000):a69 l h=some (V2 l h:Int):=by
 unfold a69;rw[count_eq l h hl];rfl
noncomputable def inn(s:a7)(h:Int):Nat:=((lv s).map λx=>V2 (outs s x) h).sum
theorem c2P{s:a7}(hR:RtR (sO s)){k:Nat}(hk:k<(lv s).length):(lv s)[k]≤9223372036854775807:=by
 have:=c1k hR (List.getElem_mem hk);omega
section
variable{s:a7}(hR:RtR (sO s))
include hR
theorem d0T{h:Int}(hh:h≤9223372036854775807):b16 s h=some (outs s h):=by
 obtain⟨e,h1,_⟩:=W0 hR hh;unfold b16;rw[h1,d4l,b9K _ (by have:=b72 hR h hh;simp only;omega)]
 rfl
theorem c58{h:Int}(hh:h≤9223372036854775807):b4f (sO s) h=some (outs s h):=by
 unfold b4f;rw[a4X s (by have:=a2G hR;omega) hh]
 obtain⟨e,h1,h2⟩:=W0 hR hh;rw[h1];simp only[Option.map_some,d4l];by_cases q:e=0
 ·subst q;rw[if_neg (by simp),b5a _ (by have:=b72 hR h hh;simp only[oo];omega)]
  rfl
 ·rw[if_pos (by simpa using q),c8D hR hh (λq'=>q (h2.2 q'))]
theorem c1e(h:Int):inn s h≤96:=by
 have:=c1Z (λx=>V2 (outs s x) h) 4 (lv s) λx hx=>Nat.le_trans (c10 _ _) (b5f hR x (by have:=c1k hR hx;omega))
 have:=a1Y hR;unfold inn;omega
theorem d1Y(h:Int):b4k s h=some (inn s h:Int):=by
 unfold b4k a7a;simp only[jn,d4l];rw[show J1 s=_ from a9a hR,d4l];have hl:=a1Y hR;rw[P7 (lv s) (λ(b:Int) x=>b+(V2 (outs s x) h:Int)) id (λk b=>0≤b∧b≤4*k) (by omega) (by simp) (λk hk b hb=>?_) (λb _=>?_)]
 ·simp only[d4l,id];have:=b0v (λx=>V2 (outs s x) h) (lv s) 0;rw[show ((0:Nat):Int)=0 from rfl] at this;rw[this,Nat.zero_add];rfl
 ·have ho:=d0T hR (c2P hR hk);have hol:=b5f hR _ (c2P hR hk);have ht:=c10 (outs s (lv s)[k]) h;simp only[Int.ofNat_lt,hk,decide_true,if_true,o8 hk,d4l,ho];rw[P7 (outs s (lv s)[k]) (λ(b:Int) x=>if (x==h&&h != 0) then b+1 else b) id (λj c=>b≤c∧c≤b+j) (by omega) (by simp) (λj hj c hc=>?_) (λc _=>?_)]
  ·simp only[d4l,id];rw[a8c,k8];exact⟨rfl,by omega⟩
  ·simp only[Int.ofNat_lt,hj,decide_true,if_true,o8 hj,d4l];have hne:=c8E (List.getElem_mem hj);by_cases q:(outs s (lv s)[k])[j]=h
   ·have e2:((outs s (lv s)[k])[j]==h&&h != 0)=true:=by simp only[Bool.and_eq_true,beq_iff_eq,bne_iff_ne];omega
    rw[e2,if_pos (by simpa using q),if_pos rfl,k8,F7 (n:=c+1) (by omega) (by omega)]
    exact⟨rfl,by omega⟩
   ·have e2:((outs s (lv s)[k])[j]==h&&h != 0)=false:=by rw[Bool.eq_false_iff];simp only[ne_eq,Bool.and_eq_true,beq_iff_eq,bne_iff_ne];omega
    rw[e2,if_neg (by simpa using q),k8]
    exact⟨rfl,by simp;omega⟩
  ·simp only[Int.lt_irrefl,decide_false,Bool.false_eq_true,if_false];rfl
 ·simp only[Int.lt_irrefl,decide_false,Bool.false_eq_true,if_false];rfl
theorem c78(h:Int):b8d (sO s) h=some (inn s h:Int):=by
 unfold b8d;simp only[jn,b7Y hR,d4l];have hl:=a1Y hR;rw[b2R (lv s) (λ(b:Int) x=>b+(V2 (outs s x) h:Int)) id (λk b=>0≤b∧b≤4*k) (by omega) (by simp) (λk hk b hb=>?_) (λb _=>?_)]
 ·simp only[d4l,id];have:=b0v (λx=>V2 (outs s x) h) (lv s) 0;rw[show ((0:Nat):Int)=0 from rfl] at this;rw[this,Nat.zero_add];rfl
 ·have hol:=b5f hR _ (c2P hR hk);have ht:=c10 (outs s (lv s)[k]) h;simp only[Int.ofNat_lt,hk,decide_true,if_true,o8 hk,d4l,c58 hR (c2P hR hk)];rw[a7m _ _ (by omega),d4l,k8,F7 (by omega) (by omega)]
  exact⟨rfl,by omega⟩
 ·simp only[Int.lt_irrefl,decide_false,Bool.false_eq_true,if_false];rfl
end
end Go.Sh
namespace Go.Sh
section
variable{s:a7}(hR:RtR (sO s))(hF:FB s)
include hR hF
end
theorem b1c{α:Type}(p:α→Bool):∀l:List α,l.length=(l.filter p).length+(l.filter λx => !p x).length
 | []=>rfl
 | x::l=>by
  have:=b1c p l;by_cases h:p x
  ·simp[h];omega
  ·simp[h];omega
theorem d2b{s:a7}(hR:RtR (sO s)){l:List Int}(hp:l.Perm (Z0 0 s.S.Cells))(hs:l.Pairwise (λa b=>sk s.S.Cells a<sk s.S.Cells b)):lv s=l:=by
 obtain⟨_,l2,l3⟩:=a6X hR;exact a7i (key:=sk s.S.Cells) (l2.trans hp.symm) (l3.imp λh=>by omega) (hs.imp λh=>by omega) λa ha b hb e=>b8L hR (l2.mem_iff.1 ha) (l2.mem_iff.1 hb) e
end Go.Sh
namespace Go.Sh
inductive Rch (s:a7) (l:List Int):Int→Prop
 | base {h:Int}:h∈l→h∈lv s→Rch s l h
 | step {a b:Int}:Rch s l a→b∈outs s a→b∈lv s→Rch s l b
def Cl(s:a7)(l:List Int):Prop:=∀a∈l,∀b∈outs s a,b∈lv s→b∈l
def LB(l:List Int):Prop:=∀x∈l,x≤9223372036854775807
theorem Rch.live{s:a7}{l:List Int}{h:Int}(q:Rch s l h):h∈lv s:=by cases q <;> assumption
theorem Rch.least{s:a7}{l m:List Int}(hc:Cl s m)(hl:∀x∈l,x∈lv s→x∈m){h:Int}(q:Rch s l h):h∈m:=by
 induction q with
 | base h1 h2=>exact hl _ h1 h2
 | step _ h1 h2 ih=>exact hc _ ih _ h1 h2
theorem filter_lt{α:Type}{p q:α→Bool}:∀ {l:List α},(∀x∈l,p x=true→q x=true)→∀x∈l,q x=true→p x=false→(l.filter p).length<(l.filter q).length
 | [],_,x,hx,_,_=>by cases hx
 | y::l,h,x,hx,h1,h2=>by
  have hle:(l.filter p).length≤(l.filter q).length:=by
   have h':∀x∈l,p x=true→q x=true:=λx hx=>h x (List.mem_cons_of_mem _ hx);clear h hx;induction l with
   | nil=>simp
   | cons z l ih=>
    have:=ih λx hx=>h' x (List.mem_cons_of_mem _ hx);have hz:=h' z (List.mem_cons_self ..);simp only[List.filter_cons];by_cases a:p z=true
    ·rw[if_pos a,if_pos (hz a)];simp only[List.length_cons];omega
    ·rw[if_neg a];split <;> (try simp only[List.length_cons]) <;> omega
  rcases List.mem_cons.1 hx with rfl | hx'
  ·simp only[List.filter_cons,h1,h2,if_true,Bool.false_eq_true,if_false,List.length_cons];omega
  ·have:=filter_lt (λx hx=>h x (List.mem_cons_of_mem _ hx)) x hx' h1 h2;have hy:=h y (List.mem_cons_self ..);simp only[List.filter_cons];by_cases a:p y=true
   ·rw[if_pos a,if_pos (hy a)];simp only[List.length_cons];omega
   ·rw[if_neg a];split <;> (try simp only[List.length_cons]) <;> omega
theorem b1E{l m:List Int}(hn:l.Nodup)(h:∀x∈l,x∈m):l.length≤m.length:=by
 induction l generalizing m with
 | nil=>simp
 | cons x l ih=>
  rw[List.nodup_cons] at hn;have hx:=h x (List.mem_cons_self ..);have:=ih (m:=m.erase x) hn.2 λy hy=>(List.mem_erase_of_ne (λe=>hn.1 (by subst e;exact hy))).2 (h y (List.mem_cons_of_mem _ hy))
  rw[List.length_erase_of_mem hx] at this;have:0<m.length:=List.length_pos_of_mem hx;simp only[List.length_cons];omega
section
variable{s:a7}(hR:RtR (sO s))
include hR
end
end Go.Sh
namespace Go.Sh
theorem c5w(l:List Int)(x:Int)(hl:l.length≤1000000):∃r:Int,R3 l x=some r∧(0≤r↔x∈l):=by
 unfold R3;simp only[jn];by_cases h:x∈l
 ·obtain⟨i,hi,e⟩:=List.mem_iff_getElem.1 h;obtain⟨j,⟨hj,ej⟩,hmin⟩:=a0i (p:=λi=>∃hi:i<l.length,l[i]=x) ⟨i,hi,e⟩;refine⟨(j:Int),?_,by simp[h]⟩
  refine G2 l.length (λk=>k≤j) (by omega) (Nat.zero_le _) (λk hk hP=>?_) (λhP=>by omega)
  simp only[Int.ofNat_lt,hk,decide_true,if_true,o8 hk,d4l];rcases Nat.lt_or_ge k j with q | q
  ·refine .inl ⟨?_,q⟩;rw[if_neg (by
    rw[beq_iff_eq];intro e;have:=hmin k ⟨hk,e.symm⟩;omega),k8]
  ·have:k=j:=by omega
   subst this;exact .inr ⟨_,by rw[if_pos (by simpa using ej.symm)],rfl⟩
 ·refine⟨-1,?_,by simp[h]⟩
  refine G2 l.length (λk=>True) (by omega) trivial (λk hk hP=>.inl ⟨?_,trivial⟩) (λhP=>⟨.inr (),by simp,rfl⟩)
  simp only[Int.ofNat_lt,hk,decide_true,if_true,o8 hk,d4l];rw[if_neg (by
   rw[beq_iff_eq];intro e;exact h (e▸List.getElem_mem hk)),k8]
theorem contains_eq(l:List Int)(x:Int)(hl:l.length≤1000000):N7 l x=some (decide (x∈l)):=by
 obtain⟨r,h1,h2⟩:=c5w l x hl;unfold N7;rw[h1,d4l];congr 1;exact decide_eq_decide.2 h2
theorem c5t(l:List Int)(x:Int)(hl:l.length≤1000000):b4g l x=some (decide (x≠0∧x∈l)):=by
 unfold b4g;rw[a7m l x hl,d4l];congr 1;rw[decide_eq_decide,←a7n];omega
section
variable{s:a7}(hR:RtR (sO s))
include hR
end
end Go.Sh
namespace Go.Sh
abbrev Tb:=List c9
abbrev M1(p:c9):j8:=⟨p.State,p.Key,p.Val⟩
def pt(t:Tb)(j:Nat):c9:=t.getD j ⟨0,0,0⟩
theorem b3p{t:Tb}{j:Nat}(h:j<t.length):pt t j=t[j]:=by unfold pt;rw[List.getD_eq_getElem?_getD,List.getElem?_eq_getElem h];rfl
theorem b41{t:Tb}{j:Nat}(h:j<t.length):ix t (j:Int)=some (pt t j):=by rw[o8 h,b3p h]
theorem b5l{t:Tb}{i:Nat}(h:i<t.length)(p:c9)(j:Nat):pt (t.set i p) j=if j=i then p else pt t j:=by
 unfold pt;rw[List.getD_eq_getElem?_getD,List.getD_eq_getElem?_getD,List.getElem?_set];by_cases e:i=j
 ·subst e;simp[h]
 ·rw[if_neg e,if_neg (Ne.symm e)]
def hm(n:Nat)(k:Int):Nat:=(x6 ((x6 (5*k))+1) % (n:Int)).toNat
theorem c5v{n:Nat}(h:1≤n)(k:Int):hm n k<n:=by
 unfold hm;have h1:=Int.emod_nonneg (x6 ((x6 (5*k))+1)) (show (n:Int)≠0 by omega)
 have h2:=Int.emod_lt_of_pos (x6 ((x6 (5*k))+1)) (show (0:Int)<n by omega)
 omega
theorem b1s{n:Nat}(h:1≤n)(h2:n≤1000)(k:Int):a0I n k=some (hm n k:Int):=by
 unfold a0I hm;rw[if_neg (by simp;omega)]
 generalize x6 ((x6 (5*k))+1)=a;have hp:=Int.emod_nonneg a (show (n:Int)≠0 by omega)
 have hl:=Int.emod_lt_of_pos a (show (0:Int)<n by omega)
 unfold rem;rw[if_neg (by omega),d4l,Int.toNat_of_nonneg hp]
 rw[Int.tmod_eq_emod];split;·rw[show a % (n:Int)-((0:Nat):Int)=a % n by simp,if_neg (by simp;omega)]
 ·have:((n:Int).natAbs:Int)=n:=by simp
  rw[this];rw[if_pos (by simp;omega),F7 (by omega) (by omega)]
  congr 1;omega
def pos(n:Nat)(k:Int)(d:Nat):Nat:=(hm n k+d) % n
theorem a2v{n:Nat}(h:1≤n)(k:Int)(d:Nat):pos n k d<n:=Nat.mod_lt _ h
theorem c9I{n:Nat}(h:1≤n)(h8:n≤8):n=1∨n=2∨n=3∨n=4∨n=5∨n=6∨n=7∨n=8:=by omega
theorem c5P{n m i:Nat}(h:1≤n)(h8:n≤8)(hm:m<n)(hi:i<n):∃d,d<n∧(m+d) % n=i:=by
 refine⟨(i+n-m) % n,Nat.mod_lt _ h,?_⟩;rcases c9I h h8 with rfl | rfl | rfl | rfl | rfl | rfl | rfl | rfl <;> omega
theorem c8l{n m d d':Nat}(h:1≤n)(h8:n≤8)(hd:d<n)(hd':d'<n)(e:(m+d) % n=(m+d') % n):d=d':=by
 rcases c9I h h8 with rfl | rfl | rfl | rfl | rfl | rfl | rfl | rfl <;> omega
theorem b5i{n:Nat}(h:1≤n)(h8:n≤8)(k:Int){i:Nat}(hi:i<n):∃d,d<n∧pos n k d=i:=c5P h h8 (c5v h k) hi
theorem b75{n:Nat}(h:1≤n)(h8:n≤8){k:Int}{d d':Nat}(hd:d<n)(hd':d'<n)(e:pos n k d=pos n k d'):d=d':=c8l h h8 hd hd' e
structure HR (t:Tb):Prop where
 l1:1≤t.length
 l8:t.length≤8
 st:∀i,i<t.length→((pt t i).State=0∨(pt t i).State=1∨(pt t i).State=2)∧((pt t i).State≠1→(pt t i).Key=0∧(pt t i).Val=0)
 uq:∀i j,i<t.length→j<t.length→(pt t i).State=1→(pt t j).State=1→(pt t i).Key=(pt t j).Key→i=j
 rd:∀i,i<t.length→(pt t i).State=1→∀d,d<t.length→(∀d',d'≤d→pos t.length (pt t i).Key d'≠i)→(pt t (pos t.length (pt t i).Key d)).State≠0
def Fk(t:Tb)(k:Int)(i:Nat):Prop:=i<t.length∧(pt t i).State=1∧(pt t i).Key=k
instance(t:Tb)(k:Int)(i:Nat):Decidable (Fk t k i):=by unfold Fk;infer_instance
theorem step_eq{n:Nat}(h:1≤n)(h2:n≤1000)(k:Int){d:Nat}(hd:d<n):rem (x6 ((hm n k:Int)+d)) n=some ((pos n k d:Nat):Int):=by
 have:=c5v h k;rw[F7 (by omega) (by omega),b17 (by omega) (by omega)]
 unfold pos;simp[Int.natCast_emod]
theorem a86{t:Tb}(h1:1≤t.length)(h8:t.length≤8)(k:Int) :
  (∃d,d<t.length∧(∀j,j<d→(pt t (pos t.length k j)).State≠0∧¬Fk t k (pos t.length k j))∧Fk t k (pos t.length k d)∧N3 t k=some ((pos t.length k d:Nat):Int)) ∨
  (∃d,d≤t.length∧(∀j,j<d→(pt t (pos t.length k j)).State≠0∧¬Fk t k (pos t.length k j))∧(d=t.length∨(pt t (pos t.length k d)).State=0)∧N3 t k=some (-1)):=by
 unfold N3;simp only[jn,a3U,d4l];generalize hq:(lp (S:=Int) (E:=Int ⊕ Unit) _ 0)=q;have body:∀d:Nat,d<t.length→(if (decide ((d:Int)<(t.length:Int))) then
    (a0I (t.length:Int) k).bind λv14=>
    (rem (x6 (v14+d)) (t.length:Int)).bind λv15=>
    (ix t v15).bind λv16=>
    if (v16.State==0) then
     some (.inr (.inr ()))
    else
    if ((v16.State==1)&&(v16.Key==k)) then
     some (.inr (.inl v15))
    else
    some (.inl (x6 ((d:Int)+1)))
   else
   some (.inr (.inr ())):Option (Int ⊕ (Int ⊕ Unit)))=if (pt t (pos t.length k d)).State=0 then some (.inr (.inr ())) else if Fk t k (pos t.length k d) then some (.inr (.inl ((pos t.length k d:Nat):Int))) else some (.inl ((d+1:Nat):Int)):=λd hd=>by
  have hp:=a2v h1 k d;rw[if_pos (by simpa using hd),b1s h1 (by omega),d4l,step_eq h1 (by omega) k hd,d4l,b41 hp,d4l,k8 (by omega)]
  by_cases a:(pt t (pos t.length k d)).State=0
  ·rw[if_pos (by simpa using a),if_pos a]
  ·rw[if_neg (by simpa using a),if_neg a]
   by_cases b:Fk t k (pos t.length k d)
   ·rw[if_pos (by simp[b.2.1,b.2.2]),if_pos b]
   ·rw[if_neg (by simp;exact λh1 h2=>b ⟨hp,h1,h2⟩),if_neg b]
 have key:=b60 (f:=λ(s12:Int)=>if (decide (s12<(t.length:Int))) then
    (a0I (t.length:Int) k).bind λv14=>
    (rem (x6 (v14+s12)) (t.length:Int)).bind λv15=>
    (ix t v15).bind λv16=>
    if (v16.State==0) then
     some (.inr (.inr ()))
    else
    if ((v16.State==1)&&(v16.Key==k)) then
     some (.inr (.inl v15))
    else
    some (.inl (x6 (s12+1)))
   else
   some (.inr (.inr ()))) t.length (λd=>∀j,j<d→(pt t (pos t.length k j)).State≠0∧¬Fk t k (pos t.length k j))
   (λ(e:Int ⊕ Unit)=>(∃d,d<t.length∧(∀j,j<d→(pt t (pos t.length k j)).State≠0∧¬Fk t k (pos t.length k j))∧Fk t k (pos t.length k d)∧e = .inl ((pos t.length k d:Nat):Int)) ∨
    (∃d,d≤t.length∧(∀j,j<d→(pt t (pos t.length k j)).State≠0∧¬Fk t k (pos t.length k j))∧(d=t.length∨(pt t (pos t.length k d)).State=0)∧e = .inr ())) (by omega) (λj hj=>by omega)
   (λd hd hP=>by
    rw[body d hd];by_cases a:(pt t (pos t.length k d)).State=0
    ·rw[if_pos a];exact .inr ⟨_,rfl,.inr ⟨d,by omega,hP,.inr a,rfl⟩⟩
    ·rw[if_neg a];by_cases b:Fk t k (pos t.length k d)
     ·rw[if_pos b];exact .inr ⟨_,rfl,.inl ⟨d,hd,hP,b,rfl⟩⟩
     ·rw[if_neg b];refine .inl ⟨rfl,λj hj=>?_⟩;rcases Nat.lt_or_ge j d with q | q
      ·exact hP j q
      ·have:j=d:=by omega
       subst this;exact⟨a,b⟩)
   (λhP=>⟨.inr (),by simp,.inr ⟨t.length,Nat.le_refl _,hP,.inl rfl,rfl⟩⟩)
 obtain⟨e,he,hQ⟩:=key;rw[he] at hq;subst hq;rcases hQ with ⟨d,a1,a2,a3,rfl⟩ | ⟨d,a1,a2,a3,rfl⟩;·exact .inl ⟨d,a1,a2,a3,rfl⟩
 ·exact .inr ⟨d,a1,a2,a3,rfl⟩
theorem a4W{t:Tb}(hR:HR t){k:Int}{i:Nat}(hi:Fk t k i):N3 t k=some (i:Int):=by
 obtain⟨di,hdi,hpi⟩:=b5i hR.l1 hR.l8 k hi.1;have road:∀d,d<di→(pt t (pos t.length k d)).State≠0:=λd hd=>by
  have:=hR.rd i hi.1 hi.2.1 d (by omega) (λd' hd' e=>by
   rw[hi.2.2] at e;have:=b75 hR.l1 hR.l8 (by omega) hdi (e.trans hpi.symm)
   omega)
  rwa [hi.2.2] at this
 rcases a86 hR.l1 hR.l8 k with ⟨d,a1,a2,a3,a4⟩ | ⟨d,a1,a2,a3,a4⟩;·rw[a4,hR.uq _ i (a2v hR.l1 k d) hi.1 a3.2.1 hi.2.1 (by rw[a3.2.2,hi.2.2])]
 ·exfalso;rcases Nat.lt_or_ge di d with q | q
  ·exact (a2 di q).2 (by rw[hpi];exact hi)
  ·rcases a3 with rfl | a3
   ·omega
   ·rcases Nat.lt_or_ge d di with q' | q'
    ·exact road d q' a3
    ·have:d=di:=by omega
     subst this;rw[hpi,hi.2.1] at a3;cases a3
theorem a4V{t:Tb}(h1:1≤t.length)(h8:t.length≤8){k:Int}(hi:∀i,¬Fk t k i):N3 t k=some (-1):=by
 rcases a86 h1 h8 k with ⟨d,a1,a2,a3,a4⟩ | ⟨d,a1,a2,a3,a4⟩;·exact absurd a3 (hi _)
 ·exact a4
theorem b3n(t:Tb)(k:Int):(∃i,Fk t k i)∨∀i,¬Fk t k i:=by
 by_cases h:∃i,Fk t k i
 ·exact .inl h
 ·exact .inr λi hi=>h ⟨i,hi⟩
theorem b51{t:Tb}{i:Nat}(h8:t.length≤1000)(hi:i<t.length)(p:c9):a1v t (i:Int) p=some (t.set i p):=by
 unfold a1v D9;rw[Q2 (by omega) (by omega),d4l,o8 hi,d4l,Int.toNat_natCast]
inductive b3M (t:Tb) (k v:Int):Tb × Int→Prop
 | old (i:Nat) (hi:Fk t k i):b3M t k v (t.set i ⟨1,k,v⟩,0)
 | new (d:Nat) (hn:∀i,¬Fk t k i) (hd:d<t.length) (hb:∀j,j<d→(pt t (pos t.length k j)).State=1) (hf:(pt t (pos t.length k d)).State≠1):b3M t k v (t.set (pos t.length k d) ⟨1,k,v⟩,0)
 | full (hn:∀i,¬Fk t k i) (ha:∀i,i<t.length→(pt t i).State=1):b3M t k v (t,8)
theorem c1x{t:Tb}(hR:HR t)(k v:Int):∃r,a8f t k v=some r∧b3M t k v r:=by
 have h1:=hR.l1;have h8:=hR.l8;unfold a8f;rcases b3n t k with ⟨i,hi⟩ | hn
 ·rw[a4W hR hi,d4l,if_pos (by simp),b51 (by omega) hi.1]
  exact⟨_,rfl,.old i hi⟩
 ·rw[a4V h1 h8 hn,d4l,if_neg (by decide)]
  simp only[jn,a3U,d4l];have key:=b60 (f:=λ(s15:Int)=>
   if (decide (s15<(t.length:Int))) then
    (a0I (t.length:Int) k).bind λv17=>
    (rem (x6 (v17+s15)) (t.length:Int)).bind λv18=>
    (ix t v18).bind λv19=>
    if (v19.State != 1) then
     (a1v t v18 (⟨1,k,v⟩:c9)).bind λv20=>
     some (Sum.inr (.inl (v20,(0:Int))))
    else
    some (.inl (x6 (s15+1)))
   else
   some (.inr (.inr ()))) t.length (λd=>∀j,j<d→(pt t (pos t.length k j)).State=1)
   (λ(e:(Tb × Int) ⊕ Unit)=>(∃r,e = .inl r∧b3M t k v r)∨(e = .inr ()∧b3M t k v (t,8))) (by omega) (λj hj=>by omega)
   (λd hd hP=>by
    have hp:=a2v h1 k d;rw[if_pos (by simpa using hd),b1s h1 (by omega),d4l,step_eq h1 (by omega) k hd,d4l,b41 hp,d4l]
    by_cases a:(pt t (pos t.length k d)).State=1
    ·rw[if_neg (by simpa using a),k8 (by omega)]
     refine .inl ⟨rfl,λj hj=>?_⟩;rcases Nat.lt_or_ge j d with q | q
     ·exact hP j q
     ·have:j=d:=by omega
      subst this;exact a
    ·rw[if_pos (by simpa using a),b51 (by omega) hp,d4l]
     exact .inr ⟨_,rfl,.inl ⟨_,rfl,.new d hn hd hP a⟩⟩)
   (λhP=>⟨.inr (),by simp,.inr ⟨rfl,.full hn λi hi=>by
    obtain⟨d,hd,rfl⟩:=b5i h1 h8 k hi;exact hP d hd⟩⟩)
  obtain⟨e,he,hQ⟩:=key;rw[he,d4l];rcases hQ with ⟨r,rfl,hr⟩ | ⟨rfl,hr⟩;·exact⟨r,rfl,hr⟩
  ·exact⟨_,rfl,hr⟩
theorem c1b{t:Tb}(hR:HR t){k:Int}{i:Nat}(hi:Fk t k i):M0 t k=some ((pt t i).Val,0):=by
 unfold M0;rw[a4W hR hi,d4l,if_neg (by simp),b41 hi.1,d4l]
theorem c1a{t:Tb}(hR:HR t){k:Int}(hi:∀i,¬Fk t k i):M0 t k=some (0,9):=by
 unfold M0;rw[a4V hR.l1 hR.l8 hi,d4l,if_pos (by decide)]
theorem a83{t:Tb}(hR:HR t){k:Int}{i:Nat}(hi:Fk t k i):X8 t k=some (t.set i ⟨2,0,0⟩,(pt t i).Val,0):=by
 have:=hR.l8;unfold X8;rw[a4W hR hi,d4l,if_neg (by simp),b51 (by omega) hi.1,d4l,b41 hi.1,d4l]
theorem a82{t:Tb}(hR:HR t){k:Int}(hi:∀i,¬Fk t k i):X8 t k=some (t,0,9):=by
 unfold X8;rw[a4V hR.l1 hR.l8 hi,d4l,if_pos (by decide)]
theorem HR.set{t:Tb}(hR:HR t){i:Nat}(hi:i<t.length){p:c9}(h0:p.State=1∨p=⟨2,0,0⟩)
  (hu:p.State=1→∀j,j≠i→¬Fk t p.Key j)(hr:p.State=1→∀d,d<t.length→(∀d',d'≤d→pos t.length p.Key d'≠i)→(pt t (pos t.length p.Key d)).State≠0):HR (t.set i p):=by
 have hnz:p.State≠0:=by
  rcases h0 with h | rfl
  ·omega
  ·simp
 refine⟨by simpa using hR.l1,by simpa using hR.l8,λj hj=>?_,λj j' hj hj' s1 s2 hk=>?_,λj hj s1 d hd hne=>?_⟩ <;> simp only[List.length_set] at *
 ·rw[b5l hi];split
  ·rcases h0 with h | rfl
   ·exact⟨.inr (.inl h),λq=>absurd h q⟩
   ·exact⟨.inr (.inr rfl),λ_=>⟨rfl,rfl⟩⟩
  ·exact hR.st j hj
 ·rw[b5l hi] at s1 s2 hk;rw[b5l hi] at hk;by_cases e1:j=i <;> by_cases e2:j'=i
  ·rw[e1,e2]
  ·rw[if_pos e1] at s1 hk;rw[if_neg e2] at s2 hk;exact absurd ⟨hj',s2,hk.symm⟩ (hu s1 j' e2)
  ·rw[if_neg e1] at s1 hk;rw[if_pos e2] at s2 hk;exact absurd ⟨hj,s1,hk⟩ (hu s2 j e1)
  ·rw[if_neg e1] at s1 hk;rw[if_neg e2] at s2 hk;exact hR.uq j j' hj hj' s1 s2 hk
 ·simp only[b5l hi] at s1 hne ⊢;by_cases e1:j=i
  ·simp only[if_pos e1] at s1 hne ⊢;split;·exact hnz
   ·exact hr s1 d hd (by rw[←e1];exact hne)
  ·simp only[if_neg e1] at s1 hne ⊢;split;·exact hnz
   ·exact hR.rd j hj s1 d hd hne
theorem b0D{t:Tb}(hR:HR t){k v:Int}{r:Tb × Int}(h:b3M t k v r):HR r.1:=by
 cases h with
 | old i hi=>
  refine hR.set hi.1 (.inl rfl) (λ_ j hj q=>hj (hR.uq j i q.1 hi.1 q.2.1 hi.2.1 (q.2.2.trans hi.2.2.symm))) λ_ d hd hne=>?_;have:=hR.rd i hi.1 hi.2.1 d hd (by rw[hi.2.2];exact hne)
  rwa [hi.2.2] at this
 | new d hn hd hb hf=>
  refine hR.set (a2v hR.l1 k d) (.inl rfl) (λ_ j _=>hn j) λ_ d' hd' hne=>?_;rcases Nat.lt_or_ge d' d with q | q
  ·have:=hb d' q;simp only;omega
  ·exact absurd rfl (hne d q)
 | full hn ha=>exact hR
theorem a4S{t:Tb}(hR:HR t){i:Nat}(hi:i<t.length):HR (t.set i ⟨2,0,0⟩):=hR.set hi (.inr rfl) (λq=>by cases q) λq=>by cases q
end Go.Sh
namespace Go.Sh
theorem ixm{t:Tb}{j:Nat}(h:j<t.length):ix (t.map M1) (j:Int)=some (M1 (pt t j)):=by rw[a1g,b41 h];rfl
theorem c0h{t:Tb}(h8:t.length≤1000){k:Int}{i:Nat}(hi:Fk t k i)(hf:∀j,j<i→¬Fk t k j):a08 (t.map M1) k=some (i:Int):=by
 unfold a08;simp only[jn];refine G2 t.length (λj=>j≤i) (by omega) (Nat.zero_le _) (λj hj hP=>?_) (λhP=>by have:=hi.1;omega)
 rw[if_pos (by simpa using hj),ixm hj,d4l]
 by_cases e:j=i
 ·subst e;exact .inr ⟨.inl (j:Int),by rw[if_pos (by simp[M1,hi.2.1,hi.2.2])],rfl⟩
 ·have:=hf j (by omega)
  refine .inl ⟨by rw[if_neg (by simp[M1];exact λh1 h2=>this ⟨hj,h1,h2⟩),k8 (by omega)],by omega⟩
theorem c6s{t:Tb}(h8:t.length≤1000){k:Int}(hf:∀j,¬Fk t k j):a08 (t.map M1) k=some (-1):=by
 unfold a08;simp only[jn];refine G2 t.length (λj=>True) (by omega) trivial (λj hj hP=>?_) (λhP=>⟨.inr (),by simp,rfl⟩)
 rw[if_pos (by simpa using hj),ixm hj,d4l]
 refine .inl ⟨by rw[if_neg (by simp[M1];exact λh1 h2=>hf j ⟨hj,h1,h2⟩),k8 (by omega)],trivial⟩
theorem b9q{t:Tb}{k:Int}(h:∃i,Fk t k i):∃i,Fk t k i∧∀j,j<i→¬Fk t k j:=by
 obtain⟨i,h1,h2⟩:=a0i h;exact⟨i,h1,λj hj q=>by have:=h2 j q;omega⟩
theorem b7f{t:Tb}{i:Nat}(h8:t.length≤1000)(hi:i<t.length)(p:c9):a09 (t.map M1) (i:Int) (M1 p)=some ((t.set i p).map M1):=by
 unfold a09;rw[Q2 (by omega) (by simp;omega),d4l,ixm hi,d4l,Int.toNat_natCast,List.map_set]
theorem b5z:b1T=a0I:=rfl
theorem c6w{n:Nat}(h1:1≤n)(h8:n≤8)(k:Int)(d:Nat):rem (x6 (((pos n k d:Nat):Int)+1)) n=some ((pos n k (d+1):Nat):Int):=by
 have:=a2v h1 k d;rw[F7 (by omega) (by omega),b17 (by omega) (by omega)]
 unfold pos;congr 1;have:((hm n k+d) % n+1) % n=(hm n k+(d+1)) % n:=by rw[Nat.mod_add_mod];rfl
 rw[←this];simp[Int.natCast_emod]
theorem b5j{n:Nat}(h1:1≤n)(k:Int):pos n k 0=hm n k:=by
 unfold pos;rw[Nat.add_zero,Nat.mod_eq_of_lt (c5v h1 k)]
theorem d2E{t:Tb}(h1:1≤t.length)(h8:t.length≤8)(k:Int){i di:Nat}(hi:i<t.length)(hdi:di<t.length)(hp:pos t.length k di=i) :
  ∃e,lp (S:=Int) (E:=Bool ⊕ Unit) (λ(s41:Int)=>
      if (s41 != (i:Int)) then
       (ix (t.map M1) s41).bind λv43=>
       if (v43.State==0) then
        some (.inr (.inl false))
       else
       (rem (x6 (s41+1)) (t.length:Int)).bind λv44=>
       some (.inl v44)
      else
      some (.inr (.inr ()))) (hm t.length k:Int)=some e∧((e = .inr ()∧∀d,d<di→(pt t (pos t.length k d)).State≠0)∨(e = .inl false∧∃d,d<di∧(pt t (pos t.length k d)).State=0)):=by
 rw[←b5j h1 k];refine b36 (λd=>((pos t.length k d:Nat):Int)) di (λd=>∀d',d'<d→(pt t (pos t.length k d')).State≠0) _ (by omega) (λd' hd'=>by omega) (λd hd hP=>?_) (λhP=>?_)
 ·have hne:pos t.length k d≠i:=λe=>by
   have:=b75 h1 h8 (by omega) hdi (e.trans hp.symm)
   omega
  have hlt:=a2v h1 k d;rw[if_pos (by simp;omega),ixm hlt,d4l]
  by_cases a:(pt t (pos t.length k d)).State=0
  ·rw[if_pos (by simpa[M1] using a)]
   exact .inr ⟨_,rfl,.inr ⟨rfl,d,hd,a⟩⟩
  ·rw[if_neg (by simpa[M1] using a),c6w h1 h8,d4l]
   refine .inl ⟨rfl,λd' hd'=>?_⟩;rcases Nat.lt_or_ge d' d with q | q
   ·exact hP d' q
   ·have:d'=d:=by omega
    subst this;exact a
 ·rw[if_neg (by simp;omega)]
  exact⟨_,rfl,.inl ⟨rfl,hP⟩⟩
def Ok(t:Tb)(i:Nat):Prop:=((pt t i).State=0∨(pt t i).State=1∨(pt t i).State=2)∧((pt t i).State≠1→(pt t i).Key=0∧(pt t i).Val=0)∧((pt t i).State=1→(∀j,j<i→¬Fk t (pt t i).Key j)∧∀d,d<t.length→(∀d',d'≤d→pos t.length (pt t i).Key d'≠i)→(pt t (pos t.length (pt t i).Key d)).State≠0)
theorem c9r{t:Tb}(h1:1≤t.length)(h8:t.length≤8):HR t↔∀i,i<t.length→Ok t i:=by
 constructor
 ·intro hR i hi;exact⟨(hR.st i hi).1,(hR.st i hi).2,λs=>⟨λj hj q=>by have:=hR.uq j i q.1 hi q.2.1 s q.2.2;omega,hR.rd i hi s⟩⟩
 ·intro hO;refine⟨h1,h8,λi hi=>⟨(hO i hi).1,(hO i hi).2.1⟩,λi j hi hj s1 s2 hk=>?_,λi hi s=>((hO i hi).2.2 s).2⟩;rcases Nat.lt_trichotomy i j with q | q | q
  ·exact absurd ⟨hi,s1,hk⟩ (((hO j hj).2.2 s2).1 i q)
  ·exact q
  ·exact absurd ⟨hj,s2,hk.symm⟩ (((hO i hi).2.2 s1).1 j q)
theorem c4n(t:Tb)(h:t.length≤1000):∃b,a9k (t.map M1)=some b∧(b=true↔HR t):=by
 unfold a9k;rw[List.length_map];by_cases hl:1≤t.length∧t.length≤8
 ·obtain⟨h1,h8⟩:=hl;rw[if_neg (by simp;omega)]
  simp only[jn];suffices hs:∀(b:Bool),(b=true↔HR t)→_=some b by
   by_cases q:HR t
   ·exact⟨true,hs true (by simp[q]),by simp[q]⟩
   ·exact⟨false,hs false (by simp[q]),by simp[q]⟩
  intro b hb;refine G2 t.length (λi=>∀j,j<i→Ok t j) (by omega) (λj hj=>by omega) (λi hi hP=>?_) (λhP=>⟨.inr (),by simp,by
   simp only;rw[hb.2 ((c9r h1 h8).2 hP)]⟩)
  have good:Ok t i→∀j,j<i+1→Ok t j:=λo j hj=>by
   rcases Nat.lt_or_ge j i with q | q
   ·exact hP j q
   ·have:j=i:=by omega
    subst this;exact o
  have bad:¬Ok t i→some false=some b:=λo=>by
   have:b=false:=by
    cases hbb:b with
    | false=>rfl
    | true=>exact absurd ((c9r h1 h8).1 (hb.1 hbb) i hi) o
   rw[this]
  rw[if_pos (by simpa using hi)]
  rw[ixm hi,d4l,k8 (by omega)]
  dsimp only[M1];by_cases a:((pt t i).State=0∨(pt t i).State=1∨(pt t i).State=2)∧((pt t i).State≠1→(pt t i).Key=0∧(pt t i).Val=0)
  ·rw[if_neg (by
    have a1:=a.1;have a2:=a.2;simp only[Bool.or_eq_true,Bool.and_eq_true,decide_eq_true_eq,bne_iff_ne,ne_eq,not_or,not_and];refine⟨⟨by omega,by omega⟩,λq=>?_⟩
    have:=a2 q;omega)]
   by_cases s:(pt t i).State=1
   ·rw[if_neg (by simpa using s)]
    obtain⟨f,hf1,hf2⟩:=b9q (t:=t) (k:=(pt t i).Key) ⟨i,hi,s,rfl⟩;rw[c0h h hf1 hf2,d4l];by_cases e:f=i
    ·rw[e] at hf2;rw[if_neg (by simp[e]),b5z,b1s h1 (by omega),d4l]
     obtain⟨di,hdi,hpi⟩:=b5i h1 h8 (pt t i).Key hi;obtain⟨e,he,hQ⟩:=d2E h1 h8 (pt t i).Key hi hdi hpi;rw[he,d4l];rcases hQ with ⟨rfl,q⟩ | ⟨rfl,d,hd,q⟩
     ·refine .inl ⟨rfl,good ⟨a.1,a.2,λ_=>⟨hf2,λd hd hne=>?_⟩⟩⟩;rcases Nat.lt_or_ge d di with q' | q'
      ·exact q d q'
      ·exact absurd hpi (hne di q')
     ·refine .inr ⟨_,rfl,bad λo=>(o.2.2 s).2 d (by omega) (λd' hd' e=>?_) q⟩
      have:=b75 h1 h8 (by omega) hdi (e.trans hpi.symm)
      omega
    ·rw[if_pos (by simp;omega)]
     refine .inr ⟨_,rfl,bad λo=>?_⟩;rcases Nat.lt_or_ge f i with q | q
     ·exact (o.2.2 s).1 f q hf1
     ·exact hf2 i (by omega) ⟨hi,s,rfl⟩
   ·rw[if_pos (by simpa using s)]
    exact .inl ⟨rfl,good ⟨a.1,a.2,λq=>absurd q s⟩⟩
  ·rw[if_pos (by
    simp only[Bool.or_eq_true,Bool.and_eq_true,decide_eq_true_eq,bne_iff_ne,ne_eq];omega)]
   exact .inr ⟨_,rfl,bad λo=>a ⟨o.1,o.2.1⟩⟩
 ·rw[if_pos (by simp;omega)]
  exact⟨false,rfl,⟨λq=>(by cases q),λhR=>absurd ⟨hR.l1,hR.l8⟩ hl⟩⟩
end Go.Sh
namespace Go.Sh
def Has(t:Tb)(k v:Int):Prop:=∃i,Fk t k i∧(pt t i).Val=v
theorem d0n{t:Tb}{k:Int}:(∀v,¬Has t k v)↔∀i,¬Fk t k i:=by
 constructor;·intro h i hi;exact h _ ⟨i,hi,rfl⟩
 ·rintro h v ⟨i,hi,_⟩;exact h i hi
theorem d0o(t:Tb)(k:Int):(∃v,Has t k v)∨∀v,¬Has t k v:=by
 by_cases h:∃v,Has t k v
 ·exact .inl h
 ·exact .inr λv hv=>h ⟨v,hv⟩
theorem Has.fn{t:Tb}(hR:HR t){k v v':Int}(h:Has t k v)(h':Has t k v'):v=v':=by
 obtain⟨i,a,rfl⟩:=h;obtain⟨j,b,rfl⟩:=h';rw[hR.uq i j a.1 b.1 a.2.1 b.2.1 (a.2.2.trans b.2.2.symm)]
theorem c2F{t:Tb}(hR:HR t){k v:Int}(h:Has t k v):M0 t k=some (v,0):=by
 obtain⟨i,a,rfl⟩:=h;exact c1b hR a
theorem c3Y{t:Tb}(hR:HR t){k:Int}(h:∀v,¬Has t k v):M0 t k=some (0,9):=c1a hR (d0n.1 h)
theorem b7R{t:Tb}{i:Nat}(hi:i<t.length){k v:Int}(p:c9)(h:∀j,j≠i→Fk t p.Key j→p.State≠1)(k' v':Int) :
  Has (t.set i p) k' v'↔(p.State=1∧p.Key=k'∧p.Val=v')∨∃j,j≠i∧Fk t k' j∧(pt t j).Val=v':=by
 unfold Has Fk;simp only[List.length_set,b5l hi];constructor
 ·rintro⟨j,⟨h1,h2,h3⟩,h4⟩;by_cases e:j=i
  ·rw[if_pos e] at h2 h3 h4;exact .inl ⟨h2,h3,h4⟩
  ·rw[if_neg e] at h2 h3 h4;exact .inr ⟨j,e,⟨h1,h2,h3⟩,h4⟩
 ·rintro (⟨h1,h2,h3⟩ | ⟨j,e,⟨h1,h2,h3⟩,h4⟩);·exact⟨i,by simp[hi,h1,h2,h3]⟩
  ·exact⟨j,by simp[e,h1,h2,h3,h4]⟩
theorem b79{t:Tb}(hR:HR t){k v:Int}{r:Tb × Int}(h:b3M t k v r)(h0:r.2=0)(k' v':Int):Has r.1 k' v'↔(k'=k∧v'=v)∨(k'≠k∧Has t k' v'):=by
 cases h with
 | old i hi=>
  rw[b7R (k:=k) (v:=v) hi.1 _ (λj hj q=>absurd (hR.uq j i q.1 hi.1 q.2.1 hi.2.1 (q.2.2.trans hi.2.2.symm)) hj)];constructor
  ·rintro (⟨_,rfl,rfl⟩ | ⟨j,e,h1,h2⟩);·exact .inl ⟨rfl,rfl⟩
   ·refine .inr ⟨λq=>?_,j,h1,h2⟩;subst q;exact e (hR.uq j i h1.1 hi.1 h1.2.1 hi.2.1 (h1.2.2.trans hi.2.2.symm))
  ·rintro (⟨rfl,rfl⟩ | ⟨e,j,h1,h2⟩);·exact .inl ⟨rfl,rfl,rfl⟩
   ·refine .inr ⟨j,λq=>?_,h1,h2⟩;subst q;exact e (h1.2.2.symm.trans hi.2.2)
 | new d hn hd hb hf=>
  rw[b7R (k:=k) (v:=v) (a2v hR.l1 k d) _ (λj hj q=>absurd q (hn j))];constructor
  ·rintro (⟨_,rfl,rfl⟩ | ⟨j,e,h1,h2⟩);·exact .inl ⟨rfl,rfl⟩
   ·refine .inr ⟨λq=>?_,j,h1,h2⟩;subst q;exact hn j h1
  ·rintro (⟨rfl,rfl⟩ | ⟨e,j,h1,h2⟩);·exact .inl ⟨rfl,rfl,rfl⟩
   ·refine .inr ⟨j,λq=>?_,h1,h2⟩;subst q;exact hf h1.2.1
 | full hn ha=>cases h0
theorem b4N{t:Tb}(hR:HR t){k:Int}{i:Nat}(hi:Fk t k i)(k' v':Int):Has (t.set i ⟨2,0,0⟩) k' v'↔k'≠k∧Has t k' v':=by
 rw[b7R (k:=k) (v:=0) hi.1 _ (λj hj q=>by simp)]
 constructor
 ·rintro (⟨h,_⟩ | ⟨j,e,h1,h2⟩);·cases h
  ·refine⟨λq=>?_,j,h1,h2⟩;subst q;exact e (hR.uq j i h1.1 hi.1 h1.2.1 hi.2.1 (h1.2.2.trans hi.2.2.symm))
 ·rintro⟨e,j,h1,h2⟩;refine .inr ⟨j,λq=>?_,h1,h2⟩;subst q;exact e (h1.2.2.symm.trans hi.2.2)
theorem c4o{l:List j8}(h:l.length≤100000):b1V l l=some true:=by
 unfold b1V;rw[if_neg (by simp)]
 simp only[jn];refine G2 l.length (λ_=>True) (by omega) trivial (λk hk _=>.inl ⟨?_,trivial⟩) (λ_=>⟨.inr (),by simp,rfl⟩)
 rw[if_pos (by simpa using hk),o8 hk,d4l,d4l,if_neg (by simp),k8 (by omega)]
theorem c1g{l:List Int}(h:l.length≤100000):a4m l l=some true:=by
 unfold a4m;rw[if_neg (by simp)]
 simp only[jn];refine G2 l.length (λ_=>True) (by omega) trivial (λk hk _=>.inl ⟨?_,trivial⟩) (λ_=>⟨.inr (),by simp,rfl⟩)
 rw[if_pos (by simpa using hk),o8 hk,d4l,d4l,if_neg (by simp),k8 (by omega)]
def keys(t:Tb):List Int:=(t.filter (·.State==1)).map (·.Key)
theorem b4T{α β:Type}(p:α→Bool)(f:α→β)(l:List α)(k:Nat)(h:k<l.length):((l.take (k+1)).filter p).map f=((l.take k).filter p).map f++(if p l[k] then [f l[k]] else []):=by
 rw[List.take_succ_eq_append_getElem h,List.filter_append,List.map_append];congr 1;simp only[List.filter_cons,List.filter_nil];split <;> rfl
theorem keys_eq{t:Tb}(h:t.length≤1000):a5V t=some (keys t):=by
 unfold a5V keys;simp only[jn];refine Z4 t.length (λk l=>l=((t.take k).filter (·.State==1)).map (·.Key)) (by omega) (by simp) ?_ (λl hl=>⟨_,by simp;rfl,by rw[hl,List.take_length]⟩)
 rintro k l hk rfl;left;rw[b4T _ _ _ _ hk];rw[if_pos (by simpa using hk),o8 hk,d4l,k8 (by omega)]
 have hle:(List.map (·.Key) (List.filter (·.State==1) (List.take k t))).length≤1000:=by
  rw[List.length_map];exact Nat.le_trans (List.length_filter_le ..) (by simp;omega)
 by_cases c:(t[k].State==1)=true
 ·rw[if_pos c,if_pos c,C6 (by omega) (by simp only[List.length_cons,List.length_nil];omega),d4l]
  exact⟨_,rfl,rfl⟩
 ·rw[if_neg c,if_neg c];exact⟨_,rfl,by simp⟩
theorem c6u{t:Tb}(h:t.length≤1000):b1U (t.map M1)=some (keys t):=by
 unfold b1U keys;simp only[jn];refine Z4 t.length (λk l=>l=((t.take k).filter (·.State==1)).map (·.Key)) (by omega) (by simp) ?_ (λl hl=>⟨_,by simp;rfl,by rw[hl,List.take_length]⟩)
 rintro k l hk rfl;left;rw[b4T _ _ _ _ hk];rw[if_pos (by simpa using hk),a1g,o8 hk,Option.map_some,d4l,k8 (by omega)]
 have hle:(List.map (·.Key) (List.filter (·.State==1) (List.take k t))).length≤1000:=by
  rw[List.length_map];exact Nat.le_trans (List.length_filter_le ..) (by simp;omega)
 by_cases c:(t[k].State==1)=true
 ·rw[if_pos (by simpa[M1] using c),if_pos c,C6 (by omega) (by simp only[List.length_cons,List.length_nil];omega),d4l]
  exact⟨_,rfl,rfl⟩
 ·rw[if_neg (by simpa[M1] using c),if_neg c]
  exact⟨_,rfl,by simp⟩
theorem b8y{t:Tb}(hR:HR t)(k:Int):a08 (t.map M1) k=N3 t k:=by
 have h8:=hR.l8;rcases b3n t k with ⟨i,hi⟩ | hn
 ·rw[a4W hR hi];obtain⟨f,hf1,hf2⟩:=b9q ⟨i,hi⟩;rw[c0h (by omega) hf1 hf2,hR.uq f i hf1.1 hi.1 hf1.2.1 hi.2.1 (hf1.2.2.trans hi.2.2.symm)]
 ·rw[a4V hR.l1 hR.l8 hn,c6s (by omega) hn]
theorem c6t{t:Tb}(hR:HR t)(k:Int):a9j (t.map M1) k=M0 t k:=by
 unfold a9j M0;rw[b8y hR];rcases b3n t k with ⟨i,hi⟩ | hn;·rw[a4W hR hi,d4l,d4l,if_neg (by simp),if_neg (by simp),ixm hi.1,b41 hi.1];rfl
 ·rw[a4V hR.l1 hR.l8 hn];rfl
theorem c6r{t:Tb}(hR:HR t)(k:Int):a6d (t.map M1) k=(X8 t k).map λr=>(r.1.map M1,r.2):=by
 have h8:=hR.l8;rcases b3n t k with ⟨i,hi⟩ | hn
 ·rw[a83 hR hi];unfold a6d;rw[b8y hR,a4W hR hi,d4l,if_neg (by simp)]
  have:=b7f (t:=t) (by omega) hi.1 ⟨2,0,0⟩
  dsimp only[M1] at this;rw[this,d4l,ixm hi.1];rfl
 ·rw[a82 hR hn];unfold a6d;rw[b8y hR,a4V hR.l1 hR.l8 hn];rfl
theorem d2C{t:Tb}(hR:HR t)(k v:Int){r:Tb × Int}(h:b3M t k v r):b4i (t.map M1) k v=some (r.1.map M1,r.2):=by
 have h1:=hR.l1;have h8:=hR.l8;unfold b4i;rw[b8y hR];have hw:∀i,i<t.length→a09 (t.map M1) (i:Int) ⟨1,k,v⟩=some ((t.set i ⟨1,k,v⟩).map M1):=λi hi=>b7f (t:=t) (by omega) hi ⟨1,k,v⟩
 cases h with
 | old i hi=>
  rw[a4W hR hi,d4l,if_pos (by simp),hw i hi.1]
  rfl
 | new d hn hd hb hf=>
  rw[a4V h1 h8 hn,d4l,if_neg (by decide),List.length_map,b5z,b1s h1 (by omega),d4l]
  simp only[jn];rw[←b5j h1 k];obtain⟨e,he,hQ⟩:=b36 (f:=λ((s15,s16):Int × Int)=>
   if (decide (s16<(t.length:Int))) then
    (ix (t.map M1) s15).bind λv19=>
    if (v19.State != 1) then
     (a09 (t.map M1) s15 (⟨1,k,v⟩:j8)).bind λv20=>
     some (Sum.inr (Sum.inl (β:=Unit) (v20,(0:Int))))
    else
    (rem (x6 (s15+1)) (t.length:Int)).bind λv21=>
    some (Sum.inl (v21,x6 (s16+1)))
   else
   some (Sum.inr (Sum.inr ()))) (λd=>(((pos t.length k d:Nat):Int),(d:Int))) d (λ_=>True) (λe=>e = .inl ((t.set (pos t.length k d) ⟨1,k,v⟩).map M1,0)) (by omega) trivial (λj hj _=>by
    have hp:=a2v h1 k j;dsimp only;rw[if_pos (by simp;omega),ixm hp,d4l,if_neg (by simpa[M1] using hb j hj),c6w h1 h8,d4l,k8 (by omega)]
    exact .inl ⟨rfl,trivial⟩) (λ_=>by
    have hp:=a2v h1 k d;dsimp only;rw[if_pos (by simpa using hd),ixm hp,d4l,if_pos (by simpa[M1] using hf),hw _ hp]
    exact⟨_,rfl,rfl⟩)
  have he':lp _ (((pos t.length k 0:Nat):Int),(0:Int))=some e:=he;rw[he',hQ];rfl
 | full hn ha=>
  rw[a4V h1 h8 hn,d4l,if_neg (by decide),List.length_map,b5z,b1s h1 (by omega),d4l]
  simp only[jn];rw[←b5j h1 k];obtain⟨e,he,hQ⟩:=b36 (f:=λ((s15,s16):Int × Int)=>
   if (decide (s16<(t.length:Int))) then
    (ix (t.map M1) s15).bind λv19=>
    if (v19.State != 1) then
     (a09 (t.map M1) s15 (⟨1,k,v⟩:j8)).bind λv20=>
     some (Sum.inr (Sum.inl (β:=Unit) (v20,(0:Int))))
    else
    (rem (x6 (s15+1)) (t.length:Int)).bind λv21=>
    some (Sum.inl (v21,x6 (s16+1)))
   else
   some (Sum.inr (Sum.inr ()))) (λd=>(((pos t.length k d:Nat):Int),(d:Int))) t.length (λ_=>True) (λe=>e = .inr ()) (by omega) trivial (λj hj _=>by
    have hp:=a2v h1 k j;dsimp only;rw[if_pos (by simp;omega),ixm hp,d4l,if_neg (by simpa[M1] using ha _ hp),c6w h1 h8,d4l,k8 (by omega)]
    exact .inl ⟨rfl,trivial⟩) (λ_=>⟨.inr (),by simp,rfl⟩)
  have he':lp _ (((pos t.length k 0:Nat):Int),(0:Int))=some e:=he;rw[he',hQ];rfl
theorem b5m{t:Tb}{k v:Int}{r:Tb × Int}(h:b3M t k v r):r.1.length=t.length:=by cases h <;> simp
end Go.Sh
namespace Go.Sh
theorem a4h(t:Tb):(keys t).length=t.countP (·.State==1):=by
 unfold keys;rw[List.length_map,List.countP_eq_length_filter]
theorem b1v{t:Tb}{i:Nat}(h:i<t.length)(p:c9):(keys (t.set i p)).length+(if (pt t i).State=1 then 1 else 0)=(keys t).length+if p.State=1 then 1 else 0:=by
 rw[a4h,a4h,List.countP_set h,b3p h];simp only[beq_iff_eq];have:(if t[i].State=1 then 1 else 0)≤t.countP λc=>c.State==1:=by
  split
  ·rename_i e;exact List.countP_pos_iff.2 ⟨t[i],List.getElem_mem h,by simpa using e⟩
  ·exact Nat.zero_le _
 omega
theorem c30{t:Tb}(h:∀i,i<t.length→(pt t i).State=1):(keys t).length=t.length:=by
 rw[a4h,List.countP_eq_length];intro a ha;obtain⟨i,hi,rfl⟩:=List.getElem_of_mem ha;have:=h i hi;rw[b3p hi] at this;simpa using this
theorem c8c{t:Tb}{i:Nat}(hi:i<t.length)(h:(pt t i).State≠1):(keys t).length<t.length:=by
 have h1:(keys t).length≤t.length:=by rw[a4h];exact List.countP_le_length
 rcases Nat.lt_or_ge (keys t).length t.length with q | q
 ·exact q
 ·exfalso;have e:(keys t).length=t.length:=by omega
  rw[a4h,List.countP_eq_length] at e;have:=e t[i] (List.getElem_mem hi);rw[b3p hi] at h;exact h (by simpa using this)
structure TM {V:Type} (φ:V→Int→Prop) (t:Tb) (m:List (Int × V)):Prop where
 R:HR t
 nd:(m.map (·.1)).Nodup
 len:(keys t).length=m.length
 has:∀k,(∀v,Has t k v→∃u,B4 m k=some u∧φ u v)∧((B4 m k).isSome=true→∃v,Has t k v)
theorem TM.some{V:Type}{φ:V→Int→Prop}{t:Tb}{m:List (Int × V)}(h:TM φ t m)(k:Int):(∃v u,Has t k v∧B4 m k=some u∧φ u v)∨(B4 m k=none∧∀v,¬Has t k v):=by
 rcases d0o t k with ⟨v,hv⟩ | hn
 ·obtain⟨u,h1,h2⟩:=(h.has k).1 v hv;exact .inl ⟨v,u,hv,h1,h2⟩
 ·refine .inr ⟨?_,hn⟩;cases hq:B4 m k with
  | none=>rfl
  | some u=>
   obtain⟨v,hv⟩:=(h.has k).2 (by rw[hq];rfl)
   exact absurd hv (hn v)
theorem TM.put{V:Type}{φ:V→Int→Prop}{t:Tb}{m:List (Int × V)}(h:TM φ t m)(k v:Int)(u:V)(hφ:φ u v):∃r,a8f t k v = .some r∧r.1.length=t.length∧((r.2=0∧TM φ r.1 (r7 m k u)∧((B4 m k).isSome=true∨m.length<t.length))∨(r=(t,8)∧(B4 m k)=none∧m.length=t.length)):=by
 obtain⟨r,hr,hp⟩:=c1x h.R k v;refine⟨r,hr,b5m hp,?_⟩;have hRr:=b0D h.R hp;by_cases h0:r.2=0
 ·left;have hh:=b79 h.R hp h0;have hmem:∀k',(∀w,Has r.1 k' w→∃x,B4 (r7 m k u) k' = .some x∧φ x w)∧((B4 (r7 m k u) k').isSome=true→∃w,Has r.1 k' w):=λk'=>by
   rw[a9c];by_cases e:k'=k
   ·subst e;rw[if_pos rfl];refine⟨λw hw=>?_,λ_=>⟨v,(hh _ _).2 (.inl ⟨rfl,rfl⟩)⟩⟩;rcases (hh _ _).1 hw with ⟨_,rfl⟩ | ⟨q,_⟩;·exact⟨u,rfl,hφ⟩
    ·exact absurd rfl q
   ·rw[if_neg e];refine⟨λw hw=>?_,λq=>?_⟩
    ·rcases (hh _ _).1 hw with ⟨q,_⟩ | ⟨_,q⟩;·exact absurd q e
     ·exact (h.has k').1 w q
    ·obtain⟨w,hw⟩:=(h.has k').2 q;exact⟨w,(hh _ _).2 (.inr ⟨e,hw⟩)⟩
  have hlen:(keys r.1).length=(r7 m k u).length∧((B4 m k).isSome=true∨m.length<t.length):=by
   rw[c5Q];cases hp with
   | old i hi=>
    have h1:(B4 m k).isSome=true:=by
     obtain⟨x,h1,_⟩:=(h.has k).1 _ ⟨i,hi,rfl⟩;rw[h1];rfl
    have:=b1v hi.1 ⟨1,k,v⟩;rw[if_pos hi.2.1,if_pos rfl,h.len] at this;rw[if_pos h1];exact⟨by simp only;omega,.inl h1⟩
   | new d hn hd hb hf=>
    have h1:(B4 m k)=none:=by
     rcases h.some k with ⟨w,x,hw,_⟩ | ⟨q,_⟩
     ·obtain⟨i,hi,_⟩:=hw;exact absurd hi (hn i)
     ·exact q
    have hlt:=a2v h.R.l1 k d;have:=b1v hlt ⟨1,k,v⟩;rw[if_neg hf,if_pos rfl,h.len] at this;rw[h1];have h2:=c8c hlt hf;rw[h.len] at h2;exact⟨by simpa using this,.inr h2⟩
   | full hn ha=>cases h0
  exact⟨h0,⟨hRr,c1n h.nd k u,hlen.1,hmem⟩,hlen.2⟩
 ·right;cases hp with
  | old i hi=>exact absurd rfl h0
  | new d hn hd hb hf=>exact absurd rfl h0
  | full hn ha=>
   refine⟨rfl,?_,?_⟩
   ·rcases h.some k with ⟨w,x,hw,_⟩ | ⟨q,_⟩
    ·obtain⟨i,hi,_⟩:=hw;exact absurd hi (hn i)
    ·exact q
   ·rw[←h.len,c30 ha]
theorem TM.drop{V:Type}{φ:V→Int→Prop}{t:Tb}{m:List (Int × V)}(h:TM φ t m)(k:Int):(∃r v u,X8 t k = .some (r,v,0)∧r.length=t.length∧B4 m k = .some u∧φ u v∧TM φ r (b2W m k))∨(X8 t k = .some (t,0,9)∧B4 m k=none∧b2W m k=m):=by
 rcases b3n t k with ⟨i,hi⟩ | hn
 ·left;obtain⟨u,h1,h2⟩:=(h.has k).1 _ ⟨i,hi,rfl⟩;refine⟨_,_,u,a83 h.R hi,by simp,h1,h2,a4S h.R hi.1,(c5K m k).nodup h.nd,?_,λk'=>?_⟩
  ·have:=b1v hi.1 ⟨2,0,0⟩;rw[if_pos hi.2.1,if_neg (by decide),h.len] at this
   rw[c5J,h1];simp only[Option.isSome_some,if_true];omega
  ·have hh:=b4N h.R hi;rw[c34 h.nd];by_cases e:k'=k
   ·subst e;rw[if_pos rfl];exact⟨λw hw=>absurd rfl ((hh _ _).1 hw).1,λq=>by cases q⟩
   ·rw[if_neg e];refine⟨λw hw=>(h.has k').1 w ((hh _ _).1 hw).2,λq=>?_⟩;obtain⟨w,hw⟩:=(h.has k').2 q;exact⟨w,(hh _ _).2 ⟨e,hw⟩⟩
 ·right;have h1:B4 m k=none:=by
   rcases h.some k with ⟨w,x,hw,_⟩ | ⟨q,_⟩
   ·obtain⟨i,hi,_⟩:=hw;exact absurd hi (hn i)
   ·exact q
  refine⟨a82 h.R hn,h1,?_⟩;have:∀(l:List (Int × V)),B4 l k=none→b2W l k=l:=by
   intro l;induction l with
   | nil=>intro _;rfl
   | cons p l ih=>
    intro q;unfold B4 at q;unfold b2W;by_cases e:k=p.1
    ·rw[if_pos (by simpa using e)] at q;cases q
    ·rw[if_neg (by simpa using e)] at q
     rw[if_neg (by simpa using e),ih q]
  exact this m h1
theorem d0E{n:Nat}(h1:1≤n)(h8:n≤8):b1k (n:Int)=some (List.replicate n ⟨0,0,0⟩):=by
 unfold b1k;rw[if_neg (by simp;omega),b48 (by omega) (by omega)]
 rfl
theorem b5k{n j:Nat}:pt (List.replicate n ⟨0,0,0⟩) j=⟨0,0,0⟩:=by
 unfold pt;rw[List.getD_eq_getElem?_getD,List.getElem?_replicate];split <;> rfl
theorem d1u{V:Type}(φ:V→Int→Prop){n:Nat}(h1:1≤n)(h8:n≤8):TM φ (List.replicate n ⟨0,0,0⟩) []:=by
 refine⟨⟨by simpa using h1,by simpa using h8,λi hi=>?_,λi j hi hj s=>?_,λi hi s=>?_⟩,by simp,?_,λk=>⟨λv hv=>?_,λq=>by cases q⟩⟩
 ·rw[b5k];exact⟨.inl rfl,λ_=>⟨rfl,rfl⟩⟩
 ·rw[b5k] at s;cases s
 ·rw[b5k] at s;cases s
 ·rw[a4h,List.countP_replicate];rfl
 ·obtain⟨i,hi,_⟩:=hv;have:=hi.2.1;rw[b5k] at this;cases this
end Go.Sh
namespace Go.Sh
abbrev pp(p:m7):D3:=⟨p.Key,p.Val⟩
def prs(t:Tb):List m7:=(t.filter (·.State==1)).map λp=>⟨p.Key,p.Val⟩
theorem b1u(t:Tb):keys t=(prs t).map (·.Key):=by
 unfold keys prs;rw[List.map_map];rfl
theorem a0M(t:Tb):(prs t).length=(keys t).length:=by rw[b1u,List.length_map]
theorem b0C{t:Tb}(h:t.length≤8):(prs t).length≤8:=by
 rw[a0M,a4h];exact Nat.le_trans List.countP_le_length h
theorem a49{t:Tb}{p:m7}:p∈prs t↔Has t p.Key p.Val:=by
 unfold prs Has;rw[List.mem_map];constructor
 ·rintro⟨q,hq,rfl⟩;obtain⟨h1,h2⟩:=List.mem_filter.1 hq;obtain⟨i,hi,rfl⟩:=List.getElem_of_mem h1;refine⟨i,⟨hi,?_,?_⟩,?_⟩ <;> rw[b3p hi]
  simpa using h2
 ·rintro⟨i,⟨hi,h1,h2⟩,h3⟩;rw[b3p hi] at h1 h2 h3;refine⟨t[i],List.mem_filter.2 ⟨List.getElem_mem hi,by simpa using h1⟩,?_⟩
  cases p;simp at h2 h3 ⊢;exact⟨h2,h3⟩
theorem b78{t:Tb}(hR:HR t){j:Nat}(h:j<(prs t).length):M0 t (prs t)[j].Key=some ((prs t)[j].Val,0):=c2F hR (a49.1 (List.getElem_mem h))
theorem c9f{E R:Type}{x:Option E}{r:E}{κ:E→Option R}{y:Option R}(h:x=some r)(hy:κ r=y):((x.bind λe=>some e).bind κ)=y:=by rw[h];exact hy
theorem c6f{t:Tb}(hR:HR t):a4U t=some (prs t):=by
 have h8:=hR.l8;have hp:=b0C h8;unfold a4U A7 a1t a2P;simp only[jn,d4l];rw[keys_eq (by omega),d4l]
 refine c9f (a3N (a1X (prs t).length (λk l=>l=(prs t).take k) (λe=>e=prs t) (by omega) (by simp) ?_ ?_)) rfl
 ·rintro k l hk rfl;refine .inl ⟨_,?_,rfl⟩;dsimp only;rw[if_pos (by rw[←a0M];simpa using hk),o8 (by rw[←a0M];exact hk),d4l]
  have e:(keys t)[k]'(by rw[←a0M];exact hk)=(prs t)[k].Key:=by simp[b1u]
  rw[e,b78 hR hk,d4l,if_pos (by trivial),C6 (by omega) (by simp;omega),d4l,k8 (by omega),List.take_succ_eq_append_getElem hk]
 ·rintro l rfl;exact⟨_,by rw[←a0M];simp;rfl,by simp⟩
theorem b7c{t:Tb}(hR:HR t):a6e (t.map M1)=some ((prs t).map pp):=by
 have h8:=hR.l8;have hp:=b0C h8;unfold a6e;simp only[jn];rw[c6u (by omega),d4l]
 refine Z4 (prs t).length (λk l=>l=((prs t).take k).map pp) (by omega) (by simp) ?_ (λl hl=>⟨_,by rw[←a0M];simp;rfl,by rw[hl,List.take_length]⟩)
 rintro k l hk rfl;refine .inl ⟨_,?_,rfl⟩;rw[if_pos (by rw[←a0M];simpa using hk),o8 (by rw[←a0M];exact hk),d4l]
 have e:(keys t)[k]'(by rw[←a0M];exact hk)=(prs t)[k].Key:=by simp[b1u]
 rw[e,c6t hR,b78 hR hk,d4l,C6 (by omega) (by simp;omega),d4l,k8 (by omega),List.take_succ_eq_append_getElem hk,List.map_append]
 rfl
def own(t:Tb)(h:Int):Nat:=(prs t).countP λp=>(h != 0)&&(p.Val==h)
theorem c6a{t:Tb}(hR:HR t)(h:Int):a4T t h=some (own t h:Int):=by
 have h8:=hR.l8;have hp:=b0C h8;unfold a4T A6 a1t a2O;simp only[jn,d4l];rw[keys_eq (by omega),d4l]
 refine c9f (r:=(prs t).filter λp=>(h != 0)&&(p.Val==h)) (a3N (a1X (prs t).length (λk l=>l=((prs t).take k).filter λp=>(h != 0)&&(p.Val==h)) (λe=>e=(prs t).filter λp=>(h != 0)&&(p.Val==h)) (by omega) (by simp) ?_ ?_)) (by unfold own;rw[List.countP_eq_length_filter])
 ·rintro k l hk rfl;refine .inl ⟨((prs t).take (k+1)).filter λp=>(h != 0)&&(p.Val==h),?_,rfl⟩;dsimp only;rw[if_pos (by rw[←a0M];simpa using hk),o8 (by rw[←a0M];exact hk),d4l]
  have e:(keys t)[k]'(by rw[←a0M];exact hk)=(prs t)[k].Key:=by simp[b1u]
  have hle:(((prs t).take k).filter λp=>(h != 0)&&(p.Val==h)).length≤8:=Nat.le_trans (List.length_filter_le ..) (by simp;omega)
  rw[e,b78 hR hk,d4l,k8 (by omega),List.take_succ_eq_append_getElem hk,List.filter_append,List.filter_cons,List.filter_nil]
  by_cases c:((h != 0)&&((prs t)[k].Val==h))=true
  ·rw[if_pos c,if_pos c,C6 (by omega) (by simp only[List.length_cons,List.length_nil];omega),d4l]
  ·rw[if_neg c,if_neg c,List.append_nil]
 ·rintro l rfl;exact⟨_,by rw[←a0M];simp;rfl,by simp⟩
theorem c4m{t:Tb}(hR:HR t)(h:Int):a9l (t.map M1) h=some (own t h:Int):=by
 have h8:=hR.l8;have hp:=b0C h8;unfold a9l;simp only[jn];rw[b7c hR,d4l,List.length_map];refine c8h (λs=>∃k:Nat,k≤(prs t).length∧s.2=(k:Int)∧s.1=((((prs t).take k).countP λp=>(h != 0)&&(p.Val==h):Nat):Int)) (λs=>(prs t).length+1-s.2.toNat) ⟨0,by omega,rfl,by simp⟩ (by simp;omega) ?_
 rintro⟨_,_⟩ ⟨k,hk,rfl,rfl⟩;dsimp only;by_cases hlt:k<(prs t).length
 ·left;rw[if_pos (by simpa using hlt),a1g,o8 hlt,Option.map_some,d4l,k8 (n:=k) (by omega)]
  have hle:(((prs t).take k).countP λp=>(h != 0)&&(p.Val==h))≤8:=Nat.le_trans List.countP_le_length (by simp;omega)
  have hstep:(((prs t).take (k+1)).countP λp=>(h != 0)&&(p.Val==h))=(((prs t).take k).countP λp=>(h != 0)&&(p.Val==h))+if ((h != 0)&&((prs t)[k].Val==h))=true then 1 else 0:=by
   rw[List.take_succ_eq_append_getElem hlt,List.countP_append,List.countP_cons,List.countP_nil,Nat.zero_add]
  by_cases c:((h != 0)&&((prs t)[k].Val==h))=true
  ·rw[if_pos (by simp only[Bool.and_eq_true] at c ⊢;exact⟨c.2,c.1⟩),k8 (by omega)]
   rw[if_pos c] at hstep;exact⟨_,rfl,⟨k+1,by omega,rfl,by rw[hstep]⟩,by simp;omega⟩
  ·rw[if_neg (by simp only[Bool.and_eq_true] at c ⊢;exact λq=>c ⟨q.2,q.1⟩)]
   rw[if_neg c] at hstep;exact⟨_,rfl,⟨k+1,by omega,rfl,by rw[hstep];rfl⟩,by simp;omega⟩
 ·right;have:k=(prs t).length:=by omega
  subst this;exact⟨_,by rw[if_neg (by simp)],by rw[List.take_length];rfl⟩
theorem c1X{t:Tb}(hR:HR t)(k v:Int):∃r,X6 t k v=some r∧HR r.1∧r.1.length=t.length ∧
  ((k=0∧r=(t,0,2))∨(k≠0∧v=0∧((∃i,Fk t k i∧r=(t.set i ⟨2,0,0⟩,(pt t i).Val,0))∨((∀i,¬Fk t k i)∧r=(t,0,0)))) ∨
   (k≠0∧v≠0∧((∃i,Fk t k i∧r=(t.set i ⟨1,k,v⟩,(pt t i).Val,0))∨(∃d,(∀i,¬Fk t k i)∧d<t.length∧(pt t d).State≠1∧b3M t k v (t.set d ⟨1,k,v⟩,0)∧r=(t.set d ⟨1,k,v⟩,0,0))∨((∀i,¬Fk t k i)∧(∀i,i<t.length→(pt t i).State=1)∧r=(t,0,8))))):=by
 unfold X6;by_cases hk:k=0
 ·rw[if_pos (by simpa using hk)]
  exact⟨_,rfl,hR,rfl,.inl ⟨hk,rfl⟩⟩
 ·rw[if_neg (by simpa using hk)]
  obtain⟨g,hg,hgv⟩:∃g,M0 t k=some g∧((∃i,Fk t k i∧g=((pt t i).Val,0))∨((∀i,¬Fk t k i)∧g=(0,9))):=by
   rcases b3n t k with ⟨i,hi⟩ | hn;·exact⟨_,c1b hR hi,.inl ⟨i,hi,rfl⟩⟩
   ·exact⟨_,c1a hR hn,.inr ⟨hn,rfl⟩⟩
  rw[hg,d4l];by_cases hv:v=0
  ·rw[if_pos (by simpa using hv)]
   rcases hgv with ⟨i,hi,rfl⟩ | ⟨hn,rfl⟩
   ·rw[a83 hR hi,d4l];exact⟨_,rfl,a4S hR hi.1,by simp,.inr (.inl ⟨hk,hv,.inl ⟨i,hi,rfl⟩⟩)⟩
   ·rw[a82 hR hn,d4l];exact⟨_,rfl,hR,rfl,.inr (.inl ⟨hk,hv,.inr ⟨hn,rfl⟩⟩)⟩
  ·rw[if_neg (by simpa using hv)]
   obtain⟨r,hr,hp⟩:=c1x hR k v;rw[hr,d4l];have hRr:=b0D hR hp;have hl:=b5m hp;have hp':=hp;cases hp with
   | old i hi=>
    rcases hgv with ⟨j,hj,rfl⟩ | ⟨hn,rfl⟩
    ·rw[hR.uq j i hj.1 hi.1 hj.2.1 hi.2.1 (hj.2.2.trans hi.2.2.symm)];exact⟨_,rfl,hRr,hl,.inr (.inr ⟨hk,hv,.inl ⟨i,hi,rfl⟩⟩)⟩
    ·exact absurd hi (hn i)
   | new d hn hd hb hf=>
    rcases hgv with ⟨j,hj,rfl⟩ | ⟨_,rfl⟩;·exact absurd hj (hn j)
    ·exact⟨_,rfl,hRr,hl,.inr (.inr ⟨hk,hv,.inr (.inl ⟨_,hn,a2v hR.l1 k d,hf,hp',rfl⟩)⟩)⟩
   | full hn ha=>exact⟨_,rfl,hR,rfl,.inr (.inr ⟨hk,hv,.inr (.inr ⟨hn,ha,rfl⟩)⟩)⟩
theorem c4p{t:Tb}(hR:HR t)(k v:Int):∃r,X6 t k v=some r∧HR r.1∧r.1.length=t.length∧b4j (t.map M1) k v=some (r.1.map M1,r.2) ∧
  ((k=0∧r=(t,0,2))∨(k≠0∧v=0∧((∃i,Fk t k i∧r=(t.set i ⟨2,0,0⟩,(pt t i).Val,0))∨((∀i,¬Fk t k i)∧r=(t,0,0)))) ∨
   (k≠0∧v≠0∧((∃i,Fk t k i∧r=(t.set i ⟨1,k,v⟩,(pt t i).Val,0))∨(∃d,(∀i,¬Fk t k i)∧d<t.length∧(pt t d).State≠1∧b3M t k v (t.set d ⟨1,k,v⟩,0)∧r=(t.set d ⟨1,k,v⟩,0,0))∨((∀i,¬Fk t k i)∧(∀i,i<t.length→(pt t i).State=1)∧r=(t,0,8))))):=by
 unfold X6 b4j;by_cases hk:k=0
 ·rw[if_pos (by simpa using hk),if_pos (by simpa using hk)]
  exact⟨_,rfl,hR,rfl,rfl,.inl ⟨hk,rfl⟩⟩
 ·rw[if_neg (by simpa using hk),if_neg (by simpa using hk),c6t hR]
  obtain⟨g,hg,hgv⟩:∃g,M0 t k=some g∧((∃i,Fk t k i∧g=((pt t i).Val,0))∨((∀i,¬Fk t k i)∧g=(0,9))):=by
   rcases b3n t k with ⟨i,hi⟩ | hn;·exact⟨_,c1b hR hi,.inl ⟨i,hi,rfl⟩⟩
   ·exact⟨_,c1a hR hn,.inr ⟨hn,rfl⟩⟩
  rw[hg,d4l,d4l];by_cases hv:v=0
  ·rw[if_pos (by simpa using hv),if_pos (by simpa using hv),c6r hR]
   rcases hgv with ⟨i,hi,rfl⟩ | ⟨hn,rfl⟩
   ·rw[a83 hR hi,d4l];exact⟨_,rfl,a4S hR hi.1,by simp,rfl,.inr (.inl ⟨hk,hv,.inl ⟨i,hi,rfl⟩⟩)⟩
   ·rw[a82 hR hn,d4l];exact⟨_,rfl,hR,rfl,rfl,.inr (.inl ⟨hk,hv,.inr ⟨hn,rfl⟩⟩)⟩
  ·rw[if_neg (by simpa using hv),if_neg (by simpa using hv)]
   obtain⟨r,hr,hp⟩:=c1x hR k v;rw[hr,d4l,d2C hR k v hp,d4l];have hRr:=b0D hR hp;have hl:=b5m hp;have hp':=hp;cases hp with
   | old i hi=>
    rcases hgv with ⟨j,hj,rfl⟩ | ⟨hn,rfl⟩
    ·rw[hR.uq j i hj.1 hi.1 hj.2.1 hi.2.1 (hj.2.2.trans hi.2.2.symm)];exact⟨_,rfl,hRr,hl,rfl,.inr (.inr ⟨hk,hv,.inl ⟨i,hi,rfl⟩⟩)⟩
    ·exact absurd hi (hn i)
   | new d hn hd hb hf=>
    rcases hgv with ⟨j,hj,rfl⟩ | ⟨_,rfl⟩;·exact absurd hj (hn j)
    ·exact⟨_,rfl,hRr,hl,rfl,.inr (.inr ⟨hk,hv,.inr (.inl ⟨_,hn,a2v hR.l1 k d,hf,hp',rfl⟩)⟩)⟩
   | full hn ha=>exact⟨_,rfl,hR,rfl,rfl,.inr (.inr ⟨hk,hv,.inr (.inr ⟨hn,ha,rfl⟩)⟩)⟩
theorem b69(t:Tb)(h:Int):own t h=t.countP λp=>(p.State==1)&&((h != 0)&&(p.Val==h)):=by
 unfold own prs;rw[List.countP_map,List.countP_filter];congr 1;funext p
 simp[Bool.and_comm]
theorem c21{t:Tb}{i:Nat}(hi:i<t.length)(p:c9)(h:Int):own (t.set i p) h+(if (((pt t i).State==1)&&((h != 0)&&((pt t i).Val==h)))=true then 1 else 0)=own t h+if ((p.State==1)&&((h != 0)&&(p.Val==h)))=true then 1 else 0:=by
 rw[b69,b69,List.countP_set hi,b3p hi];have:(if ((t[i].State==1)&&((h != 0)&&(t[i].Val==h)))=true then 1 else 0)≤t.countP λp=>(p.State==1)&&((h != 0)&&(p.Val==h)):=by
  split
  ·rename_i e;exact List.countP_pos_iff.2 ⟨t[i],List.getElem_mem hi,e⟩
  ·exact Nat.zero_le _
 omega
theorem c1s{t:Tb}(h8:t.length≤8)(h:Int):own t h≤8:=Nat.le_trans List.countP_le_length (b0C h8)
end Go.Sh
namespace Go.Sh
end Go.Sh
namespace Go.Sh
theorem c0D{t:Tb}(hR:HR t)(ks:List Int)(hks:ks.length≤1000):∃a had,X7 t ks=some (a,had)∧HR a∧a.length=t.length∧had.length≤ks.length∧a3f (t.map M1) ks=some (a.map M1,had) ∧
  (∀k v,Has a k v↔k∉ks∧Has t k v)∧(keys a).length+had.length=(keys t).length∧(∀k v,k∈ks→Has t k v→v∈had)∧∀y,own a y+V2 had y=own t y:=by
 have key:∀n,n≤ks.length→∃a had,HR a∧a.length=t.length∧had.length≤n∧(∀k v,Has a k v↔k∉ks.take n∧Has t k v)∧(keys a).length+had.length=(keys t).length∧(∀k v,k∈ks.take n→Has t k v→v∈had)∧(∀y,own a y+V2 had y=own t y) ∧
   ∃f:Nat→Tb × List Int,f 0=(t,[])∧f n=(a,had)∧∀j,(hj:j<n)→HR (f j).1∧(f j).2.length≤j∧((∃i,∃hjk:j<ks.length,Fk (f j).1 ks[j] i∧f (j+1)=((f j).1.set i ⟨2,0,0⟩,(f j).2 ++ [(pt (f j).1 i).Val]))∨((∀i,∀hjk:j<ks.length,¬Fk (f j).1 ks[j] i)∧f (j+1)=f j)):=by
  intro n;induction n with
  | zero=>exact λ_=>⟨t,[],hR,rfl,by simp,by simp,by simp,by simp,λy=>by unfold V2;split <;> simp,λ_=>(t,[]),rfl,rfl,λj hj=>by omega⟩
  | succ n ih=>
   intro hn;obtain⟨a,had,h1,h2,h3,h4,h5,h6,h7,f,f0,fn,fs⟩:=ih (by omega)
   have hlt:n<ks.length:=by omega
   have htk:∀k,k∈ks.take (n+1)↔k∈ks.take n∨k=ks[n]:=λk=>by
    rw[List.take_succ_eq_append_getElem hlt,List.mem_append,List.mem_singleton]
   rcases b3n a ks[n] with ⟨i,hi⟩ | hno
   ·have hd:=b4N h1 hi;refine⟨a.set i ⟨2,0,0⟩,had ++ [(pt a i).Val],a4S h1 hi.1,by simpa using h2,by simp;omega,λk v=>?_,?_,λk v hk hv=>?_,λy=>?_,λj=>if j=n+1 then (a.set i ⟨2,0,0⟩,had ++ [(pt a i).Val]) else f j,by simp[f0],by simp,λj hj=>?_⟩
    ·rw[hd,h4,htk];constructor;·rintro⟨q1,q2,q3⟩;exact⟨λq=>q.elim q2 q1,q3⟩
     ·rintro⟨q1,q2⟩;exact⟨λq=>q1 (.inr q),λq=>q1 (.inl q),q2⟩
    ·have:=b1v hi.1 ⟨2,0,0⟩;rw[if_pos hi.2.1,if_neg (by decide)] at this
     simp only[List.length_append,List.length_cons,List.length_nil];omega
    ·rw[List.mem_append];rcases (htk k).1 hk with q | q
     ·exact .inl (h6 k v q hv)
     ·subst q;by_cases q':ks[n]∈ks.take n
      ·exact .inl (h6 _ v q' hv)
      ·have:=(h4 _ _).2 ⟨q',hv⟩;rw[this.fn h1 ⟨i,hi,rfl⟩];exact .inr (by simp)
    ·have:=c21 hi.1 ⟨2,0,0⟩ y;have h7':=h7 y;rw[L1];have e:V2 [(pt a i).Val] y=if (((pt a i).State==1)&&((y != 0)&&((pt a i).Val==y)))=true then 1 else 0:=by
      rw[hi.2.1];unfold V2;by_cases y0:y=0
      ·simp[y0]
      ·by_cases e:(pt a i).Val=y
       ·simp[y0,e]
       ·simp[y0,e]
     rw[e];rw[if_neg (show ¬((((2:Int)==1)&&((y != 0)&&((0:Int)==y)))=true) by simp)] at this
     omega
    ·rcases Nat.lt_or_ge j n with q | q
     ·have:=fs j q;dsimp only;rw[if_neg (by omega),if_neg (by omega)]
      exact this
     ·have:j=n:=by omega
      subst this;dsimp only;rw[if_neg (by omega),if_pos rfl,fn]
      exact⟨h1,h3,.inl ⟨i,hlt,hi,rfl⟩⟩
   ·refine⟨a,had,h1,h2,by omega,λk v=>?_,h5,λk v hk hv=>?_,h7,λj=>if j=n+1 then (a,had) else f j,by simp[f0],by simp,λj hj=>?_⟩
    ·rw[h4,htk];constructor
     ·rintro⟨q1,q2⟩;refine⟨λq=>q.elim q1 λq=>?_,q2⟩;subst q;obtain⟨i,hi,_⟩:=(h4 _ _).2 ⟨q1,q2⟩;exact hno i hi
     ·rintro⟨q1,q2⟩;exact⟨λq=>q1 (.inl q),q2⟩
    ·rcases (htk k).1 hk with q | q
     ·exact h6 k v q hv
     ·subst q;by_cases q':ks[n]∈ks.take n
      ·exact h6 _ v q' hv
      ·obtain⟨i,hi,_⟩:=(h4 _ _).2 ⟨q',hv⟩;exact absurd hi (hno i)
    ·rcases Nat.lt_or_ge j n with q | q
     ·have:=fs j q;dsimp only;rw[if_neg (by omega),if_neg (by omega)]
      exact this
     ·have:j=n:=by omega
      subst this;dsimp only;rw[if_neg (by omega),if_pos rfl,fn]
      exact⟨h1,h3,.inr ⟨λi _=>hno i,rfl⟩⟩
 obtain⟨a,had,h1,h2,h3,h4,h5,h6,h7,f,f0,fn,fs⟩:=key ks.length (Nat.le_refl _);rw[List.take_length] at h4 h6;refine⟨a,had,?_,h1,h2,h3,?_,h4,h5,h6,h7⟩
 ·unfold X7;simp only[jn];refine a54 (λj=>((f j).1,(j:Int),(f j).2)) (by rw[f0];rfl) ks.length (λ_=>True) (by omega) trivial (λj hj _=>?_) (λ_=>⟨(a,had),by dsimp only;rw[if_neg (by simp),fn],rfl⟩)
  obtain⟨g1,g2,g3⟩:=fs j hj;left;refine⟨?_,trivial⟩;dsimp only;rw[if_pos (by simpa using hj),o8 hj,d4l,k8 (by omega)]
  rcases g3 with ⟨i,_,hi,e⟩ | ⟨hno,e⟩
  ·rw[a83 g1 hi,d4l,e];dsimp only;rw[if_pos (by decide),C6 (by omega) (by simp;omega),d4l]
  ·rw[a82 g1 (λi=>hno i hj),d4l,e];dsimp only;rw[if_neg (by decide)]
 ·unfold a3f;simp only[jn];refine a54 (λj=>((f j).1.map M1,(j:Int),(f j).2)) (by rw[f0];rfl) ks.length (λ_=>True) (by omega) trivial (λj hj _=>?_) (λ_=>⟨(a.map M1,had),by dsimp only;rw[if_neg (by simp),fn],rfl⟩)
  obtain⟨g1,g2,g3⟩:=fs j hj;left;refine⟨?_,trivial⟩;dsimp only;rw[if_pos (by simpa using hj),o8 hj,d4l,k8 (by omega),c6r g1]
  rcases g3 with ⟨i,_,hi,e⟩ | ⟨hno,e⟩
  ·rw[a83 g1 hi,Option.map_some,d4l,e];dsimp only;rw[if_pos (by decide),C6 (by omega) (by simp;omega),d4l]
  ·rw[a82 g1 (λi=>hno i hj),Option.map_some,d4l,e];dsimp only;rw[if_neg (by decide)]
end Go.Sh
namespace Go.Sh
theorem c3Z(t:Tb)(h:t.length≤1000):∃b,a6N t=some b∧(b=true↔HR t):=by
 unfold a6N;by_cases hl:1≤t.length∧t.length≤8
 ·obtain⟨h1,h8⟩:=hl;rw[if_neg (by simp;omega)]
  simp only[jn];suffices hs:∀(b:Bool),(b=true↔HR t)→_=some b by
   by_cases q:HR t
   ·exact⟨true,hs true (by simp[q]),by simp[q]⟩
   ·exact⟨false,hs false (by simp[q]),by simp[q]⟩
  intro b hb;let Ok':Nat→Prop:=λi=>((pt t i)=⟨0,0,0⟩∨(pt t i)=⟨2,0,0⟩)∨(pt t i).State=1∧N3 t (pt t i).Key=some (i:Int)
  have hall:(∀i,i<t.length→Ok' i)↔HR t:=by
   constructor
   ·intro hO;have full:∀i,i<t.length→(pt t i).State=1→N3 t (pt t i).Key=some (i:Int):=λi hi s=>by
     rcases hO i hi with (e | e) | e
     ·rw[e] at s;cases s
     ·rw[e] at s;cases s
     ·exact e.2
    refine⟨h1,h8,λi hi=>?_,λi j hi hj s1 s2 hk=>?_,λi hi s d hd hne=>?_⟩
    ·rcases hO i hi with (e | e) | e
     ·rw[e];exact⟨.inl rfl,λ_=>⟨rfl,rfl⟩⟩
     ·rw[e];exact⟨.inr (.inr rfl),λ_=>⟨rfl,rfl⟩⟩
     ·exact⟨.inr (.inl e.1),λq=>absurd e.1 q⟩
    ·have e1:=full i hi s1;have e2:=full j hj s2;rw[hk,e2] at e1;cases e1;rfl
    ·have e1:=full i hi s;rcases a86 h1 h8 (pt t i).Key with ⟨d0,a1,a2,a3,a4⟩ | ⟨d0,a1,a2,a3,a4⟩
     ·rw[e1] at a4;have a5:pos t.length (pt t i).Key d0=i:=by have:=Option.some.inj a4;omega
      rcases Nat.lt_or_ge d d0 with q | q
      ·exact (a2 d q).1
      ·exact absurd a5 (hne d0 q)
     ·rw[e1] at a4;cases a4
   ·intro hR i hi;rcases (hR.st i hi).1 with s | s | s
    ·have:=(hR.st i hi).2 (by omega)
     exact .inl (.inl (by cases hp:pt t i;rw[hp] at s this;simp at s this;simp[s,this]))
    ·exact .inr ⟨s,a4W hR ⟨hi,s,rfl⟩⟩
    ·have:=(hR.st i hi).2 (by omega)
     exact .inl (.inr (by cases hp:pt t i;rw[hp] at s this;simp at s this;simp[s,this]))
  refine G2 t.length (λi=>∀j,j<i→Ok' j) (by omega) (λj hj=>by omega) (λi hi hP=>?_) (λhP=>⟨.inr (),by simp,by
   simp only;rw[hb.2 (hall.1 hP)]⟩)
  have good:Ok' i→∀j,j<i+1→Ok' j:=λo j hj=>by
   rcases Nat.lt_or_ge j i with q | q
   ·exact hP j q
   ·have:j=i:=by omega
    subst this;exact o
  have bad:¬Ok' i→some false=some b:=λo=>by
   have:b=false:=by
    cases hbb:b with
    | false=>rfl
    | true=>exact absurd (hall.2 (hb.1 hbb) i hi) o
   rw[this]
  rw[if_pos (by simpa using hi),b41 hi,d4l,k8 (by omega)]
  by_cases a:pt t i=⟨0,0,0⟩∨pt t i=⟨2,0,0⟩
  ·refine .inl ⟨?_,good (.inl a)⟩;rcases a with a | a <;> rw[a] <;> simp[p7]
  ·have hne:(!(((pt t i).State==0)&&(((pt t i).Key==0)&&(((pt t i).Val==0)&&true))||((pt t i).State==2)&&(((pt t i).Key==0)&&(((pt t i).Val==0)&&true))))=true:=by
    cases hp:pt t i with
    | mk s k v=>
     rw[hp] at a;simp at a ⊢;omega
   rw[hne];by_cases s:(pt t i).State=1
   ·rw[show ((pt t i).State != 1)=false by simpa using s]
    obtain⟨r,hr⟩:∃r,N3 t (pt t i).Key=some r:=by
     rcases a86 h1 h8 (pt t i).Key with ⟨d,_,_,_,e⟩ | ⟨d,_,_,_,e⟩;·exact⟨_,e⟩
     ·exact⟨_,e⟩
    simp only[p7,beq_self_eq_true,Bool.and_self,if_true,hr,d4l,Bool.false_or,Bool.true_and];by_cases e:r=i
    ·rw[if_neg (by simpa using e)]
     exact .inl ⟨rfl,good (.inr ⟨s,by rw[hr,e]⟩)⟩
    ·rw[if_pos (by simpa using e)]
     refine .inr ⟨_,rfl,bad λo=>?_⟩;rcases o with o | o
     ·exact a o
     ·rw[hr] at o;exact e (Option.some.inj o.2)
   ·rw[show ((pt t i).State != 1)=true by simpa using s]
    simp only[p7,beq_self_eq_true,Bool.true_and,Bool.true_or,if_true];refine .inr ⟨.inl false,by simp,bad λo=>?_⟩
    rcases o with o | o
    ·exact a o
    ·exact s o.1
 ·rw[if_pos (by simp;omega)]
  exact⟨false,rfl,⟨λq=>(by cases q),λhR=>absurd ⟨hR.l1,hR.l8⟩ hl⟩⟩
end Go.Sh
namespace Go.Sh
inductive b3J (s:a7) (t:Tb) (l:List Int):Int→Prop
 | base {h:Int}:h∈l→h∈lv s→b3J s t l h
 | step {a b:Int}:b3J s t l a→b∈outs s a→b∈lv s→b3J s t l b
 | pair {k v:Int}:Has t k v→b3J s t l k→v∈lv s→b3J s t l v
def TB(t:Tb):Prop:=∀p∈t,p.Key≤9223372036854775807∧p.Val≤9223372036854775807
def PCl(s:a7)(t:Tb)(l:List Int):Prop:=∀k v,Has t k v→k∈l→k∈lv s→v∈lv s→v∈l
theorem TB.has{t:Tb}(h:TB t){k v:Int}(q:Has t k v):k≤9223372036854775807∧v≤9223372036854775807:=by
 obtain⟨i,⟨h1,_,h2⟩,h3⟩:=q;rw[b3p h1] at h2 h3;have:=h _ (List.getElem_mem h1);rw[h2,h3] at this;exact this
theorem b3J.live{s:a7}{t:Tb}{l:List Int}{h:Int}(q:b3J s t l h):h∈lv s:=by cases q <;> assumption
theorem b3J.least{s:a7}{t:Tb}{l m:List Int}(hc:Cl s m)(hp:PCl s t m)(hl:∀x∈l,x∈lv s→x∈m){h:Int}(q:b3J s t l h):h∈m:=by
 induction q with
 | base h1 h2=>exact hl _ h1 h2
 | step _ h1 h2 ih=>exact hc _ ih _ h1 h2
 | pair h1 h2 h3 ih=>exact hp _ _ h1 ih h2.live h3
section
variable{s:a7}{t:Tb}{l:List Int}
end
section
variable{s:a7}(hR:RtR (sO s)){t:Tb}(hT:HR t)(hTB:TB t)
include hR hT hTB
end
end Go.Sh
namespace Go.Sh
end Go.Sh
namespace Go.Sh
end Go.Sh
namespace Go.Sh
section
variable(s:a7)(hF:FB s)(t:Tb)(hTB:TB t)
include hF hTB
end
end Go.Sh
namespace Go.Sh
def ce(s:a7)(i:Nat):b8:=s.S.Cells.getD i ⟨0,0,z0⟩
theorem F0{s:a7}{i:Nat}(h:i<s.S.Cells.length):ce s i=s.S.Cells[i]:=by
 unfold ce;rw[List.getD_eq_getElem?_getD,List.getElem?_eq_getElem h];rfl
theorem b6W{s:a7}{i:Nat}(h:i<s.S.Cells.length):ix s.S.Cells (i:Int)=some (ce s i):=by rw[o8 h,F0 h]
def Th(c:b8):Prop:=c.State=1∨c.State=2
instance(c:b8):Decidable (Th c):=by unfold Th;infer_instance
structure OkO (s:a7) (o:k9):Prop where
 s1:1≤o.Serial
 s2:o.Serial≤s.Serial
 st:0≤o.Strong
 wk:0≤o.Weak
 p1 : -1≤o.Prog
 p2:o.Prog≤5
 fl:o.Fields.length≤4
structure SR (s:a7):Prop where
 len:s.S.Cells.length≤24
 l0:0≤s.S.Last
 l9:s.S.Last≤9
 ser:0≤s.Serial
 cell:∀i,i<s.S.Cells.length→0≤(ce s i).State∧(ce s i).State≤3∧0≤(ce s i).Gen∧(ce s i).Gen≤s.S.Last
 no:∀i,i<s.S.Cells.length→¬Th (ce s i)→b0Q (oo (ce s i).Val)
 ok:∀i,i<s.S.Cells.length→Th (ce s i)→OkO s (ce s i).Val
 dif:∀i j,i<s.S.Cells.length→j<s.S.Cells.length→Th (ce s i)→Th (ce s j)→(ce s i).Val.Serial=(ce s j).Val.Serial→i=j
theorem y4{s:a7}:RtR (sO s)↔SR s:=by
 constructor
 ·intro h;refine⟨a2G h,h.l0,h.l9,h.ser,λi hi=>?_,λi hi hn=>?_,λi hi ht=>?_,λi j hi hj a b e=>?_⟩;·rw[F0 hi];exact b8C h i hi
  ·rw[F0 hi] at hn ⊢;have:=h.no i (by rw[B2];exact hi)
   simp only[sO,List.getElem_map] at this;exact this hn
  ·rw[F0 hi] at ht ⊢;obtain⟨a,b,c,d,e,f,g⟩:=c6z h i hi ht;exact⟨a,b,c,d,e,f,g⟩
  ·rw[F0 hi] at a e;rw[F0 hj] at b e;exact c6y h hi hj a b e
 ·intro h;refine⟨by rw[B2];exact h.len,h.l0,h.l9,h.ser,λi hi=>?_,λi hi hn=>?_,λi hi ht=>?_,λi hi k hk a b=>?_⟩
  ·rw[B2] at hi;have:=h.cell i hi;rw[F0 hi] at this;simpa[sO,cO] using this
  ·rw[B2] at hi;have:=h.no i hi;rw[F0 hi] at this;simp only[sO,List.getElem_map] at hn ⊢;exact this hn
  ·rw[B2] at hi;have:=h.ok i hi;rw[F0 hi] at this;simp only[sO,List.getElem_map] at ht ⊢;obtain⟨a,b,c,d,e,f,g⟩:=this ht;exact⟨a,b,c,d,e,f,g⟩
  ·rw[B2] at hi;have hk':k<s.S.Cells.length:=by omega
   have:=h.dif i k hi hk';rw[F0 hi,F0 hk'] at this;simp only[sO,List.getElem_map,cO,oo] at a b ⊢;intro e;have:=this a b e.symm;omega
def At(s:a7)(h:Int)(i:Nat):Prop:=i<s.S.Cells.length∧(ce s i).State=1∧h=1+(i:Int)+32*(ce s i).Gen
def V3(s:a7)(h:Int)(i:Nat):Prop:=i<s.S.Cells.length∧Th (ce s i)∧h=1+(i:Int)+32*(ce s i).Gen
theorem At.d{s:a7}{h:Int}{i:Nat}(q:At s h i):V3 s h i:=⟨q.1,.inl q.2.1,q.2.2⟩
theorem V3.one{s:a7}(hR:SR s){h:Int}{i j:Nat}(q:V3 s h i)(q':V3 s h j):i=j:=by
 obtain⟨a1,_,a2⟩:=q;obtain⟨b1,_,b2⟩:=q';have:=hR.len;omega
theorem V3.rng{s:a7}(hR:SR s){h:Int}{i:Nat}(q:V3 s h i):1≤h∧h≤320:=by
 obtain⟨a1,_,a2⟩:=q;have:=hR.len;have:=hR.cell i a1;have:=hR.l9;omega
theorem b9H{s:a7}{h:Int}:h∈Z0 0 s.S.Cells↔∃i,At s h i:=by
 rw[a8g];constructor
 ·rintro⟨i,hi,h1,h2⟩;refine⟨i,hi,by rw[F0 hi];exact h1,?_⟩
  rw[F0 hi,h2,Nat.zero_add]
 ·rintro⟨i,hi,h1,h2⟩;rw[F0 hi] at h1 h2;exact⟨i,hi,h1,by rw[h2,Nat.zero_add]⟩
theorem a4j{s:a7}(hR:SR s){h:Int}:h∈lv s↔∃i,At s h i:=by rw[b2U (y4.2 hR),b9H]
theorem b0t{s:a7}(hR:SR s){h:Int}{i:Nat}:b2t s.S h i↔V3 s h i:=by
 constructor
 ·rintro⟨hi,h1,h2,h3,h4⟩;unfold Hnd at h1;refine⟨hi,by rw[F0 hi];exact h4,?_⟩
  rw[F0 hi];omega
 ·rintro⟨hi,h1,h2⟩;have l:=hR.len;have l9:=hR.l9;have c:=hR.cell i hi;rw[F0 hi] at h1 h2 c;exact⟨hi,by unfold Hnd;omega,by omega,by omega,h1⟩
theorem P5{s:a7}(hR:SR s){h:Int}{i:Nat}(q:At s h i):ob s h=(ce s i).Val:=by
 obtain⟨j,hj,h1,h2,_,e⟩:=c1j (y4.2 hR) ((a4j hR).2 ⟨i,q⟩);have:j=i:=V3.one hR ⟨hj,by rw[F0 hj];exact .inl h1,by rw[F0 hj];exact h2⟩ q.d
 subst this;rw[e,F0 hj]
theorem c91{s:a7}(hR:SR s){h:Int}{i:Nat}(q:At s h i):y5 s h=some ((ce s i).Val,0):=by
 rw[a8m (y4.2 hR) ((a4j hR).2 ⟨i,q⟩),P5 hR q]
theorem c9e{s:a7}(hR:SR s){h:Int}{i:Nat}(q:At s h i):sk s.S.Cells h=(ce s i).Val.Serial:=by
 have:=hR.len;have hi:=q.1;rw[q.2.2,c0n hi (by omega),F0 hi]
theorem a3J{s:a7}(hR:SR s){h:Int}{i:Nat}(q:V3 s h i):u7 s.S h=some ((i:Int),0):=a85 ((b0t hR).2 q)
theorem a37{s:a7}(hR:SR s){h:Int}(hh:h≤9223372036854775807)(q:∀i,¬V3 s h i):u7 s.S h=some (-1,if h=0 then 2 else 3):=b2N hh λi hi=>q i ((b0t hR).1 hi)
theorem c5H{s s':a7}(hR:SR s)(hR':SR s')(P:Int→Bool)(hm:∀h,(∃i,At s' h i)↔(∃i,At s h i)∧P h=true)(hk:∀h i j,At s' h i→At s h j→(ce s' i).Val.Serial=(ce s j).Val.Serial):lv s'=(lv s).filter P:=by
 have hk':∀h∈lv s,P h=true→sk s'.S.Cells h=sk s.S.Cells h:=λh hh hp=>by
  obtain⟨j,hj⟩:=(a4j hR).1 hh;obtain⟨i,hi⟩:=(hm h).2 ⟨⟨j,hj⟩,hp⟩;rw[c9e hR' hi,c9e hR hj,hk h i j hi hj]
 refine d2b (y4.2 hR') ?_ ?_
 ·rw[List.perm_ext_iff_of_nodup ((b46 (y4.2 hR)).filter _) (a6P 0 _ (by have:=hR'.len;omega))]
  intro h;rw[List.mem_filter,a4j hR,b9H,hm h]
 ·refine ((a6X (y4.2 hR)).2.2.filter P).imp_of_mem λ{a b} ha hb hab=>?_;rw[List.mem_filter] at ha hb;rw[hk' a ha.1 ha.2,hk' b hb.1 hb.2];exact hab
theorem c8i{s s':a7}(hR:SR s)(hR':SR s')(hl:s'.S.Cells.length=s.S.Cells.length)(h1:∀i,i<s.S.Cells.length→((ce s' i).State=1↔(ce s i).State=1)∧(ce s' i).Gen=(ce s i).Gen∧(ce s' i).Val.Serial=(ce s i).Val.Serial):lv s'=lv s:=by
 have ha:∀h i,At s' h i↔At s h i:=λh i=>by
  unfold At;rw[hl];constructor
  ·rintro⟨a,b,c⟩;obtain⟨x,y,z⟩:=h1 i a;exact⟨a,x.1 b,by rw[←y];exact c⟩
  ·rintro⟨a,b,c⟩;obtain⟨x,y,z⟩:=h1 i a;exact⟨a,x.2 b,by rw[y];exact c⟩
 rw[c5H hR hR' (λ_=>true) (λh=>by simp only[and_true];exact⟨λ⟨i,q⟩=>⟨i,(ha h i).1 q⟩,λ⟨i,q⟩=>⟨i,(ha h i).2 q⟩⟩) (λh i j q q'=>by
  have:=V3.one hR ((ha h i).1 q).d q'.d;subst this;exact (h1 i q'.1).2.2)]
 simp
def a12(s:a7)(i:Nat)(o:k9):a7:=⟨⟨s.S.Cells.set i ⟨(ce s i).State,(ce s i).Gen,o⟩,s.S.Last⟩,s.Serial⟩
theorem N4(s:a7)(i:Nat)(o:k9):(a12 s i o).S.Cells.length=s.S.Cells.length:=by simp[a12]
theorem a5U{α:Type}{l:List α}{i:Nat}(hi:i<l.length)(c d:α)(j:Nat):(l.set i c).getD j d=if j=i then c else l.getD j d:=by
 rw[List.getD_eq_getElem?_getD,List.getD_eq_getElem?_getD,List.getElem?_set];by_cases h:j=i
 ·subst h;rw[if_pos rfl,if_pos hi,if_pos rfl];rfl
 ·rw[if_neg (Ne.symm h),if_neg h]
theorem a6I{s:a7}{i:Nat}(hi:i<s.S.Cells.length)(o:k9)(j:Nat):ce (a12 s i o) j=if j=i then ⟨(ce s i).State,(ce s i).Gen,o⟩ else ce s j:=a5U hi _ _ j
theorem b5S{s:a7}{i:Nat}(hi:i<s.S.Cells.length)(o:k9)(j:Nat):(ce (a12 s i o) j).State=(ce s j).State∧(ce (a12 s i o) j).Gen=(ce s j).Gen:=by
 rw[a6I hi];split;·rename_i q;subst q;exact⟨rfl,rfl⟩
 ·exact⟨rfl,rfl⟩
theorem b30{s:a7}{i:Nat}(hi:i<s.S.Cells.length)(o:k9){h:Int}{j:Nat}:V3 (a12 s i o) h j↔V3 s h j:=by
 unfold V3 Th;rw[N4,(b5S hi o j).1,(b5S hi o j).2]
theorem b4I{s:a7}{i:Nat}(hi:i<s.S.Cells.length)(o:k9){h:Int}{j:Nat}:At (a12 s i o) h j↔At s h j:=by
 unfold At;rw[N4,(b5S hi o j).1,(b5S hi o j).2]
theorem b8J{s:a7}(hR:SR s){h:Int}{i:Nat}(q:V3 s h i)(o:k9):L0 s h o=some (a12 s i o,0):=by
 obtain⟨hi,e⟩:=c0m (v:=o) hR.len ((b0t hR).2 q);unfold L0;rw[e];simp[a12,F0 hi]
theorem SR.put{s:a7}(hR:SR s){i:Nat}(hi:i<s.S.Cells.length)(ht:Th (ce s i)){o:k9}(hs:o.Serial=(ce s i).Val.Serial)(ho:OkO s o):SR (a12 s i o):=by
 have hst:=b5S hi o;have hse:∀j,(ce (a12 s i o) j).Val.Serial=(ce s j).Val.Serial:=λj=>by
  rw[a6I hi];split;·rename_i q;subst q;exact hs
  ·rfl
 refine⟨by rw[N4];exact hR.len,hR.l0,hR.l9,hR.ser,λj hj=>?_,λj hj hn=>?_,λj hj hn=>?_,λj k hj hk a b e=>?_⟩
 ·rw[N4] at hj;rw[(hst j).1,(hst j).2];exact hR.cell j hj
 ·rw[N4] at hj;unfold Th at hn;rw[(hst j).1] at hn;rw[a6I hi];split;·rename_i q;subst q;exact absurd ht hn
  ·exact hR.no j hj hn
 ·rw[N4] at hj;unfold Th at hn;rw[(hst j).1] at hn;rw[a6I hi];split;·exact⟨ho.s1,ho.s2,ho.st,ho.wk,ho.p1,ho.p2,ho.fl⟩
  ·have:=hR.ok j hj hn;exact⟨this.s1,this.s2,this.st,this.wk,this.p1,this.p2,this.fl⟩
 ·rw[N4] at hj hk;unfold Th at a b;rw[(hst j).1] at a;rw[(hst k).1] at b;rw[hse,hse] at e;exact hR.dif j k hj hk a b e
theorem c5G{s:a7}(hR:SR s){i:Nat}(hi:i<s.S.Cells.length){o:k9}(hs:o.Serial=(ce s i).Val.Serial)(hR':SR (a12 s i o)):lv (a12 s i o)=lv s:=by
 refine c8i hR hR' (N4 ..) λj hj=>?_;rw[a6I hi];split;·rename_i q;subst q;exact⟨Iff.rfl,rfl,hs⟩
 ·exact⟨Iff.rfl,rfl,rfl⟩
theorem d0N{s:a7}(hR:SR s){h:Int}{i:Nat}(q:At s h i){o:k9}(hR':SR (a12 s i o)){k:Int}(hk:k≤9223372036854775807):ob (a12 s i o) k=if k=h then o else ob s k:=by
 by_cases e:k=h
 ·subst e;rw[if_pos rfl,P5 hR' ((b4I q.1 o).2 q),a6I q.1,if_pos rfl]
 ·rw[if_neg e];by_cases hl:∃j,At s k j
  ·obtain⟨j,hj⟩:=hl;rw[P5 hR' ((b4I q.1 o).2 hj),P5 hR hj,a6I q.1,if_neg];intro e2;subst e2;exact e (hj.2.2.trans q.2.2.symm)
  ·rw[b0a (y4.2 hR) hk (λq2=>hl ((a4j hR).1 q2)),b0a (y4.2 hR') hk λq2=>hl (by
    obtain⟨j,hj⟩:=(a4j hR').1 q2;exact⟨j,(b4I q.1 o).1 hj⟩)]
def D4(h:Int):Nat:=((h-1) % 32).toNat
theorem V3.D4{s:a7}(hR:SR s){h:Int}{i:Nat}(q:V3 s h i):D4 h=i:=by
 obtain⟨a,_,c⟩:=q;have:=hR.len;unfold Sh.D4;omega
def seO(s:a7)(h:Int)(o:k9):a7:=a12 s (D4 h) o
theorem z6{s:a7}(hR:SR s){h:Int}(hh:h∈lv s):At s h (D4 h):=by
 obtain⟨i,hi⟩:=(a4j hR).1 hh;rw[hi.d.D4 hR];exact hi
theorem K8{s:a7}(hR:SR s){h:Int}(hh:h∈lv s):OkO s (ob s h):=by
 have q:=z6 hR hh;rw[P5 hR q];exact hR.ok _ q.1 (.inl q.2.1)
theorem K1{s:a7}(hR:SR s){h:Int}(hh:h∈lv s):1≤h∧h≤320:=(z6 hR hh).d.rng hR
theorem b2T{s:a7}(hR:SR s):(0:Int)∉lv s:=λh=>by have:=K1 hR h;omega
section
variable{s:a7}(hR:SR s){h:Int}(hh:h∈lv s){o:k9}(hs:o.Serial=(ob s h).Serial)(ho:OkO s o)
include hR hh hs ho
theorem a1p:SR (seO s h o):=by
 have q:=z6 hR hh;exact hR.put q.1 (.inl q.2.1) (by rw[hs,P5 hR q]) ho
theorem a4z:lv (seO s h o)=lv s:=by
 have q:=z6 hR hh;exact c5G hR q.1 (by rw[hs,P5 hR q]) (a1p hR hh hs ho)
theorem a3y{k:Int}(hk:k≤9223372036854775807):ob (seO s h o) k=if k=h then o else ob s k:=d0N hR (z6 hR hh) (a1p hR hh hs ho) hk
theorem b2e:L0 s h o=some (seO s h o,0):=b8J hR (z6 hR hh).d o
theorem c1W{k:Int}{i:Nat}:V3 (seO s h o) k i↔V3 s k i:=b30 (z6 hR hh).1 o
theorem b8I(i:Nat):ce (seO s h o) i=if i=D4 h then ⟨(ce s i).State,(ce s i).Gen,o⟩ else ce s i:=by
 unfold seO;rw[a6I (z6 hR hh).1];split;·rename_i q;rw[q]
 ·rfl
end
abbrev stg(o:k9)(n:Int):k9:=⟨o.Serial,n,o.Weak,o.Prog,o.Started,o.Fields⟩
structure Kin (s s':a7):Prop where
 sr:SR s'
 len:s'.S.Cells.length=s.S.Cells.length
 last:s'.S.Last=s.S.Last
 ser:s'.Serial=s.Serial
 lv:lv s'=lv s
 ad:∀k i,V3 s' k i↔V3 s k i
 ob:∀k,k≤9223372036854775807→∃n,ob s' k=(stg (ob s k) (n))
 ce:∀i,i<s.S.Cells.length→(ce s' i).State=(ce s i).State∧(ce s' i).Gen=(ce s i).Gen∧(ce s' i).Val.Weak=(ce s i).Val.Weak∧(ce s' i).Val.Fields=(ce s i).Val.Fields∧((ce s i).State≠1→ce s' i=ce s i)
theorem Kin.refl{s:a7}(hR:SR s):Kin s s:=⟨hR,rfl,rfl,rfl,rfl,λ_ _=>Iff.rfl,λk _=>⟨_,rfl⟩,λi _=>⟨rfl,rfl,rfl,rfl,λ_=>rfl⟩⟩
theorem Kin.trans{a b c:a7}(h:Kin a b)(q:Kin b c):Kin a c:=by
 refine⟨q.sr,q.len.trans h.len,q.last.trans h.last,q.ser.trans h.ser,q.lv.trans h.lv,λk i=>(q.ad k i).trans (h.ad k i),λk hk=>?_,λi hi=>?_⟩
 ·obtain⟨n,e⟩:=h.ob k hk;obtain⟨m,f⟩:=q.ob k hk;exact⟨m,by rw[f,e]⟩
 ·obtain⟨a1,a2,a3,a4,a5⟩:=h.ce i hi;obtain⟨b1,b2,b3,b4,b5⟩:=q.ce i (by rw[h.len];exact hi)
  refine⟨b1.trans a1,b2.trans a2,b3.trans a3,b4.trans a4,λhn=>?_⟩;rw[b5 (by rw[a1];exact hn),a5 hn]
theorem Kin.outs{s s':a7}(k:Kin s s'){h:Int}(hh:h≤9223372036854775807):outs s' h=outs s h:=by
 obtain⟨n,e⟩:=k.ob h hh;unfold Sh.outs;rw[e]
theorem Kin.inn{s s':a7}(hR:SR s)(k:Kin s s')(h:Int):inn s' h=inn s h:=by
 unfold Sh.inn;rw[k.lv];congr 1;refine List.map_congr_left λx hx=>?_;rw[k.outs (by have:=K1 hR hx;omega)]
theorem c8e{s:a7}(hR:SR s){h:Int}(hh:h∈lv s){n:Int}(hn:0≤n):Kin s (seO s h (stg (ob s h) (n))):=by
 have ho:OkO s (stg (ob s h) (n)):=by
  have:=K8 hR hh;exact⟨this.s1,this.s2,hn,this.wk,this.p1,this.p2,this.fl⟩
 have q:=z6 hR hh;refine⟨a1p hR hh rfl ho,N4 ..,rfl,rfl,a4z hR hh rfl ho,λk i=>c1W (o:=(stg (ob s h) (n))) hR hh rfl ho,λk hk=>?_,λi hi=>?_⟩
 ·rw[a3y (o:=(stg (ob s h) (n))) hR hh rfl ho hk];split;·rename_i e;subst e;exact⟨n,rfl⟩
  ·exact⟨_,rfl⟩
 ·rw[b8I (o:=(stg (ob s h) (n))) hR hh rfl ho];split
  ·rename_i e;subst e;rw[P5 hR q];exact⟨rfl,rfl,rfl,rfl,λhn=>absurd q.2.1 hn⟩
  ·exact⟨rfl,rfl,rfl,rfl,λ_=>rfl⟩
def SB(s:a7):Prop:=∀c∈s.S.Cells,c.Val.Strong≤9223372036854775807
theorem c9n{s:a7}:FB s↔∀i,i<s.S.Cells.length→∀x∈(ce s i).Val.Fields,x≤9223372036854775807:=by
 constructor
 ·intro h i hi x hx;rw[F0 hi] at hx;exact h _ (List.getElem_mem hi) x hx
 ·intro h c hc x hx;obtain⟨i,hi,rfl⟩:=List.getElem_of_mem hc;exact h i hi x (by rw[F0 hi];exact hx)
theorem d2F{s:a7}:SB s↔∀i,i<s.S.Cells.length→(ce s i).Val.Strong≤9223372036854775807:=by
 constructor
 ·intro h i hi;rw[F0 hi];exact h _ (List.getElem_mem hi)
 ·intro h c hc;obtain⟨i,hi,rfl⟩:=List.getElem_of_mem hc;have:=h i hi;rwa [F0 hi] at this
end Go.Sh
namespace Go.Sh
noncomputable def inr(s:a7)(t:Tb)(h:Int):Nat:=inn s h+own t h
noncomputable def rst(s:a7)(t:Tb)(h:Int):Int:=if h∈lv s then (ob s h).Strong-(inr s t h:Int) else 0
def b6C(s:a7)(t:Tb)(l:List Int):Prop:=∀h∈lv s,(ob s h).Strong<12→rst s t h=(V2 l h:Int)
noncomputable instance(s:a7)(t:Tb)(l:List Int):Decidable (b6C s t l):=Classical.propDecidable _
section
variable{s:a7}(hR:RtR (sO s)){t:Tb}(hT:HR t)
include hR hT
theorem c5x(h:Int):a5n s t h=some (inr s t h:Int):=by
 unfold a5n;have h1:=c1e hR h;have h2:=c1s hT.l8 h;rw[d1Y hR,d4l,c6a hT,d4l,F7 (by omega) (by omega)]
 unfold inr;simp
theorem c1f(h:Int):a9m (sO s) (t.map M1) h=some (inr s t h:Int):=by
 unfold a9m;have h1:=c1e hR h;have h2:=c1s hT.l8 h;rw[c78 hR,d4l,c4m hT,d4l,F7 (by omega) (by omega)]
 unfold inr;simp
theorem c5y(h:Int):inr s t h≤104:=by
 have h1:=c1e hR h;have h2:=c1s hT.l8 h;unfold inr;omega
omit hT in
theorem b3d (hB:SB s) {h:Int} (hh:h∈lv s):0≤(ob s h).Strong∧(ob s h).Strong≤9223372036854775807:=by
 obtain⟨i,hi⟩:=(a4j (y4.1 hR)).1 hh;rw[P5 (y4.1 hR) hi];refine⟨((y4.1 hR).ok i hi.1 (.inl hi.2.1)).st,?_⟩;rw[F0 hi.1];exact hB _ (List.getElem_mem _)
theorem c8L(hB:SB s){h:Int}(hh:h≤9223372036854775807):a7p s t h=some (rst s t h):=by
 unfold a7p;obtain⟨e,h1,h2⟩:=W0 hR hh;rw[h1,d4l];by_cases q:h∈lv s
 ·have:=h2.2 q;subst this;have h3:=c5y hR hT h;have h4:=b3d hR hB q;rw[if_neg (by simp),c5x hR hT,d4l,F7 (by dsimp only;omega) (by dsimp only;omega)]
  unfold rst;rw[if_pos q]
 ·rw[if_pos (by simpa using λq2=>q (h2.1 q2))]
  unfold rst;rw[if_neg q]
theorem c4i(hB:SB s){h:Int}(hh:h≤9223372036854775807):b1Z (sO s) (t.map M1) h=some (rst s t h):=by
 unfold b1Z;obtain⟨e,h1,h2⟩:=W0 hR hh;rw[a4X s (by have:=a2G hR;omega) hh,h1,Option.map_some,d4l]
 by_cases q:h∈lv s
 ·have:=h2.2 q;subst this;have h3:=c5y hR hT h;have h4:=b3d hR hB q;rw[if_neg (by simp),c1f hR hT,d4l]
  simp only[oo];rw[F7 (by omega) (by omega)]
  unfold rst;rw[if_pos q]
 ·rw[if_pos (by simpa using λq2=>q (h2.1 q2))]
  unfold rst;rw[if_neg q]
omit hT in
theorem c1Y {h:Int} (hh:h≤9223372036854775807):a9n (sO s) h=some (decide (12≤(ob s h).Strong)):=by
 unfold a9n a0N;obtain⟨e,h1,h2⟩:=W0 hR hh;rw[a4X s (by have:=a2G hR;omega) hh,h1,Option.map_some,d4l,d4l]
 rfl
omit hT in
theorem c5F {k:Nat} (hk:k<(lv s).length):(lv s)[k]≤9223372036854775807:=by
 have:=c1k hR (List.getElem_mem hk);omega
theorem c74(hB:SB s){l:List Int}(hl:l.length≤1000000):a7o s t l=some (decide (b6C s t l)):=by
 unfold a7o;simp only[jn];have h24:=a1Y hR;rw[a9a hR,d4l,P7 (lv s) (λb x=>if decide ((ob s x).Strong<12∧rst s t x≠(V2 l x:Int)) then b ++ [x] else b) id (λk b=>b.length≤k) (by omega) (by simp) (λk hk b hI=>?_) (λb _=>by simp),d4l]
 ·rw[foldl_filter];simp only[id,List.nil_append];congr 1;rw[Bool.eq_iff_iff,decide_eq_true_iff,beq_iff_eq];constructor
  ·intro e h hh hs;have:(lv s).filter (λx=>decide ((ob s x).Strong<12∧rst s t x≠(V2 l x:Int))) = []:=List.eq_nil_of_length_eq_zero (by omega)
   rw[List.filter_eq_nil_iff] at this;have:=this h hh;simp only[decide_eq_true_eq,not_and,Decidable.not_not] at this;exact this hs
  ·intro q;rw[List.filter_eq_nil_iff.2];·rfl
   ·intro h hh;simp only[decide_eq_true_eq,not_and,Decidable.not_not];exact q h hh
 ·have hm:=List.getElem_mem hk;have hle:=c5F hR hk;simp only[Int.ofNat_lt,hk,decide_true,if_true,o8 hk,d4l];rw[a8m hR hm,d4l];unfold a3P a78 G3;simp only[d4l];by_cases q2:12≤(ob s (lv s)[k]).Strong
  ·rw[decide_eq_true (show (ob s (lv s)[k]).Strong≥12 from q2)];simp only[Bool.not_true,show ((false==true):Bool)=false from rfl,b66,d4l,Bool.false_and,Bool.false_eq_true,if_false];rw[k8,if_neg (by simp;omega)]
   exact⟨rfl,by omega⟩
  ·rw[decide_eq_false (show ¬(ob s (lv s)[k]).Strong≥12 from q2)];simp only[Bool.not_false,beq_self_eq_true,G9,Bool.true_and];rw[c8L hR hT hB hle,d4l,c6Q _ _ hl,d4l,d4l];by_cases q3:rst s t (lv s)[k]=(V2 l (lv s)[k]:Int)
   ·rw[if_neg (by simpa using q3),k8,if_neg (by simp only[decide_eq_true_eq];exact λc=>c.2 q3)]
    exact⟨rfl,by omega⟩
   ·rw[if_pos (by simpa using q3),C6 (by omega) (by simp;omega),d4l,k8,if_pos (decide_eq_true ⟨by omega,q3⟩)]
    exact⟨rfl,by simp;omega⟩
theorem c3R(hB:SB s){l:List Int}(hl:l.length≤1000000):b1Y (sO s) (t.map M1) l=some (decide (b6C s t l)):=by
 unfold b1Y;simp only[jn];have h24:=a1Y hR;rw[b7Y hR,d4l,c1i (lv s) (λx => !decide ((ob s x).Strong<12∧rst s t x≠(V2 l x:Int))) (.inr ()) (.inl false) (by omega) (λk hk=>?_) (by simp),d4l]
 ·have:(lv s).all (λx => !decide ((ob s x).Strong<12∧rst s t x≠(V2 l x:Int)))=decide (b6C s t l):=by
   rw[Bool.eq_iff_iff,decide_eq_true_iff,List.all_eq_true];constructor
   ·intro e h hh hs;have:=e h hh;simp only[Bool.not_eq_true',decide_eq_false_iff_not,not_and,Decidable.not_not] at this;exact this hs
   ·intro q h hh;simp only[Bool.not_eq_true',decide_eq_false_iff_not,not_and,Decidable.not_not];exact q h hh
  rw[this];by_cases q:b6C s t l
  ·rw[decide_eq_true q];rfl
  ·rw[decide_eq_false q];rfl
 ·have hle:=c5F hR hk;simp only[Int.ofNat_lt,hk,decide_true,if_true,o8 hk,d4l];rw[c1Y hR hle,d4l];by_cases q2:12≤(ob s (lv s)[k]).Strong
  ·rw[decide_eq_true q2];simp only[Bool.not_true,show ((false==true):Bool)=false from rfl,b66,d4l,Bool.false_and,Bool.false_eq_true,if_false];rw[k8,if_pos (by simp;omega)]
  ·rw[decide_eq_false q2];simp only[Bool.not_false,beq_self_eq_true,G9,Bool.true_and];rw[c4i hR hT hB hle,d4l,a7m _ _ hl,d4l];by_cases q3:rst s t (lv s)[k]=(V2 l (lv s)[k]:Int)
   ·rw[if_neg (by simpa using q3),k8,if_pos (by simp[q3])]
   ·rw[if_pos (by simpa using q3),if_neg (by simp;exact⟨by omega,q3⟩)]
end
end Go.Sh
namespace Go.Sh
abbrev TQ:=g6
def tad(q:TQ)(t:g8):TQ × Int:=if q.Cap≤q.L.length then (q,4) else (⟨q.L ++ [t],q.Cap⟩,0)
def tnx(q:TQ):TQ × g8 × Int:=match q.L with
 | []=>(q,⟨0,0,0⟩,10)
 | t::l=>(⟨l,q.Cap⟩,t,0)
theorem c9G{q:TQ}(t:g8)(h:q.L.length≤1000):a8O q t=some (tad q t):=by
 unfold tad;unfold a8O R2 J4 F4;simp only[d4l];by_cases c:q.Cap≤q.L.length
 ·rw[if_pos (by simpa using c),if_pos c,d4l]
 ·rw[if_neg (by simpa using c),if_neg c]
  have e:cut q.L 0 (q.L.length:Int)=some q.L:=by
   have:=b7B (xs:=q.L) (i:=0) (j:=q.L.length) (Nat.zero_le _) (Nat.le_refl _);simpa using this
  rw[e,d4l,d4l,C6 (by omega) (by simp;omega),d4l,d4l]
theorem b5Q{q:TQ}:a1C q=some (tnx q):=by
 unfold tnx;unfold a1C a00 Z2 J4 F4;simp only[d4l];cases hl:q.L with
 | nil=>
  have e:cut ([]:List g8) 0 0=some []:=rfl;simp[e]
 | cons t l=>
  have hm:(if (if (((t::l).length:Nat):Int)<1 then (((t::l).length:Nat):Int) else 1) > 0 then (if (((t::l).length:Nat):Int)<1 then (((t::l).length:Nat):Int) else 1) else 0)=1:=by
   rw[if_neg (show ¬(((t::l).length:Nat):Int)<1 by simp;omega)]
   simp
  rw[hm];have e1:cut (t::l) 0 1=some [t]:=by
   have:=b7B (xs:=t::l) (i:=0) (j:=1) (Nat.zero_le _) (by simp)
   simpa using this
  have e2:cut (t::l) 1 (((t::l).length:Nat):Int)=some l:=by
   have:=b7B (xs:=t::l) (i:=1) (j:=(t::l).length) (by simp) (Nat.le_refl _)
   simpa using this
  rw[e1,e2];simp[ix]
theorem b6Q{α β:Type}(p:α→Bool)(f:α→β)(l:List α)(k:Nat)(h:k<l.length):((l.take (k+1)).filter p).map f=((l.take k).filter p).map f++(if p l[k] then [f l[k]] else []):=by
 rw[List.take_succ_eq_append_getElem h,List.filter_append,List.map_append];congr 1;simp only[List.filter_cons,List.filter_nil];split <;> rfl
theorem d1s{q:TQ}(h:q.L.length≤1000):a6p q=some ((q.L.filter (·.Kind==1)).map (·.At)):=by
 unfold a6p a9D;simp only[jn,d4l];refine Z4 q.L.length (λk l=>l=((q.L.take k).filter (·.Kind==1)).map (·.At)) (by omega) (by simp) ?_ (λl hl=>⟨_,by simp;rfl,by rw[hl,List.take_length]⟩)
 rintro k l hk rfl;left;rw[b6Q _ _ _ _ hk];simp only[Int.ofNat_lt,hk,decide_true,if_true,o8 hk,d4l];have hle:(List.map (·.At) (List.filter (·.Kind==1) (List.take k q.L))).length≤1000:=by
  rw[List.length_map];exact Nat.le_trans (List.length_filter_le ..) (by simp;omega)
 by_cases c:(q.L[k].Kind==1)=true
 ·rw[c,if_pos (by decide),C6 (by omega) (by simp only[List.length_cons,List.length_nil];omega),d4l,k8]
  exact⟨_,rfl,rfl⟩
 ·have c:(q.L[k].Kind==1)=false:=by simpa using c
  rw[c,if_neg (by decide),k8]
  exact⟨_,rfl,by simp⟩
theorem c8X{q:TQ}{w:Int}(h:q.L.length≤1000):a4D q w=some (q.L.any λt=>t.Kind==2&&t.At==w):=by
 unfold a4D a9D;simp only[jn,d4l];refine G2 q.L.length (λk=>(q.L.take k).any (λt=>t.Kind==2&&t.At==w)=false) (by omega) (by simp) ?_ (λhl=>⟨.inr (),by simp,by rw[List.take_length] at hl;rw[hl]⟩)
 intro k hk hP;simp only[Int.ofNat_lt,hk,decide_true,if_true,o8 hk,d4l];rw[List.take_succ_eq_append_getElem hk,List.any_append,hP,Bool.false_or];by_cases c:(q.L[k].Kind==2)=true
 ·rw[c,if_pos (by decide)]
  by_cases d:(q.L[k].At==w)=true
  ·right;rw[d,if_pos rfl];refine⟨.inl true,rfl,?_⟩;simp only[Option.some.injEq];symm
   rw[List.any_eq_true];exact⟨_,List.getElem_mem hk,by rw[c,d];rfl⟩
  ·have d:(q.L[k].At==w)=false:=by simpa using d
   left;rw[d,if_neg (by decide),k8]
   exact⟨rfl,by simp[d]⟩
 ·have c:(q.L[k].Kind==2)=false:=by simpa using c
  left;rw[c,if_neg (by decide),k8]
  exact⟨rfl,by simp[c]⟩
end Go.Sh
namespace Go.Sh
def tkR(t:g8):n0:=⟨t.Kind,t.At,t.Prog⟩
def tqR(q:TQ):u9:=⟨q.L.map tkR,q.Cap⟩
theorem c9C{q:TQ}(t:g8)(h:q.L.length≤1000):a5f (tqR q) (tkR t)=some (tqR (tad q t).1,(tad q t).2):=by
 unfold a5f tad;have hl:(tqR q).L.length=q.L.length:=by simp[tqR]
 by_cases c:q.Cap≤q.L.length
 ·rw[if_pos (by simp[hl];exact c),if_pos c]
 ·rw[if_neg (by simp[hl];exact Int.not_le.1 c),if_neg c,Q2 (by omega) (by rw[hl];omega),d4l,C6 (by omega) (by simp[hl];omega),d4l]
  simp[tqR]
theorem c6p{q:TQ}:b10 (tqR q)=some (tqR (tnx q).1,tkR (tnx q).2.1,(tnx q).2.2):=by
 unfold b10 tnx;obtain⟨L,C⟩:=q;cases L with
 | nil=>simp[tqR,tkR]
 | cons t l=>
  rw[if_neg (by simp[tqR];omega)]
  have e:cut (tqR ⟨t::l,C⟩).L 1 (((tqR ⟨t::l,C⟩).L.length:Nat):Int)=some (l.map tkR):=by
   have:=b7B (xs:=(tqR ⟨t::l,C⟩).L) (i:=1) (j:=(tqR ⟨t::l,C⟩).L.length) (by simp[tqR]) (Nat.le_refl _)
   rw[show (1:Int)=((1:Nat):Int) from rfl,this,List.take_length];simp[tqR]
  rw[e];simp[ix,tqR]
theorem d04{q:TQ}(h:q.L.length≤1000):b11 (tqR q) (tqR q)=some true:=by
 unfold b11;have hl:(tqR q).L.length=q.L.length:=by simp[tqR]
 rw[if_neg (by simp)]
 simp only[jn];refine G2 (tqR q).L.length (λ_=>True) (by omega) trivial (λk hk _=>.inl ⟨?_,trivial⟩) (λ_=>⟨.inr (),by simp,rfl⟩)
 simp only[Int.ofNat_lt,hk,decide_true,if_true,o8 hk,d4l];rw[if_neg (by simp),k8 (n:=k) (by omega)]
theorem d07{q:TQ}(h:q.L.length≤1000):a8u (tqR q)=some ((q.L.filter (·.Kind==1)).map (·.At)):=by
 unfold a8u;have hl:(tqR q).L.length=q.L.length:=by simp[tqR]
 simp only[jn,hl];refine Z4 q.L.length (λk l=>l=((q.L.take k).filter (·.Kind==1)).map (·.At)) (by omega) (by simp) ?_ (λl hl=>⟨_,by simp;rfl,by rw[hl,List.take_length]⟩)
 rintro k l hk rfl;left;rw[b6Q _ _ _ _ hk];have e:ix (tqR q).L (k:Int)=some (tkR q.L[k]):=by rw[show (tqR q).L=q.L.map tkR from rfl,a1g,o8 hk];rfl
 simp only[Int.ofNat_lt,hk,decide_true,if_true,e,d4l];have hle:(List.map (·.At) (List.filter (·.Kind==1) (List.take k q.L))).length≤1000:=by
  rw[List.length_map];exact Nat.le_trans (List.length_filter_le ..) (by simp;omega)
 by_cases c:(q.L[k].Kind==1)=true
 ·rw[show ((tkR q.L[k]).Kind==1)=true from c,if_pos rfl,C6 (by omega) (by simp only[List.length_cons,List.length_nil];omega),d4l,k8,if_pos c]
  exact⟨_,rfl,rfl⟩
 ·have c:(q.L[k].Kind==1)=false:=by simpa using c
  rw[show ((tkR q.L[k]).Kind==1)=false from c,if_neg (by decide),k8,if_neg (by simp[c])]
  exact⟨_,rfl,by simp⟩
theorem c25{q:TQ}{w:Int}(h:q.L.length≤1000):a2A (tqR q) w=some (q.L.any λt=>t.Kind==2&&t.At==w):=by
 unfold a2A;have hl:(tqR q).L.length=q.L.length:=by simp[tqR]
 simp only[jn,hl];refine G2 q.L.length (λk=>(q.L.take k).any (λt=>t.Kind==2&&t.At==w)=false) (by omega) (by simp) ?_ (λhl=>⟨.inr (),by simp,by rw[List.take_length] at hl;rw[hl]⟩)
 intro k hk hP;have e:ix (tqR q).L (k:Int)=some (tkR q.L[k]):=by rw[show (tqR q).L=q.L.map tkR from rfl,a1g,o8 hk];rfl
 simp only[Int.ofNat_lt,hk,decide_true,if_true,e,d4l];rw[List.take_succ_eq_append_getElem hk,List.any_append,hP,Bool.false_or];by_cases c:(q.L[k].Kind==2&&q.L[k].At==w)=true
 ·right;rw[show ((tkR q.L[k]).Kind==2&&(tkR q.L[k]).At==w)=true from c,if_pos rfl];refine⟨.inl true,rfl,?_⟩;simp only[Option.some.injEq];symm
  rw[List.any_eq_true];exact⟨_,List.getElem_mem hk,c⟩
 ·have c:(q.L[k].Kind==2&&q.L[k].At==w)=false:=by simpa using c
  left;rw[show ((tkR q.L[k]).Kind==2&&(tkR q.L[k]).At==w)=false from c,if_neg (by decide),k8]
  exact⟨rfl,by simp[c]⟩
end Go.Sh
namespace Go.Sh
abbrev Hp:=b7
abbrev wS(x:Hp)(s:a7):Hp:=⟨s,x.Roots,x.Cells,x.T,x.Q⟩
abbrev wR(x:Hp)(l:List Int):Hp:=⟨x.S,l,x.Cells,x.T,x.Q⟩
abbrev wC(x:Hp)(l:List g7):Hp:=⟨x.S,x.Roots,l,x.T,x.Q⟩
abbrev wT(x:Hp)(t:Tb):Hp:=⟨x.S,x.Roots,x.Cells,t,x.Q⟩
abbrev wQ(x:Hp)(q:TQ):Hp:=⟨x.S,x.Roots,x.Cells,x.T,q⟩
def nmg(l:List g7)(h:Int):Nat:=l.countP λc=>(h != 0)&&(c.Target==h)
def b2P(q:TQ):List Int:=(q.L.filter (·.Kind==1)).map (·.At)
def wts(q:TQ)(w:Int):Bool:=q.L.any λt=>t.Kind==2&&t.At==w
def otr(x:Hp):List Int:=nz x.Roots++b2P x.Q
noncomputable def nms(x:Hp)(h:Int):Nat:=inn x.S h+own x.T h+V2 (otr x) h
def H4(s:a7)(i:Nat)(c:b8):a7:=⟨⟨s.S.Cells.set i c,s.S.Last⟩,s.Serial⟩
theorem X4(s:a7)(i:Nat)(c:b8):(H4 s i c).S.Cells.length=s.S.Cells.length:=by simp[H4]
theorem L3{s:a7}{i:Nat}(hi:i<s.S.Cells.length)(c:b8)(j:Nat):ce (H4 s i c) j=if j=i then c else ce s j:=a5U hi _ _ j
theorem SR.H4{s:a7}(hR:SR s){i:Nat}(hi:i<s.S.Cells.length){c:b8}(h1:0≤c.State∧c.State≤3∧0≤c.Gen∧c.Gen≤s.S.Last)(h2:¬Th c→b0Q (oo c.Val))(h3:Th c→OkO s c.Val∧Th (ce s i)∧c.Val.Serial=(ce s i).Val.Serial):SR (H4 s i c):=by
 have key:∀j,Th (ce (Sh.H4 s i c) j)→Th (ce s j)∧(ce (Sh.H4 s i c) j).Val.Serial=(ce s j).Val.Serial:=λj hj=>by
  rw[L3 hi] at hj ⊢;split at hj
  ·rename_i e;subst e;rw[if_pos rfl];exact (h3 hj).2
  ·rename_i e;rw[if_neg e];exact⟨hj,rfl⟩
 refine⟨by rw[X4];exact hR.len,hR.l0,hR.l9,hR.ser,λj hj=>?_,λj hj hn=>?_,λj hj hn=>?_,λj k hj hk a b e=>?_⟩
 ·rw[X4] at hj;rw[L3 hi];split;·exact h1
  ·exact hR.cell j hj
 ·rw[X4] at hj;rw[L3 hi] at hn ⊢;split at hn
  ·rename_i e;rw[if_pos e];exact h2 hn
  ·rename_i e;rw[if_neg e];exact hR.no j hj hn
 ·rw[X4] at hj;rw[L3 hi] at hn ⊢;split at hn
  ·rename_i e;rw[if_pos e];have:=(h3 hn).1;exact⟨this.s1,this.s2,this.st,this.wk,this.p1,this.p2,this.fl⟩
  ·rename_i e;rw[if_neg e];have:=hR.ok j hj hn;exact⟨this.s1,this.s2,this.st,this.wk,this.p1,this.p2,this.fl⟩
 ·rw[X4] at hj hk;obtain⟨a1,a2⟩:=key j a;obtain⟨b1,b2⟩:=key k b;rw[a2,b2] at e;exact hR.dif j k hj hk a1 b1 e
theorem c40{s:a7}{i:Nat}(hi:i<s.S.Cells.length)(c:b8){h:Int}{j:Nat}(hj:j≠i):V3 (H4 s i c) h j↔V3 s h j:=by
 unfold V3;rw[X4,L3 hi,if_neg hj]
theorem b31{s:a7}{i:Nat}(hi:i<s.S.Cells.length)(c:b8){h:Int}{j:Nat}(hj:j≠i):At (H4 s i c) h j↔At s h j:=by
 unfold At;rw[X4,L3 hi,if_neg hj]
theorem c2Q{s:a7}(hR:SR s){i:Nat}(hi:i<s.S.Cells.length){c:b8}(hc:c.State≠1)(hR':SR (H4 s i c)):lv (H4 s i c)=(lv s).filter λh=>decide (D4 h≠i):=by
 have hno:∀h,¬At (H4 s i c) h i:=λh q=>by
  have:=q.2.1;rw[L3 hi,if_pos rfl] at this;exact hc this
 refine c5H hR hR' _ (λh=>?_) (λh j k q q'=>?_)
 ·rw[decide_eq_true_iff];constructor
  ·rintro⟨j,hj⟩;have hne:j≠i:=λe=>hno h (e▸hj);have:=(b31 hi c hne).1 hj;exact⟨⟨j,this⟩,by rw[this.d.D4 hR];exact hne⟩
  ·rintro⟨⟨j,hj⟩,hp⟩;rw[hj.d.D4 hR] at hp;exact⟨j,(b31 hi c hp).2 hj⟩
 ·have hne:j≠i:=λe=>hno h (e▸q);have q2:=(b31 hi c hne).1 q;have:=V3.one hR q2.d q'.d;subst this;rw[L3 hi,if_neg hne]
theorem c2W{s:a7}(hR:SR s){i:Nat}(hi:i<s.S.Cells.length){c:b8}(hR':SR (H4 s i c)){k:Int}(hk:k∈lv s)(hp:D4 k≠i):ob (H4 s i c) k=ob s k:=by
 have q:=z6 hR hk;rw[P5 hR' ((b31 hi c hp).2 q),P5 hR q,L3 hi,if_neg hp]
structure Kn (s s':a7):Prop where
 sr:SR s'
 len:s'.S.Cells.length=s.S.Cells.length
 lv:lv s'=lv s
 ad:∀k i,V3 s' k i↔V3 s k i
 ob:∀k,k∈Sh.lv s→∃n m,ob s' k=⟨(ob s k).Serial,n,m,(ob s k).Prog,(ob s k).Started,(ob s k).Fields⟩
theorem Kin.kn{s s':a7}(hR:SR s)(k:Kin s s'):Kn s s':=⟨k.sr,k.len,k.lv,k.ad,λh hh=>by
 obtain⟨n,e⟩:=k.ob h (by have:=K1 hR hh;omega)
 exact⟨n,_,e⟩⟩
theorem Kn.inn{s s':a7}(k:Kn s s')(h:Int):inn s' h=inn s h:=by
 unfold Sh.inn;rw[k.lv];congr 1;refine List.map_congr_left λx hx=>?_;obtain⟨n,m,e⟩:=k.ob x hx;unfold Sh.outs;rw[e]
structure HpS (x:Hp):Prop where
 sr:SR x.S
 hr:HR x.T
 r6:x.Roots.length=6
 c6:x.Cells.length=6
 cap:x.Q.Cap=30
 q30:x.Q.L.length≤30
 tk:∀t∈x.Q.L,0≤t.Prog∧t.Prog≤5∧((t.Kind=1∧t.At∈lv x.S∧(ob x.S t.At).Started=true)∨(t.Kind=2∧0≤t.At∧t.At≤5))
 td:x.Q.L.Pairwise λa b=>¬(a.Kind=b.Kind∧a.At=b.At)
 rt:∀h∈x.Roots,h=0∨h∈lv x.S
 fl:∀h∈lv x.S,∀v∈(ob x.S h).Fields,v=0∨v∈lv x.S
 pr:∀k v,Has x.T k v→k∈lv x.S∧v∈lv x.S
 cl:∀i (hi:i<x.Cells.length),-1≤x.Cells[i].Call∧x.Cells[i].Call≤5∧(x.Cells[i].Target=0→x.Cells[i].Intact=false)∧(x.Cells[i].Target≠0→∃p,V3 x.S x.Cells[i].Target p)∧(x.Cells[i].Intact=true→x.Cells[i].Target∈lv x.S∧wts x.Q i=false)
def Wk(x:Hp):Prop:=∀i,i<x.S.S.Cells.length→Th (ce x.S i)→(ce x.S i).Val.Weak=(nmg x.Cells (1+(i:Int)+32*(ce x.S i).Gen):Int)∧((ce x.S i).State=2→1≤(ce x.S i).Val.Weak∧(ce x.S i).Val.Fields = []∧(ce x.S i).Val.Strong=0)
def a1r(x:Hp)(L:List Int):Prop:=∀h∈lv x.S,(ob x.S h).Strong<12→(ob x.S h).Strong=((nms x h+V2 L h:Nat):Int)
structure S9 (x:Hp):Prop where
 sh:HpS x
 wk:Wk x
 fair:a1r x []
theorem HpS.of{x:Hp}(h:HpS x){s':a7}(hS:SR s')(hl:lv s'=lv x.S)(hd:∀k i,V3 x.S k i→V3 s' k i)(hst:∀k∈lv x.S,(ob x.S k).Started=true→(ob s' k).Started=true)(hfl:∀k∈lv x.S,∀v∈(ob s' k).Fields,v=0∨v∈lv x.S):HpS (wS x s'):=by
 refine⟨hS,h.hr,h.r6,h.c6,h.cap,h.q30,λt ht=>?_,h.td,λk hk=>?_,λk hk=>?_,λk v hkv=>?_,λi hi=>?_⟩
 ·obtain⟨a,b,c⟩:=h.tk t ht;refine⟨a,b,?_⟩;rcases c with ⟨c1,c2,c3⟩ | c;·exact .inl ⟨c1,by rw[hl];exact c2,hst _ c2 c3⟩
  ·exact .inr c
 ·dsimp only;rw[hl];exact h.rt k hk
 ·dsimp only at hk ⊢;rw[hl] at hk ⊢;exact hfl k hk
 ·dsimp only;rw[hl];exact h.pr k v hkv
 ·obtain⟨a,b,c,d,e⟩:=h.cl i hi;refine⟨a,b,c,λq=>?_,λq=>?_⟩
  ·obtain⟨p,hp⟩:=d q;exact⟨p,hd _ _ hp⟩
  ·dsimp only;rw[hl];exact e q
theorem HpS.kn{x:Hp}(h:HpS x){s':a7}(k:Kn x.S s'):HpS (wS x s'):=by
 refine h.of k.sr k.lv (λj i q=>(k.ad j i).2 q) (λj hj q=>?_) (λj hj=>?_)
 ·obtain⟨n,m,e⟩:=k.ob j hj;rw[e];exact q
 ·obtain⟨n,m,e⟩:=k.ob j hj;rw[e];exact h.fl j hj
theorem HpS.kin{x:Hp}(h:HpS x){s':a7}(k:Kin x.S s'):HpS (wS x s'):=h.kn (k.kn h.sr)
theorem Wk.kin{x:Hp}(h:Wk x){s':a7}(k:Kin x.S s'):Wk (wS x s'):=by
 intro i hi ht;dsimp only at hi ht ⊢;rw[k.len] at hi;obtain⟨a,b,c,d,e⟩:=k.ce i hi;unfold Th at ht;rw[a] at ht;obtain⟨f,g⟩:=h i hi ht;rw[a,b,c];refine⟨f,λq=>?_⟩;have e':=e (by omega)
 rw[←c,e'];exact g q
theorem HpS.roots{x:Hp}(h:HpS x){l:List Int}(hl:l.length=6)(hr:∀v∈l,v=0∨v∈lv x.S):HpS (wR x l):=⟨h.sr,h.hr,hl,h.c6,h.cap,h.q30,h.tk,h.td,hr,h.fl,h.pr,h.cl⟩
theorem HpS.table{x:Hp}(h:HpS x){t:Tb}(hr:HR t)(hp:∀k v,Has t k v→k∈lv x.S∧v∈lv x.S):HpS (wT x t):=⟨h.sr,hr,h.r6,h.c6,h.cap,h.q30,h.tk,h.td,h.rt,h.fl,hp,h.cl⟩
def Z9(c:Int):Int:=if 12≤c then 12 else if c<0 then 1 else c+1
def b0r(c:Int):Int:=if 12≤c then 12 else if c<1 then c else c-1
theorem E3{c:Int}(h:0≤c):0≤Z9 c:=by unfold Z9;split <;> (try split) <;> omega
theorem Q9{c:Int}(h:0≤c):0≤b0r c:=by unfold b0r;split <;> (try split) <;> omega
noncomputable def stO(x:Hp)(h:Int)(f:Int→Int):Hp:=if h∈lv x.S then wS x (seO x.S h (stg (ob x.S h) (f (ob x.S h).Strong))) else x
noncomputable def C3(x:Hp)(h:Int):Hp:=stO x h Z9
noncomputable def R8(x:Hp)(h:Int):Hp:=stO x h b0r
theorem b5M(x:Hp)(h:Int)(f:Int→Int):stO x h f=wS x (stO x h f).S:=by
 unfold stO;split <;> rfl
theorem b23(x:Hp)(h:Int):C3 x h=wS x (C3 x h).S:=b5M x h Z9
theorem d1c(x:Hp)(h:Int):R8 x h=wS x (R8 x h).S:=b5M x h b0r
section
variable{x:Hp}(hR:SR x.S)(h:Int){f:Int→Int}(hf:∀c,0≤c→0≤f c)
include hR hf
theorem G7:Kin x.S (stO x h f).S:=by
 unfold stO;split
 ·rename_i q;exact c8e hR q (hf _ (K8 hR q).st)
 ·exact Kin.refl hR
theorem b8O{k:Int}(hk:k∈lv x.S):(ob (stO x h f).S k).Strong=if k=h then f (ob x.S k).Strong else (ob x.S k).Strong:=by
 unfold stO;split
 ·rename_i q;dsimp only;have ho:OkO x.S (stg (ob x.S h) (f (ob x.S h).Strong)):=by
   have:=K8 hR q;exact⟨this.s1,this.s2,hf _ this.st,this.wk,this.p1,this.p2,this.fl⟩
  rw[a3y (o:=stg (ob x.S h) (f (ob x.S h).Strong)) hR q rfl ho (by have:=K1 hR hk;omega)]
  split;·rename_i e;subst e;rfl
  ·rfl
 ·rename_i q;rw[if_neg];intro e;subst e;exact q hk
theorem b4l(k:Int):nms (stO x h f) k=nms x k:=by
 rw[b5M];unfold nms otr;dsimp only;rw[(G7 hR h hf).inn hR]
end
theorem HpS.st{x:Hp}(h:HpS x)(k:Int){f:Int→Int}(hf:∀c,0≤c→0≤f c):HpS (stO x k f):=by
 rw[b5M];exact h.kin (G7 h.sr k hf)
theorem Wk.st{x:Hp}(h:Wk x)(hR:SR x.S)(k:Int){f:Int→Int}(hf:∀c,0≤c→0≤f c):Wk (stO x k f):=by
 rw[b5M];exact h.kin (G7 hR k hf)
theorem Q3(h:Int):V2 [] h=0:=by unfold V2;split <;> rfl
theorem G5(v:Int)(L:List Int)(h:Int):V2 (v::L) h=V2 L h+if v=h∧h≠0 then 1 else 0:=by
 unfold V2;by_cases h0:h=0
 ·simp[h0]
 ·rw[if_neg h0,if_neg h0,List.count_cons];by_cases e:v=h
  ·simp[e,h0]
  ·simp[e]
theorem c0j{x:Hp}(hR:SR x.S){L:List Int}(hf:a1r x L)(v:Int):a1r (C3 x v) (v::L):=by
 intro h hh hlt;unfold C3 at hh hlt ⊢;rw[(G7 hR v λc=>E3).lv] at hh;rw[b8O hR v (λc=>E3) hh] at hlt ⊢;rw[b4l hR v λc=>E3,G5];have h0:h≠0:=λe=>b2T hR (e▸hh);have hp:=(K8 hR hh).st;by_cases e:h=v
 ·subst e;rw[if_pos rfl] at hlt ⊢;have:=hf h hh (by unfold Z9 at hlt;split at hlt <;> omega)
  rw[if_pos ⟨rfl,h0⟩];unfold Z9 at hlt ⊢;split at hlt;·omega
  ·rename_i q;rw[if_neg q,if_neg (by omega)]
   omega
 ·rw[if_neg e] at hlt ⊢;rw[if_neg (λq=>e q.1.symm)];exact hf h hh hlt
theorem b2b{x:Hp}(hR:SR x.S){L:List Int}{v:Int}(hf:a1r x (v::L)):a1r (R8 x v) L:=by
 intro h hh hlt;unfold R8 at hh hlt ⊢;rw[(G7 hR v λc=>Q9).lv] at hh;rw[b8O hR v (λc=>Q9) hh] at hlt ⊢;rw[b4l hR v λc=>Q9];have h0:h≠0:=λe=>b2T hR (e▸hh);have hp:=(K8 hR hh).st;by_cases e:h=v
 ·subst e;rw[if_pos rfl] at hlt ⊢;have:=hf h hh (by unfold b0r at hlt;split at hlt <;> omega)
  rw[G5,if_pos ⟨rfl,h0⟩] at this;unfold b0r at hlt ⊢;split at hlt;·omega
  ·rename_i q;rw[if_neg q,if_neg (by omega)]
   omega
 ·rw[if_neg e] at hlt ⊢;have:=hf h hh hlt;rw[G5,if_neg (λq=>e q.1.symm)] at this;exact this
theorem a1r.mv{x x':Hp}{L L':List Int}(hf:a1r x L)(hl:lv x'.S=lv x.S)(hs:∀h∈lv x.S,(ob x'.S h).Strong=(ob x.S h).Strong)(hn:∀h∈lv x.S,nms x' h+V2 L' h=nms x h+V2 L h):a1r x' L':=by
 intro h hh hlt;rw[hl] at hh;rw[hs h hh] at hlt ⊢;rw[hf h hh hlt,hn h hh]
end Go.Sh
namespace Go.Sh
theorem b4m:∀ {l:List Int} {r:Nat} (hr:r<l.length) (h k:Int),V2 (l.set r h) k+V2 [l.getD r 0] k=V2 l k+V2 [h] k
 | [],_,hr,_,_=>by simp at hr
 | a::l,0,_,h,k=>by
  rw[List.set_cons_zero,List.getD_cons_zero,G5 h l,G5 a l,G5 a [],G5 h [],Q3];omega
 | a::l,r+1,hr,h,k=>by
  rw[List.set_cons_succ,List.getD_cons_succ,G5 a,G5 a l];have:=b4m (l:=l) (r:=r) (by simpa using hr) h k
  omega
theorem b0K{x x1:Hp}(hx:S9 x){old new:Int}(h1:HpS (C3 x new)→Wk (C3 x new)→HpS x1∧Wk x1)
  (hl:lv x1.S=lv (C3 x new).S)(hs:∀h∈lv x.S,(ob x1.S h).Strong=(ob (C3 x new).S h).Strong)(hn:∀h∈lv x.S,nms x1 h+V2 [old] h=nms x h+V2 [new] h):S9 (R8 x1 old):=by
 have l1:lv (C3 x new).S=lv x.S:=(G7 hx.sh.sr new λc=>E3).lv;have f1:a1r (C3 x new) [new]:=c0j hx.sh.sr hx.fair new;obtain⟨h2,w2⟩:=h1 (hx.sh.st new λc=>E3) (hx.wk.st hx.sh.sr new λc=>E3);have f2:a1r x1 [old]:=f1.mv hl (λh hh=>hs h (l1▸hh)) λh hh=>by
  rw[hn h (l1▸hh)];unfold C3;rw[b4l hx.sh.sr new λc=>E3]
 exact⟨h2.st _ λc=>Q9,w2.st h2.sr _ λc=>Q9,b2b h2.sr f2⟩
noncomputable def H0(x:Hp)(r:Nat)(h:Int):Hp:=R8 (wR (C3 x h) (x.Roots.set r h)) (x.Roots.getD r 0)
theorem a0w{x:Hp}(hx:S9 x){r:Nat}(hr:r<6){h:Int}(hh:h=0∨h∈lv x.S):S9 (H0 x r h):=by
 have l1:lv (C3 x h).S=lv x.S:=(G7 hx.sh.sr h λc=>E3).lv;refine b0K hx (λa b=>⟨a.roots (by rw[List.length_set];exact hx.sh.r6) (λv hv=>?_),b⟩) rfl (λ_ _=>rfl) (λk hk=>?_)
 ·rw[l1];rcases List.mem_or_eq_of_mem_set hv with q | q
  ·exact hx.sh.rt v q
  ·exact q▸hh
 ·have hi:=(G7 hx.sh.sr h λc=>E3).inn hx.sh.sr k;rw[b23];unfold nms otr;dsimp only;rw[show inn (C3 x h).S k=inn x.S k from hi,L1,L1,b3e,b3e];have:=b4m (l:=x.Roots) (r:=r) (by rw[hx.sh.r6];exact hr) h k
  omega
theorem c3n{α:Type}:∀ {l:List α} (hn:l.Nodup) {a:α} (ha:a∈l) (f g:α→Nat) (h:∀x∈l,x≠a→f x=g x),(l.map g).sum+f a=(l.map f).sum+g a
 | [],_,_,ha,_,_,_=>by cases ha
 | b::l,hn,a,ha,f,g,h=>by
  rw[List.nodup_cons] at hn;rw[List.map_cons,List.map_cons,List.sum_cons,List.sum_cons];rcases List.mem_cons.1 ha with e | e
  ·subst e;have:l.map g=l.map f:=List.map_congr_left λx hx=>(h x (List.mem_cons_of_mem _ hx) λe=>hn.1 (e▸hx)).symm;rw[this];omega
  ·have:=c3n hn.2 e f g λx hx=>h x (List.mem_cons_of_mem _ hx);have:=h b (List.mem_cons_self ..) λq=>hn.1 (q▸e);omega
abbrev flg(o:k9)(l:List Int):k9:=⟨o.Serial,o.Strong,o.Weak,o.Prog,o.Started,l⟩
theorem c2J{s:a7}(hR:SR s){h:Int}(hh:h∈lv s){o:k9}(hs:o.Serial=(ob s h).Serial)(ho:OkO s o)(y:Int):inn (seO s h o) y+V2 (ob s h).Fields y=inn s y+V2 o.Fields y:=by
 have hle:=K1 hR hh;have:=c3n (b46 (y4.2 hR)) hh (λx=>V2 (outs s x) y) (λx=>V2 (outs (seO s h o) x) y) λx hx hne=>by
  have:=K1 hR hx;unfold outs;rw[a3y hR hh hs ho (by omega),if_neg hne]
 have e:V2 (outs (seO s h o) h) y=V2 o.Fields y:=by
  unfold outs;rw[a3y hR hh hs ho (by omega),if_pos rfl,b3e]
 have e2:V2 (outs s h) y=V2 (ob s h).Fields y:=b3e _ _;rw[e,e2] at this;unfold inn;rw[a4z hR hh hs ho];exact this
noncomputable def a1N(x:Hp)(h:Int)(k:Nat)(v:Int):Hp:=R8 (wS (C3 x v) (seO (C3 x v).S h (flg (ob (C3 x v).S h) ((ob x.S h).Fields.set k v)))) ((ob x.S h).Fields.getD k 0)
theorem b7K{x:Hp}(hx:S9 x){h:Int}(hh:h∈lv x.S){k:Nat}(hk:k<(ob x.S h).Fields.length){v:Int}(hv:v=0∨v∈lv x.S):S9 (a1N x h k v):=by
 have kin:=G7 hx.sh.sr v (f:=Z9) λc=>E3;have l1:lv (C3 x v).S=lv x.S:=kin.lv;have hR1:SR (C3 x v).S:=kin.sr;have hh1:h∈lv (C3 x v).S:=by rw[l1];exact hh
 have hle:=K1 hx.sh.sr hh;have hof:(ob (C3 x v).S h).Fields=(ob x.S h).Fields:=by
  obtain⟨n,e⟩:=kin.ob h (by omega)
  show (ob (stO x v Z9).S h).Fields=_;rw[e]
 have ho:OkO (C3 x v).S (flg (ob (C3 x v).S h) ((ob x.S h).Fields.set k v)):=by
  have:=K8 hR1 hh1;refine⟨this.s1,this.s2,this.st,this.wk,this.p1,this.p2,?_⟩;have h4:=this.fl;rw[hof] at h4;simpa using h4
 have hob:∀j,j∈lv x.S→ob (seO (C3 x v).S h (flg (ob (C3 x v).S h) ((ob x.S h).Fields.set k v))) j=if j=h then flg (ob (C3 x v).S h) ((ob x.S h).Fields.set k v) else ob (C3 x v).S j:=λj hj=>by
  have:=K1 hx.sh.sr hj;exact a3y (o:=flg (ob (C3 x v).S h) ((ob x.S h).Fields.set k v)) hR1 hh1 rfl ho (by omega)
 refine b0K hx (λa b=>⟨?_,?_⟩) (a4z (o:=flg (ob (C3 x v).S h) ((ob x.S h).Fields.set k v)) hR1 hh1 rfl ho) (λj hj=>?_) (λj hj=>?_)
 ·refine a.of (a1p (o:=flg (ob (C3 x v).S h) ((ob x.S h).Fields.set k v)) hR1 hh1 rfl ho) (a4z (o:=flg (ob (C3 x v).S h) ((ob x.S h).Fields.set k v)) hR1 hh1 rfl ho) (λj i q=>(c1W (o:=flg (ob (C3 x v).S h) ((ob x.S h).Fields.set k v)) hR1 hh1 rfl ho).2 q) (λj hj q=>?_) (λj hj u hu=>?_)
  ·rw[hob j (l1▸hj)];split;·rename_i e;subst e;exact q
   ·exact q
  ·rw[hob j (l1▸hj)] at hu;split at hu
   ·rename_i e;subst e;rcases List.mem_or_eq_of_mem_set hu with q | q
    ·exact a.fl j hj u (by rw[hof];exact q)
    ·rw[l1,q];exact hv
   ·exact a.fl j hj u hu
 ·intro i hi ht;dsimp only at hi ht ⊢;have hp:=z6 hR1 hh1;unfold seO at hi;rw[N4] at hi;have hce:=b8I (o:=flg (ob (C3 x v).S h) ((ob x.S h).Fields.set k v)) hR1 hh1 rfl ho i;rw[hce] at ht ⊢;split at ht
  ·rename_i e;subst e;rw[if_pos rfl];have:=b _ hp.1 (.inl hp.2.1);dsimp only;refine⟨?_,λq=>absurd q (by rw[hp.2.1];decide)⟩
   rw[←this.1,P5 hR1 hp]
  ·rename_i e;rw[if_neg e];exact b i hi ht
 ·rw[hob j hj];split;·rename_i e;subst e;rfl
  ·rfl
 ·have hi:=c2J (o:=flg (ob (C3 x v).S h) ((ob x.S h).Fields.set k v)) hR1 hh1 rfl ho j;have hi2:=kin.inn hx.sh.sr j;have hi2:inn (C3 x v).S j=inn x.S j:=hi2;rw[hi2,hof] at hi;dsimp only at hi;have:=b4m hk v j;have hrest:C3 x v=wS x (C3 x v).S:=b23 x v;unfold nms otr;dsimp only;rw[show (C3 x v).T=x.T by rw[hrest],show (C3 x v).Roots=x.Roots by rw[hrest],show (C3 x v).Q=x.Q by rw[hrest]]
  omega
theorem c6e{t:Tb}(hT:HR t){k v:Int}{r:Tb × Int × Int}(h:X6 t k v=some r)(h0:r.2.2=0):HR r.1∧(∀y,own r.1 y+V2 [r.2.1] y=own t y+V2 [v] y)∧∀k' v',Has r.1 k' v'→Has t k' v'∨(k'=k∧v'=v∧v≠0):=by
 obtain⟨r',e1,e2,_,e3⟩:=c1X hT k v;rw[h] at e1;cases e1;refine⟨e2,?_⟩;have hos:∀(i:Nat) (p:c9) (y:Int),i<t.length→own (t.set i p) y+(if (pt t i).State=1∧(pt t i).Val=y∧y≠0 then 1 else 0)=own t y+if p.State=1∧p.Val=y∧y≠0 then 1 else 0:=λi p y hi=>by
  have key:∀q:c9,(if ((q.State==1)&&((y != 0)&&(q.Val==y)))=true then 1 else 0:Nat)=if q.State=1∧q.Val=y∧y≠0 then 1 else 0:=λq=>by
   by_cases c:q.State=1∧q.Val=y∧y≠0
   ·rw[if_pos c,if_pos (by simp[c.1,c.2.1,c.2.2])]
   ·rw[if_neg c,if_neg (by simp only[Bool.and_eq_true,beq_iff_eq,bne_iff_ne,ne_eq];exact λq=>c ⟨q.1,q.2.2,q.2.1⟩)]
  have:=c21 hi p y;rw[key,key] at this;exact this
 rcases e3 with ⟨_,rfl⟩ | ⟨hk,hv,⟨i,hi,rfl⟩ | ⟨hn,rfl⟩⟩ | ⟨hk,hv,⟨i,hi,rfl⟩ | ⟨d,hn,hd,hf,hp,rfl⟩ | ⟨hn,ha,rfl⟩⟩;·simp at h0
 ·refine⟨λy=>?_,λk' v' q=>.inl ((b4N hT hi k' v').1 q).2⟩;have:=hos i ⟨2,0,0⟩ y hi.1;rw[G5,G5,Q3];subst hv;dsimp only at this ⊢;rw[if_neg (show ¬((2:Int)=1∧(0:Int)=y∧y≠0) by omega)] at this
  rw[if_neg (show ¬((0:Int)=y∧y≠0) by omega)]
  simp only[hi.2.1,true_and] at this;omega
 ·refine⟨λy=>?_,λk' v' q=>.inl q⟩;rw[hv]
 ·refine⟨λy=>?_,λk' v' q=>?_⟩
  ·have:=hos i ⟨1,k,v⟩ y hi.1;rw[G5,G5,Q3];simp only[hi.2.1,true_and] at this;dsimp only;omega
  ·rcases (b79 hT (.old i hi) rfl k' v').1 q with ⟨a,b⟩ | ⟨_,b⟩;·exact .inr ⟨a,b,hv⟩
   ·exact .inl b
 ·refine⟨λy=>?_,λk' v' q=>?_⟩
  ·have:=hos d ⟨1,k,v⟩ y hd;rw[G5,G5,Q3];dsimp only;rw[if_neg (show ¬((0:Int)=y∧y≠0) by omega)]
   simp only[hf,false_and,true_and,if_false] at this;omega
  ·rcases (b79 hT hp rfl k' v').1 q with ⟨a,b⟩ | ⟨_,b⟩;·exact .inr ⟨a,b,hv⟩
   ·exact .inl b
 ·simp at h0
noncomputable def a7D(x:Hp)(v:Int)(t:Tb)(old:Int):Hp:=R8 (wT (C3 x v) t) old
theorem b9R{x:Hp}(hx:S9 x){k v:Int}(hk:k∈lv x.S)(hv:v=0∨v∈lv x.S){r:Tb × Int × Int}(h:X6 x.T k v=some r)(h0:r.2.2=0):S9 (a7D x v r.1 r.2.1):=by
 have kin:=G7 hx.sh.sr v (f:=Z9) λc=>E3;have l1:lv (C3 x v).S=lv x.S:=kin.lv;obtain⟨p1,p2,p3⟩:=c6e hx.sh.hr h h0;refine b0K hx (λa b=>⟨a.table p1 λk' v' q=>?_,b⟩) rfl (λ_ _=>rfl) (λj hj=>?_)
 ·rw[l1];rcases p3 k' v' q with q | ⟨rfl,rfl,hne⟩
  ·exact hx.sh.pr k' v' q
  ·exact⟨hk,hv.resolve_left hne⟩
 ·have hi2:inn (C3 x v).S j=inn x.S j:=kin.inn hx.sh.sr j;have hrest:C3 x v=wS x (C3 x v).S:=b23 x v;unfold nms otr;dsimp only;rw[show (C3 x v).Roots=x.Roots by rw[hrest],show (C3 x v).Q=x.Q by rw[hrest],hi2]
  have:=p2 j;omega
end Go.Sh
namespace Go.Sh
instance(s:a7)(h:Int)(i:Nat):Decidable (V3 s h i):=by unfold V3;infer_instance
abbrev wkg(o:k9)(n:Int):k9:=⟨o.Serial,o.Strong,n,o.Prog,o.Started,o.Fields⟩
def mkA(s:a7)(i:Nat)(d:Int):a7:=a12 s i (wkg (ce s i).Val ((ce s i).Val.Weak+d))
def gvA(s:a7)(i:Nat):a7:=H4 s i (if (ce s i).Gen=s.S.Last then ⟨3,(ce s i).Gen,z0⟩ else ⟨0,(ce s i).Gen+1,z0⟩)
def hdl(s:a7)(i:Nat):Int:=1+(i:Int)+32*(ce s i).Gen
theorem c2v{s:a7}{i:Nat}(hi:i<s.S.Cells.length)(ht:Th (ce s i)):V3 s (hdl s i) i:=⟨hi,ht,rfl⟩
theorem b35{s:a7}(hR:SR s){i:Nat}(hi:i<s.S.Cells.length):1≤hdl s i:=by
 have:=hR.cell i hi;unfold hdl;omega
section
variable{s:a7}(hR:SR s){i:Nat}(hi:i<s.S.Cells.length)(ht:Th (ce s i))
include hR hi ht
theorem b47{d:Int}(hd:0≤(ce s i).Val.Weak+d):SR (mkA s i d):=by
 have:=hR.ok i hi ht;exact hR.put hi ht rfl ⟨this.s1,this.s2,this.st,hd,this.p1,this.p2,this.fl⟩
theorem a3v(d:Int)(j:Nat):ce (mkA s i d) j=if j=i then ⟨(ce s i).State,(ce s i).Gen,wkg (ce s i).Val ((ce s i).Val.Weak+d)⟩ else ce s j:=a6I hi _ j
theorem a6Z{d:Int}(hd:0≤(ce s i).Val.Weak+d):Kn s (mkA s i d):=by
 have hS:=b47 hR hi ht hd;refine⟨hS,N4 ..,c5G hR hi rfl hS,λk j=>b30 hi _,λk hk=>?_⟩;have q:=z6 hR hk;rw[P5 hS ((b4I hi _).2 q),P5 hR q,a3v hR hi ht];split
 ·rename_i e;rw[e];exact⟨_,_,rfl⟩
 ·exact⟨_,_,rfl⟩
theorem a60{d:Int}(hd:0≤(ce s i).Val.Weak+d){k:Int}(hk:k∈lv s):(ob (mkA s i d) k).Strong=(ob s k).Strong:=by
 have hS:=b47 hR hi ht hd;have q:=z6 hR hk;rw[P5 hS ((b4I hi _).2 q),P5 hR q,a3v hR hi ht];split
 ·rename_i e;rw[e]
 ·rfl
omit ht in
theorem b7Q:SR (gvA s i):=by
 have hc:=hR.cell i hi;have no:b0Q (oo z0):=⟨rfl,rfl,rfl,rfl,rfl,rfl⟩;unfold gvA;split;·exact hR.H4 hi ⟨by simp,by simp,hc.2.2.1,hc.2.2.2⟩ (λ_=>no) (λq=>absurd q (by unfold Th;simp))
 ·refine hR.H4 hi ⟨by simp,by simp,?_,?_⟩ (λ_=>no) (λq=>absurd q (by unfold Th;simp))
  ·show 0≤(ce s i).Gen+1;omega
  ·show (ce s i).Gen+1≤s.S.Last;omega
omit hR ht in
theorem b7N:∃c,(c.State=0∨c.State=3)∧gvA s i=H4 s i c∧∀j,ce (gvA s i) j=if j=i then c else ce s j:=by
 unfold gvA;split;·exact⟨_,.inr rfl,rfl,λj=>L3 hi _ j⟩
 ·exact⟨_,.inl rfl,rfl,λj=>L3 hi _ j⟩
omit ht in
theorem b7O (h2:(ce s i).State=2):lv (gvA s i)=lv s:=by
 obtain⟨c,c1,c2,_⟩:=b7N (s:=s) hi;have hS:=b7Q hR hi;rw[c2] at hS ⊢;rw[c2Q hR hi (by omega) hS,List.filter_eq_self]
 intro h hh;rw[decide_eq_true_iff];intro e;have:=(z6 hR hh).2.1;rw[e] at this;omega
omit ht in
theorem b7P (h2:(ce s i).State=2) {k:Int} (hk:k∈lv s):ob (gvA s i) k=ob s k:=by
 obtain⟨c,c1,c2,_⟩:=b7N (s:=s) hi;have hS:=b7Q hR hi;rw[c2] at hS ⊢;refine c2W hR hi hS hk λe=>?_;have:=(z6 hR hk).2.1;rw[e] at this;omega
omit ht in
theorem d0k {k:Int} {j:Nat}:V3 (gvA s i) k j↔V3 s k j∧j≠i:=by
 obtain⟨c,c1,c2,c3⟩:=b7N (s:=s) hi;by_cases e:j=i
 ·subst e;constructor
  ·rintro⟨_,h,_⟩;rw[c3,if_pos rfl] at h;unfold Th at h;omega
  ·rintro⟨_,h⟩;exact absurd rfl h
 ·rw[c2,c40 hi c e];simp[e]
theorem c75(h2:(ce s i).State=2)(y:Int):inn (gvA s i) y=inn s y:=by
 unfold inn;rw[b7O hR hi h2];congr 1;refine List.map_congr_left λx hx=>?_;unfold outs;rw[b7P hR hi h2 hx]
end
def mkd(x:Hp)(h:Int)(d:Int):Hp:=if V3 x.S h (D4 h) then wS x (mkA x.S (D4 h) d) else x
def a8P(x:Hp)(h:Int):Hp:=
 if V3 x.S h (D4 h) then
  (if (ce x.S (D4 h)).State=2∧(ce x.S (D4 h)).Val.Weak=1 then wS x (gvA (mkA x.S (D4 h) (-1)) (D4 h)) else wS x (mkA x.S (D4 h) (-1)))
 else x
abbrev wcl(h call:Int):g7:=⟨h,h != 0,call⟩
def tgt(x:Hp)(w:Nat):Int:=(x.Cells.getD w ⟨0,false,0⟩).Target
def a3k(x:Hp)(w:Nat)(h call:Int):Hp:=a8P (mkd (wC x (x.Cells.set w (wcl h call))) h 1) (tgt x w)
theorem c8o{l:List g7}{w:Nat}(hw:w<l.length)(c:g7){k:Int}(hk:k≠0):nmg (l.set w c) k+(if l[w].Target=k then 1 else 0)=nmg l k+if c.Target=k then 1 else 0:=by
 unfold nmg;rw[List.countP_set hw];have e:∀d:g7,(((k != 0)&&(d.Target==k))=true)=(d.Target=k):=λd=>by simp[hk]
 simp only[e];have:(if l[w].Target=k then 1 else 0)≤l.countP λc=>(k != 0)&&(c.Target==k):=by
  split
  ·rename_i q;exact List.countP_pos_iff.2 ⟨l[w],List.getElem_mem hw,by simp[q,hk]⟩
  ·exact Nat.zero_le _
 omega
theorem b1D{l:List g7}{i:Nat}(hi:i<l.length)(h0:l[i].Target≠0):0<nmg l l[i].Target:=List.countP_pos_iff.2 ⟨l[i],List.getElem_mem hi,by simp[h0]⟩
theorem c0z{x:Hp}(hx:S9 x){w:Nat}(hw:w<6){h call:Int}(hh:h=0∨h∈lv x.S)(hc : -1≤call∧call≤5)(hq:wts x.Q w=false):S9 (a3k x w h call):=by
 have hR:=hx.sh.sr;have hwl:w<x.Cells.length:=by rw[hx.sh.c6];exact hw
 have htg:tgt x w=x.Cells[w].Target:=by
  unfold tgt;rw[List.getD_eq_getElem?_getD,List.getElem?_eq_getElem hwl];rfl
 have s1:HpS (wC x (x.Cells.set w (wcl h call))):=by
  have:=hx.sh;refine⟨this.sr,this.hr,this.r6,by simpa using this.c6,this.cap,this.q30,this.tk,this.td,this.rt,this.fl,this.pr,λi hi=>?_⟩
  dsimp only at hi ⊢;rw[List.getElem_set];rw[List.length_set] at hi;split
  ·rename_i e;subst e;dsimp only;refine⟨hc.1,hc.2,λq=>by simp[q],λq=>?_,λq=>?_⟩
   ·exact⟨_,(z6 hR (hh.resolve_left q)).d⟩
   ·have q:h≠0:=by simpa using q
    exact⟨hh.resolve_left q,hq⟩
  ·exact this.cl i hi
 have k2:∃s2,mkd (wC x (x.Cells.set w (wcl h call))) h 1=wS (wC x (x.Cells.set w (wcl h call))) s2∧Kn x.S s2∧(∀k∈lv x.S,(ob s2 k).Strong=(ob x.S k).Strong) ∧
   ∀i,i<x.S.S.Cells.length→(ce s2 i).State=(ce x.S i).State∧(ce s2 i).Gen=(ce x.S i).Gen∧(ce s2 i).Val.Fields=(ce x.S i).Val.Fields∧(ce s2 i).Val.Strong=(ce x.S i).Val.Strong∧(Th (ce x.S i)→(ce s2 i).Val.Weak=(ce x.S i).Val.Weak+if h=hdl x.S i then 1 else 0):=by
  unfold mkd;rcases hh with h0 | hh
  ·have hno:¬V3 x.S h (D4 h):=λq=>by have:=q.rng hR;omega
   rw[if_neg hno];refine⟨x.S,rfl,(Kin.refl hR).kn hR,λ_ _=>rfl,λi hi=>⟨rfl,rfl,rfl,rfl,λht=>?_⟩⟩;have:=b35 hR hi;rw[if_neg (by omega)]
   omega
  ·have hp:=z6 hR hh;have hwk:=(hR.ok _ hp.1 (.inl hp.2.1)).wk;rw[if_pos hp.d];refine⟨_,rfl,a6Z hR hp.1 (.inl hp.2.1) (by omega),λk hk=>a60 hR hp.1 (.inl hp.2.1) (by omega) hk,λi hi=>?_⟩
   rw[a3v hR hp.1 (.inl hp.2.1)];split
   ·rename_i e;subst e;refine⟨rfl,rfl,rfl,rfl,λ_=>?_⟩;rw[if_pos (show h=hdl x.S (D4 h) from hp.2.2)]
   ·rename_i e;refine⟨rfl,rfl,rfl,rfl,λht=>?_⟩;rw[if_neg];·omega
    ·intro q;exact e (V3.one hR (q▸c2v hi ht) hp.d)
 obtain⟨s2,e2,kn2,st2,ce2⟩:=k2;have hR2:=kn2.sr;have len2:=kn2.len;have hS2:HpS (wS (wC x (x.Cells.set w (wcl h call))) s2):=s1.kn kn2;have hdl2:∀i,i<x.S.S.Cells.length→hdl s2 i=hdl x.S i:=λi hi=>by unfold hdl;rw[(ce2 i hi).2.1]
 have th2:∀i,i<x.S.S.Cells.length→(Th (ce s2 i)↔Th (ce x.S i)):=λi hi=>by unfold Th;rw[(ce2 i hi).1]
 have wk2:∀i,i<x.S.S.Cells.length→Th (ce x.S i)→(ce s2 i).Val.Weak=(nmg (x.Cells.set w (wcl h call)) (hdl x.S i):Int)+if tgt x w=hdl x.S i then 1 else 0:=λi hi ht=>by
  have h0:hdl x.S i≠0:=by have:=b35 hR hi;omega
  have:=c8o hwl (wcl h call) h0;rw[(ce2 i hi).2.2.2.2 ht,(hx.wk i hi ht).1,htg];dsimp only at this;unfold hdl at this ⊢;by_cases a:h=1+(i:Int)+32*(ce x.S i).Gen <;> by_cases b:x.Cells[w].Target=1+(i:Int)+32*(ce x.S i).Gen
  ·rw[if_pos a,if_pos b] at *;omega
  ·rw[if_pos a,if_neg b] at *;omega
  ·rw[if_neg a,if_pos b] at *;omega
  ·rw[if_neg a,if_neg b] at *;omega
 have dd2:∀i,i<x.S.S.Cells.length→(ce s2 i).State=2→(ce s2 i).Val.Fields = []∧(ce s2 i).Val.Strong=0:=λi hi q=>by
  obtain⟨a,_,b,c,_⟩:=ce2 i hi;rw[a] at q;rw[b,c];exact ((hx.wk i hi (.inr q)).2 q).2
 have nms2:∀k,nms (wS (wC x (x.Cells.set w (wcl h call))) s2) k=nms x k:=λk=>by
  unfold nms otr;dsimp only;rw[kn2.inn]
 have fair2:a1r (wS (wC x (x.Cells.set w (wcl h call))) s2) []:=hx.fair.mv kn2.lv st2 λk _=>by rw[nms2]
 unfold a3k;rw[e2];unfold a8P;dsimp only;by_cases hold:tgt x w=0
 ·have hno:¬V3 s2 (tgt x w) (D4 (tgt x w)):=λq=>by have:=q.rng hR2;omega
  rw[if_neg hno];refine⟨hS2,λi hi ht=>?_,fair2⟩;dsimp only at hi ht ⊢;rw[len2] at hi;have ht':=(th2 i hi).1 ht;have h0:=b35 hR hi;have hw2:=wk2 i hi ht';rw[if_neg (by omega)] at hw2
  rw[show (1+(i:Int)+32*(ce s2 i).Gen)=hdl x.S i from hdl2 i hi];refine⟨by omega,λq=>⟨?_,dd2 i hi q⟩⟩
  have q':(ce x.S i).State=2:=by rw[←(ce2 i hi).1];exact q
  have:=((hx.wk i hi ht').2 q').1;rw[(ce2 i hi).2.2.2.2 ht'];split <;> omega
 ·obtain⟨p,hp⟩:∃p,V3 x.S (tgt x w) p:=by
   rw[htg] at hold ⊢;exact (hx.sh.cl w hwl).2.2.2.1 hold
  have hpp:=hp.D4 hR;have hp2:V3 s2 (tgt x w) p:=(kn2.ad _ _).2 hp;have hth:tgt x w=hdl x.S p:=hp.2.2;rw[hpp,if_pos hp2];have hpl2:=hp2.1;have hw2:=wk2 p hp.1 hp.2.1;rw[if_pos hth] at hw2;have hd:0≤(ce s2 p).Val.Weak+(-1):=by omega
  have kn3:=a6Z hR2 hpl2 hp2.2.1 hd;have hR3:=kn3.sr;have ce3:=a3v hR2 hpl2 hp2.2.1 (-1);have hS3:HpS (wS (wC x (x.Cells.set w (wcl h call))) (mkA s2 p (-1))):=hS2.kn kn3;have fair3:a1r (wS (wC x (x.Cells.set w (wcl h call))) (mkA s2 p (-1))) []:=fair2.mv kn3.lv (λk hk=>a60 hR2 hpl2 hp2.2.1 hd hk) λk _=>by
   unfold nms otr;dsimp only;rw[kn3.inn]
  have wk3:∀i,i<x.S.S.Cells.length→Th (ce x.S i)→(ce (mkA s2 p (-1)) i).Val.Weak=(nmg (x.Cells.set w (wcl h call)) (hdl x.S i):Int):=λi hi ht=>by
   rw[ce3];by_cases e:i=p
   ·subst e;rw[if_pos rfl];dsimp only;omega
   ·rw[if_neg e,wk2 i hi ht,if_neg];·omega
    ·intro q;exact e (V3.one hR (q▸c2v hi ht) hp)
  have cs3:∀i,(ce (mkA s2 p (-1)) i).State=(ce s2 i).State∧(ce (mkA s2 p (-1)) i).Gen=(ce s2 i).Gen∧(ce (mkA s2 p (-1)) i).Val.Fields=(ce s2 i).Val.Fields∧(ce (mkA s2 p (-1)) i).Val.Strong=(ce s2 i).Val.Strong:=λi=>by
   rw[ce3];split
   ·rename_i e;subst e;exact⟨rfl,rfl,rfl,rfl⟩
   ·exact⟨rfl,rfl,rfl,rfl⟩
  by_cases hg:(ce s2 p).State=2∧(ce s2 p).Val.Weak=1
  ·-- the slot is given back
   rw[if_pos hg];have hpl3:p<(mkA s2 p (-1)).S.Cells.length:=by rw[kn3.len];exact hpl2
   have h23:(ce (mkA s2 p (-1)) p).State=2:=by rw[(cs3 p).1];exact hg.1
   have hn0:nmg (x.Cells.set w (wcl h call)) (tgt x w)=0:=by rw[hth];omega
   have hlv:=b7O hR3 hpl3 h23;have hob:=λk hk=>b7P (k:=k) hR3 hpl3 h23 hk;obtain⟨c,c1,c2,c3⟩:=b7N (s:=mkA s2 p (-1)) hpl3;refine⟨⟨b7Q hR3 hpl3,hS3.hr,hS3.r6,hS3.c6,hS3.cap,hS3.q30,λt htt=>?_,hS3.td,λv hv=>?_,λv hv u hu=>?_,λk v hkv=>?_,λi hi=>?_⟩,λi hi ht=>?_,?_⟩
   ·obtain⟨a,b,d⟩:=hS3.tk t htt;refine⟨a,b,?_⟩;dsimp only at d ⊢;rw[hlv];rcases d with ⟨d1,d2,d3⟩ | d;·exact .inl ⟨d1,d2,by rw[hob _ d2];exact d3⟩
    ·exact .inr d
   ·dsimp only;rw[hlv];exact hS3.rt v hv
   ·dsimp only at hv hu ⊢;rw[hlv] at hv ⊢;rw[hob _ hv] at hu;exact hS3.fl v hv u hu
   ·dsimp only;rw[hlv];exact hS3.pr k v hkv
   ·obtain⟨a1,a2,a3,a4,a5⟩:=hS3.cl i hi;refine⟨a1,a2,a3,λq=>?_,λq=>?_⟩
    ·obtain⟨j,hj⟩:=a4 q;refine⟨j,(d0k hR3 hpl3).2 ⟨hj,λe=>?_⟩⟩;subst e;have e1:=(kn2.ad _ _).1 ((kn3.ad _ _).1 hj);have e2:(x.Cells.set w (wcl h call))[i].Target=tgt x w:=e1.2.2.trans hp.2.2.symm;have:=b1D hi q;dsimp only at this;rw[e2] at this;omega
    ·dsimp only;rw[hlv];exact a5 q
   ·dsimp only at hi ht ⊢;rw[show (gvA (mkA s2 p (-1)) p).S.Cells.length=x.S.S.Cells.length by rw[c2,X4,kn3.len,len2]] at hi
    rw[c3] at ht ⊢;split at ht;·unfold Th at ht;omega
    ·rename_i e;rw[if_neg e];have ht':Th (ce x.S i):=(th2 i hi).1 (by unfold Th at ht ⊢;rw[(cs3 i).1] at ht;exact ht)
     have:=wk3 i hi ht';rw[show (1+(i:Int)+32*(ce (mkA s2 p (-1)) i).Gen)=hdl x.S i by rw[(cs3 i).2.1];exact hdl2 i hi]
     refine⟨this,λq=>?_⟩;rw[(cs3 i).1] at q;rw[(cs3 i).2.2.1,(cs3 i).2.2.2,ce3,if_neg e];refine⟨?_,dd2 i hi q⟩;have q':(ce x.S i).State=2:=by rw[←(ce2 i hi).1];exact q
     have:=((hx.wk i hi ht').2 q').1;rw[(ce2 i hi).2.2.2.2 ht'];split <;> omega
   ·refine fair3.mv hlv (λk hk=>by rw[hob k hk]) λk _=>?_
    unfold nms otr;dsimp only;rw[c75 hR3 hpl3 (.inr h23) h23]
  ·rw[if_neg hg];refine⟨hS3,λi hi ht=>?_,fair3⟩;dsimp only at hi ht ⊢;rw[kn3.len,len2] at hi;have ht':Th (ce x.S i):=(th2 i hi).1 (by unfold Th at ht ⊢;rw[(cs3 i).1] at ht;exact ht)
   have:=wk3 i hi ht';rw[show (1+(i:Int)+32*(ce (mkA s2 p (-1)) i).Gen)=hdl x.S i by rw[(cs3 i).2.1];exact hdl2 i hi]
   refine⟨this,λq=>?_⟩;rw[(cs3 i).1] at q;rw[(cs3 i).2.2.1,(cs3 i).2.2.2];refine⟨?_,dd2 i hi q⟩;rw[ce3];split
   ·rename_i e;subst e;dsimp only;have:(ce s2 i).Val.Weak≠1:=λq2=>hg ⟨q,q2⟩;omega
   ·have q':(ce x.S i).State=2:=by rw[←(ce2 i hi).1];exact q
    have:=((hx.wk i hi ht').2 q').1;rw[(ce2 i hi).2.2.2.2 ht'];split <;> omega
end Go.Sh
namespace Go.Sh
def wcR(c:g7):l5:=⟨c.Target,c.Intact,c.Call⟩
def hO(x:Hp):c7:=⟨sO x.S,x.Roots,x.Cells.map wcR,x.T.map M1,tqR x.Q⟩
structure HB (x:Hp):Prop where
 sb:SB x.S
 fb:FB x.S
 rb:LB x.Roots
 cb:∀c∈x.Cells,c.Target≤9223372036854775807
 tb:TB x.T
 qb:∀t∈x.Q.L,t.At≤9223372036854775807
theorem c5D{β:Type}{b:Nat}{f:Int × List β→Option ((Int × List β) ⊕ List β)}(n:Nat)(g:Nat→β)(hb:0<b)(h:n*b≤140737488355328)
  (hs:∀(k:Nat) acc,k<n→f ((k:Int),acc)=(app b acc [g k]).bind λv=>some (.inl (x6 ((k:Int)+1),v)))(he:∀acc,f ((n:Int),acc)=some (.inr acc)):lp f (0,[])=some ((List.range n).map g):=by
 have hl:n*1≤n*b:=Nat.mul_le_mul_left _ hb;refine a3N (a1X n (λk l=>l=(List.range k).map g) (λe=>e=(List.range n).map g) (by omega) (by simp) ?_ ?_)
 ·rintro k l hk rfl;have h3:(k+1)*b≤n*b:=Nat.mul_le_mul_right _ hk;refine .inl ⟨(List.range (k+1)).map g,?_,rfl⟩;rw[hs k _ hk,C6 hb (by simp;omega),d4l,k8,List.range_succ,List.map_append]
  rfl
 ·rintro l rfl;exact⟨_,he _,rfl⟩
theorem b7D{R:Type}{f:Int→Option (Int ⊕ (Bool ⊕ Unit))}{κ:Bool ⊕ Unit→Option R}{Q:R→Prop}(n:Nat)(p:Nat→Prop)(hn:n<4611686018427387904)
  (hs:∀k:Nat,k<n→∃z,f (k:Int)=some z∧((p k∧z = .inl ((k+1:Nat):Int))∨(¬p k∧z = .inr (.inl false))))(he:f (n:Int)=some (.inr (.inr ())))
  (h1:(∀k,k<n→p k)→∃r,κ (.inr ())=some r∧Q r)(h0:(¬∀k,k<n→p k)→∃r,κ (.inl false)=some r∧Q r):∃r,(lp f 0).bind κ=some r∧Q r:=by
 obtain⟨e,e1,e2⟩:=b60 (f:=f) n (λk=>∀j,j<k→p j) (λe=>(e = .inr ()∧∀k,k<n→p k)∨(e = .inl false∧¬∀k,k<n→p k)) hn (λj hj=>by omega) (λk hk hP=>by
  obtain⟨z,z1,z2⟩:=hs k hk;rcases z2 with ⟨a,rfl⟩ | ⟨a,rfl⟩
  ·refine .inl ⟨z1,λj hj=>?_⟩;rcases Nat.lt_or_ge j k with q | q
   ·exact hP j q
   ·have:j=k:=by omega
    subst this;exact a
  ·exact .inr ⟨_,z1,.inr ⟨rfl,λq=>a (q k hk)⟩⟩) (λhP=>⟨_,he,.inl ⟨rfl,hP⟩⟩)
 rw[e1];rcases e2 with ⟨rfl,h⟩ | ⟨rfl,h⟩;·exact h1 h
 ·exact h0 h
theorem c6F{s:a7}(hR:SR s){h:Int}(hh:h∈lv s):seO s h (ob s h)=s:=by
 have q:=z6 hR hh;unfold seO a12;rw[P5 hR q];have e:s.S.Cells.set (D4 h) ⟨(ce s (D4 h)).State,(ce s (D4 h)).Gen,(ce s (D4 h)).Val⟩=s.S.Cells:=by
  rw[show (⟨(ce s (D4 h)).State,(ce s (D4 h)).Gen,(ce s (D4 h)).Val⟩:b8)=ce s (D4 h) from rfl,F0 q.1];exact List.set_getElem_self q.1
 rw[e]
section
variable{x:Hp}(hR:SR x.S)
include hR
theorem b1t{h:Int}(hh:h≤9223372036854775807):a0n x h=some (decide (h∈lv x.S)):=by
 unfold a0n;obtain⟨e,h1,h2⟩:=W0 (y4.2 hR) hh;rw[h1,d4l];congr 1;rw[Bool.eq_iff_iff,beq_iff_eq,decide_eq_true_iff,h2]
theorem a6W{h:Int}(hh:h≤9223372036854775807):X9 (hO x) h=some (decide (h∈lv x.S)):=by
 unfold X9;obtain⟨e,h1,h2⟩:=W0 (y4.2 hR) hh;rw[show (hO x).S=sO x.S from rfl,a4X x.S (by have:=hR.len;omega) hh,h1,Option.map_some,d4l]
 congr 1;rw[Bool.eq_iff_iff,beq_iff_eq,decide_eq_true_iff,h2]
theorem a1m{h:Int}(hh:h≤9223372036854775807):I0 x h=some (decide (h=0∨h∈lv x.S)):=by
 unfold I0;by_cases q:h=0
 ·subst q;simp[p7]
 ·have e:(h==0)=false:=by simpa using q
  rw[e];simp only[beq_self_eq_true,G9,Bool.false_or];rw[b1t hR hh,d4l];simp[q]
theorem a6Y{h:Int}(hh:h≤9223372036854775807):Y0 (hO x) h=some (decide (h=0∨h∈lv x.S)):=by
 unfold Y0;by_cases q:h=0
 ·subst q;simp[p7]
 ·have e:(h==0)=false:=by simpa using q
  rw[e];simp only[beq_self_eq_true,G9,Bool.false_or];rw[a6W hR hh,d4l];simp[q]
theorem d0r{c:Int}(hc:c≤9223372036854775807):a81 c=some (Z9 c):=by
 unfold a81 a4a G3 Z9;simp only[d4l];by_cases q:12≤c
 ·rw[if_pos (by simpa using q),if_pos q,d4l]
 ·rw[if_neg (by simpa using q),if_neg q,d4l]
  by_cases q2:c<0
  ·rw[if_pos (show 0 > c from q2),if_pos q2];rfl
  ·rw[if_neg (show ¬0 > c from q2),if_neg q2,F7 (by omega) (by omega)]
theorem b9A{c:Int}(hc:c≤9223372036854775807):b1L c=some (Z9 c):=by
 unfold b1L a0N Z9;simp only[d4l];by_cases q:12≤c
 ·rw[if_pos (by simpa using q),if_pos q]
 ·rw[if_neg (by simpa using q),if_neg q]
  by_cases q2:c<0
  ·rw[if_pos (by simpa using q2),if_pos q2]
  ·rw[if_neg (by simpa using q2),if_neg q2,F7 (by omega) (by omega)]
omit hR in
theorem c6j {s:a7} (hR:SR s) {h:Int} (hh:h∈lv s) {n:Int} (hn:0≤n):L0 s h (stg (ob s h) n)=some (seO s h (stg (ob s h) n),0):=by
 have:=K8 hR hh;exact b2e (o:=stg (ob s h) n) hR hh rfl ⟨this.s1,this.s2,hn,this.wk,this.p1,this.p2,this.fl⟩
omit hR in
theorem b2f {s:a7} (hR:SR s) {h:Int} (hh:h∈lv s) {o:k9} (hs:o.Serial=(ob s h).Serial) (ho:OkO s o):N6 (sO s) h (oo o)=some (sO (seO s h o),0):=by
 have:=K1 hR hh;rw[c6H s hR.len (by omega) o,b2e hR hh hs ho]
 rfl
theorem a6i{h:Int}(hh:h≤9223372036854775807)(hB:∀k∈lv x.S,(ob x.S k).Strong≤9223372036854775807):a0l x h=some (C3 x h):=by
 unfold a0l U0 C3 stO;obtain⟨e,h1,h2⟩:=W0 (y4.2 hR) hh;rw[h1,d4l];by_cases q:h∈lv x.S
 ·have e0:=h2.2 q;subst e0;rw[if_pos q,d0r hR (hB h q)];simp only[beq_self_eq_true,if_true,d4l];have:=c6j hR q (E3 (K8 hR q).st);rw[this];rfl
 ·have:(e==0)=false:=by simpa using λc=>q (h2.1 c)
  rw[this,if_neg q];rfl
theorem a8C{h:Int}(hh:h≤9223372036854775807)(hB:∀k∈lv x.S,(ob x.S k).Strong≤9223372036854775807):a0t (hO x) h=some (hO (C3 x h)):=by
 unfold a0t a4p C3 stO;obtain⟨e,h1,h2⟩:=W0 (y4.2 hR) hh;have hg:F9 (hO x).S h=some (oo (ob x.S h),e):=by
  rw[show (hO x).S=sO x.S from rfl,a4X x.S (by have:=hR.len;omega) hh,h1]
  rfl
 rw[hg,d4l];by_cases q:h∈lv x.S
 ·have e0:=h2.2 q;subst e0;have hs:b1L (oo (ob x.S h),(0:Int)).1.Strong=some (Z9 (ob x.S h).Strong):=b9A hR (hB h q);rw[if_pos q,hs,d4l];simp only[d4l,bne_self_eq_false,Bool.false_eq_true,if_false];have ok:=K8 hR q;have:=b2f (o:=stg (ob x.S h) (Z9 (ob x.S h).Strong)) hR q rfl ⟨ok.s1,ok.s2,E3 ok.st,ok.wk,ok.p1,ok.p2,ok.fl⟩;rw[show N6 (hO x).S h ⟨(oo (ob x.S h)).Serial,Z9 (ob x.S h).Strong,(oo (ob x.S h)).Weak,(oo (ob x.S h)).Prog,(oo (ob x.S h)).Started,(oo (ob x.S h)).Fields⟩=_ from this];rfl
 ·have he:(e != 0)=true:=by simpa using λc=>q (h2.1 c)
  have hb:(oo (ob x.S h)).Strong≤9223372036854775807:=by
   rw[b0a (y4.2 hR) hh q];decide
  rw[b9A hR hb,d4l,d4l];simp only[he,if_true];rw[if_neg q];rfl
omit hR in
theorem c97 (c:Int) (h1 : -1000000≤c):a1R c=some (b0r c):=by
 unfold a1R b2F a2n G3 b0r;simp only[d4l];by_cases q:12≤c
 ·rw[if_pos (by simpa using q),if_pos q]
  rfl
 ·rw[if_neg (by simpa using q),if_neg q]
  by_cases q2:c<1
  ·rw[if_pos (by simpa using q2),if_pos q2]
   rfl
  ·rw[if_neg (by simpa using q2),if_neg q2,F7 (by omega) (by omega)]
   rfl
theorem a2E{h:Int}(hh:h≤9223372036854775807):D0 x h=some (R8 x h):=by
 unfold D0 N9 R8 stO;obtain⟨e,h1,h2⟩:=W0 (y4.2 hR) hh;rw[h1,d4l];by_cases q:h∈lv x.S
 ·have e0:=h2.2 q;subst e0;have ok:=K8 hR q;rw[if_pos q,c97 _ (by have:=ok.st;dsimp only;omega)]
  simp only[beq_self_eq_true,if_true,d4l];have:=c6j hR q (Q9 ok.st);rw[this];rfl
 ·have:(e==0)=false:=by simpa using λc=>q (h2.1 c)
  rw[this,if_neg q];rfl
theorem a31{h:Int}(hh:h≤9223372036854775807):E4 (hO x) h=some (hO (R8 x h)):=by
 unfold E4 a4p R8 stO;obtain⟨e,h1,h2⟩:=W0 (y4.2 hR) hh;have hg:F9 (hO x).S h=some (oo (ob x.S h),e):=by
  rw[show (hO x).S=sO x.S from rfl,a4X x.S (by have:=hR.len;omega) hh,h1]
  rfl
 rw[hg,d4l];by_cases q:h∈lv x.S
 ·have e0:=h2.2 q;subst e0;have ok:=K8 hR q;have put:∀n,0≤n→N6 (hO x).S h ⟨(oo (ob x.S h)).Serial,n,(oo (ob x.S h)).Weak,(oo (ob x.S h)).Prog,(oo (ob x.S h)).Started,(oo (ob x.S h)).Fields⟩=some (sO (seO x.S h (stg (ob x.S h) n)),0):=λn hn=>
   b2f (o:=stg (ob x.S h) n) hR q rfl ⟨ok.s1,ok.s2,hn,ok.wk,ok.p1,ok.p2,ok.fl⟩
  have hs:(oo (ob x.S h)).Strong=(ob x.S h).Strong:=rfl;rw[if_pos q];unfold b4d a0N b0r;simp only[d4l,hs];by_cases q1:12≤(ob x.S h).Strong
  ·rw[if_pos (by simpa using q1),if_pos q1]
   simp only[d4l,bne_self_eq_false,Bool.false_eq_true,if_false];rw[put 12 (by decide)]
   rfl
  ·rw[if_neg (by simpa using q1),if_neg q1]
   by_cases q2:(ob x.S h).Strong<1
   ·rw[if_pos (by simpa using q2),if_pos q2]
    simp only[d4l,show ((11:Int) != 0)=true from rfl,if_true];rw[show stg (ob x.S h) (ob x.S h).Strong=ob x.S h from rfl,c6F hR q]
   ·rw[if_neg (by simpa using q2),if_neg q2,F7 (by omega) (by have:=ok.st;omega)]
    simp only[d4l,bne_self_eq_false,Bool.false_eq_true,if_false];rw[put _ (by omega)]
    rfl
 ·have he:(e != 0)=true:=by simpa using λc=>q (h2.1 c)
  rw[if_neg q,b0a (y4.2 hR) hh q];unfold b4d a0N;simp only[d4l];rfl
end
theorem c4w{x:Hp}(hR:SR x.S)(hB:SB x.S):∀k∈lv x.S,(ob x.S k).Strong≤9223372036854775807:=λk hk=>(b3d (y4.2 hR) hB hk).2
end Go.Sh
