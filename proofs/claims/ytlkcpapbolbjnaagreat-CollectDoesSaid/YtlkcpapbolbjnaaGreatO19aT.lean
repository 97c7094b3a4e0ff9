/-
 Several texts of one kind, one behind the other.
-/
import Derived.Test.YtlkcpapbolbjnaaGreatO19aSh
import Derived.Test.YtlkcpapbolbjnaaGreatO19aSh1
import Derived.Test.YtlkcpapbolbjnaaGreatO19aSh
import Derived.Test.YtlkcpapbolbjnaaGreatO19aSh
set_option linter.unusedVariables false
set_option linter.unusedSimpArgs false
set_option linter.unusedSectionVars false
namespace Go.Sh
def Hnd(h:Int):Prop:=1≤h∧(h-1) % 32<24∧(h-1) / 32≤9
instance(h:Int):Decidable (Hnd h):=by unfold Hnd;infer_instance
theorem b2O{h:Int}(q:Hnd h):1≤h∧h≤320:=by unfold Hnd at q;omega
theorem a6I{i g:Int}(h1:0≤i)(h2:i<24)(h3:0≤g)(h4:g≤9):U4 i g=some (1+i+32*g):=by
 unfold U4
 rw[if_neg (by simp;omega)]
 rw[show s7 (i*1)=i by rw[a2Q];omega,show s7 (1+i)=1+i by rw[a2Q];omega,show s7 (g*32)=32*g by rw[a2Q];omega,show s7 (1+i+32*g)=1+i+32*g by rw[a2Q];omega]
theorem a6W{i g:Int}:a3k i g=some (if 0≤i∧i<24∧0≤g∧g≤9 then 1+i+32*g else 0):=by
 unfold a3k
 split
 ·rename_i h;rw[if_neg (by simp at h;omega)]
 ·rename_i h
  have h:0≤i∧i<24∧0≤g∧g≤9:=by simp at h;omega
  rw[if_pos h]
  rw[show s7 (1+i)=1+i by rw[a2Q];omega,show s7 (32*g)=32*g by rw[a2Q];omega,show s7 (1+i+32*g)=1+i+32*g by rw[a2Q];omega]
theorem a52{h:Int}(hh:h≤9223372036854775807):a0J h=some (if Hnd h then ((h-1) % 32,(h-1) / 32,true) else (-1,-1,false)):=by
 unfold a0J
 split
 ·rename_i q
  rw[if_neg (by unfold Hnd;simp at q;omega)]
 ·rename_i q
  have q:1≤h:=by simpa using q
  rw[G7 (n:=h-1),b0g (by omega) (by omega),d0Y,b2c (by omega) (by omega) (by omega),d0Y,b2c (by omega) (by omega) (by omega),d0Y,Int.ediv_one]
  split
  ·rename_i q2
   rw[if_neg (by unfold Hnd;simp at q2;omega)]
  ·rename_i q2
   rw[if_pos (by unfold Hnd;simp at q2;omega)]
theorem a3c{h:Int}(hh:h≤9223372036854775807):a11 h=some (if Hnd h then (h-1) % 32 else -1):=by
 unfold a11
 rw[a52 hh,d0Y]
 split <;> rfl
theorem a4d{h:Int}(hh:h≤9223372036854775807):a3a h=some (if Hnd h then (h-1) / 32 else -1):=by
 unfold a3a
 rw[a52 hh,d0Y]
 split <;> rfl
theorem a9R{h:Int}:a4H h=some (decide (Hnd h)):=by
 unfold a4H
 split
 ·rename_i q
  rw[decide_eq_false (by unfold Hnd;simp at q;omega)]
 ·rename_i q
  have q:1≤h∧h≤400:=by simp at q;omega
  rw[G7 (n:=h-1),b0g (by omega) (by omega),d0Y,b2c (by omega) (by omega) (by omega),d0Y,a6W,d0Y]
  congr 1
  by_cases k:Hnd h
  ·rw[decide_eq_true k,if_pos (by unfold Hnd at k;omega)]
   simp;omega
  ·rw[decide_eq_false k,if_neg (by unfold Hnd at k;omega)]
   simp;omega
theorem b1s{h:Int}:a6Y h=some (if Hnd h then (h-1) % 32 else -1):=by
 unfold a6Y
 rw[a9R,d0Y]
 by_cases k:Hnd h
 ·have:=b2O k
  rw[decide_eq_true k,if_neg (by simp),if_pos k,G7 (n:=h-1),b0g (by omega) (by omega),d0Y]
 ·rw[decide_eq_false k,if_pos (by simp),if_neg k]
theorem b80{h:Int}:b2d h=some (if Hnd h then (h-1) / 32 else -1):=by
 unfold b2d
 rw[a9R,d0Y]
 by_cases k:Hnd h
 ·have:=b2O k
  rw[decide_eq_true k,if_neg (by simp),if_pos k,G7 (n:=h-1),b2c (by omega) (by omega) (by omega),d0Y]
 ·rw[decide_eq_false k,if_pos (by simp),if_neg k]
end Go.Sh
namespace Go.Sh
theorem b5h(a b:List Int)(ha:a.length<4611686018427387904):V1 a b=some (decide (a=b)):=by
 unfold V1
 by_cases hl:a.length=b.length
 ·rw[if_neg (by simp[hl])]
  simp only[jn]
  refine E0 a.length (λk=>∀j (h1:j<a.length) (h2:j<b.length),j<k→a[j]=b[j]) ha (λ_ _ _ h=>by omega) (λk hk hP=>?_) (λhP=>?_)
  ·have hk2:k<b.length:=by omega
   simp only[Int.ofNat_lt,hk,decide_true,if_true,l5 hk,l5 hk2,d0Y]
   by_cases e:a[k]=b[k]
   ·refine .inl ⟨?_,λj h1 h2 hj=>?_⟩
    ·rw[if_neg (by simpa using e),c8]
    ·rcases Nat.lt_or_ge j k with q | q
     ·exact hP j h1 h2 q
     ·have:j=k:=by omega
      subst this;exact e
   ·refine .inr ⟨.inl false,by rw[if_pos (by simpa using e)],?_⟩
    simp only
    rw[decide_eq_false (λq=>e (by subst q;rfl))]
  ·refine⟨.inr (),by simp,?_⟩
   simp only
   rw[decide_eq_true (List.ext_getElem hl λi h1 h2=>hP i h1 h2 h1)]
 ·rw[if_pos (by rw[bne_iff_ne];omega)]
  rw[decide_eq_false (λq=>hl (by rw[q]))]
end Go.Sh
namespace Go.Sh
abbrev z0:store_Obj:=⟨0,0,0,0,false,[]⟩
theorem a75{s:slab_Slab_store_Obj}{i:Int}{k:Nat}{c:slab_Cell_store_Obj}(hi:i=k)(hk:k<s.Cells.length)(hl:s.Cells.length≤24):B0 s i c=some ⟨s.Cells.set k c,s.Last⟩:=by
 subst hi
 unfold B0 r9
 rw[T5 (by omega) (by omega),d0Y,l5 hk,d0Y,Int.toNat_natCast]
def b0C(s:slab_Slab_store_Obj)(h:Int)(i:Nat):Prop:=∃hi:i<s.Cells.length,Hnd h∧(h-1) % 32=i∧s.Cells[i].Gen=(h-1) / 32∧(s.Cells[i].State=1∨s.Cells[i].State=2)
theorem a0H(s:slab_Slab_store_Obj){h:Int}(hh:h≤9223372036854775807) :
  (∃i,b0C s h i∧p7 s h=some ((i:Int),0))∨((∀i,¬b0C s h i)∧p7 s h=some (-1,if h=0 then 2 else 3)):=by
 unfold p7
 by_cases h0:h=0
 ·right
  subst h0
  exact⟨λi ⟨_,h1,_⟩=>by unfold Hnd at h1;omega,by simp⟩
 ·rw[if_neg (by simpa using h0),a3c hh,d0Y,if_neg h0]
  by_cases hd:Hnd h
  ·rw[if_pos hd]
   have hd':=hd
   unfold Hnd at hd'
   obtain⟨k,hk⟩:∃k:Nat,(h-1) % 32=k:=⟨((h-1) % 32).toNat,by omega⟩
   rw[hk]
   by_cases hl:k<s.Cells.length
   ·rw[if_neg (by simp;omega),l5 hl,d0Y,a4d hh,d0Y,if_pos hd]
    by_cases g:s.Cells[k].Gen=(h-1) / 32∧(s.Cells[k].State=1∨s.Cells[k].State=2)
    ·left
     refine⟨k,⟨hl,hd,hk,g⟩,?_⟩
     rw[if_neg]
     simp;omega
    ·right
     refine⟨λi ⟨hi,_,h2,h3⟩=>?_,?_⟩
     ·have:i=k:=by omega
      subst this;exact g h3
     ·rw[if_pos]
      simp;omega
   ·right
    refine⟨λi ⟨hi,_,h2,h3⟩=>by omega,?_⟩
    rw[if_pos (by simp;omega)]
  ·right
   refine⟨λi ⟨hi,h1,_⟩=>hd h1,?_⟩
   rw[if_neg hd,if_pos (by simp)]
theorem a7z{s:slab_Slab_store_Obj}{h:Int}{i:Nat}(hf:b0C s h i):p7 s h=some ((i:Int),0):=by
 have hh:=b2O hf.2.1
 rcases a0H s (h:=h) (by omega) with ⟨j,h1,h2⟩ | ⟨h1,_⟩
 ·obtain⟨_,_,e1,_⟩:=hf
  obtain⟨_,_,e2,_⟩:=h1
  have:i=j:=by omega
  subst this;exact h2
 ·exact absurd hf (h1 i)
theorem b0N{s:slab_Slab_store_Obj}{h:Int}(hh:h≤9223372036854775807)(hf:∀i,¬b0C s h i):p7 s h=some (-1,if h=0 then 2 else 3):=by
 rcases a0H s hh with ⟨j,h1,_⟩ | ⟨_,h2⟩
 ·exact absurd h1 (hf j)
 ·exact h2
theorem a4q(h:Int):(if h=0 then 2 else 3:Int)≠0:=by split <;> omega
theorem b61{s:slab_Slab_store_Obj}{h:Int}{i:Nat}(hf:b0C s h i):∃hi:i<s.Cells.length,C0 s h=some (if s.Cells[i].State=2 then (z0,3) else (s.Cells[i].Val,0)):=by
 refine⟨hf.1,?_⟩
 unfold C0
 rw[a7z hf,d0Y,if_neg (by simp),l5 hf.1,d0Y]
 split <;> rename_i q
 ·rw[if_pos (by simpa using q)]
 ·rw[if_neg (by simpa using q)]
theorem c2o{s:slab_Slab_store_Obj}{h:Int}(hh:h≤9223372036854775807)(hf:∀i,¬b0C s h i):C0 s h=some (z0,if h=0 then 2 else 3):=by
 unfold C0
 rw[b0N hh hf,d0Y,if_pos (by simpa using a4q h)]
theorem b7Z{s:slab_Slab_store_Obj}{h:Int}{v:store_Obj}{i:Nat}(hl:s.Cells.length≤24)(hf:b0C s h i):∃hi:i<s.Cells.length,H7 s h v=some (⟨s.Cells.set i ⟨s.Cells[i].State,s.Cells[i].Gen,v⟩,s.Last⟩,0):=by
 refine⟨hf.1,?_⟩
 unfold H7
 rw[a7z hf,d0Y,if_neg (by simp),l5 hf.1,d0Y,a75 rfl hf.1 hl,d0Y]
theorem c3v{s:slab_Slab_store_Obj}{h:Int}{v:store_Obj}(hh:h≤9223372036854775807)(hf:∀i,¬b0C s h i):H7 s h v=some (s,if h=0 then 2 else 3):=by
 unfold H7
 rw[b0N hh hf,d0Y,if_pos (by simpa using a4q h)]
end Go.Sh
namespace Go.Sh
def oo(o:store_Obj):z8:=⟨o.Serial,o.Strong,o.Weak,o.Prog,o.Started,o.Fields⟩
def cO(c:slab_Cell_store_Obj):j6:=⟨c.State,c.Gen,oo c.Val⟩
def sO(s:store_Store):c9:=⟨s.S.Cells.map cO,s.S.Last,s.Serial⟩
def Sm(s:store_Store):Prop:=s.S.Cells.length≤30∧∀i (h:i<s.S.Cells.length),s.S.Cells[i].Val.Fields.length≤10
instance(s:store_Store):Decidable (Sm s):=by unfold Sm;infer_instance
def plc(i:Nat)(c:j6):r8:=⟨c.State,c.Gen,(i:Int)⟩
def pl(t:c9):z7:=⟨t.Cells.mapIdx plc,t.Last⟩
theorem a5A(t:c9)(h:t.Cells.length≤1000):L8 t=some (pl t):=by
 unfold L8
 simp only[jn]
 refine M1 t.Cells.length (λk acc=>acc=(t.Cells.mapIdx plc).take k) (by omega) (by simp) (λk acc hk hP=>?_) (λacc hP=>?_)
 ·subst hP
  refine .inl ⟨_,?_,rfl⟩
  simp only[Int.ofNat_lt,hk,decide_true,if_true,l5 hk,d0Y]
  rw[u7 (by omega) (by simp;omega),d0Y,c8]
  have e:(t.Cells.mapIdx plc).take (k+1)=(t.Cells.mapIdx plc).take k ++ [plc k t.Cells[k]]:=by
   rw[List.take_add_one,List.getElem?_eq_getElem (by simpa using hk)]
   simp
  rw[e]
  rfl
 ·subst hP
  rw[List.take_of_length_le (by simp)]
  exact⟨t.Cells.mapIdx plc,by simp only[Int.lt_irrefl,decide_false,Bool.false_eq_true,if_false],rfl⟩
theorem c3V(s:z7):a7H s=some (decide (s.Cells.length≤24∧0≤s.Last∧s.Last≤9∧∀i (h:i<s.Cells.length),0≤s.Cells[i].State∧s.Cells[i].State≤3∧0≤s.Cells[i].Gen∧s.Cells[i].Gen≤s.Last)):=by
 unfold a7H
 split
 ·rename_i q
  rw[decide_eq_false (by simp at q;omega)]
 ·rename_i q
  have q:s.Cells.length≤24∧0≤s.Last∧s.Last≤9:=by simp at q;omega
  simp only[jn]
  refine E0 s.Cells.length (λk=>∀j (h:j<s.Cells.length),j<k→0≤s.Cells[j].State∧s.Cells[j].State≤3∧0≤s.Cells[j].Gen∧s.Cells[j].Gen≤s.Last) (by omega) (λ_ _ h=>by omega) (λk hk hP=>?_) (λhP=>?_)
  ·by_cases g:0≤s.Cells[k].State∧s.Cells[k].State≤3∧0≤s.Cells[k].Gen∧s.Cells[k].Gen≤s.Last
   ·refine .inl ⟨?_,λj h hj=>?_⟩
    ·simp only[Int.ofNat_lt,hk,decide_true,if_true,l5 hk,d0Y]
     rw[if_neg (by simp;omega),c8]
    ·rcases Nat.lt_or_ge j k with q' | q'
     ·exact hP j h q'
     ·have:j=k:=by omega
      subst this;exact g
   ·refine .inr ⟨.inl false,?_,?_⟩
    ·simp only[Int.ofNat_lt,hk,decide_true,if_true,l5 hk,d0Y]
     rw[if_pos (by simp;omega)]
    ·simp only
     rw[decide_eq_false (λq'=>g (q'.2.2.2 k hk))]
  ·refine⟨.inr (),by simp,?_⟩
   simp only
   rw[decide_eq_true ⟨q.1,q.2.1,q.2.2,λi h=>hP i h h⟩]
def Thr(c:j6):Prop:=c.State=1∨c.State=2
instance(c:j6):Decidable (Thr c):=by unfold Thr;infer_instance
theorem b0r(c:j6):a2T c=some (decide (Thr c)):=by
 unfold a2T
 congr 1
 rw[Bool.eq_iff_iff,decide_eq_true_iff,Bool.or_eq_true,beq_iff_eq,beq_iff_eq]
 rfl
def b1K(t:c9)(o:z8):Prop:=1≤o.Serial∧o.Serial≤t.Serial∧0≤o.Strong∧0≤o.Weak ∧ -1≤o.Prog∧o.Prog≤5∧o.Fields.length≤4
def b1J(o:z8):Prop:=o.Serial=0∧o.Strong=0∧o.Weak=0∧o.Prog=0∧o.Started=false∧o.Fields.length=0
structure RtR (t:c9):Prop where
 len:t.Cells.length≤24
 l0:0≤t.Last
 l9:t.Last≤9
 ser:0≤t.Serial
 cell:∀i (h:i<t.Cells.length),0≤t.Cells[i].State∧t.Cells[i].State≤3∧0≤t.Cells[i].Gen∧t.Cells[i].Gen≤t.Last
 no:∀i (h:i<t.Cells.length),¬Thr t.Cells[i]→b1J t.Cells[i].Val
 ok:∀i (h:i<t.Cells.length),Thr t.Cells[i]→b1K t t.Cells[i].Val
 dif:∀i (h:i<t.Cells.length) k (hk:k<i),Thr t.Cells[i]→Thr t.Cells[k]→t.Cells[k].Val.Serial≠t.Cells[i].Val.Serial
def c3S(t:c9)(i:Nat)(h:i<t.Cells.length):Prop:=
 (¬Thr t.Cells[i]→b1J t.Cells[i].Val)∧(Thr t.Cells[i]→b1K t t.Cells[i].Val)∧∀k (hk:k<i),Thr t.Cells[i]→Thr t.Cells[k]→t.Cells[k].Val.Serial≠t.Cells[i].Val.Serial
theorem c3W(t:c9)(hl:t.Cells.length≤1000):∃b,a7I t=some b∧(b=true↔RtR t):=by
 unfold a7I
 rw[a5A t hl,d0Y,c3V,d0Y]
 by_cases hR:(pl t).Cells.length≤24∧0≤(pl t).Last∧(pl t).Last≤9∧∀i (h:i<(pl t).Cells.length),0≤(pl t).Cells[i].State∧(pl t).Cells[i].State≤3∧0≤(pl t).Cells[i].Gen∧(pl t).Cells[i].Gen≤(pl t).Last
 ·by_cases hs:0≤t.Serial
  ·rw[decide_eq_true hR]
   rw[if_neg (by simp;omega)]
   simp only[jn]
   have hcell:∀i (h:i<t.Cells.length),0≤t.Cells[i].State∧t.Cells[i].State≤3∧0≤t.Cells[i].Gen∧t.Cells[i].Gen≤t.Last:=λi h=>by
    have:=hR.2.2.2 i (by simpa[pl] using h)
    simpa[pl,plc] using this
   have key:(∀i (h:i<t.Cells.length),c3S t i h)↔RtR t:=by
    constructor
    ·intro q
     exact⟨by simpa[pl] using hR.1,hR.2.1,hR.2.2.1,hs,hcell,λi h=>(q i h).1,λi h=>(q i h).2.1,λi h=>(q i h).2.2⟩
    ·intro q i h
     exact⟨q.no i h,q.ok i h,q.dif i h⟩
   by_cases hall:∀i (h:i<t.Cells.length),c3S t i h
   ·refine⟨true,?_,by simpa using key.1 hall⟩
    refine E0 t.Cells.length (λ_=>True) (by omega) trivial (λk hk _=>.inl ⟨?_,trivial⟩) (λ_=>⟨.inr (),by simp,rfl⟩)
    obtain⟨q1,q2,q3⟩:=hall k hk
    simp only[Int.ofNat_lt,hk,decide_true,if_true,l5 hk,d0Y,b0r]
    by_cases ht:Thr t.Cells[k]
    ·rw[decide_eq_true ht]
     obtain⟨o1,o2,o3,o4,o5,o6,o7⟩:=q2 ht
     rw[if_neg (by simp),if_neg (by simp;omega)]
     refine E0 k (λ_=>True) (by omega) trivial (λj hj _=>.inl ⟨?_,trivial⟩) (λ_=>⟨.inr (),by simp,by rw[c8]⟩)
     have hj':j<t.Cells.length:=by omega
     simp only[Int.ofNat_lt,hj,decide_true,if_true,l5 hj',d0Y,b0r]
     rw[if_neg (by simp only[Bool.and_eq_true,decide_eq_true_eq,beq_iff_eq,not_and];exact λa=>q3 j hj ht a),c8]
    ·rw[decide_eq_false ht]
     obtain⟨o1,o2,o3,o4,o5,o6⟩:=q1 ht
     rw[if_pos (by simp),if_neg (by simp[o1,o2,o3,o4,o5,o6]),c8]
   ·refine⟨false,?_,by simpa using λq=>hall (key.2 q)⟩
    obtain⟨i,⟨hi,hbad⟩,hmin⟩:=U2 (p:=λi=>∃h:i<t.Cells.length,¬c3S t i h) (by
     have:=Classical.not_forall.1 hall
     obtain⟨i,q⟩:=this
     obtain⟨h,q⟩:=Classical.not_forall.1 q
     exact⟨i,h,q⟩)
    refine E0 t.Cells.length (λk=>k≤i) (by omega) (by omega) (λk hk hP=>?_) (λhP=>by omega)
    simp only[Int.ofNat_lt,hk,decide_true,if_true,l5 hk,d0Y,b0r]
    rcases Nat.lt_or_ge k i with g | g
    ·refine .inl ⟨?_,g⟩
     have hok:c3S t k hk:=Classical.byContradiction λq=>by have:=hmin k ⟨hk,q⟩;omega
     obtain⟨q1,q2,q3⟩:=hok
     by_cases ht:Thr t.Cells[k]
     ·rw[decide_eq_true ht]
      obtain⟨o1,o2,o3,o4,o5,o6,o7⟩:=q2 ht
      rw[if_neg (by simp),if_neg (by simp;omega)]
      refine E0 k (λ_=>True) (by omega) trivial (λj hj _=>.inl ⟨?_,trivial⟩) (λ_=>⟨.inr (),by simp,by rw[c8]⟩)
      have hj':j<t.Cells.length:=by omega
      simp only[Int.ofNat_lt,hj,decide_true,if_true,l5 hj',d0Y,b0r]
      rw[if_neg (by simp only[Bool.and_eq_true,decide_eq_true_eq,beq_iff_eq,not_and];exact λa=>q3 j hj ht a),c8]
     ·rw[decide_eq_false ht]
      obtain⟨o1,o2,o3,o4,o5,o6⟩:=q1 ht
      rw[if_pos (by simp),if_neg (by simp[o1,o2,o3,o4,o5,o6]),c8]
    ·have:k=i:=by omega
     subst this
     refine .inr ⟨.inl false,?_,rfl⟩
     by_cases ht:Thr t.Cells[k]
     ·rw[decide_eq_true ht]
      rw[if_neg (by simp)]
      by_cases ho:b1K t t.Cells[k].Val
      ·have ho':=ho
       obtain⟨o1,o2,o3,o4,o5,o6,o7⟩:=ho'
       rw[if_neg (by simp;omega)]
       have:∃j,j<k∧∃h:j<t.Cells.length,Thr t.Cells[j]∧t.Cells[j].Val.Serial=t.Cells[k].Val.Serial:=Classical.byContradiction λq=>hbad ⟨λn=>absurd ht n,λ_=>ho,λj hj _ h2 h3=>q ⟨j,hj,by omega,h2,h3⟩⟩
       obtain⟨j,⟨hj,hj',h2,h3⟩,hjm⟩:=U2 this
       refine E0 k (λm=>m≤j) (by omega) (by omega) (λm hm hP2=>?_) (λhP2=>by omega)
       have hm':m<t.Cells.length:=by omega
       simp only[Int.ofNat_lt,hm,decide_true,if_true,l5 hm',d0Y,b0r]
       rcases Nat.lt_or_ge m j with g2 | g2
       ·refine .inl ⟨?_,g2⟩
        rw[if_neg (by
         simp only[Bool.and_eq_true,decide_eq_true_eq,beq_iff_eq,not_and]
         intro a b
         have:=hjm m ⟨by omega,hm',a,b⟩
         omega),c8]
       ·have:m=j:=by omega
        subst this
        refine .inr ⟨.inl false,?_,rfl⟩
        rw[if_pos (by simp only[Bool.and_eq_true,decide_eq_true_eq,beq_iff_eq];exact⟨h2,h3⟩)]
      ·rw[if_pos (by
        unfold b1K at ho
        simp only[Bool.or_eq_true,decide_eq_true_eq]
        omega)]
     ·rw[decide_eq_false ht]
      rw[if_pos (by simp)]
      have hno:¬b1J t.Cells[k].Val:=λq=>hbad ⟨λ_=>q,λn=>absurd n ht,λj hj h1 _=>absurd h1 ht⟩
      rw[if_pos (by
       unfold b1J at hno
       simp only[Bool.or_eq_true,bne_iff_ne,ne_eq]
       cases hst:t.Cells[k].Val.Started
       ·simp only[hst,true_and,Bool.false_eq_true,or_false] at hno ⊢
        omega
       ·simp)]
  ·refine⟨false,?_,by simp;exact λq=>hs q.ser⟩
   rw[if_pos (by simp;omega)]
 ·refine⟨false,?_,?_⟩
  ·rw[decide_eq_false hR,if_pos (by simp)]
  ·simp only[Bool.false_eq_true,false_iff]
   intro q
   exact hR ⟨by simpa[pl] using q.len,q.l0,q.l9,λi h=>by have:=q.cell i (by simpa[pl] using h);simpa[pl,plc] using this⟩
end Go.Sh
namespace Go.Sh
theorem b71{c:Int→Int→Option Int}{xs:List Int}(key:Int→Int)(hc:∀x y,∃r,c x y=some r∧(r<0↔key x<key y))(hl:xs.length<4611686018427387904) :
  ∃ys,b1e c xs=some ys∧ys.Perm xs∧ys.Pairwise (λa b=>key a≤key b):=by
 have hlt:∀x y,Go.Proofs.ltOf (λx y=>(c x y).getD 0) x y=decide (key x<key y):=λx y=>by
  obtain⟨r,h1,h2⟩:=hc x y
  show decide ((c x y).getD 0<0)=_
  rw[h1,Option.getD_some]
  exact decide_eq_decide.2 h2
 have hO:Go.Sort.SWO (Go.Proofs.ltOf λx y=>(c x y).getD 0):=by
  refine⟨λx=>?_,λx y z=>?_,λx y z=>?_⟩
  ·rw[hlt];simp
  ·rw[hlt,hlt,hlt];simp;omega
  ·rw[hlt,hlt,hlt];simp;omega
 have hcond:(∀x y,(c x y).isSome=true)∧Go.Sort.SWO (Go.Proofs.ltOf λx y=>(c x y).getD 0)∧xs.length<4611686018427387904:=⟨λx y=>by
  obtain⟨r,h1,_⟩:=hc x y
  rw[h1];rfl,hO,hl⟩
 unfold b1e
 rw[if_pos hcond]
 refine⟨_,rfl,?_⟩
 obtain⟨⟨p1,p2,p3⟩,p4⟩:=Go.Sort.pdq_sorts (Go.Proofs.ltOf λx y=>(c x y).getD 0) hO xs.toArray 0 xs.length (Go.Lib.bitLen xs.length) true true (Nat.zero_le _) (by simp) (Or.inl rfl)
 generalize Go.Sort.pdq (Go.Proofs.ltOf λx y=>(c x y).getD 0) xs.toArray 0 xs.length (Go.Lib.bitLen xs.length) true true=d at p1 p2 p3 p4 ⊢
 have hs:d.size=xs.length:=by simpa using p1
 refine⟨?_,?_⟩
 ·have e1:d.extract 0 xs.length=d:=by rw[←hs];exact Array.extract_size
  have e2:xs.toArray.extract 0 xs.length=xs.toArray:=by
   simp
  rw[e1,e2] at p3
  simpa using p3
 ·rw[List.pairwise_iff_getElem]
  intro i j hi hj hij
  have hi':i<d.size:=by simpa using hi
  have hj':j<d.size:=by simpa using hj
  have:=p4 i j (Nat.zero_le _) hij (by omega)
  rw[hlt,getElem!_pos d j hj',getElem!_pos d i hi'] at this
  have:=of_decide_eq_false this
  simp only[Array.getElem_toList]
  omega
def Y2:Nat→List slab_Cell_store_Obj→List Int
 | _,[]=>[]
 | k,c::r=>(if c.State=1 then [1+(k:Int)+32*c.Gen] else [])++Y2 (k+1) r
theorem a7D(c:slab_Cell_store_Obj):∀(k:Nat) (xs:List slab_Cell_store_Obj),Y2 k (xs ++ [c])=Y2 k xs++(if c.State=1 then [1+((k+xs.length:Nat):Int)+32*c.Gen] else [])
 | k,[]=>by simp[Y2]
 | k,x::r=>by
  simp only[List.cons_append,Y2,a7D c (k+1) r,List.append_assoc,List.length_cons]
  rw[show k+1+r.length=k+(r.length+1) by omega]
theorem a4t:∀(k:Nat) (xs:List slab_Cell_store_Obj),(Y2 k xs).length≤xs.length
 | _,[]=>by simp[Y2]
 | k,c::r=>by
  have:=a4t (k+1) r
  simp only[Y2,List.length_append,List.length_cons]
  split <;> simp <;> omega
theorem a6N{h:Int}:∀ {k:Nat} {xs:List slab_Cell_store_Obj},h∈Y2 k xs↔∃i,∃hi:i<xs.length,xs[i].State=1∧h=1+((k+i:Nat):Int)+32*xs[i].Gen
 | k,[]=>by simp[Y2]
 | k,c::r=>by
  simp only[Y2,List.mem_append,a6N (k:=k+1) (xs:=r)]
  constructor
  ·rintro (q | ⟨i,hi,q1,q2⟩)
   ·by_cases hc:c.State=1
    ·rw[if_pos hc] at q
     exact⟨0,by simp,by simpa using hc,by simpa using q⟩
    ·rw[if_neg hc] at q
     cases q
   ·exact⟨i+1,by simpa using hi,by simpa using q1,by simp only[List.getElem_cons_succ];rw[q2,show k+1+i=k+(i+1) by omega]⟩
  ·rintro⟨i,hi,q1,q2⟩
   cases i with
   | zero=>
    left
    simp only[List.getElem_cons_zero] at q1 q2
    rw[if_pos q1]
    simp[q2]
   | succ i=>
    right
    simp only[List.getElem_cons_succ] at q1 q2
    exact⟨i,by simpa using hi,q1,by rw[q2,show k+1+i=k+(i+1) by omega]⟩
def sk(cs:List slab_Cell_store_Obj)(h:Int):Int:=match cs[((h-1) % 32).toNat]? with
 | some c=>c.Val.Serial
 | none=>0
theorem c0l{cs:List slab_Cell_store_Obj}{i:Nat}{g:Int}(h:i<cs.length)(h32:cs.length≤32):sk cs (1+(i:Int)+32*g)=cs[i].Val.Serial:=by
 unfold sk
 have:((1+(i:Int)+32*g-1) % 32).toNat=i:=by omega
 rw[this,List.getElem?_eq_getElem h]
structure Slb (cs:List slab_Cell_store_Obj):Prop where
 len:cs.length≤24
 gen:∀i (h:i<cs.length),0≤cs[i].Gen∧cs[i].Gen≤9
theorem c0Y{s:store_Store}(hR:Slb s.S.Cells):∃l,C8 s=some l∧l.Perm (Y2 0 s.S.Cells)∧l.Pairwise (λa b=>sk s.S.Cells a≤sk s.S.Cells b):=by
 have hlen:=hR.len
 unfold C8
 simp only[jn]
 have hh:=a4t 0 s.S.Cells
 have hloop:∃e:List (Int × Int) × List Int,lp (S:=Int × (List (Int × Int)) × (List Int)) (E:=((List (Int × Int)) × (List Int))) (λ((s23,Y4,s25):Int × (List (Int × Int)) × (List Int))=>
   if (decide (s23<(s.S.Cells.length:Int))) then
    ((ix s.S.Cells s23).bind λv35=>
     if (v35.State==1) then
      (U4 s23 v35.Gen).bind λv36=>
      (app 8 s25 [v36]).bind λv37=>
      some (.inl (s7 (s23+1),(m8 Y4 v36 v35.Val.Serial),v37))
     else
     some (.inl (s7 (s23+1),Y4,s25)))
   else
   some (.inr (Y4,s25))) (0,[],[])=some e∧e.2=Y2 0 s.S.Cells∧∀h∈e.2,w9 e.1 h=some (sk s.S.Cells h):=by
  refine a0m (T:=List (Int × Int) × List Int) s.S.Cells.length (λk e=>e.2=Y2 0 (s.S.Cells.take k)∧∀h∈e.2,w9 e.1 h=some (sk s.S.Cells h)) (λe:List (Int × Int) × List Int=>e.2=Y2 0 s.S.Cells∧∀h∈e.2,w9 e.1 h=some (sk s.S.Cells h)) (by omega) ⟨by simp[Y2],by simp⟩ (λk e hk hP=>?_) (λe hP=>?_)
  ·obtain⟨h1,h2⟩:=hP
   obtain⟨m,l⟩:=e
   simp only at h1 h2
   left
   have hc:=hR.gen k hk
   have hl:l.length≤24:=by rw[h1];have:=a4t 0 (s.S.Cells.take k);simp at this;omega
   have et:s.S.Cells.take (k+1)=s.S.Cells.take k ++ [s.S.Cells[k]]:=by rw[List.take_add_one,List.getElem?_eq_getElem hk];rfl
   have el:(s.S.Cells.take k).length=k:=by simp;omega
   by_cases q:s.S.Cells[k].State=1
   ·refine⟨(m8 m (1+(k:Int)+32*s.S.Cells[k].Gen) s.S.Cells[k].Val.Serial,l ++ [1+(k:Int)+32*s.S.Cells[k].Gen]),?_,?_,?_⟩
    ·simp only[Int.ofNat_lt,hk,decide_true,if_true,l5 hk,d0Y,q,beq_self_eq_true]
     rw[a6I (by omega) (by omega) hc.1 hc.2,d0Y,u7 (by omega) (by simp;omega),d0Y,c8]
    ·simp only
     rw[et,a7D,if_pos q,el,h1,Nat.zero_add]
    ·intro h hh
     simp only[List.mem_append,List.mem_singleton] at hh ⊢
     rw[a4A]
     rcases hh with hh | rfl
     ·split
      ·rename_i e;rw[e,c0l hk (by omega)]
      ·exact h2 h hh
     ·rw[if_pos rfl,c0l hk (by omega)]
   ·refine⟨(m,l),?_,?_,h2⟩
    ·simp only[Int.ofNat_lt,hk,decide_true,if_true,l5 hk,d0Y]
     rw[if_neg (by simpa using q),c8]
    ·simp only
     rw[et,a7D,if_neg q,h1,List.append_nil]
  ·obtain⟨h1,h2⟩:=hP
   obtain⟨m,l⟩:=e
   refine⟨(m,l),by simp only[Int.lt_irrefl,decide_false,Bool.false_eq_true,if_false],?_,h2⟩
   simpa using h1
 obtain⟨⟨m,l⟩,e1,e2,e3⟩:=hloop
 rw[show lp _ _=_ from e1,d0Y]
 simp only at e2 e3 ⊢
 subst e2
 obtain⟨ys,q1,q2,q3⟩:=b71 (c:=λp q=>a2M p q m) (xs:=Y2 0 s.S.Cells) (λh=>(w9 m h).getD 0) (λx y=>by
  unfold a2M a2i Y7
  simp only[d0Y,bne_self_eq_false,Bool.false_eq_true,if_false]
  generalize (w9 m x).getD 0=a
  generalize (w9 m y).getD 0=b
  by_cases h1:a<b
  ·rw[decide_eq_true h1];exact⟨-1,rfl,by simp[h1]⟩
  ·rw[decide_eq_false h1]
   by_cases h2:a > b
   ·rw[decide_eq_true h2];exact⟨1,rfl,by simp[h1]⟩
   ·rw[decide_eq_false h2];exact⟨0,rfl,by simp[h1]⟩) (by omega)
 refine⟨ys,by rw[q1];rfl,q2,q3.imp_of_mem λ{a b} ha hb hab=>?_⟩
 rw[e3 a (q2.mem_iff.1 ha),e3 b (q2.mem_iff.1 hb)] at hab
 simpa using hab
theorem a85{key:Int→Int}:∀ {l m:List Int},l.Perm m→l.Pairwise (λa b=>key a≤key b)→m.Pairwise (λa b=>key a≤key b)→(∀a∈l,∀b∈l,key a=key b→a=b)→l=m
 | [],m,hp,_,_,_=>(List.nil_perm.1 hp).symm
 | a::l,[],hp,_,_,_=>by simp at hp
 | a::l,b::m,hp,h1,h2,hk=>by
  have ha:=List.pairwise_cons.1 h1
  have hb:=List.pairwise_cons.1 h2
  have e:a=b:=by
   have m1:b∈a::l:=hp.mem_iff.2 (List.mem_cons_self ..)
   have m2:a∈b::m:=hp.mem_iff.1 (List.mem_cons_self ..)
   rcases List.mem_cons.1 m1 with q | q
   ·exact q.symm
   ·rcases List.mem_cons.1 m2 with q' | q'
    ·exact q'
    ·exact hk a (List.mem_cons_self ..) b m1 (Int.le_antisymm (ha.1 b q) (hb.1 a q'))
  subst e
  rw[a85 (List.perm_cons a |>.1 hp) ha.2 hb.2 λx hx y hy=>hk x (List.mem_cons_of_mem _ hx) y (List.mem_cons_of_mem _ hy)]
end Go.Sh
namespace Go.Sh
theorem b8h(o:z8)(h:o.Fields.length<4611686018427387904):a4I o o=some true:=by
 unfold a4I
 simp only[beq_self_eq_true,Bool.and_self,Bool.true_and,D1]
 rw[b5h _ _ h,d0Y,decide_eq_true rfl]
theorem c0x(t:c9)(h:t.Cells.length<4611686018427387904)(hf:∀i (h:i<t.Cells.length),t.Cells[i].Val.Fields.length<4611686018427387904):a9Y t t=some true:=by
 unfold a9Y
 rw[if_neg (by simp)]
 simp only[jn]
 refine E0 t.Cells.length (λ_=>True) h trivial (λk hk _=>.inl ⟨?_,trivial⟩) (λ_=>⟨.inr (),by simp,rfl⟩)
 simp only[Int.ofNat_lt,hk,decide_true,if_true,l5 hk,d0Y,bne_self_eq_false,Bool.or_self,beq_self_eq_true,D1]
 rw[b8h _ (hf k hk),d0Y,if_neg (by simp),c8]
theorem C4(s:store_Store):(sO s).Cells.length=s.S.Cells.length:=by simp[sO]
theorem c0j(s:store_Store)(i:Int):ix (sO s).Cells i=(ix s.S.Cells i).map cO:=a0Q cO s.S.Cells i
theorem a5z(t:c9):(pl t).Cells.length=t.Cells.length:=by simp[pl]
theorem b7s{t:c9}{k:Nat}(h:k<t.Cells.length):ix (pl t).Cells k=some (plc k t.Cells[k]):=by
 rw[l5 (by simpa[pl] using h)]
 simp[pl]
theorem b0M(s:store_Store){h:Int}(hh:h≤9223372036854775807):L1 (pl (sO s)) h=p7 s.S h:=by
 unfold L1 p7
 rw[b1s,a3c hh,b80,a4d hh]
 simp only[d0Y,a5z,C4]
 generalize (if Hnd h then (h-1) % 32 else -1:Int)=v
 generalize (if Hnd h then (h-1) / 32 else -1:Int)=g
 split
 ·rfl
 ·split
  ·rfl
  ·rename_i q
   have q:0≤v∧v<s.S.Cells.length:=by simp at q;omega
   obtain⟨k,rfl⟩:∃k:Nat,v=k:=⟨v.toNat,by omega⟩
   have hk:k<s.S.Cells.length:=by omega
   rw[b7s (by rw[C4];exact hk),l5 hk]
   simp only[d0Y,plc,sO,List.getElem_map,cO]
theorem c8W(s:store_Store)(hl:s.S.Cells.length≤24){h:Int}(hh:h≤9223372036854775807)(o:store_Obj):a0c (sO s) h (oo o)=(J3 s h o).map λp=>(sO p.1,p.2):=by
 unfold a0c J3
 rw[a5A _ (by rw[C4];omega),d0Y,b0M s hh]
 rcases a0H s.S hh with ⟨i,hf,e⟩ | ⟨hf,e⟩
 ·obtain⟨hi,e2⟩:=b7Z (v:=o) hl hf
  rw[e,e2]
  simp only[d0Y,bne_self_eq_false,Bool.false_eq_true,if_false,Option.map_some]
  unfold a3m
  rw[T5 (by omega) (by rw[C4];omega),d0Y,l5 (by rw[C4];exact hi),d0Y]
  simp[sO,cO,oo,List.map_set]
 ·rw[e,c3v hh hf]
  simp only[d0Y]
  rw[if_pos (by simpa using a4q h)]
  rfl
end Go.Sh
namespace Go.Sh
theorem a2r{s:store_Store}(h:RtR (sO s)):s.S.Cells.length≤24:=by have:=h.len;rwa [C4] at this
theorem c0g{s:store_Store}(h:RtR (sO s))(i:Nat)(hi:i<s.S.Cells.length):0≤s.S.Cells[i].State∧s.S.Cells[i].State≤3∧0≤s.S.Cells[i].Gen∧s.S.Cells[i].Gen≤s.S.Last:=by
 have:=h.cell i (by rw[C4];exact hi)
 simpa[sO,cO] using this
theorem b9f{s:store_Store}(h:RtR (sO s)):Slb s.S.Cells:=⟨a2r h,λi hi=>by have:=c0g h i hi;have h9:s.S.Last≤9:=h.l9;omega⟩
theorem c53{s:store_Store}(h:RtR (sO s))(i:Nat)(hi:i<s.S.Cells.length)(ht:s.S.Cells[i].State=1∨s.S.Cells[i].State=2):b1K (sO s) (oo s.S.Cells[i].Val):=by
 have:=h.ok i (by rw[C4];exact hi)
 simp only[sO,List.getElem_map,cO,Thr] at this
 exact this ht
theorem c3n{s:store_Store}(h:RtR (sO s)){i j:Nat}(hi:i<s.S.Cells.length)(hj:j<s.S.Cells.length)(a:s.S.Cells[i].State=1∨s.S.Cells[i].State=2)(b:s.S.Cells[j].State=1∨s.S.Cells[j].State=2)(e:s.S.Cells[i].Val.Serial=s.S.Cells[j].Val.Serial):i=j:=by
 have key:∀i (hi:i<s.S.Cells.length) j (hj:j<i),(s.S.Cells[i].State=1∨s.S.Cells[i].State=2)→(s.S.Cells[j].State=1∨s.S.Cells[j].State=2)→s.S.Cells[j].Val.Serial≠s.S.Cells[i].Val.Serial:=λi hi j hj a b=>by
  have:=h.dif i (by rw[C4];exact hi) j hj
  simp only[sO,List.getElem_map,cO,Thr,oo] at this
  exact this a b
 rcases Nat.lt_trichotomy i j with q | q | q
 ·exact absurd e (key j hj i q b a)
 ·exact q
 ·exact absurd e.symm (key i hi j q a b)
theorem a6M{s:store_Store}(hR:RtR (sO s)){x:Int}(hx:x∈Y2 0 s.S.Cells):∃i,∃hi:i<s.S.Cells.length,s.S.Cells[i].State=1∧x=1+(i:Int)+32*s.S.Cells[i].Gen∧b0C s.S x i∧sk s.S.Cells x=s.S.Cells[i].Val.Serial∧r5 s x=some (s.S.Cells[i].Val,0):=by
 obtain⟨i,hi,h1,h2⟩:=a6N.1 hx
 rw[Nat.zero_add] at h2
 have hl:=(a2r hR)
 have hc:=(b9f hR).gen i hi
 have hf:b0C s.S x i:=⟨hi,by unfold Hnd;omega,by omega,by omega,.inl h1⟩
 refine⟨i,hi,h1,h2,hf,by rw[h2];exact c0l hi (by omega),?_⟩
 obtain⟨_,e⟩:=b61 hf
 unfold r5
 rw[e,if_neg (by omega)]
 rfl
theorem c2m{s:store_Store}{x:Int}{i:Nat}(hf:b0C s.S x i)(h1:∀hi:i<s.S.Cells.length,s.S.Cells[i].State=1):x∈Y2 0 s.S.Cells:=by
 obtain⟨hi,q1,q2,q3,_⟩:=hf
 refine a6N.2 ⟨i,hi,h1 hi,?_⟩
 unfold Hnd at q1
 rw[Nat.zero_add]
 omega
theorem b9j{s:store_Store}(hR:RtR (sO s)){x y:Int}(hx:x∈Y2 0 s.S.Cells)(hy:y∈Y2 0 s.S.Cells)(e:sk s.S.Cells x=sk s.S.Cells y):x=y:=by
 obtain⟨i,hi,a1,a2,_,a4,_⟩:=a6M hR hx
 obtain⟨j,hj,b1,b2,_,b4,_⟩:=a6M hR hy
 have:=(c3n hR) hi hj (.inl a1) (.inl b1) (by rw[←a4,←b4];exact e)
 subst this
 rw[a2,b2]
theorem a5o:∀(k:Nat) (cs:List slab_Cell_store_Obj),k+cs.length≤32→(Y2 k cs).Nodup
 | _,[],_=>List.nodup_nil
 | k,c::r,h=>by
  simp only[List.length_cons] at h
  unfold Y2
  rw[List.nodup_append]
  refine⟨by split <;> simp,a5o (k+1) r (by omega),λa ha b hb e=>?_⟩
  split at ha
  ·simp only[List.mem_singleton] at ha
   subst ha;subst e
   obtain⟨i,hi,h1,h2⟩:=a6N.1 hb
   have:((1+(k:Int)+32*c.Gen)-1) % 32=((1+((k+1+i:Nat):Int)+32*r[i].Gen)-1) % 32:=by rw[h2]
   omega
  ·cases ha
theorem c4A{s:store_Store}(hR:RtR (sO s)):∃l,C8 s=some l∧l.Perm (Y2 0 s.S.Cells)∧l.Pairwise (λa b=>sk s.S.Cells a<sk s.S.Cells b):=by
 obtain⟨l,h1,h2,h3⟩:=c0Y (b9f hR)
 refine⟨l,h1,h2,?_⟩
 have hn:l.Nodup:=h2.nodup_iff.2 (a5o 0 _ (by have:=(a2r hR);omega))
 have:=List.Pairwise.and h3 hn
 refine this.imp_of_mem λ{a b} ha hb ⟨q1,q2⟩=>?_
 rcases Int.lt_or_eq_of_le q1 with q | q
 ·exact q
 ·exact absurd (b9j hR (h2.mem_iff.1 ha) (h2.mem_iff.1 hb) q) q2
end Go.Sh
namespace Go.Sh
end Go.Sh
namespace Go.Sh
instance(t:c9)(o:z8):Decidable (b1K t o):=by unfold b1K;infer_instance
instance(o:z8):Decidable (b1J o):=by unfold b1J;infer_instance
theorem b5M(c:slab_Cell_store_Obj):G2 c=some (decide (Thr (cO c))):=by
 unfold G2
 congr 1
 rw[Bool.eq_iff_iff,decide_eq_true_iff,Bool.or_eq_true,beq_iff_eq,beq_iff_eq]
 rfl
theorem c4R(s:store_Store)(c:slab_Cell_store_Obj):P8 s c=some (decide (Thr (cO c)→b1K (sO s) (oo c.Val))):=by
 unfold P8
 rw[b5M,d0Y]
 by_cases h:Thr (cO c)
 ·rw[decide_eq_true h]
  by_cases q:1≤c.Val.Serial∧c.Val.Serial≤s.Serial∧0≤c.Val.Strong∧0≤c.Val.Weak
  ·have e:(((decide (c.Val.Serial≥1))&&(decide (c.Val.Serial≤s.Serial)))&&(decide (c.Val.Strong≥0))&&(decide (c.Val.Weak≥0)))=true:=by simp;omega
   rw[e]
   simp only[Bool.not_true,beq_self_eq_true,Bool.and_self,D1,N2,d0Y,Bool.false_or,Bool.true_and]
   congr 1
   rw[Bool.eq_iff_iff,decide_eq_true_iff]
   simp only[Bool.and_eq_true,decide_eq_true_eq,b1K,oo,sO]
   constructor
   ·intro k _;omega
   ·intro k;have:=k h;omega
  ·have e:(((decide (c.Val.Serial≥1))&&(decide (c.Val.Serial≤s.Serial)))&&(decide (c.Val.Strong≥0))&&(decide (c.Val.Weak≥0)))=false:=by
    rw[Bool.eq_false_iff];simp only[ne_eq,Bool.and_eq_true,decide_eq_true_eq];omega
   rw[e]
   rw[show (decide (Thr (cO c)→b1K (sO s) (oo c.Val)))=false by
    rw[decide_eq_false_iff_not]
    intro k
    have:=k h
    simp only[b1K,oo,sO] at this
    omega]
   rfl
 ·rw[decide_eq_false h,decide_eq_true (λk=>absurd k h)]
  rfl
theorem c61(s:store_Store)(c:slab_Cell_store_Obj):J9 s c=some (decide (¬Thr (cO c)→b1J (oo c.Val))):=by
 unfold J9
 rw[b5M,d0Y]
 by_cases h:Thr (cO c)
 ·rw[decide_eq_true h,decide_eq_true (λk=>absurd h k)]
  rfl
 ·rw[decide_eq_false h]
  congr 1
  rw[Bool.eq_iff_iff,decide_eq_true_iff]
  simp only[Bool.false_or,Bool.and_eq_true,beq_iff_eq,Bool.not_eq_true',b1J,oo]
  constructor
  ·intro k _;obtain⟨⟨⟨k1,k2,k3,k4,_⟩,k5⟩,k6⟩:=k;exact⟨k1,k2,k3,k4,k5,by omega⟩
  ·intro k;obtain⟨k1,k2,k3,k4,k5,k6⟩:=k h;exact⟨⟨⟨k1,k2,k3,k4,trivial⟩,k5⟩,by omega⟩
def bb(s:store_Store)(c:slab_Cell_store_Obj):Nat→Bool
 | 0=>decide (0≤c.State∧c.State≤3)
 | 1=>decide (0≤c.Gen∧c.Gen≤s.S.Last)
 | 2=>decide (Thr (cO c)→b1K (sO s) (oo c.Val))
 | _=>decide (¬Thr (cO c)→b1J (oo c.Val))
def rls:List A7:=[(⟨some 338⟩:A7),(⟨some 339⟩:A7),(⟨some 340⟩:A7),(⟨some 341⟩:A7)]
theorem c0h(s:store_Store)(c:slab_Cell_store_Obj){m:Nat}(hm:m<rls.length):b18 rls[m].kept s c=some (bb s c m):=by
 have hm':m<4:=hm
 match m,hm' with
 | 0,_=>
  show R4 s c=some (decide (0≤c.State∧c.State≤3))
  unfold R4
  congr 1
  rw[Bool.eq_iff_iff,Bool.and_eq_true,decide_eq_true_iff,decide_eq_true_iff,decide_eq_true_iff]
 | 1,_=>
  show J0 s c=some (decide (0≤c.Gen∧c.Gen≤s.S.Last))
  unfold J0
  congr 1
  rw[Bool.eq_iff_iff,Bool.and_eq_true,decide_eq_true_iff,decide_eq_true_iff,decide_eq_true_iff]
 | 2,_=>
  show P8 s c=_
  rw[c4R];rfl
 | 3,_=>
  show J9 s c=_
  rw[c61];rfl
def Dif(s:store_Store):Prop:=∀i (h:i<s.S.Cells.length) k (hk:k<i),Thr (cO s.S.Cells[i])→Thr (cO s.S.Cells[k])→s.S.Cells[k].Val.Serial≠s.S.Cells[i].Val.Serial
open Classical in
theorem differ (s:store_Store) (hl:s.S.Cells.length≤1000):O7 s=some (decide (Dif s)):=by
 unfold O7
 simp only[jn]
 refine M1 s.S.Cells.length (λk m=>(∀x,(w9 m x).getD false=true↔∃j,∃h:j<s.S.Cells.length,j<k∧Thr (cO s.S.Cells[j])∧s.S.Cells[j].Val.Serial=x) ∧
  ∀i (h:i<s.S.Cells.length) j (hj:j<i),i<k→Thr (cO s.S.Cells[i])→Thr (cO s.S.Cells[j])→s.S.Cells[j].Val.Serial≠s.S.Cells[i].Val.Serial) (by omega) ⟨λx=>⟨λq=>by simp[w9] at q,λ⟨j,h,q,_⟩=>by omega⟩,λi h j hj q=>by omega⟩ (λk m hk hP=>?_) (λm hP=>?_)
 ·obtain⟨h1,h2⟩:=hP
  simp only[Int.ofNat_lt,hk,decide_true,if_true,l5 hk,d0Y,b5M]
  by_cases ht:Thr (cO s.S.Cells[k])
  ·rw[decide_eq_true ht]
   simp only[Bool.not_true,Bool.false_eq_true,if_false]
   by_cases hd:(w9 m s.S.Cells[k].Val.Serial).getD false=true
   ·right
    refine⟨.inl false,by rw[if_pos hd],?_⟩
    simp only
    obtain⟨j,hj,q1,q2,q3⟩:=(h1 _).1 hd
    rw[decide_eq_false (λq:Dif s=>q k hk j q1 ht q2 q3)]
   ·left
    refine⟨_,by rw[if_neg hd,c8],λx=>?_,λi h j hj q a b=>?_⟩
    ·rw[a4A]
     constructor
     ·intro q
      split at q
      ·rename_i e
       exact⟨k,hk,by omega,ht,e.symm⟩
      ·obtain⟨j,hj,q1,q2,q3⟩:=(h1 x).1 q
       exact⟨j,hj,by omega,q2,q3⟩
     ·rintro⟨j,hj,q1,q2,q3⟩
      split
      ·rfl
      ·rename_i e
       refine (h1 x).2 ⟨j,hj,?_,q2,q3⟩
       rcases Nat.lt_or_ge j k with q | q
       ·exact q
       ·have:j=k:=by omega
        subst this
        exact absurd q3.symm e
    ·rcases Nat.lt_or_ge i k with q' | q'
     ·exact h2 i h j hj q' a b
     ·have:i=k:=by omega
      subst this
      exact λe=>hd ((h1 _).2 ⟨j,by omega,hj,b,e⟩)
  ·rw[decide_eq_false ht]
   left
   refine⟨_,by rw[if_pos (by rfl),c8],λx=>?_,λi h j hj q a b=>?_⟩
   ·rw[h1 x]
    constructor
    ·rintro⟨j,hj,q1,q2,q3⟩;exact⟨j,hj,by omega,q2,q3⟩
    ·rintro⟨j,hj,q1,q2,q3⟩
     refine⟨j,hj,?_,q2,q3⟩
     rcases Nat.lt_or_ge j k with q | q
     ·exact q
     ·have:j=k:=by omega
      subst this
      exact absurd q2 ht
   ·rcases Nat.lt_or_ge i k with q' | q'
    ·exact h2 i h j hj q' a b
    ·have:i=k:=by omega
     subst this
     exact absurd a ht
 ·refine⟨.inr (),by simp only[Int.lt_irrefl,decide_false,Bool.false_eq_true,if_false],?_⟩
  simp only
  rw[decide_eq_true (show Dif s from λi h k hk a b=>hP.2 i h k hk h a b)]
end Go.Sh
namespace Go.Sh
open Classical in
theorem b6o (s:store_Store) (hl:s.S.Cells.length≤1000):a2c s=some (decide (RtR (sO s))):=by
 unfold a2c
 by_cases h0:s.S.Cells.length≤24∧0≤s.S.Last∧s.S.Last≤9∧0≤s.Serial
 ·rw[if_neg (by simp;omega)]
  simp only[jn]
  have key:((∀i (h:i<s.S.Cells.length),∀m,m<4→bb s s.S.Cells[i] m=true)∧Dif s)↔RtR (sO s):=by
   constructor
   ·rintro⟨h1,h2⟩
    have at_:∀i (h:i<(sO s).Cells.length),(sO s).Cells[i]=cO (s.S.Cells[i]'(by simpa[sO] using h)):=λi h=>by simp[sO]
    refine⟨by simpa[sO] using h0.1,h0.2.1,h0.2.2.1,h0.2.2.2,λi h=>?_,λi h=>?_,λi h=>?_,λi h k hk=>?_⟩
    ·have hi:i<s.S.Cells.length:=by simpa[sO] using h
     have q0:=of_decide_eq_true (h1 i hi 0 (by omega))
     have q1:=of_decide_eq_true (h1 i hi 1 (by omega))
     rw[at_ i h]
     exact⟨q0.1,q0.2,q1.1,q1.2⟩
    ·have hi:i<s.S.Cells.length:=by simpa[sO] using h
     rw[at_ i h]
     exact of_decide_eq_true (h1 i hi 3 (by omega))
    ·have hi:i<s.S.Cells.length:=by simpa[sO] using h
     rw[at_ i h]
     exact of_decide_eq_true (h1 i hi 2 (by omega))
    ·have hi:i<s.S.Cells.length:=by simpa[sO] using h
     rw[at_ i h,at_ k (by omega)]
     exact h2 i hi k hk
   ·intro q
    have at_:∀i (h:i<s.S.Cells.length),(sO s).Cells[i]'(by simpa[sO] using h)=cO s.S.Cells[i]:=λi h=>by simp[sO]
    refine⟨λi h m hm=>?_,λi h k hk a b=>?_⟩
    ·have hi:i<(sO s).Cells.length:=by simpa[sO] using h
     have c:=q.cell i hi
     have n:=q.no i hi
     have o:=q.ok i hi
     rw[at_ i h] at c n o
     match m,hm with
     | 0,_=>exact decide_eq_true ⟨c.1,c.2.1⟩
     | 1,_=>exact decide_eq_true ⟨c.2.2.1,c.2.2.2⟩
     | 2,_=>exact decide_eq_true o
     | 3,_=>exact decide_eq_true n
    ·have hi:i<(sO s).Cells.length:=by simpa[sO] using h
     have d:=q.dif i hi k hk
     rw[at_ i h,at_ k (by omega)] at d
     exact d a b
  refine E0 s.S.Cells.length (λk=>∀i (h:i<s.S.Cells.length),i<k→∀m,m<4→bb s s.S.Cells[i] m=true) (by omega) (λ_ _ h=>by omega) (λk hk hP=>?_) (λhP=>?_)
  ·have e:a3X=some rls:=rfl
   simp only[Int.ofNat_lt,hk,decide_true,if_true,l5 hk,d0Y,e]
   by_cases hall:∀m,m<4→bb s s.S.Cells[k] m=true
   ·refine .inl ⟨?_,λi h q=>?_⟩
    ·refine E0 rls.length (λ_=>True) (by decide) trivial (λm hm _=>.inl ⟨?_,trivial⟩) (λ_=>⟨.inr (),by simp,by rw[c8]⟩)
     simp only[Int.ofNat_lt,hm,decide_true,if_true,l5 hm,d0Y,c0h s _ hm]
     rw[hall m hm,if_neg (by simp),c8 (by have:m<4:=hm;omega)]
    ·rcases Nat.lt_or_ge i k with q' | q'
     ·exact hP i h q'
     ·have:i=k:=by omega
      subst this;exact hall
   ·refine .inr ⟨.inl false,?_,?_⟩
    ·obtain⟨m,⟨hm,hb⟩,hmin⟩:=U2 (p:=λm=>m<4∧bb s s.S.Cells[k] m=false) (by
      obtain⟨m,q⟩:=Classical.not_forall.1 hall
      obtain⟨h,q⟩:=Classical.not_forall.1 q
      exact⟨m,h,by simpa using q⟩)
     refine E0 rls.length (λj=>j≤m) (by decide) (Nat.zero_le _) (λj hj hP2=>?_) (λhP2=>by have:rls.length=4:=rfl;omega)
     simp only[Int.ofNat_lt,hj,decide_true,if_true,l5 hj,d0Y,c0h s _ hj]
     have hj4:j<4:=hj
     rcases Nat.lt_or_ge j m with g | g
     ·refine .inl ⟨?_,g⟩
      have:bb s s.S.Cells[k] j=true:=by
       cases hq:bb s s.S.Cells[k] j
       ·have:=hmin j ⟨hj4,hq⟩;omega
       ·rfl
      rw[this,if_neg (by simp),c8]
     ·have:j=m:=by omega
      subst this
      refine .inr ⟨.inl false,?_,rfl⟩
      rw[hb,if_pos (by simp)]
    ·simp only
     rw[decide_eq_false (λq:RtR (sO s)=>hall λm hm=>(key.2 q).1 k hk m hm)]
  ·refine⟨.inr (),by simp only[Int.lt_irrefl,decide_false,Bool.false_eq_true,if_false],?_⟩
   simp only
   rw[differ s hl,d0Y]
   congr 1
   rw[decide_eq_decide,←key]
   exact⟨λq=>⟨λi h=>hP i h h,q⟩,λq=>q.2⟩
 ·rw[if_pos (by simp;omega)]
  rw[decide_eq_false (λq:RtR (sO s)=>h0 ⟨by simpa[sO] using q.len,q.l0,q.l9,q.ser⟩)]
end Go.Sh
namespace Go.Sh
end Go.Sh
namespace Go.Sh
noncomputable def lv(s:store_Store):List Int:=(C8 s).getD []
def ob(s:store_Store)(h:Int):store_Obj:=((r5 s h).getD (z0,0)).1
def outs(s:store_Store)(h:Int):List Int:=nz (ob s h).Fields
def FB(s:store_Store):Prop:=∀c∈s.S.Cells,∀x∈c.Val.Fields,x≤9223372036854775807
section
variable{s:store_Store}(hR:RtR (sO s))
include hR
theorem a5w:C8 s=some (lv s)∧(lv s).Perm (Y2 0 s.S.Cells)∧(lv s).Pairwise (λa b=>sk s.S.Cells a<sk s.S.Cells b):=by
 obtain⟨l,h1,h2,h3⟩:=c4A hR
 have:lv s=l:=by unfold lv;rw[h1];rfl
 rw[this]
 exact⟨h1,h2,h3⟩
theorem a1S:C8 s=some (lv s):=(a5w hR).1
theorem b0U{h:Int}:h∈lv s↔h∈Y2 0 s.S.Cells:=(a5w hR).2.1.mem_iff
theorem D2:(lv s).length≤24:=by
 rw[(a5w hR).2.1.length_eq]
 exact Nat.le_trans (a4t 0 s.S.Cells) (a2r hR)
theorem a3g:(lv s).Nodup:=(a5w hR).2.1.nodup_iff.2 (a5o 0 _ (by have:=(a2r hR);omega))
theorem b0T{h:Int}(hh:h∈lv s):r5 s h=some (ob s h,0):=by
 obtain⟨i,hi,_,_,_,_,e⟩:=a6M hR ((b0U hR).1 hh)
 unfold ob
 rw[e]
 rfl
theorem b5Q{h:Int}(hh:h∈lv s):∃i,∃hi:i<s.S.Cells.length,s.S.Cells[i].State=1∧h=1+(i:Int)+32*s.S.Cells[i].Gen∧b0C s.S h i∧ob s h=s.S.Cells[i].Val:=by
 obtain⟨i,hi,h1,h2,h3,_,e⟩:=a6M hR ((b0U hR).1 hh)
 refine⟨i,hi,h1,h2,h3,?_⟩
 unfold ob
 rw[e]
 rfl
theorem a4e{h:Int}(hh:h∈lv s):1≤h∧h≤320:=by
 obtain⟨i,hi,_,_,hf,_⟩:=b5Q hR hh
 exact b2O hf.2.1
theorem c5W{h:Int}(hh:h≤9223372036854775807)(hn:h∉lv s):∃e,e≠0∧r5 s h=some (z0,e):=by
 rcases a0H s.S hh with ⟨i,hf,_⟩ | ⟨hf,_⟩
 ·obtain⟨hi,e⟩:=b61 hf
  unfold r5
  rw[e]
  by_cases h2:s.S.Cells[i].State=2
  ·rw[if_pos h2];exact⟨3,by decide,rfl⟩
  ·exact absurd ((b0U hR).2 (c2m hf λ_=>hf.2.2.2.2.resolve_right h2)) hn
 ·unfold r5
  rw[c2o hh hf]
  exact⟨_,a4q h,rfl⟩
theorem b22{h:Int}(hh:h≤9223372036854775807)(hn:h∉lv s):ob s h=z0:=by
 obtain⟨e,_,h1⟩:=c5W hR hh hn
 unfold ob
 rw[h1]
 rfl
theorem Q8{h:Int}(hh:h≤9223372036854775807):∃e,r5 s h=some (ob s h,e)∧(e=0↔h∈lv s):=by
 by_cases q:h∈lv s
 ·exact⟨0,b0T hR q,by simp[q]⟩
 ·obtain⟨e,h0,h1⟩:=c5W hR hh q
  refine⟨e,?_,by simp[h0,q]⟩
  rw[h1,b22 hR hh q]
theorem b9Y{h:Int}(hh:h≤9223372036854775807)(hn:h∉lv s):outs s h = []:=by
 unfold outs
 rw[b22 hR hh hn]
 rfl
theorem b5T(h:Int)(hh:h≤9223372036854775807):(ob s h).Fields.length≤4:=by
 by_cases q:h∈lv s
 ·obtain⟨i,hi,h1,_,_,e⟩:=b5Q hR q
  rw[e]
  exact (c53 hR i hi (.inl h1)).2.2.2.2.2.2
 ·rw[b22 hR hh q]
  exact Nat.zero_le _
theorem a4E(h:Int)(hh:h≤9223372036854775807):(outs s h).length≤4:=Nat.le_trans (b8P _) (b5T hR h hh)
theorem c41(hF:FB s){h x:Int}(hh:h≤9223372036854775807)(hx:x∈outs s h):x≤9223372036854775807:=by
 by_cases q:h∈lv s
 ·obtain⟨i,hi,h1,_,_,e⟩:=b5Q hR q
  unfold outs at hx
  rw[e] at hx
  exact hF _ (List.getElem_mem hi) x (b0Z.1 hx).1
 ·rw[b9Y hR hh q] at hx
  cases hx
end
theorem c42{s:store_Store}{h x:Int}(hx:x∈outs s h):x≠0:=(b0Z.1 hx).2
theorem a6H(s:store_Store)(hl:s.S.Cells.length≤1000){h:Int}(hh:h≤9223372036854775807):E2 (sO s) h=(r5 s h).map λp=>(oo p.1,p.2):=by
 unfold E2 r5 C0 a9T
 rw[a5A _ (by rw[C4];exact hl),d0Y,b0M s hh]
 rcases a0H s.S hh with ⟨i,hf,e⟩ | ⟨hf,e⟩
 ·rw[e]
  have hi:=hf.1
  simp only[d0Y,bne_self_eq_false,Bool.false_eq_true,if_false]
  rw[b7s (by rw[C4];exact hi),l5 hi]
  simp only[d0Y,plc,sO,List.getElem_map,cO]
  split
  ·rfl
  ·simp only[d0Y,bne_self_eq_false,Bool.false_eq_true,if_false]
   rw[l5 (by simpa using hi)]
   simp[cO,oo]
 ·rw[e]
  simp only[d0Y]
  have hne:((if h=0 then 2 else 3:Int) != 0)=true:=by simpa using a4q h
  simp only[hne,if_true,d0Y]
  rfl
end Go.Sh
namespace Go.Sh
theorem c3x{s:store_Store}(hR:RtR (sO s)){l:List Int}(hl:∀x∈l,x∈lv s)(hn:l.length≤100) :
  ∃m,a3l (sO s) l=some m∧m.Perm l∧m.Pairwise (λa b=>sk s.S.Cells a≤sk s.S.Cells b):=by
 have hfind:∀x∈l,∃i:Nat,∃hi:i<s.S.Cells.length,L1 (pl (sO s)) x=some ((i:Int),0)∧s.S.Cells[i].Val.Serial=sk s.S.Cells x:=λx hx=>by
  obtain⟨i,hi,_,_,hf,h4,_⟩:=a6M hR ((b0U hR).1 (hl x hx))
  refine⟨i,hi,?_,h4.symm⟩
  rw[b0M s (by have:=b2O hf.2.1;omega),a7z hf]
 unfold a3l
 rw[T5 (by omega) (by omega),d0Y]
 simp only[jn]
 let K:List Int→Nat→Int:=λo a=>sk s.S.Cells (o.getD a 0)
 have hplain:=a5A (sO s) (by rw[C4];have:=a2r hR;omega)
 have inner:∀(n:Nat) (o:List Int),n<l.length→o.Perm l→(∀a b,a<b→b≤n→b≠n→K o a≤K o b) →
   ∃o',lp (S:=Int × (List Int)) (E:=(List Int)) (λ((s58,s59):Int × (List Int))=>
      if (decide (s58 > 0)) then
       (L8 (sO s)).bind λv62=>
       (ix s59 (s7 (s58-1))).bind λv63=>
       (L1 v62 v63).bind λv64=>
       (ix s59 s58).bind λv65=>
       (L1 v62 v65).bind λv66=>
       (l4 (((decide (v64.1<0))||(decide (v66.1<0)))==false) (⟨0,0,⟨0,0,0,0,false,[]⟩⟩:j6) (ix (sO s).Cells v64.1)).bind λv67=>
       (l4 (((decide (v64.1<0))||(decide (v66.1<0)))==false) (⟨0,0,⟨0,0,0,0,false,[]⟩⟩:j6) (ix (sO s).Cells v66.1)).bind λv68=>
       if (((decide (v64.1<0))||(decide (v66.1<0)))||(decide (v67.Val.Serial≤v68.Val.Serial))) then
        some (.inr s59)
       else
       (ix (s59.set (s58).toNat v63) (s7 (s58-1))).bind λv69=>
       some (.inl (s7 (s58-1),((s59.set (s58).toNat v63).set (s7 (s58-1)).toNat v65)))
      else
      some (.inr s59)) ((n:Int),o)=some o'∧o'.Perm l∧∀a b,a<b→b≤n→K o' a≤K o' b:=by
  intro n o hn' hp hk
  have hbn:(n:Int).toNat<4611686018427387904:=by rw[Int.toNat_natCast];omega
  refine a8V (s0:=((n:Int),o)) (λq=>∃k:Nat,q.1=(k:Int)∧k≤n∧q.2.Perm l∧∀a b,a<b→b≤n→b≠k→K q.2 a≤K q.2 b) (λo'=>o'.Perm l∧∀a b,a<b→b≤n→K o' a≤K o' b) (λq=>q.1.toNat) ⟨n,rfl,Nat.le_refl _,hp,hk⟩ hbn ?_
  rintro⟨_,o⟩ ⟨k,rfl,hkn,hp,hk⟩
  simp only at hp hk ⊢
  have hol:o.length=l.length:=hp.length_eq
  rcases Nat.eq_zero_or_pos k with rfl | hpos
  ·right
   refine⟨o,by rw[if_neg (by simp)],hp,λa b h1 h2=>hk a b h1 h2 (by omega)⟩
  ·obtain⟨j,rfl⟩:∃j,k=j+1:=⟨k-1,by omega⟩
   have hj1:j+1<o.length:=by omega
   have hj:j<o.length:=by omega
   have ew:s7 (((j+1:Nat):Int)-1)=(j:Int):=by rw[G7 (by omega) (by omega)];omega
   obtain⟨ia,hia,fa,ka⟩:=hfind o[j] (hp.mem_iff.1 (List.getElem_mem hj))
   obtain⟨ib,hib,fb,kb⟩:=hfind o[j+1] (hp.mem_iff.1 (List.getElem_mem hj1))
   have ea:ix (sO s).Cells (ia:Int)=some (cO s.S.Cells[ia]):=by rw[c0j,l5 hia];rfl
   have eb:ix (sO s).Cells (ib:Int)=some (cO s.S.Cells[ib]):=by rw[c0j,l5 hib];rfl
   have hneg:((decide ((ia:Int)<0))||(decide ((ib:Int)<0)))=false:=by simp
   have hpos':decide (((j+1:Nat):Int) > 0)=true:=by simp
   simp only[hpos',if_true,hplain,ew,l5 hj,l5 hj1,d0Y,fa,fb,hneg,beq_self_eq_true,D1,ea,eb,Bool.false_or,cO,oo,ka,kb,Int.toNat_natCast]
   have Kj:K o j=sk s.S.Cells o[j]:=by simp[K,List.getD,List.getElem?_eq_getElem hj]
   have Kj1:K o (j+1)=sk s.S.Cells o[j+1]:=by simp[K,List.getD,List.getElem?_eq_getElem hj1]
   by_cases hle:sk s.S.Cells o[j]≤sk s.S.Cells o[j+1]
   ·right
    refine⟨o,by rw[if_pos (by simpa using hle)],hp,λa b h1 h2=>?_⟩
    by_cases e:b=j+1
    ·subst e
     rcases Nat.lt_or_ge a j with q | q
     ·have:=hk a j q (by omega) (by omega)
      omega
     ·have:a=j:=by omega
      subst this
      omega
    ·exact hk a b h1 h2 e
   ·left
    refine⟨_,by rw[if_neg (by simpa using hle),l5 (by simpa using hj)];rfl,⟨j,rfl,by omega,?_,λa b h1 h2 h3=>?_⟩,by show (j:Int).toNat<((j+1:Nat):Int).toNat;omega⟩
    ·exact (List.set_set_perm hj1 hj).trans hp
    ·have hK:∀c,K ((o.set (j+1) o[j]).set j o[j+1]) c=if c=j then K o (j+1) else if c=j+1 then K o j else K o c:=λc=>by
      simp only[K,List.getD,List.getElem?_set,List.length_set]
      by_cases c1:c=j
      ·subst c1;simp[hj,List.getElem?_eq_getElem hj1]
      ·by_cases c2:c=j+1
       ·subst c2;simp[hj1,List.getElem?_eq_getElem hj]
       ·rw[if_neg (by omega),if_neg (by omega),if_neg c1,if_neg c2]
     show K ((o.set (j+1) o[j]).set ((j:Nat):Int).toNat o[j+1]) a≤K ((o.set (j+1) o[j]).set ((j:Nat):Int).toNat o[j+1]) b
     rw[Int.toNat_natCast,hK,hK]
     by_cases a1:a=j
     ·subst a1
      rw[if_pos rfl]
      by_cases b2:b=a+1
      ·subst b2
       rw[if_neg (by omega),if_pos rfl]
       omega
      ·rw[if_neg (by omega),if_neg b2]
       exact hk (a+1) b (by omega) h2 b2
     ·rw[if_neg a1]
      by_cases a2:a=j+1
      ·subst a2
       rw[if_pos rfl,if_neg (by omega),if_neg (by omega)]
       exact hk j b (by omega) h2 (by omega)
      ·rw[if_neg a2,if_neg h3]
       by_cases b2:b=j+1
       ·subst b2
        rw[if_pos rfl]
        exact hk a j (by omega) (by omega) (by omega)
       ·rw[if_neg b2]
        exact hk a b h1 h2 b2
 have outer:∃m,(lp (S:=Int × (List Int)) (E:=(List Int)) (λ((s38,s39):Int × (List Int))=>
   if (decide (s38<(s39.length:Int))) then
     (lp (S:=Int × (List Int)) (E:=(List Int)) (λ((s58,s59):Int × (List Int))=>
      if (decide (s58 > 0)) then
       (L8 (sO s)).bind λv62=>
       (ix s59 (s7 (s58-1))).bind λv63=>
       (L1 v62 v63).bind λv64=>
       (ix s59 s58).bind λv65=>
       (L1 v62 v65).bind λv66=>
       (l4 (((decide (v64.1<0))||(decide (v66.1<0)))==false) (⟨0,0,⟨0,0,0,0,false,[]⟩⟩:j6) (ix (sO s).Cells v64.1)).bind λv67=>
       (l4 (((decide (v64.1<0))||(decide (v66.1<0)))==false) (⟨0,0,⟨0,0,0,0,false,[]⟩⟩:j6) (ix (sO s).Cells v66.1)).bind λv68=>
       if (((decide (v64.1<0))||(decide (v66.1<0)))||(decide (v67.Val.Serial≤v68.Val.Serial))) then
        some (.inr s59)
       else
       (ix (s59.set (s58).toNat v63) (s7 (s58-1))).bind λv69=>
       some (.inl (s7 (s58-1),((s59.set (s58).toNat v63).set (s7 (s58-1)).toNat v65)))
      else
      some (.inr s59)) (s38,s39)).bind λe57=>
     some (.inl (s7 (s38+1),e57))
   else
   some (.inr s39)) (1,l))=some m∧m.Perm l∧m.Pairwise (λa b=>sk s.S.Cells a≤sk s.S.Cells b):=by
  have hb1:l.length+1-(1:Int).toNat<4611686018427387904:=by omega
  refine a8V (s0:=((1:Int),l)) (λq=>∃k:Nat,q.1=(k:Int)∧(k≤l.length∨k=1)∧1≤k∧q.2.Perm l∧∀a b,a<b→b<k→K q.2 a≤K q.2 b) (λ(o':List Int)=>o'.Perm l∧o'.Pairwise (λa b=>sk s.S.Cells a≤sk s.S.Cells b)) (λq=>l.length+1-q.1.toNat) ⟨1,rfl,.inr rfl,by omega,List.Perm.refl _,λa b h1 h2=>by omega⟩ hb1 ?_
  rintro⟨_,o⟩ ⟨k,rfl,hkl,hk1,hp,hk⟩
  simp only at hp hk ⊢
  have hol:o.length=l.length:=hp.length_eq
  rcases Nat.lt_or_ge k l.length with h1 | h1
  ·left
   obtain⟨o',e1,e2,e3⟩:=inner k o h1 hp λa b x1 x2 x3=>hk a b x1 (by omega)
   refine⟨(((k+1:Nat):Int),o'),?_,⟨k+1,rfl,by omega,by omega,e2,λa b x1 x2=>e3 a b x1 (by omega)⟩,by show l.length+1-((k+1:Nat):Int).toNat<l.length+1-(k:Int).toNat;omega⟩
   rw[if_pos (by simp;omega),e1,d0Y,c8 (by omega)]
  ·right
   refine⟨o,by rw[if_neg (by simp;omega)],hp,?_⟩
   rw[List.pairwise_iff_getElem]
   intro i j hi hj hij
   have:=hk i j hij (by omega)
   simpa[K,List.getD,List.getElem?_eq_getElem hi,List.getElem?_eq_getElem hj] using this
 obtain⟨m,e1,e2,e3⟩:=outer
 exact⟨m,by rw[show lp _ _=_ from e1];rfl,e2,e3⟩
theorem a1t{s:store_Store}(hR:RtR (sO s)):I5 (sO s)=some (lv s):=by
 have hlen:=a2r hR
 unfold I5
 simp only[jn]
 have hloop:lp (S:=Int × (List Int)) (E:=(List Int)) (λ((s18,s19):Int × (List Int))=>
   if (decide (s18<((sO s).Cells.length:Int))) then
     (ix (sO s).Cells s18).bind λv27=>
     if (v27.State==1) then
      (a3k s18 v27.Gen).bind λv28=>
      (app 8 s19 [v28]).bind λv29=>
      some (.inl (s7 (s18+1),v29))
     else
     some (.inl (s7 (s18+1),s19))
   else
   some (.inr s19)) (0,[])=some (Y2 0 s.S.Cells):=by
  refine a3W (a0m (T:=List Int) s.S.Cells.length (λk l=>l=Y2 0 (s.S.Cells.take k)) (λe=>e=Y2 0 s.S.Cells) (by omega) (by simp[Y2]) (λk l hk hP=>?_) (λl hP=>?_))
  ·subst hP
   left
   have hc:=(b9f hR).gen k hk
   have hl:=a4t 0 (s.S.Cells.take k)
   have et:s.S.Cells.take (k+1)=s.S.Cells.take k ++ [s.S.Cells[k]]:=by rw[List.take_add_one,List.getElem?_eq_getElem hk];rfl
   have el:(s.S.Cells.take k).length=k:=by simp;omega
   refine⟨_,?_,rfl⟩
   simp only[C4,Int.ofNat_lt,hk,decide_true,if_true,c0j,l5 hk,Option.map_some,d0Y,cO]
   rw[et,a7D,el,Nat.zero_add]
   by_cases q:s.S.Cells[k].State=1
   ·rw[if_pos (by simpa using q),if_pos q,a6W,d0Y,if_pos (by omega),u7 (by omega) (by simp;omega),d0Y,c8]
   ·rw[if_neg (by simpa using q),if_neg q,c8,List.append_nil]
  ·subst hP
   refine⟨_,by simp only[C4,Int.lt_irrefl,decide_false,Bool.false_eq_true,if_false];rfl,by simp⟩
 rw[show lp _ _=_ from hloop,d0Y]
 obtain⟨m,h1,h2,h3⟩:=c3x hR (l:=Y2 0 s.S.Cells) (λx hx=>(b0U hR).2 hx) (by have:=a4t 0 s.S.Cells;omega)
 rw[h1,d0Y]
 congr 1
 obtain⟨_,l2,l3⟩:=a5w hR
 exact a85 (key:=sk s.S.Cells) (h2.trans l2.symm) h3 (l3.imp λh=>by omega) λa ha b hb e=>b9j hR (h2.mem_iff.1 ha) (h2.mem_iff.1 hb) e
end Go.Sh
namespace Go.Sh
theorem b7m(v:List Int)(h:v.length≤1000000):a2Y v=some (nz v):=by
 unfold a2Y a2Z
 simp only[jn,d0Y]
 rw[D0 v (λb x=>if x != 0 then b ++ [x] else b) id (λk b=>b.length≤k) (by omega) (by simp) (λk hk b hb=>?_) (λb _=>?_)]
 ·simp only[d0Y,id]
  rw[foldl_filter]
  rfl
 ·simp only[Int.ofNat_lt,hk,decide_true,if_true,l5 hk,d0Y]
  by_cases q:(v[k] != 0)=true
  ·rw[if_pos (by simpa using q),if_pos q,u7 (by omega) (by simp;omega),d0Y,c8]
   exact⟨rfl,by simp;omega⟩
  ·rw[if_neg (by simpa using q),if_neg q,c8]
   exact⟨rfl,by omega⟩
 ·simp only[Int.lt_irrefl,decide_false,Bool.false_eq_true,if_false]
  rfl
theorem b2Y(v:List Int)(h:v.length≤1000000):a1w v=some (nz v):=by
 unfold a1w
 simp only[jn]
 rw[D0 v (λb x=>if x != 0 then b ++ [x] else b) id (λk b=>b.length≤k) (by omega) (by simp) (λk hk b hb=>?_) (λb _=>?_)]
 ·simp only[d0Y,id]
  rw[foldl_filter]
  rfl
 ·simp only[Int.ofNat_lt,hk,decide_true,if_true,l5 hk,d0Y]
  by_cases q:(v[k] != 0)=true
  ·rw[if_pos q,if_pos q,u7 (by omega) (by simp;omega),d0Y,c8]
   exact⟨rfl,by simp;omega⟩
  ·rw[if_neg q,if_neg q,c8]
   exact⟨rfl,by omega⟩
 ·simp only[Int.lt_irrefl,decide_false,Bool.false_eq_true,if_false]
  rfl
theorem W1(l:List Int)(h:Int)(hl:l.length≤1000000):H6 l h=some (X9 l h:Int):=by
 unfold H6
 simp only[jn]
 rw[b0R l (λ(b:Int) x=>if (x==h&&h != 0) then b+1 else b) id (λk b=>0≤b∧b≤k) (by omega) (by simp) (λk hk b hb=>?_) (λb _=>?_)]
 ·simp only[d0Y,id]
  rw[a6E]
  simp
 ·simp only[Int.ofNat_lt,hk,decide_true,if_true,l5 hk,d0Y]
  by_cases q:(l[k]==h&&h != 0)=true
  ·rw[if_pos q,if_pos q,c8,G7 (n:=b+1) (by omega) (by omega)]
   exact⟨rfl,by omega⟩
  ·rw[if_neg q,if_neg q,c8]
   exact⟨rfl,by omega⟩
 ·simp only[Int.lt_irrefl,decide_false,Bool.false_eq_true,if_false]
  rfl
theorem count_eq(l:List Int)(h:Int)(hl:l.length≤1000000):a7W l h=some (X9 l h:Int):=by
 unfold a7W a2Z
 simp only[jn,d0Y]
 rw[D0 l (λ(b:Int) x=>if (x==h&&h != 0) then b+1 else b) id (λk b=>0≤b∧b≤k) (by omega) (by simp) (λk hk b hb=>?_) (λb _=>?_)]
 ·simp only[d0Y,id]
  rw[a6E]
  simp
 ·simp only[Int.ofNat_lt,hk,decide_true,if_true,l5 hk,d0Y,Bool.and_false,Bool.false_eq_true,if_false]
  by_cases q0:l[k]=0
  ·have e1:((l[k] != 0)==true)=false:=by simp[q0]
   have e2:(l[k]==h&&h != 0)=false:=by rw[Bool.eq_false_iff];simp only[ne_eq,Bool.and_eq_true,beq_iff_eq,bne_iff_ne];omega
   rw[e1,e2,c8]
   exact⟨rfl,by simp;omega⟩
  ·have e1:((l[k] != 0)==true)=true:=by simp[q0]
   rw[e1,if_pos rfl]
   by_cases q:l[k]=h
   ·have e2:(l[k]==h&&h != 0)=true:=by simp only[Bool.and_eq_true,beq_iff_eq,bne_iff_ne];omega
    rw[e2,if_pos (by simpa using q),if_pos rfl,c8,G7 (n:=b+1) (by omega) (by omega)]
    exact⟨rfl,by omega⟩
   ·have e2:(l[k]==h&&h != 0)=false:=by rw[Bool.eq_false_iff];simp only[ne_eq,Bool.and_eq_true,beq_iff_eq,bne_iff_ne];omega
    rw[e2,if_neg (by simpa using q),c8]
    exact⟨rfl,by simp;omega⟩
 ·simp only[Int.lt_irrefl,decide_false,Bool.false_eq_true,if_false]
  rfl
theorem c3C(l:List Int)(h:Int)(hl:l.length≤1000000):a5K l h=some (X9 l h:Int):=by
 unfold a5K
 rw[count_eq l h hl]
 rfl
noncomputable def inn(s:store_Store)(h:Int):Nat:=((lv s).map λx=>X9 (outs s x) h).sum
theorem b9Q{s:store_Store}(hR:RtR (sO s)){k:Nat}(hk:k<(lv s).length):(lv s)[k]≤9223372036854775807:=by
 have:=a4e hR (List.getElem_mem hk)
 omega
section
variable{s:store_Store}(hR:RtR (sO s))
include hR
theorem c24{h:Int}(hh:h≤9223372036854775807):a4T s h=some (outs s h):=by
 obtain⟨e,h1,_⟩:=Q8 hR hh
 unfold a4T
 rw[h1,d0Y,b7m _ (by have:=b5T hR h hh;simp only;omega)]
 rfl
theorem b7p{h:Int}(hh:h≤9223372036854775807):a90 (sO s) h=some (outs s h):=by
 unfold a90
 rw[a6H s (by have:=a2r hR;omega) hh]
 obtain⟨e,h1,h2⟩:=Q8 hR hh
 rw[h1]
 simp only[Option.map_some,d0Y]
 by_cases q:e=0
 ·subst q
  rw[if_neg (by simp),b2Y _ (by have:=b5T hR h hh;simp only[oo];omega)]
  rfl
 ·rw[if_pos (by simpa using q),b9Y hR hh (λq'=>q (h2.2 q'))]
theorem b8K(h:Int):inn s h≤96:=by
 have:=b9k (λx=>X9 (outs s x) h) 4 (lv s) λx hx=>Nat.le_trans (b9l _ _) (a4E hR x (by have:=a4e hR hx;omega))
 have:=D2 hR
 unfold inn
 omega
theorem c8j(h:Int):b2g s h=some (inn s h:Int):=by
 unfold b2g a5L
 simp only[jn,d0Y]
 rw[show C8 s=_ from a1S hR,d0Y]
 have hl:=D2 hR
 rw[D0 (lv s) (λ(b:Int) x=>b+(X9 (outs s x) h:Int)) id (λk b=>0≤b∧b≤4*k) (by omega) (by simp) (λk hk b hb=>?_) (λb _=>?_)]
 ·simp only[d0Y,id]
  have:=a8S (λx=>X9 (outs s x) h) (lv s) 0
  rw[show ((0:Nat):Int)=0 from rfl] at this
  rw[this,Nat.zero_add]
  rfl
 ·have ho:=c24 hR (b9Q hR hk)
  have hol:=a4E hR _ (b9Q hR hk)
  have ht:=b9l (outs s (lv s)[k]) h
  simp only[Int.ofNat_lt,hk,decide_true,if_true,l5 hk,d0Y,ho]
  rw[D0 (outs s (lv s)[k]) (λ(b:Int) x=>if (x==h&&h != 0) then b+1 else b) id (λj c=>b≤c∧c≤b+j) (by omega) (by simp) (λj hj c hc=>?_) (λc _=>?_)]
  ·simp only[d0Y,id]
   rw[a6E,c8]
   exact⟨rfl,by omega⟩
  ·simp only[Int.ofNat_lt,hj,decide_true,if_true,l5 hj,d0Y]
   have hne:=c42 (List.getElem_mem hj)
   by_cases q:(outs s (lv s)[k])[j]=h
   ·have e2:((outs s (lv s)[k])[j]==h&&h != 0)=true:=by simp only[Bool.and_eq_true,beq_iff_eq,bne_iff_ne];omega
    rw[e2,if_pos (by simpa using q),if_pos rfl,c8,G7 (n:=c+1) (by omega) (by omega)]
    exact⟨rfl,by omega⟩
   ·have e2:((outs s (lv s)[k])[j]==h&&h != 0)=false:=by rw[Bool.eq_false_iff];simp only[ne_eq,Bool.and_eq_true,beq_iff_eq,bne_iff_ne];omega
    rw[e2,if_neg (by simpa using q),c8]
    exact⟨rfl,by simp;omega⟩
  ·simp only[Int.lt_irrefl,decide_false,Bool.false_eq_true,if_false]
   rfl
 ·simp only[Int.lt_irrefl,decide_false,Bool.false_eq_true,if_false]
  rfl
theorem c4t(h:Int):b54 (sO s) h=some (inn s h:Int):=by
 unfold b54
 simp only[jn,a1t hR,d0Y]
 have hl:=D2 hR
 rw[b0R (lv s) (λ(b:Int) x=>b+(X9 (outs s x) h:Int)) id (λk b=>0≤b∧b≤4*k) (by omega) (by simp) (λk hk b hb=>?_) (λb _=>?_)]
 ·simp only[d0Y,id]
  have:=a8S (λx=>X9 (outs s x) h) (lv s) 0
  rw[show ((0:Nat):Int)=0 from rfl] at this
  rw[this,Nat.zero_add]
  rfl
 ·have hol:=a4E hR _ (b9Q hR hk)
  have ht:=b9l (outs s (lv s)[k]) h
  simp only[Int.ofNat_lt,hk,decide_true,if_true,l5 hk,d0Y,b7p hR (b9Q hR hk)]
  rw[W1 _ _ (by omega),d0Y,c8,G7 (by omega) (by omega)]
  exact⟨rfl,by omega⟩
 ·simp only[Int.lt_irrefl,decide_false,Bool.false_eq_true,if_false]
  rfl
end
end Go.Sh
namespace Go.Sh
section
variable{s:store_Store}(hR:RtR (sO s))(hF:FB s)
include hR hF
end
theorem a9m{α:Type}(p:α→Bool):∀l:List α,l.length=(l.filter p).length+(l.filter λx => !p x).length
 | []=>rfl
 | x::l=>by
  have:=a9m p l
  by_cases h:p x
  ·simp[h];omega
  ·simp[h];omega
theorem c8t{s:store_Store}(hR:RtR (sO s)){l:List Int}(hp:l.Perm (Y2 0 s.S.Cells))(hs:l.Pairwise (λa b=>sk s.S.Cells a<sk s.S.Cells b)):lv s=l:=by
 obtain⟨_,l2,l3⟩:=a5w hR
 exact a85 (key:=sk s.S.Cells) (l2.trans hp.symm) (l3.imp λh=>by omega) (hs.imp λh=>by omega) λa ha b hb e=>b9j hR (l2.mem_iff.1 ha) (l2.mem_iff.1 hb) e
end Go.Sh
namespace Go.Sh
inductive Rch (s:store_Store) (l:List Int):Int→Prop
 | base {h:Int}:h∈l→h∈lv s→Rch s l h
 | step {a b:Int}:Rch s l a→b∈outs s a→b∈lv s→Rch s l b
open Classical in
noncomputable def rcd (s:store_Store) (l:List Int):List Int:=(lv s).filter λh=>decide (Rch s l h)
open Classical in
noncomputable def I4 (s:store_Store) (l:List Int):List Int:=(lv s).filter λh=>decide (¬Rch s l h)
def Cl(s:store_Store)(l:List Int):Prop:=∀a∈l,∀b∈outs s a,b∈lv s→b∈l
def LB(l:List Int):Prop:=∀x∈l,x≤9223372036854775807
theorem Rch.live{s:store_Store}{l:List Int}{h:Int}(q:Rch s l h):h∈lv s:=by cases q <;> assumption
open Classical in
theorem T9 {s:store_Store} {l:List Int} {h:Int}:h∈rcd s l↔Rch s l h:=by
 unfold rcd
 rw[List.mem_filter]
 exact⟨λq=>of_decide_eq_true q.2,λq=>⟨q.live,decide_eq_true q⟩⟩
theorem b94{s:store_Store}(hR:RtR (sO s))(l:List Int):(rcd s l).length≤24:=Nat.le_trans (List.length_filter_le ..) (D2 hR)
theorem c7s(s:store_Store)(l:List Int):Cl s (rcd s l):=λa ha b hb hl=>T9.2 (.step (T9.1 ha) hb hl)
theorem Rch.least{s:store_Store}{l m:List Int}(hc:Cl s m)(hl:∀x∈l,x∈lv s→x∈m){h:Int}(q:Rch s l h):h∈m:=by
 induction q with
 | base h1 h2=>exact hl _ h1 h2
 | step _ h1 h2 ih=>exact hc _ ih _ h1 h2
theorem Rch.mono{s:store_Store}{l m:List Int}(hl:∀x∈l,x∈lv s→Rch s m x){h:Int}(q:Rch s l h):Rch s m h:=by
 induction q with
 | base h1 h2=>exact hl _ h1 h2
 | step _ h1 h2 ih=>exact .step ih h1 h2
theorem b43{s:store_Store}{l m:List Int}(h:∀x,Rch s l x↔Rch s m x):rcd s l=rcd s m:=by
 unfold rcd
 exact List.filter_congr λx _=>decide_eq_decide.2 (h x)
theorem filter_lt{α:Type}{p q:α→Bool}:∀ {l:List α},(∀x∈l,p x=true→q x=true)→∀x∈l,q x=true→p x=false→(l.filter p).length<(l.filter q).length
 | [],_,x,hx,_,_=>by cases hx
 | y::l,h,x,hx,h1,h2=>by
  have hle:(l.filter p).length≤(l.filter q).length:=by
   have h':∀x∈l,p x=true→q x=true:=λx hx=>h x (List.mem_cons_of_mem _ hx)
   clear h hx
   induction l with
   | nil=>simp
   | cons z l ih=>
    have:=ih λx hx=>h' x (List.mem_cons_of_mem _ hx)
    have hz:=h' z (List.mem_cons_self ..)
    simp only[List.filter_cons]
    by_cases a:p z=true
    ·rw[if_pos a,if_pos (hz a)];simp only[List.length_cons];omega
    ·rw[if_neg a];split <;> (try simp only[List.length_cons]) <;> omega
  rcases List.mem_cons.1 hx with rfl | hx'
  ·simp only[List.filter_cons,h1,h2,if_true,Bool.false_eq_true,if_false,List.length_cons]
   omega
  ·have:=filter_lt (λx hx=>h x (List.mem_cons_of_mem _ hx)) x hx' h1 h2
   have hy:=h y (List.mem_cons_self ..)
   simp only[List.filter_cons]
   by_cases a:p y=true
   ·rw[if_pos a,if_pos (hy a)];simp only[List.length_cons];omega
   ·rw[if_neg a];split <;> (try simp only[List.length_cons]) <;> omega
theorem a0U{l m:List Int}(hn:l.Nodup)(h:∀x∈l,x∈m):l.length≤m.length:=by
 induction l generalizing m with
 | nil=>simp
 | cons x l ih=>
  rw[List.nodup_cons] at hn
  have hx:=h x (List.mem_cons_self ..)
  have:=ih (m:=m.erase x) hn.2 λy hy=>(List.mem_erase_of_ne (λe=>hn.1 (by subst e;exact hy))).2 (h y (List.mem_cons_of_mem _ hy))
  rw[List.length_erase_of_mem hx] at this
  have:0<m.length:=List.length_pos_of_mem hx
  simp only[List.length_cons]
  omega
section
variable{s:store_Store}(hR:RtR (sO s))
include hR
theorem c0U{h:Int}(hh:h≤9223372036854775807):X0 s h=some (decide (h∈lv s)):=by
 obtain⟨e,h1,h2⟩:=Q8 hR hh
 unfold X0
 rw[h1,d0Y]
 congr 1
 rw[Bool.eq_iff_iff,beq_iff_eq,decide_eq_true_iff]
 exact h2
abbrev Mk(m:List (Int × Bool))(x:Int):Prop:=(w9 m x).getD false=true
noncomputable def unm(s:store_Store)(m:List (Int × Bool)):Nat:=((lv s).filter λx => !(w9 m x).getD false).length
omit hR in
theorem b0X (m:List (Int × Bool)) (x y:Int):Mk (m8 m x true) y↔y=x∨Mk m y:=by
 unfold Mk
 rw[a4A]
 by_cases q:y=x
 ·simp[q]
 ·simp[q]
omit hR in
theorem c5r {m:List (Int × Bool)} {x:Int} (hx:x∈lv s) (hm:¬Mk m x):unm s (m8 m x true)<unm s m:=by
 unfold unm
 refine filter_lt (λy _ h=>?_) x hx (by simpa[Mk] using hm) ?_
 ·by_cases q:Mk m y
  ·have:=(b0X m x y).2 (.inr q)
   unfold Mk at this
   rw[this] at h
   cases h
  ·simpa[Mk] using q
 ·have:=(b0X m x x).2 (.inl rfl)
  unfold Mk at this
  rw[this];rfl
structure b8j (s:store_Store) (l:List Int) (q:g5) (m:List (Int × Bool)):Prop where
 nd:q.L.Nodup
 cap:q.Cap=((lv s).length:Int)
 mkd:∀x∈q.L,Mk m x
 rc:∀x,Mk m x→Rch s l x
omit hR in
theorem b8j.room {l:List Int} {q:g5} {m:List (Int × Bool)} (h:b8j s l q m) {x:Int} (hx:x∈lv s) (hm:¬Mk m x):q.L.length<(lv s).length:=by
 have:(x::q.L).length≤(lv s).length:=a0U (List.nodup_cons.2 ⟨λk=>hm (h.mkd x k),h.nd⟩) λy hy=>by
  rcases List.mem_cons.1 hy with rfl | k
  ·exact hx
  ·exact (h.rc y (h.mkd y k)).live
 simp only[List.length_cons] at this
 omega
omit hR in
theorem c5a {q:g5} {x:Int} (h:(q.L.length:Int)<q.Cap) (h2:q.L.length≤1000):K9 q x=some (⟨q.L ++ [x],q.Cap⟩,0):=by
 unfold K9 I1 L0
 rw[d0Y,if_neg (by simp;omega)]
 have:=b5u (xs:=q.L) (i:=0) (j:=q.L.length) (by omega) (Nat.le_refl _)
 rw[show ((0:Nat):Int)=0 from rfl] at this
 rw[this]
 simp only[List.take_length,List.drop_zero,d0Y]
 rw[u7 (by omega) (by simp;omega)]
 rfl
omit hR in
theorem c7i {x:Int} {r:List Int} {c:Int} (h2:r.length≤1000):Z2 ⟨x::r,c⟩=some (⟨r,c⟩,x,0):=by
 unfold Z2 a2q I1 L0
 simp only[d0Y,List.length_cons]
 have e:(if (if (((r.length+1:Nat):Int))<1 then (((r.length+1:Nat):Int)) else 1) > 0 then (if (((r.length+1:Nat):Int))<1 then (((r.length+1:Nat):Int)) else 1) else 0:Int)=((1:Nat):Int):=by
  rw[if_neg (show ¬(((r.length+1:Nat):Int)<1) by omega)]
  rfl
 rw[e]
 have h1:=b5u (xs:=x::r) (i:=0) (j:=1) (by omega) (by simp)
 have h3:=b5u (xs:=x::r) (i:=1) (j:=r.length+1) (by omega) (by simp)
 rw[show ((0:Nat):Int)=0 from rfl] at h1
 rw[h1,h3]
 simp only[d0Y]
 have e1:List.drop 0 (List.take 1 (x::r)) = [x]:=by simp
 have e2:List.drop 1 (List.take (r.length+1) (x::r))=r:=by simp
 rw[e1,e2]
 rfl
abbrev b7t(s:store_Store)(xs:List Int):Int × g5 × (List (Int × Bool))→Option ((Int × g5 × (List (Int × Bool))) ⊕ (g5 × (List (Int × Bool)))):=
 λ(a4X,s115,s116)=>
   if (decide (a4X<(xs.length:Int))) then
     (ix xs a4X).bind λv126=>
     (X0 s v126).bind λv127=>
     if (v127==true) then
      if (!((w9 s116 v126).getD (false:Bool))) then
       (K9 s115 v126).bind λv128=>
       some (.inl (s7 (a4X+1),v128.1,(m8 s116 v126 true)))
      else
      some (.inl (s7 (a4X+1),s115,s116))
     else
     some (.inl (s7 (a4X+1),s115,s116))
   else
   some (.inr (s115,s116))
theorem b41{l xs:List Int}{q:g5}{m:List (Int × Bool)}(hxs:LB xs)(hlen:xs.length≤1000000)(h0:b8j s l q m)(hr:∀x∈xs,x∈lv s→Rch s l x) :
  ∃q' m',lp (b7t s xs) (0,q,m)=some (q',m')∧b8j s l q' m'∧(∀x,Mk m' x↔Mk m x∨x∈xs∧x∈lv s)∧(∀x,Mk m' x→Mk m x∨x∈q'.L)∧(∀x∈q.L,x∈q'.L)∧2*unm s m'+q'.L.length≤2*unm s m+q.L.length:=by
 have:=a0m (f:=b7t s xs) (t0:=(q,m)) xs.length (λk t=>b8j s l t.1 t.2∧(∀x,Mk t.2 x↔Mk m x∨x∈xs.take k∧x∈lv s)∧(∀x,Mk t.2 x→Mk m x∨x∈t.1.L)∧(∀x∈q.L,x∈t.1.L)∧2*unm s t.2+t.1.L.length≤2*unm s m+q.L.length)
  (λt=>b8j s l t.1 t.2∧(∀x,Mk t.2 x↔Mk m x∨x∈xs∧x∈lv s)∧(∀x,Mk t.2 x→Mk m x∨x∈t.1.L)∧(∀x∈q.L,x∈t.1.L)∧2*unm s t.2+t.1.L.length≤2*unm s m+q.L.length) (by omega)
  ⟨h0,λx=>by simp,λx h=>.inl h,λx h=>h,Nat.le_refl _⟩ (λk t hk hP=>?_) (λt hP=>?_)
 ·obtain⟨⟨q',m'⟩,h1,h2⟩:=this
  exact⟨q',m',h1,h2⟩
 ·obtain⟨q1,m1⟩:=t
  obtain⟨p1,p2,p3,p4,p5⟩:=hP
  simp only at p1 p2 p3 p4 p5
  left
  have hle:=hxs _ (List.getElem_mem hk)
  have ht:∀x,x∈xs.take (k+1)↔x∈xs.take k∨x=xs[k]:=λx=>by rw[List.take_succ_eq_append_getElem hk,List.mem_append,List.mem_singleton]
  simp only[b7t,Int.ofNat_lt,hk,decide_true,if_true,l5 hk,d0Y,c0U hR hle]
  by_cases hv:xs[k]∈lv s
  ·rw[if_pos (by simpa using hv)]
   by_cases hm:Mk m1 xs[k]
   ·rw[if_neg (by rw[show (w9 m1 xs[k]).getD false=true from hm];decide),c8]
    refine⟨(q1,m1),rfl,p1,λx=>?_,p3,p4,p5⟩
    rw[p2,ht]
    constructor
    ·rintro (a | ⟨a,b⟩)
     ·exact .inl a
     ·exact .inr ⟨.inl a,b⟩
    ·rintro (a | ⟨a | rfl,b⟩)
     ·exact .inl a
     ·exact .inr ⟨a,b⟩
     ·exact (p2 _).1 hm
   ·have hm':(w9 m1 xs[k]).getD false=false:=by simpa[Mk] using hm
    have hroom:=p1.room hv hm
    have hl24:=D2 hR
    rw[if_pos (by rw[hm'];decide),c5a (by rw[p1.cap];omega) (by omega),d0Y,c8]
    refine⟨(⟨q1.L ++ [xs[k]],q1.Cap⟩,m8 m1 xs[k] true),rfl,⟨?_,p1.cap,λx hx=>?_,λx hx=>?_⟩,λx=>?_,λx hx=>?_,λx hx=>?_,?_⟩
    ·simp only
     rw[List.nodup_append]
     refine⟨p1.nd,by simp,λa ha b hb e=>?_⟩
     rw[List.mem_singleton] at hb
     subst hb;subst e
     exact hm (p1.mkd _ ha)
    ·simp only[List.mem_append,List.mem_singleton] at hx
     rw[b0X]
     rcases hx with a | a
     ·exact .inr (p1.mkd x a)
     ·exact .inl a
    ·rcases (b0X m1 xs[k] x).1 hx with rfl | a
     ·exact hr _ (List.getElem_mem hk) hv
     ·exact p1.rc x a
    ·simp only
     rw[b0X,p2,ht]
     constructor
     ·rintro (rfl | a | ⟨a,b⟩)
      ·exact .inr ⟨.inr rfl,hv⟩
      ·exact .inl a
      ·exact .inr ⟨.inl a,b⟩
     ·rintro (a | ⟨a | a,b⟩)
      ·exact .inr (.inl a)
      ·exact .inr (.inr ⟨a,b⟩)
      ·exact .inl a
    ·simp only[List.mem_append,List.mem_singleton]
     rcases (b0X m1 xs[k] x).1 hx with a | a
     ·exact .inr (.inr a)
     ·rcases p3 x a with b | b
      ·exact .inl b
      ·exact .inr (.inl b)
    ·simp only[List.mem_append]
     exact .inl (p4 x hx)
    ·have:=c5r hv hm
     simp only[List.length_append,List.length_singleton]
     omega
  ·rw[if_neg (by simpa using hv),c8]
   refine⟨(q1,m1),rfl,p1,λx=>?_,p3,p4,p5⟩
   rw[p2,ht]
   constructor
   ·rintro (a | ⟨a,b⟩)
    ·exact .inl a
    ·exact .inr ⟨.inl a,b⟩
   ·rintro (a | ⟨a | rfl,b⟩)
    ·exact .inl a
    ·exact .inr ⟨a,b⟩
    ·exact absurd b hv
 ·obtain⟨q1,m1⟩:=t
  refine⟨(q1,m1),?_,?_⟩
  ·simp only[b7t,Int.lt_irrefl,decide_false,Bool.false_eq_true,if_false]
  ·simpa using hP
theorem b5a(hF:FB s){l:List Int}(hl:LB l)(hlen:l.length≤1000000):∃m,a00 s l=some m∧∀x,Mk m x↔Rch s l x:=by
 unfold a00 a1T
 simp only[jn,a1S hR,d0Y]
 have h24:=D2 hR
 obtain⟨q0,m0,e0,i0,i1,i2,i3,i4⟩:=b41 hR (l:=l) (xs:=l) (q:=⟨[],((lv s).length:Int)⟩) (m:=[]) hl hlen ⟨List.nodup_nil,rfl,(λx hx=>by cases hx),(λx hx=>by simp[Mk,w9] at hx)⟩ (λx h1 h2=>.base h1 h2)
 rw[show lp _ _=_ from e0,d0Y]
 simp only
 have hu:unm s []≤24:=Nat.le_trans (List.length_filter_le ..) h24
 obtain⟨m,h1,h2⟩:=a8V (s0:=(q0,m0)) (f:=λ((s70,s71):g5 × (List (Int × Bool)))=>
    (I1 s70).bind λv74=>
    if (decide (v74 > 0)) then
     (Z2 s70).bind λv75=>
     (a4T s v75.2.1).bind λv76=>
      (lp (b7t s v76) (0,v75.1,s71)).bind λe97=>
      (some (.inl (e97.1,e97.2)):Option ((g5 × List (Int × Bool)) ⊕ List (Int × Bool)))
    else
    some (.inr s71)) (λt=>b8j s l t.1 t.2∧(∀x∈l,x∈lv s→Mk t.2 x)∧∀a,Mk t.2 a→a∈t.1.L∨∀b∈outs s a,b∈lv s→Mk t.2 b) (λm=>∀x,Mk m x↔Rch s l x) (λt=>2*unm s t.2+t.1.L.length)
   ⟨i0,λx h1 h2=>(i1 x).2 (.inr ⟨h1,h2⟩),λa ha=>.inl ((i2 a ha).resolve_left (by simp[Mk,w9]))⟩ (by show 2*unm s m0+q0.L.length<_;simp only[List.length_nil] at i4;omega) (by
   rintro⟨q,m⟩ ⟨p1,p2,p3⟩
   simp only at p1 p2 p3 ⊢
   have hq:=a0U p1.nd λx hx=>(p1.rc x (p1.mkd x hx)).live
   unfold I1
   rw[d0Y]
   cases hqL:q.L with
   | nil=>
    right
    refine⟨m,by rw[if_neg (by simp)],λx=>⟨p1.rc x,λh=>?_⟩⟩
    induction h with
    | base a b=>exact p2 _ a b
    | step _ a b ih=>
     rcases p3 _ ih with c | c
     ·rw[hqL] at c;cases c
     ·exact c _ a b
   | cons a r=>
    left
    have hqe:q=⟨a::r,q.Cap⟩:=by rw[←hqL]
    have hal:a∈lv s:=(p1.rc a (p1.mkd a (by rw[hqL];exact List.mem_cons_self ..))).live
    have ha:a≤9223372036854775807:=by have:=a4e hR hal;omega
    have hnd:=p1.nd
    rw[hqL] at hnd hq
    simp only[List.length_cons] at hq
    obtain⟨q',m',e1,j0,j1,j2,j3,j4⟩:=b41 hR (l:=l) (xs:=outs s a) (q:=⟨r,q.Cap⟩) (m:=m) (λx hx=>c41 hR hF ha hx) (by have:=a4E hR a ha;omega) ⟨(List.nodup_cons.1 hnd).2,p1.cap,λx hx=>p1.mkd x (by rw[hqL];exact List.mem_cons_of_mem _ hx),p1.rc⟩ (λx h1 h2=>.step (p1.rc a (p1.mkd a (by rw[hqL];exact List.mem_cons_self ..))) h1 h2)
    refine⟨(q',m'),?_,⟨j0,λx h1 h2=>(j1 x).2 (.inl (p2 x h1 h2)),λb hb=>?_⟩,?_⟩
    ·rw[if_pos (by simp),hqe,c7i (by omega),d0Y]
     simp only
     rw[c24 hR ha,d0Y,e1,d0Y]
    ·simp only at hb ⊢
     rcases j2 b hb with c | c
     ·rcases p3 b c with d | d
      ·rw[hqL] at d
       rcases List.mem_cons.1 d with rfl | d
       ·exact .inr λy h1 h2=>(j1 y).2 (.inr ⟨h1,h2⟩)
       ·exact .inl (j3 b d)
      ·exact .inr λy h1 h2=>(j1 y).2 (.inl (d y h1 h2))
     ·exact .inl c
    ·show 2*unm s m'+q'.L.length<2*unm s m+(a::r).length
     simp only[List.length_cons] at j4 ⊢
     omega)
 refine⟨m,?_,h2⟩
 rw[show lp _ _=_ from h1]
 rfl
end
end Go.Sh
namespace Go.Sh
theorem c2y(l:List Int)(x:Int)(hl:l.length≤1000000):∃r:Int,M9 l x=some r∧(0≤r↔x∈l):=by
 unfold M9
 simp only[jn]
 by_cases h:x∈l
 ·obtain⟨i,hi,e⟩:=List.mem_iff_getElem.1 h
  obtain⟨j,⟨hj,ej⟩,hmin⟩:=U2 (p:=λi=>∃hi:i<l.length,l[i]=x) ⟨i,hi,e⟩
  refine⟨(j:Int),?_,by simp[h]⟩
  refine E0 l.length (λk=>k≤j) (by omega) (Nat.zero_le _) (λk hk hP=>?_) (λhP=>by omega)
  simp only[Int.ofNat_lt,hk,decide_true,if_true,l5 hk,d0Y]
  rcases Nat.lt_or_ge k j with q | q
  ·refine .inl ⟨?_,q⟩
   rw[if_neg (by
    rw[beq_iff_eq]
    intro e
    have:=hmin k ⟨hk,e.symm⟩
    omega),c8]
  ·have:k=j:=by omega
   subst this
   exact .inr ⟨_,by rw[if_pos (by simpa using ej.symm)],rfl⟩
 ·refine⟨-1,?_,by simp[h]⟩
  refine E0 l.length (λk=>True) (by omega) trivial (λk hk hP=>.inl ⟨?_,trivial⟩) (λhP=>⟨.inr (),by simp,rfl⟩)
  simp only[Int.ofNat_lt,hk,decide_true,if_true,l5 hk,d0Y]
  rw[if_neg (by
   rw[beq_iff_eq]
   intro e
   exact h (e▸List.getElem_mem hk)),c8]
theorem contains_eq(l:List Int)(x:Int)(hl:l.length≤1000000):D3 l x=some (decide (x∈l)):=by
 obtain⟨r,h1,h2⟩:=c2y l x hl
 unfold D3
 rw[h1,d0Y]
 congr 1
 exact decide_eq_decide.2 h2
theorem a9w(l:List Int)(x:Int)(hl:l.length≤1000000):a5D l x=some (decide (x≠0∧x∈l)):=by
 unfold a5D
 rw[W1 l x hl,d0Y]
 congr 1
 rw[decide_eq_decide,←a0f]
 omega
open Classical in
theorem b72 (all l:List Int) (b:Bool) (ha:all.length≤1000000) (hl:l.length≤1000000) (h0:∀x∈all,x≠0):a4K all l b=some (all.filter λx=>decide (x∈l)==b):=by
 unfold a4K
 simp only[jn]
 rw[D0 all (λacc x=>if decide (x∈l)==b then acc ++ [x] else acc) id (λk acc=>acc.length≤k) (by omega) (by simp) (λk hk acc hb=>?_) (λb _=>?_)]
 ·simp only[d0Y,id]
  rw[foldl_filter]
  rfl
 ·simp only[Int.ofNat_lt,hk,decide_true,if_true,l5 hk,d0Y,a9w _ _ hl]
  have e:decide (all[k]≠0∧all[k]∈l)=decide (all[k]∈l):=decide_eq_decide.2 ⟨λq=>q.2,λq=>⟨h0 _ (List.getElem_mem hk),q⟩⟩
  rw[e]
  by_cases q:(decide (all[k]∈l)==b)=true
  ·rw[if_pos q,if_pos q,u7 (by omega) (by simp;omega),d0Y,c8]
   exact⟨rfl,by simp;omega⟩
  ·rw[if_neg q,if_neg q,c8]
   exact⟨rfl,by omega⟩
 ·simp only[Int.lt_irrefl,decide_false,Bool.false_eq_true,if_false]
  rfl
section
variable{s:store_Store}(hR:RtR (sO s))
include hR
theorem b9R:∀x∈lv s,x≠0:=λx hx=>by have:=a4e hR hx;omega
open Classical in
theorem b9G (hF:FB s) {l:List Int} (hl:LB l) (hlen:l.length≤1000000):a3q s l=some (rcd s l):=by
 obtain⟨m,h1,h2⟩:=b5a hR hF hl hlen
 unfold a3q N9 a2I
 rw[h1,d0Y]
 simp only[jn,a1S hR,d0Y]
 have h24:=D2 hR
 rw[D0 (lv s) (λacc x=>if decide (Rch s l x) then acc ++ [x] else acc) id (λk acc=>acc.length≤k) (by omega) (by simp) (λk hk acc hb=>?_) (λb _=>?_)]
 ·simp only[d0Y,id]
  rw[foldl_filter]
  rfl
 ·simp only[Int.ofNat_lt,hk,decide_true,if_true,l5 hk,d0Y]
  by_cases q:Rch s l (lv s)[k]
  ·rw[if_pos ((h2 _).2 q),if_pos (by simpa using q),u7 (by omega) (by simp;omega),d0Y,c8]
   exact⟨rfl,by simp;omega⟩
  ·rw[if_neg (λk=>q ((h2 _).1 k)),if_neg (by simpa using q),c8]
   exact⟨rfl,by omega⟩
 ·simp only[Int.lt_irrefl,decide_false,Bool.false_eq_true,if_false]
  rfl
open Classical in
theorem c4C (hF:FB s) {l:List Int} (hl:LB l) (hlen:l.length≤1000000):a5J s l=some (I4 s l):=by
 obtain⟨m,h1,h2⟩:=b5a hR hF hl hlen
 unfold a5J O0 a2J
 rw[h1,d0Y]
 simp only[jn,a1S hR,d0Y]
 have h24:=D2 hR
 rw[D0 (lv s) (λacc x=>if decide (¬Rch s l x) then acc ++ [x] else acc) id (λk acc=>acc.length≤k) (by omega) (by simp) (λk hk acc hb=>?_) (λb _=>?_)]
 ·simp only[d0Y,id]
  rw[foldl_filter]
  rfl
 ·simp only[Int.ofNat_lt,hk,decide_true,if_true,l5 hk,d0Y]
  by_cases q:Rch s l (lv s)[k]
  ·have e:(w9 m (lv s)[k]).getD false=true:=(h2 _).2 q
   rw[if_neg (by rw[e];decide),if_neg (by simpa using q),c8]
   exact⟨rfl,by omega⟩
  ·have e:(w9 m (lv s)[k]).getD false=false:=by
    have:¬Mk m (lv s)[k]:=λk=>q ((h2 _).1 k)
    simpa[Mk] using this
   rw[if_pos (by rw[e];decide),if_pos (by simpa using q),u7 (by omega) (by simp;omega),d0Y,c8]
   exact⟨rfl,by simp;omega⟩
 ·simp only[Int.lt_irrefl,decide_false,Bool.false_eq_true,if_false]
  rfl
def grow(s:store_Store)(all seen:List Int):List Int:=all.filter λx=>decide (x∈seen++seen.flatMap (outs s))
def U3(s:store_Store)(all seen:List Int):Nat→List Int
 | 0=>seen
 | k+1=>grow s all (U3 s all seen k)
omit hR in
theorem a8T (all seen:List Int) (k:Nat):U3 s all seen (k+1)=grow s all (U3 s all seen k):=rfl
omit hR in
theorem a9v {all seen:List Int} {x:Int}:x∈grow s all seen↔x∈all∧(x∈seen∨∃a∈seen,x∈outs s a):=by
 unfold grow
 rw[List.mem_filter,decide_eq_true_iff,List.mem_append,List.mem_flatMap]
open Classical in
omit hR in
theorem c2t (l:List Int):U3 s (lv s) ((lv s).filter λx=>decide (x∈l)==true) (lv s).length=rcd s l:=by
 have hsub:∀k x,x∈U3 s (lv s) ((lv s).filter λx=>decide (x∈l)==true) k→Rch s l x:=by
  intro k
  induction k with
  | zero=>
   intro x hx
   have:=List.mem_filter.1 (show x∈(lv s).filter λx=>decide (x∈l)==true from hx)
   exact .base (by simpa using this.2) this.1
  | succ k ih=>
   intro x hx
   rw[a8T,a9v] at hx
   rcases hx.2 with q | ⟨a,q1,q2⟩
   ·exact ih x q
   ·exact .step (ih a q1) q2 hx.1
 have hall:∀k x,x∈U3 s (lv s) ((lv s).filter λx=>decide (x∈l)==true) k→x∈lv s:=λk x hx=>(hsub k x hx).live
 have hfil:∀k,∃p:Int→Bool,U3 s (lv s) ((lv s).filter λx=>decide (x∈l)==true) k=(lv s).filter p:=by
  intro k
  cases k with
  | zero=>exact⟨_,rfl⟩
  | succ k=>exact⟨_,rfl⟩
 have hinc:∀k x,x∈U3 s (lv s) ((lv s).filter λx=>decide (x∈l)==true) k→x∈U3 s (lv s) ((lv s).filter λx=>decide (x∈l)==true) (k+1):=λk x hx=>a9v.2 ⟨hall k x hx,.inl hx⟩
 have key:∀k,Cl s (U3 s (lv s) ((lv s).filter λx=>decide (x∈l)==true) k)∨k≤(U3 s (lv s) ((lv s).filter λx=>decide (x∈l)==true) k).length:=by
  intro k
  induction k with
  | zero=>exact .inr (Nat.zero_le _)
  | succ k ih=>
   by_cases hc:Cl s (U3 s (lv s) ((lv s).filter λx=>decide (x∈l)==true) k)
   ·left
    have:∀x,x∈U3 s (lv s) ((lv s).filter λx=>decide (x∈l)==true) (k+1)↔x∈U3 s (lv s) ((lv s).filter λx=>decide (x∈l)==true) k:=λx=>⟨λhx=>by
     rw[a8T,a9v] at hx
     rcases hx.2 with q | ⟨a,q1,q2⟩
     ·exact q
     ·exact hc a q1 x q2 hx.1,hinc k x⟩
    intro a ha b hb hbl
    exact (this b).2 (hc a ((this a).1 ha) b hb hbl)
   ·right
    have hk:=ih.resolve_left hc
    obtain⟨b,hb1,hb2,hb3⟩:∃b,b∈lv s∧b∈U3 s (lv s) ((lv s).filter λx=>decide (x∈l)==true) (k+1)∧b∉U3 s (lv s) ((lv s).filter λx=>decide (x∈l)==true) k:=by
     refine Classical.byContradiction λq=>hc λa ha b hb hbl=>Classical.byContradiction λq2=>q ⟨b,hbl,a9v.2 ⟨hbl,.inr ⟨a,ha,hb⟩⟩,q2⟩
    obtain⟨p,hp⟩:=hfil k
    obtain⟨p',hp'⟩:=hfil (k+1)
    have hi:=hinc k
    rw[hp] at hi hb3 hk
    rw[hp'] at hi hb2 ⊢
    have:=filter_lt (p:=p) (q:=p') (l:=lv s) (λx hx h=>(List.mem_filter.1 (hi x (List.mem_filter.2 ⟨hx,h⟩))).2) b hb1 (List.mem_filter.1 hb2).2 (by
     cases h:p b
     ·rfl
     ·exact absurd (List.mem_filter.2 ⟨hb1,h⟩) hb3)
    omega
 have hcl:Cl s (U3 s (lv s) ((lv s).filter λx=>decide (x∈l)==true) (lv s).length):=by
  rcases key (lv s).length with q | q
  ·exact q
  ·obtain⟨p,hp⟩:=hfil (lv s).length
   rw[hp] at q ⊢
   have:(lv s).filter p=lv s:=List.filter_eq_self.2 λx hx=>by
    cases h:p x
    ·have:=filter_lt (p:=p) (q:=λ_=>true) (l:=lv s) (λ_ _ _=>rfl) x hx rfl h
     rw[List.filter_eq_self.2 (λ_ _=>rfl)] at this
     omega
    ·rfl
   rw[this]
   exact λ_ _ _ _ h=>h
 have hbase:∀k x,x∈l→x∈lv s→x∈U3 s (lv s) ((lv s).filter λx=>decide (x∈l)==true) k:=by
  intro k
  induction k with
  | zero=>intro x h1 h2;exact List.mem_filter.2 ⟨h2,by simpa using h1⟩
  | succ k ih=>intro x h1 h2;exact hinc k x (ih x h1 h2)
 have hiff:∀x,x∈U3 s (lv s) ((lv s).filter λx=>decide (x∈l)==true) (lv s).length↔Rch s l x:=λx=>⟨hsub _ x,λq=>Rch.least hcl (hbase _) q⟩
 obtain⟨p,hp⟩:=hfil (lv s).length
 rw[hp]
 unfold rcd
 refine List.filter_congr λx hx=>?_
 have:=hiff x
 rw[hp,List.mem_filter] at this
 rw[Bool.eq_iff_iff,decide_eq_true_iff,←this]
 exact⟨λh=>⟨hx,h⟩,λh=>h.2⟩
open Classical in
theorem b4J {l:List Int} (hlen:l.length≤1000000):a4J (sO s) l=some (rcd s l):=by
 unfold a4J
 have h24:=D2 hR
 rw[a1t hR,d0Y,b72 _ _ _ (by omega) hlen (b9R hR),d0Y]
 simp only[jn]
 have hg:∀k,(U3 s (lv s) ((lv s).filter λx=>decide (x∈l)==true) k).length≤24∧∀x∈U3 s (lv s) ((lv s).filter λx=>decide (x∈l)==true) k,x∈lv s:=by
  intro k
  cases k with
  | zero=>exact⟨Nat.le_trans (List.length_filter_le ..) h24,λx hx=>(List.mem_filter.1 (show x∈(lv s).filter λx=>decide (x∈l)==true from hx)).1⟩
  | succ k=>exact⟨Nat.le_trans (List.length_filter_le ..) h24,λx hx=>(List.mem_filter.1 (show x∈(lv s).filter _ from hx)).1⟩
 refine a3f (p:=λk=>(U3 s (lv s) ((lv s).filter λx=>decide (x∈l)==true) k,(k:Int))) rfl (lv s).length (λ_=>True) (by omega) trivial (λk hk _=>.inl ⟨?_,trivial⟩) (λ_=>⟨_,by simp only[Int.lt_irrefl,decide_false,Bool.false_eq_true,if_false];rfl,by rw[c2t l]⟩)
 obtain⟨g1,g2⟩:=hg k
 simp only[Int.ofNat_lt,hk,decide_true,if_true]
 rw[T5 (by omega) (by omega),d0Y]
 generalize hS:U3 s (lv s) ((lv s).filter λx=>decide (x∈l)==true) k=S at g1 g2
 have hSle:∀x∈S,x≤9223372036854775807:=λx hx=>by have:=a4e hR (g2 x hx);omega
 have hflat:∀T:List Int,T.length≤24→(∀x∈T,x≤9223372036854775807)→(T.flatMap (outs s)).length≤96:=λT h1 h2=>by
  rw[List.length_flatMap]
  have:=b9k (λx=>(outs s x).length) 4 T λx hx=>a4E hR x (h2 x hx)
  omega
 rw[D0 S (λacc x=>acc++outs s x) id (λj acc=>acc.length≤S.length+4*j) (by omega) (by simp) (λj hj acc hb=>?_) (λb _=>?_)]
 ·simp only[d0Y,id]
  rw[a1o,b72 _ _ _ (by omega) (by
   have:=hflat S g1 hSle
   simp only[List.length_append]
   omega) (b9R hR),d0Y,c8,a8T,hS]
  unfold grow
  congr 3
  refine List.filter_congr λx _=>?_
  rw[Bool.eq_iff_iff]
  simp
 ·have ho:=a4E hR _ (hSle _ (List.getElem_mem hj))
  simp only[Int.ofNat_lt,hj,decide_true,if_true,l5 hj,d0Y,b7p hR (hSle _ (List.getElem_mem hj))]
  rw[u7 (by omega) (by omega),d0Y,c8]
  exact⟨rfl,by simp;omega⟩
 ·simp only[Int.lt_irrefl,decide_false,Bool.false_eq_true,if_false]
  rfl
end
end Go.Sh
namespace Go.Sh
abbrev Tb:=List hash_Place
abbrev L6(p:hash_Place):c7:=⟨p.State,p.Key,p.Val⟩
def pt(t:Tb)(j:Nat):hash_Place:=t.getD j ⟨0,0,0⟩
theorem b1r{t:Tb}{j:Nat}(h:j<t.length):pt t j=t[j]:=by unfold pt;rw[List.getD_eq_getElem?_getD,List.getElem?_eq_getElem h];rfl
theorem b2R{t:Tb}{j:Nat}(h:j<t.length):ix t (j:Int)=some (pt t j):=by rw[l5 h,b1r h]
theorem b28{t:Tb}{i:Nat}(h:i<t.length)(p:hash_Place)(j:Nat):pt (t.set i p) j=if j=i then p else pt t j:=by
 unfold pt
 rw[List.getD_eq_getElem?_getD,List.getD_eq_getElem?_getD,List.getElem?_set]
 by_cases e:i=j
 ·subst e;simp[h]
 ·rw[if_neg e,if_neg (Ne.symm e)]
def hm(n:Nat)(k:Int):Nat:=(s7 ((s7 (5*k))+1) % (n:Int)).toNat
theorem c2w{n:Nat}(h:1≤n)(k:Int):hm n k<n:=by
 unfold hm
 have h1:=Int.emod_nonneg (s7 ((s7 (5*k))+1)) (show (n:Int)≠0 by omega)
 have h2:=Int.emod_lt_of_pos (s7 ((s7 (5*k))+1)) (show (0:Int)<n by omega)
 omega
theorem b5N{n:Nat}(h:1≤n)(h2:n≤1000)(k:Int):W6 n k=some (hm n k:Int):=by
 unfold W6 hm
 rw[if_neg (by simp;omega)]
 generalize s7 ((s7 (5*k))+1)=a
 have hp:=Int.emod_nonneg a (show (n:Int)≠0 by omega)
 have hl:=Int.emod_lt_of_pos a (show (0:Int)<n by omega)
 unfold rem
 rw[if_neg (by omega),d0Y,Int.toNat_of_nonneg hp]
 rw[Int.tmod_eq_emod]
 split
 ·rw[show a % (n:Int)-((0:Nat):Int)=a % n by simp,if_neg (by simp;omega)]
 ·have:((n:Int).natAbs:Int)=n:=by simp
  rw[this]
  rw[if_pos (by simp;omega),G7 (by omega) (by omega)]
  congr 1
  omega
def pos(n:Nat)(k:Int)(d:Nat):Nat:=(hm n k+d) % n
theorem a6V{n:Nat}(h:1≤n)(k:Int)(d:Nat):pos n k d<n:=Nat.mod_lt _ h
theorem c58{n:Nat}(h:1≤n)(h8:n≤8):n=1∨n=2∨n=3∨n=4∨n=5∨n=6∨n=7∨n=8:=by omega
theorem c2K{n m i:Nat}(h:1≤n)(h8:n≤8)(hm:m<n)(hi:i<n):∃d,d<n∧(m+d) % n=i:=by
 refine⟨(i+n-m) % n,Nat.mod_lt _ h,?_⟩
 rcases c58 h h8 with rfl | rfl | rfl | rfl | rfl | rfl | rfl | rfl <;> omega
theorem c4J{n m d d':Nat}(h:1≤n)(h8:n≤8)(hd:d<n)(hd':d'<n)(e:(m+d) % n=(m+d') % n):d=d':=by
 rcases c58 h h8 with rfl | rfl | rfl | rfl | rfl | rfl | rfl | rfl <;> omega
theorem b27{n:Nat}(h:1≤n)(h8:n≤8)(k:Int){i:Nat}(hi:i<n):∃d,d<n∧pos n k d=i:=c2K h h8 (c2w h k) hi
theorem b5Y{n:Nat}(h:1≤n)(h8:n≤8){k:Int}{d d':Nat}(hd:d<n)(hd':d'<n)(e:pos n k d=pos n k d'):d=d':=c4J h h8 hd hd' e
structure HR (t:Tb):Prop where
 l1:1≤t.length
 l8:t.length≤8
 st:∀i,i<t.length→((pt t i).State=0∨(pt t i).State=1∨(pt t i).State=2)∧((pt t i).State≠1→(pt t i).Key=0∧(pt t i).Val=0)
 uq:∀i j,i<t.length→j<t.length→(pt t i).State=1→(pt t j).State=1→(pt t i).Key=(pt t j).Key→i=j
 rd:∀i,i<t.length→(pt t i).State=1→∀d,d<t.length→(∀d',d'≤d→pos t.length (pt t i).Key d'≠i)→(pt t (pos t.length (pt t i).Key d)).State≠0
def Fk(t:Tb)(k:Int)(i:Nat):Prop:=i<t.length∧(pt t i).State=1∧(pt t i).Key=k
instance(t:Tb)(k:Int)(i:Nat):Decidable (Fk t k i):=by unfold Fk;infer_instance
theorem step_eq{n:Nat}(h:1≤n)(h2:n≤1000)(k:Int){d:Nat}(hd:d<n):rem (s7 ((hm n k:Int)+d)) n=some ((pos n k d:Nat):Int):=by
 have:=c2w h k
 rw[G7 (by omega) (by omega),b0g (by omega) (by omega)]
 unfold pos
 simp[Int.natCast_emod]
theorem a7A{t:Tb}(h1:1≤t.length)(h8:t.length≤8)(k:Int) :
  (∃d,d<t.length∧(∀j,j<d→(pt t (pos t.length k j)).State≠0∧¬Fk t k (pos t.length k j))∧Fk t k (pos t.length k d)∧J2 t k=some ((pos t.length k d:Nat):Int)) ∨
  (∃d,d≤t.length∧(∀j,j<d→(pt t (pos t.length k j)).State≠0∧¬Fk t k (pos t.length k j))∧(d=t.length∨(pt t (pos t.length k d)).State=0)∧J2 t k=some (-1)):=by
 unfold J2
 simp only[jn,a2R,d0Y]
 generalize hq:(lp (S:=Int) (E:=Int ⊕ Unit) _ 0)=q
 have body:∀d:Nat,d<t.length→(if (decide ((d:Int)<(t.length:Int))) then
    (W6 (t.length:Int) k).bind λv14=>
    (rem (s7 (v14+d)) (t.length:Int)).bind λv15=>
    (ix t v15).bind λv16=>
    if (v16.State==0) then
     some (.inr (.inr ()))
    else
    if ((v16.State==1)&&(v16.Key==k)) then
     some (.inr (.inl v15))
    else
    some (.inl (s7 ((d:Int)+1)))
   else
   some (.inr (.inr ())):Option (Int ⊕ (Int ⊕ Unit)))=if (pt t (pos t.length k d)).State=0 then some (.inr (.inr ())) else if Fk t k (pos t.length k d) then some (.inr (.inl ((pos t.length k d:Nat):Int))) else some (.inl ((d+1:Nat):Int)):=λd hd=>by
  have hp:=a6V h1 k d
  rw[if_pos (by simpa using hd),b5N h1 (by omega),d0Y,step_eq h1 (by omega) k hd,d0Y,b2R hp,d0Y,c8 (by omega)]
  by_cases a:(pt t (pos t.length k d)).State=0
  ·rw[if_pos (by simpa using a),if_pos a]
  ·rw[if_neg (by simpa using a),if_neg a]
   by_cases b:Fk t k (pos t.length k d)
   ·rw[if_pos (by simp[b.2.1,b.2.2]),if_pos b]
   ·rw[if_neg (by simp;exact λh1 h2=>b ⟨hp,h1,h2⟩),if_neg b]
 have key:=b7g (f:=λ(s12:Int)=>if (decide (s12<(t.length:Int))) then
    (W6 (t.length:Int) k).bind λv14=>
    (rem (s7 (v14+s12)) (t.length:Int)).bind λv15=>
    (ix t v15).bind λv16=>
    if (v16.State==0) then
     some (.inr (.inr ()))
    else
    if ((v16.State==1)&&(v16.Key==k)) then
     some (.inr (.inl v15))
    else
    some (.inl (s7 (s12+1)))
   else
   some (.inr (.inr ()))) t.length (λd=>∀j,j<d→(pt t (pos t.length k j)).State≠0∧¬Fk t k (pos t.length k j))
   (λ(e:Int ⊕ Unit)=>(∃d,d<t.length∧(∀j,j<d→(pt t (pos t.length k j)).State≠0∧¬Fk t k (pos t.length k j))∧Fk t k (pos t.length k d)∧e = .inl ((pos t.length k d:Nat):Int)) ∨
    (∃d,d≤t.length∧(∀j,j<d→(pt t (pos t.length k j)).State≠0∧¬Fk t k (pos t.length k j))∧(d=t.length∨(pt t (pos t.length k d)).State=0)∧e = .inr ())) (by omega) (λj hj=>by omega)
   (λd hd hP=>by
    rw[body d hd]
    by_cases a:(pt t (pos t.length k d)).State=0
    ·rw[if_pos a]
     exact .inr ⟨_,rfl,.inr ⟨d,by omega,hP,.inr a,rfl⟩⟩
    ·rw[if_neg a]
     by_cases b:Fk t k (pos t.length k d)
     ·rw[if_pos b]
      exact .inr ⟨_,rfl,.inl ⟨d,hd,hP,b,rfl⟩⟩
     ·rw[if_neg b]
      refine .inl ⟨rfl,λj hj=>?_⟩
      rcases Nat.lt_or_ge j d with q | q
      ·exact hP j q
      ·have:j=d:=by omega
       subst this;exact⟨a,b⟩)
   (λhP=>⟨.inr (),by simp,.inr ⟨t.length,Nat.le_refl _,hP,.inl rfl,rfl⟩⟩)
 obtain⟨e,he,hQ⟩:=key
 rw[he] at hq
 subst hq
 rcases hQ with ⟨d,a1,a2,a3,rfl⟩ | ⟨d,a1,a2,a3,rfl⟩
 ·exact .inl ⟨d,a1,a2,a3,rfl⟩
 ·exact .inr ⟨d,a1,a2,a3,rfl⟩
theorem a5h{t:Tb}(hR:HR t){k:Int}{i:Nat}(hi:Fk t k i):J2 t k=some (i:Int):=by
 obtain⟨di,hdi,hpi⟩:=b27 hR.l1 hR.l8 k hi.1
 have road:∀d,d<di→(pt t (pos t.length k d)).State≠0:=λd hd=>by
  have:=hR.rd i hi.1 hi.2.1 d (by omega) (λd' hd' e=>by
   rw[hi.2.2] at e
   have:=b5Y hR.l1 hR.l8 (by omega) hdi (e.trans hpi.symm)
   omega)
  rwa [hi.2.2] at this
 rcases a7A hR.l1 hR.l8 k with ⟨d,a1,a2,a3,a4⟩ | ⟨d,a1,a2,a3,a4⟩
 ·rw[a4,hR.uq _ i (a6V hR.l1 k d) hi.1 a3.2.1 hi.2.1 (by rw[a3.2.2,hi.2.2])]
 ·exfalso
  rcases Nat.lt_or_ge di d with q | q
  ·exact (a2 di q).2 (by rw[hpi];exact hi)
  ·rcases a3 with rfl | a3
   ·omega
   ·rcases Nat.lt_or_ge d di with q' | q'
    ·exact road d q' a3
    ·have:d=di:=by omega
     subst this
     rw[hpi,hi.2.1] at a3
     cases a3
theorem a9n{t:Tb}(h1:1≤t.length)(h8:t.length≤8){k:Int}(hi:∀i,¬Fk t k i):J2 t k=some (-1):=by
 rcases a7A h1 h8 k with ⟨d,a1,a2,a3,a4⟩ | ⟨d,a1,a2,a3,a4⟩
 ·exact absurd a3 (hi _)
 ·exact a4
theorem b4G(t:Tb)(k:Int):(∃i,Fk t k i)∨∀i,¬Fk t k i:=by
 by_cases h:∃i,Fk t k i
 ·exact .inl h
 ·exact .inr λi hi=>h ⟨i,hi⟩
theorem b3L{t:Tb}{i:Nat}(h8:t.length≤1000)(hi:i<t.length)(p:hash_Place):a0v t (i:Int) p=some (t.set i p):=by
 unfold a0v C1
 rw[T5 (by omega) (by omega),d0Y,l5 hi,d0Y,Int.toNat_natCast]
inductive b5j (t:Tb) (k v:Int):Tb × Int→Prop
 | old (i:Nat) (hi:Fk t k i):b5j t k v (t.set i ⟨1,k,v⟩,0)
 | new (d:Nat) (hn:∀i,¬Fk t k i) (hd:d<t.length) (hb:∀j,j<d→(pt t (pos t.length k j)).State=1) (hf:(pt t (pos t.length k d)).State≠1):b5j t k v (t.set (pos t.length k d) ⟨1,k,v⟩,0)
 | full (hn:∀i,¬Fk t k i) (ha:∀i,i<t.length→(pt t i).State=1):b5j t k v (t,8)
theorem c7j{t:Tb}(hR:HR t)(k v:Int):∃r,a6K t k v=some r∧b5j t k v r:=by
 have h1:=hR.l1
 have h8:=hR.l8
 unfold a6K
 rcases b4G t k with ⟨i,hi⟩ | hn
 ·rw[a5h hR hi,d0Y,if_pos (by simp),b3L (by omega) hi.1]
  exact⟨_,rfl,.old i hi⟩
 ·rw[a9n h1 h8 hn,d0Y,if_neg (by decide)]
  simp only[jn,a2R,d0Y]
  have key:=b7g (f:=λ(s15:Int)=>
   if (decide (s15<(t.length:Int))) then
    (W6 (t.length:Int) k).bind λv17=>
    (rem (s7 (v17+s15)) (t.length:Int)).bind λv18=>
    (ix t v18).bind λv19=>
    if (v19.State != 1) then
     (a0v t v18 (⟨1,k,v⟩:hash_Place)).bind λv20=>
     some (Sum.inr (.inl (v20,(0:Int))))
    else
    some (.inl (s7 (s15+1)))
   else
   some (.inr (.inr ()))) t.length (λd=>∀j,j<d→(pt t (pos t.length k j)).State=1)
   (λ(e:(Tb × Int) ⊕ Unit)=>(∃r,e = .inl r∧b5j t k v r)∨(e = .inr ()∧b5j t k v (t,8))) (by omega) (λj hj=>by omega)
   (λd hd hP=>by
    have hp:=a6V h1 k d
    rw[if_pos (by simpa using hd),b5N h1 (by omega),d0Y,step_eq h1 (by omega) k hd,d0Y,b2R hp,d0Y]
    by_cases a:(pt t (pos t.length k d)).State=1
    ·rw[if_neg (by simpa using a),c8 (by omega)]
     refine .inl ⟨rfl,λj hj=>?_⟩
     rcases Nat.lt_or_ge j d with q | q
     ·exact hP j q
     ·have:j=d:=by omega
      subst this;exact a
    ·rw[if_pos (by simpa using a),b3L (by omega) hp,d0Y]
     exact .inr ⟨_,rfl,.inl ⟨_,rfl,.new d hn hd hP a⟩⟩)
   (λhP=>⟨.inr (),by simp,.inr ⟨rfl,.full hn λi hi=>by
    obtain⟨d,hd,rfl⟩:=b27 h1 h8 k hi
    exact hP d hd⟩⟩)
  obtain⟨e,he,hQ⟩:=key
  rw[he,d0Y]
  rcases hQ with ⟨r,rfl,hr⟩ | ⟨rfl,hr⟩
  ·exact⟨r,rfl,hr⟩
  ·exact⟨_,rfl,hr⟩
theorem c6H{t:Tb}(hR:HR t){k:Int}{i:Nat}(hi:Fk t k i):U5 t k=some ((pt t i).Val,0):=by
 unfold U5
 rw[a5h hR hi,d0Y,if_neg (by simp),b2R hi.1,d0Y]
theorem b15{t:Tb}(hR:HR t){k:Int}{i:Nat}(hi:Fk t k i):R6 t k=some (t.set i ⟨2,0,0⟩,(pt t i).Val,0):=by
 have:=hR.l8
 unfold R6
 rw[a5h hR hi,d0Y,if_neg (by simp),b3L (by omega) hi.1,d0Y,b2R hi.1,d0Y]
theorem b14{t:Tb}(hR:HR t){k:Int}(hi:∀i,¬Fk t k i):R6 t k=some (t,0,9):=by
 unfold R6
 rw[a9n hR.l1 hR.l8 hi,d0Y,if_pos (by decide)]
theorem HR.set{t:Tb}(hR:HR t){i:Nat}(hi:i<t.length){p:hash_Place}(h0:p.State=1∨p=⟨2,0,0⟩)
  (hu:p.State=1→∀j,j≠i→¬Fk t p.Key j)(hr:p.State=1→∀d,d<t.length→(∀d',d'≤d→pos t.length p.Key d'≠i)→(pt t (pos t.length p.Key d)).State≠0):HR (t.set i p):=by
 have hnz:p.State≠0:=by
  rcases h0 with h | rfl
  ·omega
  ·simp
 refine⟨by simpa using hR.l1,by simpa using hR.l8,λj hj=>?_,λj j' hj hj' s1 s2 hk=>?_,λj hj s1 d hd hne=>?_⟩ <;> simp only[List.length_set] at *
 ·rw[b28 hi]
  split
  ·rcases h0 with h | rfl
   ·exact⟨.inr (.inl h),λq=>absurd h q⟩
   ·exact⟨.inr (.inr rfl),λ_=>⟨rfl,rfl⟩⟩
  ·exact hR.st j hj
 ·rw[b28 hi] at s1 s2 hk
  rw[b28 hi] at hk
  by_cases e1:j=i <;> by_cases e2:j'=i
  ·rw[e1,e2]
  ·rw[if_pos e1] at s1 hk
   rw[if_neg e2] at s2 hk
   exact absurd ⟨hj',s2,hk.symm⟩ (hu s1 j' e2)
  ·rw[if_neg e1] at s1 hk
   rw[if_pos e2] at s2 hk
   exact absurd ⟨hj,s1,hk⟩ (hu s2 j e1)
  ·rw[if_neg e1] at s1 hk
   rw[if_neg e2] at s2 hk
   exact hR.uq j j' hj hj' s1 s2 hk
 ·simp only[b28 hi] at s1 hne ⊢
  by_cases e1:j=i
  ·simp only[if_pos e1] at s1 hne ⊢
   split
   ·exact hnz
   ·exact hr s1 d hd (by rw[←e1];exact hne)
  ·simp only[if_neg e1] at s1 hne ⊢
   split
   ·exact hnz
   ·exact hR.rd j hj s1 d hd hne
theorem b8W{t:Tb}(hR:HR t){k v:Int}{r:Tb × Int}(h:b5j t k v r):HR r.1:=by
 cases h with
 | old i hi=>
  refine hR.set hi.1 (.inl rfl) (λ_ j hj q=>hj (hR.uq j i q.1 hi.1 q.2.1 hi.2.1 (q.2.2.trans hi.2.2.symm))) λ_ d hd hne=>?_
  have:=hR.rd i hi.1 hi.2.1 d hd (by rw[hi.2.2];exact hne)
  rwa [hi.2.2] at this
 | new d hn hd hb hf=>
  refine hR.set (a6V hR.l1 k d) (.inl rfl) (λ_ j _=>hn j) λ_ d' hd' hne=>?_
  rcases Nat.lt_or_ge d' d with q | q
  ·have:=hb d' q
   simp only
   omega
  ·exact absurd rfl (hne d q)
 | full hn ha=>exact hR
theorem b1l{t:Tb}(hR:HR t){i:Nat}(hi:i<t.length):HR (t.set i ⟨2,0,0⟩):=hR.set hi (.inr rfl) (λq=>by cases q) λq=>by cases q
end Go.Sh
namespace Go.Sh
theorem ixm{t:Tb}{j:Nat}(h:j<t.length):ix (t.map L6) (j:Int)=some (L6 (pt t j)):=by rw[a0Q,b2R h];rfl
theorem b7S{t:Tb}(h8:t.length≤1000){k:Int}{i:Nat}(hi:Fk t k i)(hf:∀j,j<i→¬Fk t k j):a0Z (t.map L6) k=some (i:Int):=by
 unfold a0Z
 simp only[jn]
 refine E0 t.length (λj=>j≤i) (by omega) (Nat.zero_le _) (λj hj hP=>?_) (λhP=>by have:=hi.1;omega)
 rw[if_pos (by simpa using hj),ixm hj,d0Y]
 by_cases e:j=i
 ·subst e
  exact .inr ⟨.inl (j:Int),by rw[if_pos (by simp[L6,hi.2.1,hi.2.2])],rfl⟩
 ·have:=hf j (by omega)
  refine .inl ⟨by rw[if_neg (by simp[L6];exact λh1 h2=>this ⟨hj,h1,h2⟩),c8 (by omega)],by omega⟩
theorem c3f{t:Tb}(h8:t.length≤1000){k:Int}(hf:∀j,¬Fk t k j):a0Z (t.map L6) k=some (-1):=by
 unfold a0Z
 simp only[jn]
 refine E0 t.length (λj=>True) (by omega) trivial (λj hj hP=>?_) (λhP=>⟨.inr (),by simp,rfl⟩)
 rw[if_pos (by simpa using hj),ixm hj,d0Y]
 refine .inl ⟨by rw[if_neg (by simp[L6];exact λh1 h2=>hf j ⟨hj,h1,h2⟩),c8 (by omega)],trivial⟩
theorem b6X{t:Tb}{k:Int}(h:∃i,Fk t k i):∃i,Fk t k i∧∀j,j<i→¬Fk t k j:=by
 obtain⟨i,h1,h2⟩:=U2 h
 exact⟨i,h1,λj hj q=>by have:=h2 j q;omega⟩
theorem c1m{t:Tb}{i:Nat}(h8:t.length≤1000)(hi:i<t.length)(p:hash_Place):a64 (t.map L6) (i:Int) (L6 p)=some ((t.set i p).map L6):=by
 unfold a64
 rw[T5 (by omega) (by simp;omega),d0Y,ixm hi,d0Y,Int.toNat_natCast,List.map_set]
theorem c3g:b3e=W6:=rfl
theorem c8R{n:Nat}(h1:1≤n)(h8:n≤8)(k:Int)(d:Nat):rem (s7 (((pos n k d:Nat):Int)+1)) n=some ((pos n k (d+1):Nat):Int):=by
 have:=a6V h1 k d
 rw[G7 (by omega) (by omega),b0g (by omega) (by omega)]
 unfold pos
 congr 1
 have:((hm n k+d) % n+1) % n=(hm n k+(d+1)) % n:=by rw[Nat.mod_add_mod];rfl
 rw[←this]
 simp[Int.natCast_emod]
theorem c29{n:Nat}(h1:1≤n)(k:Int):pos n k 0=hm n k:=by
 unfold pos
 rw[Nat.add_zero,Nat.mod_eq_of_lt (c2w h1 k)]
theorem c8T{t:Tb}(h1:1≤t.length)(h8:t.length≤8)(k:Int){i di:Nat}(hi:i<t.length)(hdi:di<t.length)(hp:pos t.length k di=i) :
  ∃e,lp (S:=Int) (E:=Bool ⊕ Unit) (λ(s41:Int)=>
      if (s41 != (i:Int)) then
       (ix (t.map L6) s41).bind λv43=>
       if (v43.State==0) then
        some (.inr (.inl false))
       else
       (rem (s7 (s41+1)) (t.length:Int)).bind λv44=>
       some (.inl v44)
      else
      some (.inr (.inr ()))) (hm t.length k:Int)=some e∧((e = .inr ()∧∀d,d<di→(pt t (pos t.length k d)).State≠0)∨(e = .inl false∧∃d,d<di∧(pt t (pos t.length k d)).State=0)):=by
 rw[←c29 h1 k]
 refine b9O (λd=>((pos t.length k d:Nat):Int)) di (λd=>∀d',d'<d→(pt t (pos t.length k d')).State≠0) _ (by omega) (λd' hd'=>by omega) (λd hd hP=>?_) (λhP=>?_)
 ·have hne:pos t.length k d≠i:=λe=>by
   have:=b5Y h1 h8 (by omega) hdi (e.trans hp.symm)
   omega
  have hlt:=a6V h1 k d
  rw[if_pos (by simp;omega),ixm hlt,d0Y]
  by_cases a:(pt t (pos t.length k d)).State=0
  ·rw[if_pos (by simpa[L6] using a)]
   exact .inr ⟨_,rfl,.inr ⟨rfl,d,hd,a⟩⟩
  ·rw[if_neg (by simpa[L6] using a),c8R h1 h8,d0Y]
   refine .inl ⟨rfl,λd' hd'=>?_⟩
   rcases Nat.lt_or_ge d' d with q | q
   ·exact hP d' q
   ·have:d'=d:=by omega
    subst this;exact a
 ·rw[if_neg (by simp;omega)]
  exact⟨_,rfl,.inl ⟨rfl,hP⟩⟩
def Ok(t:Tb)(i:Nat):Prop:=((pt t i).State=0∨(pt t i).State=1∨(pt t i).State=2)∧((pt t i).State≠1→(pt t i).Key=0∧(pt t i).Val=0)∧((pt t i).State=1→(∀j,j<i→¬Fk t (pt t i).Key j)∧∀d,d<t.length→(∀d',d'≤d→pos t.length (pt t i).Key d'≠i)→(pt t (pos t.length (pt t i).Key d)).State≠0)
theorem c5P{t:Tb}(h1:1≤t.length)(h8:t.length≤8):HR t↔∀i,i<t.length→Ok t i:=by
 constructor
 ·intro hR i hi
  exact⟨(hR.st i hi).1,(hR.st i hi).2,λs=>⟨λj hj q=>by have:=hR.uq j i q.1 hi q.2.1 s q.2.2;omega,hR.rd i hi s⟩⟩
 ·intro hO
  refine⟨h1,h8,λi hi=>⟨(hO i hi).1,(hO i hi).2.1⟩,λi j hi hj s1 s2 hk=>?_,λi hi s=>((hO i hi).2.2 s).2⟩
  rcases Nat.lt_trichotomy i j with q | q | q
  ·exact absurd ⟨hi,s1,hk⟩ (((hO j hj).2.2 s2).1 i q)
  ·exact q
  ·exact absurd ⟨hj,s2,hk.symm⟩ (((hO i hi).2.2 s1).1 j q)
theorem c1l(t:Tb)(h:t.length≤1000):∃b,a7K (t.map L6)=some b∧(b=true↔HR t):=by
 unfold a7K
 rw[List.length_map]
 by_cases hl:1≤t.length∧t.length≤8
 ·obtain⟨h1,h8⟩:=hl
  rw[if_neg (by simp;omega)]
  simp only[jn]
  suffices hs:∀(b:Bool),(b=true↔HR t)→_=some b by
   by_cases q:HR t
   ·exact⟨true,hs true (by simp[q]),by simp[q]⟩
   ·exact⟨false,hs false (by simp[q]),by simp[q]⟩
  intro b hb
  refine E0 t.length (λi=>∀j,j<i→Ok t j) (by omega) (λj hj=>by omega) (λi hi hP=>?_) (λhP=>⟨.inr (),by simp,by
   simp only
   rw[hb.2 ((c5P h1 h8).2 hP)]⟩)
  have good:Ok t i→∀j,j<i+1→Ok t j:=λo j hj=>by
   rcases Nat.lt_or_ge j i with q | q
   ·exact hP j q
   ·have:j=i:=by omega
    subst this;exact o
  have bad:¬Ok t i→some false=some b:=λo=>by
   have:b=false:=by
    cases hbb:b with
    | false=>rfl
    | true=>exact absurd ((c5P h1 h8).1 (hb.1 hbb) i hi) o
   rw[this]
  rw[if_pos (by simpa using hi)]
  rw[ixm hi,d0Y,c8 (by omega)]
  dsimp only[L6]
  by_cases a:((pt t i).State=0∨(pt t i).State=1∨(pt t i).State=2)∧((pt t i).State≠1→(pt t i).Key=0∧(pt t i).Val=0)
  ·rw[if_neg (by
    have a1:=a.1
    have a2:=a.2
    simp only[Bool.or_eq_true,Bool.and_eq_true,decide_eq_true_eq,bne_iff_ne,ne_eq,not_or,not_and]
    refine⟨⟨by omega,by omega⟩,λq=>?_⟩
    have:=a2 q
    omega)]
   by_cases s:(pt t i).State=1
   ·rw[if_neg (by simpa using s)]
    obtain⟨f,hf1,hf2⟩:=b6X (t:=t) (k:=(pt t i).Key) ⟨i,hi,s,rfl⟩
    rw[b7S h hf1 hf2,d0Y]
    by_cases e:f=i
    ·rw[e] at hf2
     rw[if_neg (by simp[e]),c3g,b5N h1 (by omega),d0Y]
     obtain⟨di,hdi,hpi⟩:=b27 h1 h8 (pt t i).Key hi
     obtain⟨e,he,hQ⟩:=c8T h1 h8 (pt t i).Key hi hdi hpi
     rw[he,d0Y]
     rcases hQ with ⟨rfl,q⟩ | ⟨rfl,d,hd,q⟩
     ·refine .inl ⟨rfl,good ⟨a.1,a.2,λ_=>⟨hf2,λd hd hne=>?_⟩⟩⟩
      rcases Nat.lt_or_ge d di with q' | q'
      ·exact q d q'
      ·exact absurd hpi (hne di q')
     ·refine .inr ⟨_,rfl,bad λo=>(o.2.2 s).2 d (by omega) (λd' hd' e=>?_) q⟩
      have:=b5Y h1 h8 (by omega) hdi (e.trans hpi.symm)
      omega
    ·rw[if_pos (by simp;omega)]
     refine .inr ⟨_,rfl,bad λo=>?_⟩
     rcases Nat.lt_or_ge f i with q | q
     ·exact (o.2.2 s).1 f q hf1
     ·exact hf2 i (by omega) ⟨hi,s,rfl⟩
   ·rw[if_pos (by simpa using s)]
    exact .inl ⟨rfl,good ⟨a.1,a.2,λq=>absurd q s⟩⟩
  ·rw[if_pos (by
    simp only[Bool.or_eq_true,Bool.and_eq_true,decide_eq_true_eq,bne_iff_ne,ne_eq]
    omega)]
   exact .inr ⟨_,rfl,bad λo=>a ⟨o.1,o.2.1⟩⟩
 ·rw[if_pos (by simp;omega)]
  exact⟨false,rfl,⟨λq=>(by cases q),λhR=>absurd ⟨hR.l1,hR.l8⟩ hl⟩⟩
end Go.Sh
namespace Go.Sh
def Has(t:Tb)(k v:Int):Prop:=∃i,Fk t k i∧(pt t i).Val=v
theorem c6N(t:Tb)(k:Int):(∃v,Has t k v)∨∀v,¬Has t k v:=by
 by_cases h:∃v,Has t k v
 ·exact .inl h
 ·exact .inr λv hv=>h ⟨v,hv⟩
theorem Has.fn{t:Tb}(hR:HR t){k v v':Int}(h:Has t k v)(h':Has t k v'):v=v':=by
 obtain⟨i,a,rfl⟩:=h
 obtain⟨j,b,rfl⟩:=h'
 rw[hR.uq i j a.1 b.1 a.2.1 b.2.1 (a.2.2.trans b.2.2.symm)]
theorem c4m{t:Tb}(hR:HR t){k v:Int}(h:Has t k v):U5 t k=some (v,0):=by
 obtain⟨i,a,rfl⟩:=h
 exact c6H hR a
theorem b5J{t:Tb}{i:Nat}(hi:i<t.length){k v:Int}(p:hash_Place)(h:∀j,j≠i→Fk t p.Key j→p.State≠1)(k' v':Int) :
  Has (t.set i p) k' v'↔(p.State=1∧p.Key=k'∧p.Val=v')∨∃j,j≠i∧Fk t k' j∧(pt t j).Val=v':=by
 unfold Has Fk
 simp only[List.length_set,b28 hi]
 constructor
 ·rintro⟨j,⟨h1,h2,h3⟩,h4⟩
  by_cases e:j=i
  ·rw[if_pos e] at h2 h3 h4;exact .inl ⟨h2,h3,h4⟩
  ·rw[if_neg e] at h2 h3 h4;exact .inr ⟨j,e,⟨h1,h2,h3⟩,h4⟩
 ·rintro (⟨h1,h2,h3⟩ | ⟨j,e,⟨h1,h2,h3⟩,h4⟩)
  ·exact⟨i,by simp[hi,h1,h2,h3]⟩
  ·exact⟨j,by simp[e,h1,h2,h3,h4]⟩
theorem c5b{t:Tb}(hR:HR t){k v:Int}{r:Tb × Int}(h:b5j t k v r)(h0:r.2=0)(k' v':Int):Has r.1 k' v'↔(k'=k∧v'=v)∨(k'≠k∧Has t k' v'):=by
 cases h with
 | old i hi=>
  rw[b5J (k:=k) (v:=v) hi.1 _ (λj hj q=>absurd (hR.uq j i q.1 hi.1 q.2.1 hi.2.1 (q.2.2.trans hi.2.2.symm)) hj)]
  constructor
  ·rintro (⟨_,rfl,rfl⟩ | ⟨j,e,h1,h2⟩)
   ·exact .inl ⟨rfl,rfl⟩
   ·refine .inr ⟨λq=>?_,j,h1,h2⟩
    subst q
    exact e (hR.uq j i h1.1 hi.1 h1.2.1 hi.2.1 (h1.2.2.trans hi.2.2.symm))
  ·rintro (⟨rfl,rfl⟩ | ⟨e,j,h1,h2⟩)
   ·exact .inl ⟨rfl,rfl,rfl⟩
   ·refine .inr ⟨j,λq=>?_,h1,h2⟩
    subst q
    exact e (h1.2.2.symm.trans hi.2.2)
 | new d hn hd hb hf=>
  rw[b5J (k:=k) (v:=v) (a6V hR.l1 k d) _ (λj hj q=>absurd q (hn j))]
  constructor
  ·rintro (⟨_,rfl,rfl⟩ | ⟨j,e,h1,h2⟩)
   ·exact .inl ⟨rfl,rfl⟩
   ·refine .inr ⟨λq=>?_,j,h1,h2⟩
    subst q
    exact hn j h1
  ·rintro (⟨rfl,rfl⟩ | ⟨e,j,h1,h2⟩)
   ·exact .inl ⟨rfl,rfl,rfl⟩
   ·refine .inr ⟨j,λq=>?_,h1,h2⟩
    subst q
    exact hf h1.2.1
 | full hn ha=>cases h0
theorem b6O{t:Tb}(hR:HR t){k:Int}{i:Nat}(hi:Fk t k i)(k' v':Int):Has (t.set i ⟨2,0,0⟩) k' v'↔k'≠k∧Has t k' v':=by
 rw[b5J (k:=k) (v:=0) hi.1 _ (λj hj q=>by simp)]
 constructor
 ·rintro (⟨h,_⟩ | ⟨j,e,h1,h2⟩)
  ·cases h
  ·refine⟨λq=>?_,j,h1,h2⟩
   subst q
   exact e (hR.uq j i h1.1 hi.1 h1.2.1 hi.2.1 (h1.2.2.trans hi.2.2.symm))
 ·rintro⟨e,j,h1,h2⟩
  refine .inr ⟨j,λq=>?_,h1,h2⟩
  subst q
  exact e (h1.2.2.symm.trans hi.2.2)
theorem c1o{l:List c7}(h:l.length≤100000):a94 l l=some true:=by
 unfold a94
 rw[if_neg (by simp)]
 simp only[jn]
 refine E0 l.length (λ_=>True) (by omega) trivial (λk hk _=>.inl ⟨?_,trivial⟩) (λ_=>⟨.inr (),by simp,rfl⟩)
 rw[if_pos (by simpa using hk),l5 hk,d0Y,d0Y,if_neg (by simp),c8 (by omega)]
theorem a5t{l:List Int}(h:l.length≤100000):V1 l l=some true:=by
 unfold V1
 rw[if_neg (by simp)]
 simp only[jn]
 refine E0 l.length (λ_=>True) (by omega) trivial (λk hk _=>.inl ⟨?_,trivial⟩) (λ_=>⟨.inr (),by simp,rfl⟩)
 rw[if_pos (by simpa using hk),l5 hk,d0Y,d0Y,if_neg (by simp),c8 (by omega)]
def keys(t:Tb):List Int:=(t.filter (·.State==1)).map (·.Key)
theorem b2G{α β:Type}(p:α→Bool)(f:α→β)(l:List α)(k:Nat)(h:k<l.length):((l.take (k+1)).filter p).map f=((l.take k).filter p).map f++(if p l[k] then [f l[k]] else []):=by
 rw[List.take_succ_eq_append_getElem h,List.filter_append,List.map_append]
 congr 1
 simp only[List.filter_cons,List.filter_nil]
 split <;> rfl
theorem keys_eq{t:Tb}(h:t.length≤1000):a4s t=some (keys t):=by
 unfold a4s keys
 simp only[jn]
 refine M1 t.length (λk l=>l=((t.take k).filter (·.State==1)).map (·.Key)) (by omega) (by simp) ?_ (λl hl=>⟨_,by simp;rfl,by rw[hl,List.take_length]⟩)
 rintro k l hk rfl
 left
 rw[b2G _ _ _ _ hk]
 rw[if_pos (by simpa using hk),l5 hk,d0Y,c8 (by omega)]
 have hle:(List.map (·.Key) (List.filter (·.State==1) (List.take k t))).length≤1000:=by
  rw[List.length_map]
  exact Nat.le_trans (List.length_filter_le ..) (by simp;omega)
 by_cases c:(t[k].State==1)=true
 ·rw[if_pos c,if_pos c,u7 (by omega) (by simp only[List.length_cons,List.length_nil];omega),d0Y]
  exact⟨_,rfl,rfl⟩
 ·rw[if_neg c,if_neg c]
  exact⟨_,rfl,by simp⟩
theorem c3i{t:Tb}(h:t.length≤1000):a93 (t.map L6)=some (keys t):=by
 unfold a93 keys
 simp only[jn]
 refine M1 t.length (λk l=>l=((t.take k).filter (·.State==1)).map (·.Key)) (by omega) (by simp) ?_ (λl hl=>⟨_,by simp;rfl,by rw[hl,List.take_length]⟩)
 rintro k l hk rfl
 left
 rw[b2G _ _ _ _ hk]
 rw[if_pos (by simpa using hk),a0Q,l5 hk,Option.map_some,d0Y,c8 (by omega)]
 have hle:(List.map (·.Key) (List.filter (·.State==1) (List.take k t))).length≤1000:=by
  rw[List.length_map]
  exact Nat.le_trans (List.length_filter_le ..) (by simp;omega)
 by_cases c:(t[k].State==1)=true
 ·rw[if_pos (by simpa[L6] using c),if_pos c,u7 (by omega) (by simp only[List.length_cons,List.length_nil];omega),d0Y]
  exact⟨_,rfl,rfl⟩
 ·rw[if_neg (by simpa[L6] using c),if_neg c]
  exact⟨_,rfl,by simp⟩
theorem b88{t:Tb}(hR:HR t)(k:Int):a0Z (t.map L6) k=J2 t k:=by
 have h8:=hR.l8
 rcases b4G t k with ⟨i,hi⟩ | hn
 ·rw[a5h hR hi]
  obtain⟨f,hf1,hf2⟩:=b6X ⟨i,hi⟩
  rw[b7S (by omega) hf1 hf2,hR.uq f i hf1.1 hi.1 hf1.2.1 hi.2.1 (hf1.2.2.trans hi.2.2.symm)]
 ·rw[a9n hR.l1 hR.l8 hn,c3f (by omega) hn]
theorem c8Q{t:Tb}(hR:HR t)(k:Int):b2f (t.map L6) k=U5 t k:=by
 unfold b2f U5
 rw[b88 hR]
 rcases b4G t k with ⟨i,hi⟩ | hn
 ·rw[a5h hR hi,d0Y,d0Y,if_neg (by simp),if_neg (by simp),ixm hi.1,b2R hi.1];rfl
 ·rw[a9n hR.l1 hR.l8 hn];rfl
theorem c7v{t:Tb}(hR:HR t)(k:Int):a60 (t.map L6) k=(R6 t k).map λr=>(r.1.map L6,r.2):=by
 have h8:=hR.l8
 rcases b4G t k with ⟨i,hi⟩ | hn
 ·rw[b15 hR hi]
  unfold a60
  rw[b88 hR,a5h hR hi,d0Y,if_neg (by simp)]
  have:=c1m (t:=t) (by omega) hi.1 ⟨2,0,0⟩
  dsimp only[L6] at this
  rw[this,d0Y,ixm hi.1]
  rfl
 ·rw[b14 hR hn]
  unfold a60
  rw[b88 hR,a9n hR.l1 hR.l8 hn]
  rfl
theorem c3a{t:Tb}{k v:Int}{r:Tb × Int}(h:b5j t k v r):r.1.length=t.length:=by cases h <;> simp
end Go.Sh
namespace Go.Sh
theorem a4y(t:Tb):(keys t).length=t.countP (·.State==1):=by
 unfold keys
 rw[List.length_map,List.countP_eq_length_filter]
theorem a9I{t:Tb}{i:Nat}(h:i<t.length)(p:hash_Place):(keys (t.set i p)).length+(if (pt t i).State=1 then 1 else 0)=(keys t).length+if p.State=1 then 1 else 0:=by
 rw[a4y,a4y,List.countP_set h,b1r h]
 simp only[beq_iff_eq]
 have:(if t[i].State=1 then 1 else 0)≤t.countP λc=>c.State==1:=by
  split
  ·rename_i e
   exact List.countP_pos_iff.2 ⟨t[i],List.getElem_mem h,by simpa using e⟩
  ·exact Nat.zero_le _
 omega
theorem c0V{t:Tb}(h:∀i,i<t.length→(pt t i).State=1):(keys t).length=t.length:=by
 rw[a4y,List.countP_eq_length]
 intro a ha
 obtain⟨i,hi,rfl⟩:=List.getElem_of_mem ha
 have:=h i hi
 rw[b1r hi] at this
 simpa using this
theorem c4x{t:Tb}{i:Nat}(hi:i<t.length)(h:(pt t i).State≠1):(keys t).length<t.length:=by
 have h1:(keys t).length≤t.length:=by rw[a4y];exact List.countP_le_length
 rcases Nat.lt_or_ge (keys t).length t.length with q | q
 ·exact q
 ·exfalso
  have e:(keys t).length=t.length:=by omega
  rw[a4y,List.countP_eq_length] at e
  have:=e t[i] (List.getElem_mem hi)
  rw[b1r hi] at h
  exact h (by simpa using this)
structure TM {V:Type} (φ:V→Int→Prop) (t:Tb) (m:List (Int × V)):Prop where
 R:HR t
 nd:(m.map (·.1)).Nodup
 len:(keys t).length=m.length
 has:∀k,(∀v,Has t k v→∃u,w9 m k=some u∧φ u v)∧((w9 m k).isSome=true→∃v,Has t k v)
theorem TM.some{V:Type}{φ:V→Int→Prop}{t:Tb}{m:List (Int × V)}(h:TM φ t m)(k:Int):(∃v u,Has t k v∧w9 m k=some u∧φ u v)∨(w9 m k=none∧∀v,¬Has t k v):=by
 rcases c6N t k with ⟨v,hv⟩ | hn
 ·obtain⟨u,h1,h2⟩:=(h.has k).1 v hv
  exact .inl ⟨v,u,hv,h1,h2⟩
 ·refine .inr ⟨?_,hn⟩
  cases hq:w9 m k with
  | none=>rfl
  | some u=>
   obtain⟨v,hv⟩:=(h.has k).2 (by rw[hq];rfl)
   exact absurd hv (hn v)
theorem TM.put{V:Type}{φ:V→Int→Prop}{t:Tb}{m:List (Int × V)}(h:TM φ t m)(k v:Int)(u:V)(hφ:φ u v):∃r,a6K t k v = .some r∧r.1.length=t.length∧((r.2=0∧TM φ r.1 (m8 m k u)∧((w9 m k).isSome=true∨m.length<t.length))∨(r=(t,8)∧(w9 m k)=none∧m.length=t.length)):=by
 obtain⟨r,hr,hp⟩:=c7j h.R k v
 refine⟨r,hr,c3a hp,?_⟩
 have hRr:=b8W h.R hp
 by_cases h0:r.2=0
 ·left
  have hh:=c5b h.R hp h0
  have hmem:∀k',(∀w,Has r.1 k' w→∃x,w9 (m8 m k u) k' = .some x∧φ x w)∧((w9 (m8 m k u) k').isSome=true→∃w,Has r.1 k' w):=λk'=>by
   rw[a4A]
   by_cases e:k'=k
   ·subst e
    rw[if_pos rfl]
    refine⟨λw hw=>?_,λ_=>⟨v,(hh _ _).2 (.inl ⟨rfl,rfl⟩)⟩⟩
    rcases (hh _ _).1 hw with ⟨_,rfl⟩ | ⟨q,_⟩
    ·exact⟨u,rfl,hφ⟩
    ·exact absurd rfl q
   ·rw[if_neg e]
    refine⟨λw hw=>?_,λq=>?_⟩
    ·rcases (hh _ _).1 hw with ⟨q,_⟩ | ⟨_,q⟩
     ·exact absurd q e
     ·exact (h.has k').1 w q
    ·obtain⟨w,hw⟩:=(h.has k').2 q
     exact⟨w,(hh _ _).2 (.inr ⟨e,hw⟩)⟩
  have hlen:(keys r.1).length=(m8 m k u).length∧((w9 m k).isSome=true∨m.length<t.length):=by
   rw[c2L]
   cases hp with
   | old i hi=>
    have h1:(w9 m k).isSome=true:=by
     obtain⟨x,h1,_⟩:=(h.has k).1 _ ⟨i,hi,rfl⟩
     rw[h1];rfl
    have:=a9I hi.1 ⟨1,k,v⟩
    rw[if_pos hi.2.1,if_pos rfl,h.len] at this
    rw[if_pos h1]
    exact⟨by simp only;omega,.inl h1⟩
   | new d hn hd hb hf=>
    have h1:(w9 m k)=none:=by
     rcases h.some k with ⟨w,x,hw,_⟩ | ⟨q,_⟩
     ·obtain⟨i,hi,_⟩:=hw
      exact absurd hi (hn i)
     ·exact q
    have hlt:=a6V h.R.l1 k d
    have:=a9I hlt ⟨1,k,v⟩
    rw[if_neg hf,if_pos rfl,h.len] at this
    rw[h1]
    have h2:=c4x hlt hf
    rw[h.len] at h2
    exact⟨by simpa using this,.inr h2⟩
   | full hn ha=>cases h0
  exact⟨h0,⟨hRr,b8N h.nd k u,hlen.1,hmem⟩,hlen.2⟩
 ·right
  cases hp with
  | old i hi=>exact absurd rfl h0
  | new d hn hd hb hf=>exact absurd rfl h0
  | full hn ha=>
   refine⟨rfl,?_,?_⟩
   ·rcases h.some k with ⟨w,x,hw,_⟩ | ⟨q,_⟩
    ·obtain⟨i,hi,_⟩:=hw
     exact absurd hi (hn i)
    ·exact q
   ·rw[←h.len,c0V ha]
theorem TM.drop{V:Type}{φ:V→Int→Prop}{t:Tb}{m:List (Int × V)}(h:TM φ t m)(k:Int):(∃r v u,R6 t k = .some (r,v,0)∧r.length=t.length∧w9 m k = .some u∧φ u v∧TM φ r (b0W m k))∨(R6 t k = .some (t,0,9)∧w9 m k=none∧b0W m k=m):=by
 rcases b4G t k with ⟨i,hi⟩ | hn
 ·left
  obtain⟨u,h1,h2⟩:=(h.has k).1 _ ⟨i,hi,rfl⟩
  refine⟨_,_,u,b15 h.R hi,by simp,h1,h2,b1l h.R hi.1,(c2I m k).nodup h.nd,?_,λk'=>?_⟩
  ·have:=a9I hi.1 ⟨2,0,0⟩
   rw[if_pos hi.2.1,if_neg (by decide),h.len] at this
   rw[c2H,h1]
   simp only[Option.isSome_some,if_true]
   omega
  ·have hh:=b6O h.R hi
   rw[c00 h.nd]
   by_cases e:k'=k
   ·subst e
    rw[if_pos rfl]
    exact⟨λw hw=>absurd rfl ((hh _ _).1 hw).1,λq=>by cases q⟩
   ·rw[if_neg e]
    refine⟨λw hw=>(h.has k').1 w ((hh _ _).1 hw).2,λq=>?_⟩
    obtain⟨w,hw⟩:=(h.has k').2 q
    exact⟨w,(hh _ _).2 ⟨e,hw⟩⟩
 ·right
  have h1:w9 m k=none:=by
   rcases h.some k with ⟨w,x,hw,_⟩ | ⟨q,_⟩
   ·obtain⟨i,hi,_⟩:=hw
    exact absurd hi (hn i)
   ·exact q
  refine⟨b14 h.R hn,h1,?_⟩
  have:∀(l:List (Int × V)),w9 l k=none→b0W l k=l:=by
   intro l
   induction l with
   | nil=>intro _;rfl
   | cons p l ih=>
    intro q
    unfold w9 at q
    unfold b0W
    by_cases e:k=p.1
    ·rw[if_pos (by simpa using e)] at q;cases q
    ·rw[if_neg (by simpa using e)] at q
     rw[if_neg (by simpa using e),ih q]
  exact this m h1
end Go.Sh
namespace Go.Sh
abbrev pp(p:j5):u5:=⟨p.Key,p.Val⟩
def U0(t:Tb):List j5:=(t.filter (·.State==1)).map λp=>⟨p.Key,p.Val⟩
theorem a9H(t:Tb):keys t=(U0 t).map (·.Key):=by
 unfold keys U0
 rw[List.map_map]
 rfl
theorem W7(t:Tb):(U0 t).length=(keys t).length:=by rw[a9H,List.length_map]
theorem a2p{t:Tb}(h:t.length≤8):(U0 t).length≤8:=by
 rw[W7,a4y]
 exact Nat.le_trans List.countP_le_length h
theorem a0b{t:Tb}{p:j5}:p∈U0 t↔Has t p.Key p.Val:=by
 unfold U0 Has
 rw[List.mem_map]
 constructor
 ·rintro⟨q,hq,rfl⟩
  obtain⟨h1,h2⟩:=List.mem_filter.1 hq
  obtain⟨i,hi,rfl⟩:=List.getElem_of_mem h1
  refine⟨i,⟨hi,?_,?_⟩,?_⟩ <;> rw[b1r hi]
  simpa using h2
 ·rintro⟨i,⟨hi,h1,h2⟩,h3⟩
  rw[b1r hi] at h1 h2 h3
  refine⟨t[i],List.mem_filter.2 ⟨List.getElem_mem hi,by simpa using h1⟩,?_⟩
  cases p
  simp at h2 h3 ⊢
  exact⟨h2,h3⟩
theorem b5Z{t:Tb}(hR:HR t){j:Nat}(h:j<(U0 t).length):U5 t (U0 t)[j].Key=some ((U0 t)[j].Val,0):=c4m hR (a0b.1 (List.getElem_mem h))
theorem c5B{E R:Type}{x:Option E}{r:E}{κ:E→Option R}{y:Option R}(h:x=some r)(hy:κ r=y):((x.bind λe=>some e).bind κ)=y:=by rw[h];exact hy
theorem b7r{t:Tb}(hR:HR t):a1Z t=some (U0 t):=by
 have h8:=hR.l8
 have hp:=a2p h8
 unfold a1Z y8 a0t a1N
 simp only[jn,d0Y]
 rw[keys_eq (by omega),d0Y]
 refine c5B (a3W (a0m (U0 t).length (λk l=>l=(U0 t).take k) (λe=>e=U0 t) (by omega) (by simp) ?_ ?_)) rfl
 ·rintro k l hk rfl
  refine .inl ⟨_,?_,rfl⟩
  dsimp only
  rw[if_pos (by rw[←W7];simpa using hk),l5 (by rw[←W7];exact hk),d0Y]
  have e:(keys t)[k]'(by rw[←W7];exact hk)=(U0 t)[k].Key:=by simp[a9H]
  rw[e,b5Z hR hk,d0Y,if_pos (by trivial),u7 (by omega) (by simp;omega),d0Y,c8 (by omega),List.take_succ_eq_append_getElem hk]
 ·rintro l rfl
  exact⟨_,by rw[←W7];simp;rfl,by simp⟩
theorem b08{t:Tb}(hR:HR t):a2U (t.map L6)=some ((U0 t).map pp):=by
 have h8:=hR.l8
 have hp:=a2p h8
 unfold a2U
 simp only[jn]
 rw[c3i (by omega),d0Y]
 refine M1 (U0 t).length (λk l=>l=((U0 t).take k).map pp) (by omega) (by simp) ?_ (λl hl=>⟨_,by rw[←W7];simp;rfl,by rw[hl,List.take_length]⟩)
 rintro k l hk rfl
 refine .inl ⟨_,?_,rfl⟩
 rw[if_pos (by rw[←W7];simpa using hk),l5 (by rw[←W7];exact hk),d0Y]
 have e:(keys t)[k]'(by rw[←W7];exact hk)=(U0 t)[k].Key:=by simp[a9H]
 rw[e,c8Q hR,b5Z hR hk,d0Y,u7 (by omega) (by simp;omega),d0Y,c8 (by omega),List.take_succ_eq_append_getElem hk,List.map_append]
 rfl
def own(t:Tb)(h:Int):Nat:=(U0 t).countP λp=>(h != 0)&&(p.Val==h)
theorem c27{t:Tb}(hR:HR t)(h:Int):a3E t h=some (own t h:Int):=by
 have h8:=hR.l8
 have hp:=a2p h8
 unfold a3E y7 a0t a1M
 simp only[jn,d0Y]
 rw[keys_eq (by omega),d0Y]
 refine c5B (r:=(U0 t).filter λp=>(h != 0)&&(p.Val==h)) (a3W (a0m (U0 t).length (λk l=>l=((U0 t).take k).filter λp=>(h != 0)&&(p.Val==h)) (λe=>e=(U0 t).filter λp=>(h != 0)&&(p.Val==h)) (by omega) (by simp) ?_ ?_)) (by unfold own;rw[List.countP_eq_length_filter])
 ·rintro k l hk rfl
  refine .inl ⟨((U0 t).take (k+1)).filter λp=>(h != 0)&&(p.Val==h),?_,rfl⟩
  dsimp only
  rw[if_pos (by rw[←W7];simpa using hk),l5 (by rw[←W7];exact hk),d0Y]
  have e:(keys t)[k]'(by rw[←W7];exact hk)=(U0 t)[k].Key:=by simp[a9H]
  have hle:(((U0 t).take k).filter λp=>(h != 0)&&(p.Val==h)).length≤8:=Nat.le_trans (List.length_filter_le ..) (by simp;omega)
  rw[e,b5Z hR hk,d0Y,c8 (by omega),List.take_succ_eq_append_getElem hk,List.filter_append,List.filter_cons,List.filter_nil]
  by_cases c:((h != 0)&&((U0 t)[k].Val==h))=true
  ·rw[if_pos c,if_pos c,u7 (by omega) (by simp only[List.length_cons,List.length_nil];omega),d0Y]
  ·rw[if_neg c,if_neg c,List.append_nil]
 ·rintro l rfl
  exact⟨_,by rw[←W7];simp;rfl,by simp⟩
theorem c1k{t:Tb}(hR:HR t)(h:Int):a7L (t.map L6) h=some (own t h:Int):=by
 have h8:=hR.l8
 have hp:=a2p h8
 unfold a7L
 simp only[jn]
 rw[b08 hR,d0Y,List.length_map]
 refine b9P (λs=>∃k:Nat,k≤(U0 t).length∧s.2=(k:Int)∧s.1=((((U0 t).take k).countP λp=>(h != 0)&&(p.Val==h):Nat):Int)) (λs=>(U0 t).length+1-s.2.toNat) ⟨0,by omega,rfl,by simp⟩ (by simp;omega) ?_
 rintro⟨_,_⟩ ⟨k,hk,rfl,rfl⟩
 dsimp only
 by_cases hlt:k<(U0 t).length
 ·left
  rw[if_pos (by simpa using hlt),a0Q,l5 hlt,Option.map_some,d0Y,c8 (n:=k) (by omega)]
  have hle:(((U0 t).take k).countP λp=>(h != 0)&&(p.Val==h))≤8:=Nat.le_trans List.countP_le_length (by simp;omega)
  have hstep:(((U0 t).take (k+1)).countP λp=>(h != 0)&&(p.Val==h))=(((U0 t).take k).countP λp=>(h != 0)&&(p.Val==h))+if ((h != 0)&&((U0 t)[k].Val==h))=true then 1 else 0:=by
   rw[List.take_succ_eq_append_getElem hlt,List.countP_append,List.countP_cons,List.countP_nil,Nat.zero_add]
  by_cases c:((h != 0)&&((U0 t)[k].Val==h))=true
  ·rw[if_pos (by simp only[Bool.and_eq_true] at c ⊢;exact⟨c.2,c.1⟩),c8 (by omega)]
   rw[if_pos c] at hstep
   exact⟨_,rfl,⟨k+1,by omega,rfl,by rw[hstep]⟩,by simp;omega⟩
  ·rw[if_neg (by simp only[Bool.and_eq_true] at c ⊢;exact λq=>c ⟨q.2,q.1⟩)]
   rw[if_neg c] at hstep
   exact⟨_,rfl,⟨k+1,by omega,rfl,by rw[hstep];rfl⟩,by simp;omega⟩
 ·right
  have:k=(U0 t).length:=by omega
  subst this
  exact⟨_,by rw[if_neg (by simp)],by rw[List.take_length];rfl⟩
theorem b4Z(t:Tb)(h:Int):own t h=t.countP λp=>(p.State==1)&&((h != 0)&&(p.Val==h)):=by
 unfold own U0
 rw[List.countP_map,List.countP_filter]
 congr 1
 funext p
 simp[Bool.and_comm]
theorem c43{t:Tb}{i:Nat}(hi:i<t.length)(p:hash_Place)(h:Int):own (t.set i p) h+(if (((pt t i).State==1)&&((h != 0)&&((pt t i).Val==h)))=true then 1 else 0)=own t h+if ((p.State==1)&&((h != 0)&&(p.Val==h)))=true then 1 else 0:=by
 rw[b4Z,b4Z,List.countP_set hi,b1r hi]
 have:(if ((t[i].State==1)&&((h != 0)&&(t[i].Val==h)))=true then 1 else 0)≤t.countP λp=>(p.State==1)&&((h != 0)&&(p.Val==h)):=by
  split
  ·rename_i e
   exact List.countP_pos_iff.2 ⟨t[i],List.getElem_mem hi,e⟩
  ·exact Nat.zero_le _
 omega
theorem b8T{t:Tb}(h8:t.length≤8)(h:Int):own t h≤8:=Nat.le_trans List.countP_le_length (a2p h8)
end Go.Sh
namespace Go.Sh
end Go.Sh
namespace Go.Sh
theorem b8d{t:Tb}(hR:HR t)(ks:List Int)(hks:ks.length≤1000):∃a had,K4 t ks=some (a,had)∧HR a∧a.length=t.length∧had.length≤ks.length∧a17 (t.map L6) ks=some (a.map L6,had) ∧
  (∀k v,Has a k v↔k∉ks∧Has t k v)∧(keys a).length+had.length=(keys t).length∧(∀k v,k∈ks→Has t k v→v∈had)∧∀y,own a y+X9 had y=own t y:=by
 have key:∀n,n≤ks.length→∃a had,HR a∧a.length=t.length∧had.length≤n∧(∀k v,Has a k v↔k∉ks.take n∧Has t k v)∧(keys a).length+had.length=(keys t).length∧(∀k v,k∈ks.take n→Has t k v→v∈had)∧(∀y,own a y+X9 had y=own t y) ∧
   ∃f:Nat→Tb × List Int,f 0=(t,[])∧f n=(a,had)∧∀j,(hj:j<n)→HR (f j).1∧(f j).2.length≤j∧((∃i,∃hjk:j<ks.length,Fk (f j).1 ks[j] i∧f (j+1)=((f j).1.set i ⟨2,0,0⟩,(f j).2 ++ [(pt (f j).1 i).Val]))∨((∀i,∀hjk:j<ks.length,¬Fk (f j).1 ks[j] i)∧f (j+1)=f j)):=by
  intro n
  induction n with
  | zero=>exact λ_=>⟨t,[],hR,rfl,by simp,by simp,by simp,by simp,λy=>by unfold X9;split <;> simp,λ_=>(t,[]),rfl,rfl,λj hj=>by omega⟩
  | succ n ih=>
   intro hn
   obtain⟨a,had,h1,h2,h3,h4,h5,h6,h7,f,f0,fn,fs⟩:=ih (by omega)
   have hlt:n<ks.length:=by omega
   have htk:∀k,k∈ks.take (n+1)↔k∈ks.take n∨k=ks[n]:=λk=>by
    rw[List.take_succ_eq_append_getElem hlt,List.mem_append,List.mem_singleton]
   rcases b4G a ks[n] with ⟨i,hi⟩ | hno
   ·have hd:=b6O h1 hi
    refine⟨a.set i ⟨2,0,0⟩,had ++ [(pt a i).Val],b1l h1 hi.1,by simpa using h2,by simp;omega,λk v=>?_,?_,λk v hk hv=>?_,λy=>?_,λj=>if j=n+1 then (a.set i ⟨2,0,0⟩,had ++ [(pt a i).Val]) else f j,by simp[f0],by simp,λj hj=>?_⟩
    ·rw[hd,h4,htk]
     constructor
     ·rintro⟨q1,q2,q3⟩;exact⟨λq=>q.elim q2 q1,q3⟩
     ·rintro⟨q1,q2⟩;exact⟨λq=>q1 (.inr q),λq=>q1 (.inl q),q2⟩
    ·have:=a9I hi.1 ⟨2,0,0⟩
     rw[if_pos hi.2.1,if_neg (by decide)] at this
     simp only[List.length_append,List.length_cons,List.length_nil]
     omega
    ·rw[List.mem_append]
     rcases (htk k).1 hk with q | q
     ·exact .inl (h6 k v q hv)
     ·subst q
      by_cases q':ks[n]∈ks.take n
      ·exact .inl (h6 _ v q' hv)
      ·have:=(h4 _ _).2 ⟨q',hv⟩
       rw[this.fn h1 ⟨i,hi,rfl⟩]
       exact .inr (by simp)
    ·have:=c43 hi.1 ⟨2,0,0⟩ y
     have h7':=h7 y
     rw[a0q]
     have e:X9 [(pt a i).Val] y=if (((pt a i).State==1)&&((y != 0)&&((pt a i).Val==y)))=true then 1 else 0:=by
      rw[hi.2.1]
      unfold X9
      by_cases y0:y=0
      ·simp[y0]
      ·by_cases e:(pt a i).Val=y
       ·simp[y0,e]
       ·simp[y0,e]
     rw[e]
     rw[if_neg (show ¬((((2:Int)==1)&&((y != 0)&&((0:Int)==y)))=true) by simp)] at this
     omega
    ·rcases Nat.lt_or_ge j n with q | q
     ·have:=fs j q
      dsimp only
      rw[if_neg (by omega),if_neg (by omega)]
      exact this
     ·have:j=n:=by omega
      subst this
      dsimp only
      rw[if_neg (by omega),if_pos rfl,fn]
      exact⟨h1,h3,.inl ⟨i,hlt,hi,rfl⟩⟩
   ·refine⟨a,had,h1,h2,by omega,λk v=>?_,h5,λk v hk hv=>?_,h7,λj=>if j=n+1 then (a,had) else f j,by simp[f0],by simp,λj hj=>?_⟩
    ·rw[h4,htk]
     constructor
     ·rintro⟨q1,q2⟩
      refine⟨λq=>q.elim q1 λq=>?_,q2⟩
      subst q
      obtain⟨i,hi,_⟩:=(h4 _ _).2 ⟨q1,q2⟩
      exact hno i hi
     ·rintro⟨q1,q2⟩;exact⟨λq=>q1 (.inl q),q2⟩
    ·rcases (htk k).1 hk with q | q
     ·exact h6 k v q hv
     ·subst q
      by_cases q':ks[n]∈ks.take n
      ·exact h6 _ v q' hv
      ·obtain⟨i,hi,_⟩:=(h4 _ _).2 ⟨q',hv⟩
       exact absurd hi (hno i)
    ·rcases Nat.lt_or_ge j n with q | q
     ·have:=fs j q
      dsimp only
      rw[if_neg (by omega),if_neg (by omega)]
      exact this
     ·have:j=n:=by omega
      subst this
      dsimp only
      rw[if_neg (by omega),if_pos rfl,fn]
      exact⟨h1,h3,.inr ⟨λi _=>hno i,rfl⟩⟩
 obtain⟨a,had,h1,h2,h3,h4,h5,h6,h7,f,f0,fn,fs⟩:=key ks.length (Nat.le_refl _)
 rw[List.take_length] at h4 h6
 refine⟨a,had,?_,h1,h2,h3,?_,h4,h5,h6,h7⟩
 ·unfold K4
  simp only[jn]
  refine a3f (λj=>((f j).1,(j:Int),(f j).2)) (by rw[f0];rfl) ks.length (λ_=>True) (by omega) trivial (λj hj _=>?_) (λ_=>⟨(a,had),by dsimp only;rw[if_neg (by simp),fn],rfl⟩)
  obtain⟨g1,g2,g3⟩:=fs j hj
  left
  refine⟨?_,trivial⟩
  dsimp only
  rw[if_pos (by simpa using hj),l5 hj,d0Y,c8 (by omega)]
  rcases g3 with ⟨i,_,hi,e⟩ | ⟨hno,e⟩
  ·rw[b15 g1 hi,d0Y,e]
   dsimp only
   rw[if_pos (by decide),u7 (by omega) (by simp;omega),d0Y]
  ·rw[b14 g1 (λi=>hno i hj),d0Y,e]
   dsimp only
   rw[if_neg (by decide)]
 ·unfold a17
  simp only[jn]
  refine a3f (λj=>((f j).1.map L6,(j:Int),(f j).2)) (by rw[f0];rfl) ks.length (λ_=>True) (by omega) trivial (λj hj _=>?_) (λ_=>⟨(a.map L6,had),by dsimp only;rw[if_neg (by simp),fn],rfl⟩)
  obtain⟨g1,g2,g3⟩:=fs j hj
  left
  refine⟨?_,trivial⟩
  dsimp only
  rw[if_pos (by simpa using hj),l5 hj,d0Y,c8 (by omega),c7v g1]
  rcases g3 with ⟨i,_,hi,e⟩ | ⟨hno,e⟩
  ·rw[b15 g1 hi,Option.map_some,d0Y,e]
   dsimp only
   rw[if_pos (by decide),u7 (by omega) (by simp;omega),d0Y]
  ·rw[b14 g1 (λi=>hno i hj),Option.map_some,d0Y,e]
   dsimp only
   rw[if_neg (by decide)]
end Go.Sh
namespace Go.Sh
theorem c0T(t:Tb)(h:t.length≤1000):∃b,a5l t=some b∧(b=true↔HR t):=by
 unfold a5l
 by_cases hl:1≤t.length∧t.length≤8
 ·obtain⟨h1,h8⟩:=hl
  rw[if_neg (by simp;omega)]
  simp only[jn]
  suffices hs:∀(b:Bool),(b=true↔HR t)→_=some b by
   by_cases q:HR t
   ·exact⟨true,hs true (by simp[q]),by simp[q]⟩
   ·exact⟨false,hs false (by simp[q]),by simp[q]⟩
  intro b hb
  let Ok':Nat→Prop:=λi=>((pt t i)=⟨0,0,0⟩∨(pt t i)=⟨2,0,0⟩)∨(pt t i).State=1∧J2 t (pt t i).Key=some (i:Int)
  have hall:(∀i,i<t.length→Ok' i)↔HR t:=by
   constructor
   ·intro hO
    have full:∀i,i<t.length→(pt t i).State=1→J2 t (pt t i).Key=some (i:Int):=λi hi s=>by
     rcases hO i hi with (e | e) | e
     ·rw[e] at s;cases s
     ·rw[e] at s;cases s
     ·exact e.2
    refine⟨h1,h8,λi hi=>?_,λi j hi hj s1 s2 hk=>?_,λi hi s d hd hne=>?_⟩
    ·rcases hO i hi with (e | e) | e
     ·rw[e];exact⟨.inl rfl,λ_=>⟨rfl,rfl⟩⟩
     ·rw[e];exact⟨.inr (.inr rfl),λ_=>⟨rfl,rfl⟩⟩
     ·exact⟨.inr (.inl e.1),λq=>absurd e.1 q⟩
    ·have e1:=full i hi s1
     have e2:=full j hj s2
     rw[hk,e2] at e1
     cases e1
     rfl
    ·have e1:=full i hi s
     rcases a7A h1 h8 (pt t i).Key with ⟨d0,a1,a2,a3,a4⟩ | ⟨d0,a1,a2,a3,a4⟩
     ·rw[e1] at a4
      have a5:pos t.length (pt t i).Key d0=i:=by have:=Option.some.inj a4;omega
      rcases Nat.lt_or_ge d d0 with q | q
      ·exact (a2 d q).1
      ·exact absurd a5 (hne d0 q)
     ·rw[e1] at a4
      cases a4
   ·intro hR i hi
    rcases (hR.st i hi).1 with s | s | s
    ·have:=(hR.st i hi).2 (by omega)
     exact .inl (.inl (by cases hp:pt t i;rw[hp] at s this;simp at s this;simp[s,this]))
    ·exact .inr ⟨s,a5h hR ⟨hi,s,rfl⟩⟩
    ·have:=(hR.st i hi).2 (by omega)
     exact .inl (.inr (by cases hp:pt t i;rw[hp] at s this;simp at s this;simp[s,this]))
  refine E0 t.length (λi=>∀j,j<i→Ok' j) (by omega) (λj hj=>by omega) (λi hi hP=>?_) (λhP=>⟨.inr (),by simp,by
   simp only
   rw[hb.2 (hall.1 hP)]⟩)
  have good:Ok' i→∀j,j<i+1→Ok' j:=λo j hj=>by
   rcases Nat.lt_or_ge j i with q | q
   ·exact hP j q
   ·have:j=i:=by omega
    subst this;exact o
  have bad:¬Ok' i→some false=some b:=λo=>by
   have:b=false:=by
    cases hbb:b with
    | false=>rfl
    | true=>exact absurd (hall.2 (hb.1 hbb) i hi) o
   rw[this]
  rw[if_pos (by simpa using hi),b2R hi,d0Y,c8 (by omega)]
  by_cases a:pt t i=⟨0,0,0⟩∨pt t i=⟨2,0,0⟩
  ·refine .inl ⟨?_,good (.inl a)⟩
   rcases a with a | a <;> rw[a] <;> simp[l4]
  ·have hne:(!(((pt t i).State==0)&&(((pt t i).Key==0)&&(((pt t i).Val==0)&&true))||((pt t i).State==2)&&(((pt t i).Key==0)&&(((pt t i).Val==0)&&true))))=true:=by
    cases hp:pt t i with
    | mk s k v=>
     rw[hp] at a
     simp at a ⊢
     omega
   rw[hne]
   by_cases s:(pt t i).State=1
   ·rw[show ((pt t i).State != 1)=false by simpa using s]
    obtain⟨r,hr⟩:∃r,J2 t (pt t i).Key=some r:=by
     rcases a7A h1 h8 (pt t i).Key with ⟨d,_,_,_,e⟩ | ⟨d,_,_,_,e⟩
     ·exact⟨_,e⟩
     ·exact⟨_,e⟩
    simp only[l4,beq_self_eq_true,Bool.and_self,if_true,hr,d0Y,Bool.false_or,Bool.true_and]
    by_cases e:r=i
    ·rw[if_neg (by simpa using e)]
     exact .inl ⟨rfl,good (.inr ⟨s,by rw[hr,e]⟩)⟩
    ·rw[if_pos (by simpa using e)]
     refine .inr ⟨_,rfl,bad λo=>?_⟩
     rcases o with o | o
     ·exact a o
     ·rw[hr] at o;exact e (Option.some.inj o.2)
   ·rw[show ((pt t i).State != 1)=true by simpa using s]
    simp only[l4,beq_self_eq_true,Bool.true_and,Bool.true_or,if_true]
    refine .inr ⟨.inl false,by simp,bad λo=>?_⟩
    rcases o with o | o
    ·exact a o
    ·exact s o.1
 ·rw[if_pos (by simp;omega)]
  exact⟨false,rfl,⟨λq=>(by cases q),λhR=>absurd ⟨hR.l1,hR.l8⟩ hl⟩⟩
end Go.Sh
namespace Go.Sh
inductive Q3 (s:store_Store) (t:Tb) (l:List Int):Int→Prop
 | base {h:Int}:h∈l→h∈lv s→Q3 s t l h
 | step {a b:Int}:Q3 s t l a→b∈outs s a→b∈lv s→Q3 s t l b
 | pair {k v:Int}:Has t k v→Q3 s t l k→v∈lv s→Q3 s t l v
open Classical in
noncomputable def frc (s:store_Store) (t:Tb) (l:List Int):List Int:=(lv s).filter λh=>decide (Q3 s t l h)
open Classical in
noncomputable def fls (s:store_Store) (t:Tb) (l:List Int):List Int:=(lv s).filter λh=>decide (¬Q3 s t l h)
noncomputable def owd(s:store_Store)(t:Tb)(l:List Int):List Int:=((U0 t).filter λp=>decide (p.Key∈l∧p.Key∈lv s∧p.Val∈lv s)).map (·.Val)
def TB(t:Tb):Prop:=∀p∈t,p.Key≤9223372036854775807∧p.Val≤9223372036854775807
def PCl(s:store_Store)(t:Tb)(l:List Int):Prop:=∀k v,Has t k v→k∈l→k∈lv s→v∈lv s→v∈l
theorem TB.has{t:Tb}(h:TB t){k v:Int}(q:Has t k v):k≤9223372036854775807∧v≤9223372036854775807:=by
 obtain⟨i,⟨h1,_,h2⟩,h3⟩:=q
 rw[b1r h1] at h2 h3
 have:=h _ (List.getElem_mem h1)
 rw[h2,h3] at this
 exact this
theorem Q3.live{s:store_Store}{t:Tb}{l:List Int}{h:Int}(q:Q3 s t l h):h∈lv s:=by cases q <;> assumption
open Classical in
theorem Z8 {s:store_Store} {t:Tb} {l:List Int} {h:Int}:h∈frc s t l↔Q3 s t l h:=by
 unfold frc
 rw[List.mem_filter]
 exact⟨λq=>of_decide_eq_true q.2,λq=>⟨q.live,decide_eq_true q⟩⟩
theorem a9q{s:store_Store}(hR:RtR (sO s))(t:Tb)(l:List Int):(frc s t l).length≤24:=Nat.le_trans (List.length_filter_le ..) (D2 hR)
theorem b4I{s:store_Store}(hR:RtR (sO s))(t:Tb)(l:List Int):(frc s t l).Nodup:=List.Pairwise.filter _ (a3g hR)
theorem c6E{s:store_Store}(hR:RtR (sO s))(t:Tb)(l:List Int):LB (frc s t l):=λx hx=>by have:=a4e hR (Z8.1 hx).live;omega
theorem c7t{s:store_Store}(hR:RtR (sO s))(l:List Int):LB (rcd s l):=λx hx=>by have:=a4e hR (T9.1 hx).live;omega
theorem c6D(s:store_Store)(t:Tb)(l:List Int):Cl s (frc s t l):=λa ha b hb hl=>Z8.2 (.step (Z8.1 ha) hb hl)
theorem Q3.least{s:store_Store}{t:Tb}{l m:List Int}(hc:Cl s m)(hp:PCl s t m)(hl:∀x∈l,x∈lv s→x∈m){h:Int}(q:Q3 s t l h):h∈m:=by
 induction q with
 | base h1 h2=>exact hl _ h1 h2
 | step _ h1 h2 ih=>exact hc _ ih _ h1 h2
 | pair h1 h2 h3 ih=>exact hp _ _ h1 ih h2.live h3
theorem Q3.mono{s:store_Store}{t u:Tb}{l m:List Int}(ht:∀k v,Has t k v→Has u k v)(hl:∀x∈l,x∈lv s→Q3 s u m x){h:Int}(q:Q3 s t l h):Q3 s u m h:=by
 induction q with
 | base h1 h2=>exact hl _ h1 h2
 | step _ h1 h2 ih=>exact .step ih h1 h2
 | pair h1 _ h3 ih=>exact .pair (ht _ _ h1) ih h3
theorem Rch.c9w{s:store_Store}(t:Tb){l:List Int}{h:Int}(q:Rch s l h):Q3 s t l h:=by
 induction q with
 | base h1 h2=>exact .base h1 h2
 | step _ h1 h2 ih=>exact .step ih h1 h2
theorem c0N{s:store_Store}{t u:Tb}{l m:List Int}(h:∀x,Q3 s t l x↔Q3 s u m x):frc s t l=frc s u m:=by
 unfold frc
 exact List.filter_congr λx _=>decide_eq_decide.2 (h x)
theorem a9P{s:store_Store}{t:Tb}{l:List Int}{v:Int}:v∈owd s t l↔∃k,Has t k v∧k∈l∧k∈lv s∧v∈lv s:=by
 unfold owd
 rw[List.mem_map]
 constructor
 ·rintro⟨p,hp,rfl⟩
  obtain⟨h1,h2⟩:=List.mem_filter.1 hp
  exact⟨p.Key,a0b.1 h1,of_decide_eq_true h2⟩
 ·rintro⟨k,h1,h2⟩
  exact⟨⟨k,v⟩,List.mem_filter.2 ⟨a0b.2 h1,decide_eq_true h2⟩,rfl⟩
theorem b5W{s:store_Store}{t:Tb}{l:List Int}:(∀v∈owd s t l,v∈l)↔PCl s t l:=by
 constructor
 ·exact λh k v h1 h2 h3 h4=>h v (a9P.2 ⟨k,h1,h2,h3,h4⟩)
 ·intro h v hv
  obtain⟨k,h1,h2,h3,h4⟩:=a9P.1 hv
  exact h k v h1 h2 h3 h4
theorem b5X{s:store_Store}{t:Tb}(hT:HR t)(l:List Int):(owd s t l).length≤8:=by
 unfold owd
 rw[List.length_map]
 exact Nat.le_trans (List.length_filter_le ..) (a2p hT.l8)
theorem c7d{s:store_Store}(hR:RtR (sO s))(t:Tb)(l:List Int):LB (owd s t l):=λx hx=>by
 obtain⟨_,_,_,_,h⟩:=a9P.1 hx
 have:=a4e hR h
 omega
noncomputable def E9(s:store_Store)(t:Tb)(l:List Int):Nat→List Int
 | 0=>rcd s l
 | k+1=>rcd s (E9 s t l k++owd s t (E9 s t l k))
section
variable{s:store_Store}{t:Tb}{l:List Int}
theorem b07(k:Nat):E9 s t l (k+1)=rcd s (E9 s t l k++owd s t (E9 s t l k)):=rfl
theorem a4U(k:Nat):∃m,E9 s t l k=rcd s m:=by
 cases k with
 | zero=>exact⟨_,rfl⟩
 | succ k=>exact⟨_,rfl⟩
theorem c5h(k:Nat):Cl s (E9 s t l k):=by
 obtain⟨m,e⟩:=a4U (s:=s) (t:=t) (l:=l) k
 rw[e]
 exact c7s s m
theorem c1h(k:Nat){x:Int}(h:x∈E9 s t l k):x∈lv s:=by
 obtain⟨m,e⟩:=a4U (s:=s) (t:=t) (l:=l) k
 rw[e] at h
 exact (T9.1 h).live
theorem b7U(k:Nat){x:Int}(h:x∈E9 s t l k):x∈E9 s t l (k+1):=T9.2 (.base (List.mem_append.2 (.inl h)) (c1h k h))
theorem c1g(k:Nat):∀x∈l,x∈lv s→x∈E9 s t l k:=by
 induction k with
 | zero=>exact λx h1 h2=>T9.2 (.base h1 h2)
 | succ k ih=>exact λx h1 h2=>b7U k (ih x h1 h2)
theorem c3m(k:Nat):∀x∈E9 s t l k,Q3 s t l x:=by
 induction k with
 | zero=>exact λx h=>(T9.1 h).c9w t
 | succ k ih=>
  intro x h
  have:=T9.1 h
  induction this with
  | base h1 h2=>
   rcases List.mem_append.1 h1 with q | q
   ·exact ih _ q
   ·obtain⟨k',q1,q2,q3,q4⟩:=a9P.1 q
    exact .pair q1 (ih _ q2) q4
  | step h0 h1 h2 ih2=>exact .step (ih2 (T9.2 h0)) h1 h2
theorem b45{k:Nat}(h:PCl s t (E9 s t l k)):E9 s t l k=frc s t l:=by
 obtain⟨m,e⟩:=a4U (s:=s) (t:=t) (l:=l) k
 have hm:∀x,Rch s m x↔Q3 s t l x:=λx=>by
  rw[←T9,←e]
  exact⟨c3m k x,λq=>q.least (c5h k) h (c1g k)⟩
 rw[e]
 unfold rcd frc
 exact List.filter_congr λx _=>decide_eq_decide.2 (hm x)
theorem b9c{k:Nat}(h:PCl s t (E9 s t l k)):E9 s t l (k+1)=E9 s t l k:=by
 obtain⟨m,e⟩:=a4U (s:=s) (t:=t) (l:=l) k
 rw[b07]
 have h':=b5W.2 h
 rw[e] at h' ⊢
 refine b43 λx=>⟨λq=>?_,λq=>.base (List.mem_append.2 (.inl (T9.2 q))) q.live⟩
 refine q.mono λy hy _=>?_
 rcases List.mem_append.1 hy with c | c
 ·exact T9.1 c
 ·exact T9.1 (h' y c)
theorem b06{k:Nat}(h:¬PCl s t (E9 s t l k)):((U0 t).filter λp=>decide (p.Val∈E9 s t l k)).length<((U0 t).filter λp=>decide (p.Val∈E9 s t l (k+1))).length:=by
 obtain⟨v,hv,hn⟩:∃v,v∈owd s t (E9 s t l k)∧v∉E9 s t l k:=Classical.byContradiction λq=>h (b5W.1 λv hv=>Classical.byContradiction λq2=>q ⟨v,hv,q2⟩)
 obtain⟨k',h1,h2,h3,h4⟩:=a9P.1 hv
 refine filter_lt (λp _ hp=>?_) ⟨k',v⟩ (a0b.2 h1) ?_ ?_
 ·rw[decide_eq_true_iff] at hp ⊢
  exact b7U k hp
 ·rw[decide_eq_true_iff]
  exact T9.2 (.base (List.mem_append.2 (.inr hv)) h4)
 ·exact decide_eq_false hn
theorem b0l(s:store_Store)(t:Tb)(l:List Int):∃n,n≤(U0 t).length∧PCl s t (E9 s t l n)∧∀j,j<n→¬PCl s t (E9 s t l j):=by
 have key:∀k,(∃j,j≤k∧PCl s t (E9 s t l j))∨k<((U0 t).filter λp=>decide (p.Val∈E9 s t l (k+1))).length:=by
  intro k
  induction k with
  | zero=>
   by_cases h:PCl s t (E9 s t l 0)
   ·exact .inl ⟨0,Nat.le_refl _,h⟩
   ·have:=b06 h
    exact .inr (by omega)
  | succ k ih=>
   rcases ih with ⟨j,h1,h2⟩ | ih
   ·exact .inl ⟨j,by omega,h2⟩
   ·by_cases h:PCl s t (E9 s t l (k+1))
    ·exact .inl ⟨k+1,Nat.le_refl _,h⟩
    ·have:=b06 h
     exact .inr (by omega)
 obtain⟨j,h1,h2⟩:∃j,j≤(U0 t).length∧PCl s t (E9 s t l j):=by
  rcases key (U0 t).length with q | q
  ·exact q
  ·have:=List.length_filter_le (λp:j5=>decide (p.Val∈E9 s t l ((U0 t).length+1))) (U0 t)
   omega
 obtain⟨n,hn,hmin⟩:=U2 (p:=λj=>PCl s t (E9 s t l j)) ⟨j,h2⟩
 exact⟨n,Nat.le_trans (hmin j h2) h1,hn,λi hi q=>by have:=hmin i q;omega⟩
end
noncomputable def rnd(s:store_Store)(t:Tb)(l:List Int):Nat:=Classical.choose (b0l s t l)
theorem c3l(s:store_Store)(t:Tb)(l:List Int):rnd s t l≤(U0 t).length:=(Classical.choose_spec (b0l s t l)).1
theorem b7T(s:store_Store)(t:Tb)(l:List Int):PCl s t (E9 s t l (rnd s t l)):=(Classical.choose_spec (b0l s t l)).2.1
theorem c0d(s:store_Store)(t:Tb)(l:List Int){j:Nat}(h:j<rnd s t l):¬PCl s t (E9 s t l j):=(Classical.choose_spec (b0l s t l)).2.2 j h
section
variable{s:store_Store}(hR:RtR (sO s)){t:Tb}(hT:HR t)(hTB:TB t)
include hR hT hTB
omit hT hTB in
theorem b4T {h:Int} (hh:h≤9223372036854775807):a21 h s=some (decide (h∈lv s)):=by
 obtain⟨e,h1,h2⟩:=Q8 hR hh
 unfold a21
 rw[h1,d0Y]
 congr 1
 rw[Bool.eq_iff_iff,beq_iff_eq,decide_eq_true_iff]
 exact h2
omit hT hTB in
theorem b2V {h:Int} (hh:h≤9223372036854775807):a4M (sO s) h=some (decide (h∈lv s)):=by
 obtain⟨e,h1,h2⟩:=Q8 hR hh
 unfold a4M
 rw[a6H s (by have:=a2r hR;omega) hh,h1]
 simp only[Option.map_some,d0Y]
 congr 1
 rw[Bool.eq_iff_iff,beq_iff_eq,decide_eq_true_iff]
 exact h2
theorem b90{l:List Int}(hl:l.length≤1000000):a9p s t l=some (owd s t l):=by
 unfold a9p
 simp only[jn,b7r hT,d0Y]
 have h8:=a2p hT.l8
 rw[D0 ((U0 t)) (λb p=>b++(if decide (p.Key∈l∧p.Key∈lv s∧p.Val∈lv s) then [p.Val] else [])) id (λk b=>b.length≤k) (by omega) (by simp) (λk hk b hb=>?_) (λb _=>?_)]
 ·simp only[d0Y,id]
  rw[a1o]
  congr 1
  unfold owd
  rw[List.nil_append]
  generalize U0 t=P
  induction P with
  | nil=>rfl
  | cons p P ih=>
   rw[List.flatMap_cons,List.filter_cons,ih]
   by_cases q:p.Key∈l∧p.Key∈lv s∧p.Val∈lv s
   ·simp[q]
   ·simp[q]
 ·have hb':=hTB.has (a0b.1 (List.getElem_mem hk))
  simp only[Int.ofNat_lt,hk,decide_true,if_true,l5 hk,d0Y,contains_eq _ _ hl]
  rw[b4T hR hb'.1,b4T hR hb'.2]
  by_cases q1:(U0 t)[k].Key∈l
  ·rw[decide_eq_true q1]
   simp only[beq_self_eq_true,D1,d0Y,Bool.true_and]
   by_cases q2:(U0 t)[k].Key∈lv s
   ·rw[decide_eq_true q2]
    simp only[beq_self_eq_true,D1,d0Y,Bool.true_and]
    by_cases q3:(U0 t)[k].Val∈lv s
    ·rw[if_pos (by simpa using q3),u7 (by omega) (by simp;omega),d0Y,c8,if_pos (by simp[q1,q2,q3])]
     exact⟨rfl,by simp;omega⟩
    ·rw[if_neg (by simpa using q3),c8,if_neg (by simp[q3]),List.append_nil]
     exact⟨rfl,by omega⟩
   ·rw[decide_eq_false q2]
    simp only[show ((false==true):Bool)=false from rfl,a58,d0Y,Bool.false_and,Bool.false_eq_true,if_false]
    rw[c8,if_neg (by simp[q2]),List.append_nil]
    exact⟨rfl,by omega⟩
  ·rw[decide_eq_false q1]
   simp only[show ((false==true):Bool)=false from rfl,a58,d0Y,Bool.false_and,Bool.false_eq_true,if_false]
   rw[c8,if_neg (by simp[q1]),List.append_nil]
   exact⟨rfl,by omega⟩
 ·simp only[Int.lt_irrefl,decide_false,Bool.false_eq_true,if_false]
  rfl
theorem c0R{l:List Int}(hl:l.length≤1000000):a67 (sO s) (t.map L6) l=some (owd s t l):=by
 unfold a67
 simp only[jn,b08 hT,d0Y]
 have h8:=a2p hT.l8
 rw[D0 ((U0 t)) (λb p=>b++(if decide (p.Key∈l∧p.Key∈lv s∧p.Val∈lv s) then [p.Val] else [])) id (λk b=>b.length≤k) (by omega) (by simp) (λk hk b hb=>?_) (λb _=>?_)]
 ·simp only[d0Y,id]
  rw[a1o]
  congr 1
  unfold owd
  rw[List.nil_append]
  generalize U0 t=P
  induction P with
  | nil=>rfl
  | cons p P ih=>
   rw[List.flatMap_cons,List.filter_cons,ih]
   by_cases q:p.Key∈l∧p.Key∈lv s∧p.Val∈lv s
   ·simp[q]
   ·simp[q]
 ·have hb':=hTB.has (a0b.1 (List.getElem_mem hk))
  have hk':k<((U0 t).map pp).length:=by simpa using hk
  have eix:ix ((U0 t).map pp) (k:Int)=some (pp (U0 t)[k]):=by rw[a0Q,l5 hk];rfl
  simp only[List.length_map,Int.ofNat_lt,hk,decide_true,if_true,eix,d0Y,a9w _ _ hl,pp]
  rw[b2V hR hb'.1,b2V hR hb'.2]
  simp only[d0Y]
  by_cases q1:(U0 t)[k].Key∈lv s
  ·rw[decide_eq_true q1]
   simp only[beq_self_eq_true,D1,d0Y,Bool.true_and]
   have h0:=b9R hR _ q1
   by_cases q2:(U0 t)[k].Key∈l
   ·rw[decide_eq_true (show (U0 t)[k].Key≠0∧(U0 t)[k].Key∈l from ⟨h0,q2⟩)]
    simp only[beq_self_eq_true,D1,d0Y,Bool.true_and]
    by_cases q3:(U0 t)[k].Val∈lv s
    ·rw[if_pos (by simpa using q3),u7 (by omega) (by simp;omega),d0Y,c8,if_pos (by simp[q1,q2,q3])]
     exact⟨rfl,by simp;omega⟩
    ·rw[if_neg (by simpa using q3),c8,if_neg (by simp[q3]),List.append_nil]
     exact⟨rfl,by omega⟩
   ·rw[decide_eq_false (show ¬((U0 t)[k].Key≠0∧(U0 t)[k].Key∈l) from λq=>q2 q.2)]
    simp only[show ((false==true):Bool)=false from rfl,a58,d0Y,Bool.false_and,Bool.false_eq_true,if_false]
    rw[c8,if_neg (by simp[q2]),List.append_nil]
    exact⟨rfl,by omega⟩
  ·rw[decide_eq_false q1]
   simp only[show ((false==true):Bool)=false from rfl,a58,d0Y,Bool.false_and,Bool.false_eq_true,if_false]
   rw[c8,if_neg (by simp[q1]),List.append_nil]
   exact⟨rfl,by omega⟩
 ·simp only[List.length_map,Int.lt_irrefl,decide_false,Bool.false_eq_true,if_false]
  rfl
theorem c2s(hF:FB s){l:List Int}(hl:LB l)(hlen:l.length≤1000000):a7B s t l=some (frc s t l,(rnd s t l:Int)):=by
 unfold a7B
 rw[b9G hR hF hl hlen,d0Y]
 simp only[jn]
 have hn:=c3l s t l
 have h8:=a2p hT.l8
 have hstep:∀k,∃m,E9 s t l k=rcd s m:=a4U
 refine a3f (p:=λk=>(E9 s t l k,(k:Int))) rfl (rnd s t l) (λ_=>True) (by omega) trivial (λk hk _=>.inl ⟨?_,trivial⟩) (λ_=>?_)
 ·obtain⟨m,hm⟩:=hstep k
  have hlk:(E9 s t l k).length≤24:=by rw[hm];exact b94 hR m
  have hlb:LB (E9 s t l k):=by rw[hm];exact c7t hR m
  have hno:=c0d s t l hk
  simp only
  rw[b90 hR hT hTB (by omega),d0Y]
  have ho:=b5X (s:=s) hT (E9 s t l k)
  obtain⟨j,⟨hj,hjn⟩,hmin⟩:=U2 (p:=λj=>∃hj:j<(owd s t (E9 s t l k)).length,(owd s t (E9 s t l k))[j]∉E9 s t l k) (by
   refine Classical.byContradiction λq=>hno (b5W.1 λv hv=>Classical.byContradiction λq2=>?_)
   obtain⟨j,hj,e⟩:=List.mem_iff_getElem.1 hv
   exact q ⟨j,hj,by rw[e];exact q2⟩)
  refine E0 (owd s t (E9 s t l k)).length (λi=>i≤j) (by omega) (Nat.zero_le _) (λi hi hP=>?_) (λhP=>by omega)
  simp only[Int.ofNat_lt,hi,decide_true,if_true,l5 hi,d0Y]
  rw[contains_eq _ _ (by omega),d0Y]
  rcases Nat.lt_or_ge i j with q | q
  ·refine .inl ⟨?_,q⟩
   have:(owd s t (E9 s t l k))[i]∈E9 s t l k:=Classical.byContradiction λq2=>by have:=hmin i ⟨hi,q2⟩;omega
   rw[if_neg (by simp[this]),c8]
  ·have:i=j:=by omega
   subst this
   refine .inr ⟨.inl (E9 s t l (k+1),((k+1:Nat):Int)),?_,rfl⟩
   rw[if_pos (by simp[hjn]),u7 (by omega) (by omega),d0Y,b9G hR hF (λx hx=>by
    rcases List.mem_append.1 hx with q | q
    ·exact c7d hR t _ x q
    ·exact hlb x q) (by simp;omega),d0Y,c8,b07]
   rw[b43 (l:=owd s t (E9 s t l k)++E9 s t l k) (m:=E9 s t l k++owd s t (E9 s t l k)) λx=>⟨λq=>q.mono λy hy hyl=>.base (List.mem_append.2 (List.mem_append.1 hy).symm) hyl,λq=>q.mono λy hy hyl=>.base (List.mem_append.2 (List.mem_append.1 hy).symm) hyl⟩]
 ·have hst:=b7T s t l
  have hfr:=b45 hst
  refine⟨(frc s t l,(rnd s t l:Int)),?_,rfl⟩
  simp only
  rw[hfr] at hst ⊢
  have hfl:=a9q hR t l
  rw[b90 hR hT hTB (by omega),d0Y]
  have ho:=b5X (s:=s) hT (frc s t l)
  refine E0 (owd s t (frc s t l)).length (λ_=>True) (by omega) trivial (λi hi _=>.inl ⟨?_,trivial⟩) (λ_=>⟨.inr (),by simp,rfl⟩)
  have:=b5W.2 hst _ (List.getElem_mem hi)
  simp only[Int.ofNat_lt,hi,decide_true,if_true,l5 hi,d0Y]
  rw[contains_eq _ _ (by omega),d0Y,if_neg (by simp[this]),c8]
theorem b7V{l:List Int}(hlen:l.length≤1000000):a5H (sO s) (t.map L6) l=some (frc s t l,(rnd s t l:Int)):=by
 unfold a5H
 rw[b4J hR hlen,d0Y]
 simp only[jn]
 have hn:=c3l s t l
 have h8:=a2p hT.l8
 have hone:∀k,a4J (sO s) (E9 s t l k++owd s t (E9 s t l k))=some (E9 s t l (k+1))∧(E9 s t l k).length≤24∧(owd s t (E9 s t l k)).length≤8∧a67 (sO s) (t.map L6) (E9 s t l k)=some (owd s t (E9 s t l k)):=λk=>by
  obtain⟨m,hm⟩:=a4U (s:=s) (t:=t) (l:=l) k
  have hlk:(E9 s t l k).length≤24:=by rw[hm];exact b94 hR m
  have ho:=b5X (s:=s) hT (E9 s t l k)
  exact⟨by rw[b4J hR (by simp;omega),b07],hlk,ho,c0R hR hT hTB (by omega)⟩
 refine a3f (p:=λk=>(E9 s t l k,(k:Int))) rfl (rnd s t l) (λ_=>True) (by omega) trivial (λk hk _=>.inl ⟨?_,trivial⟩) (λ_=>?_)
 ·obtain⟨h1,h2,h3,h4⟩:=hone k
  obtain⟨_,h2',_,_⟩:=hone (k+1)
  have hne:E9 s t l (k+1)≠E9 s t l k:=λe=>by
   have:=b06 (c0d s t l hk)
   rw[e] at this
   omega
  simp only
  rw[if_pos (by simp;omega),T5 (by omega) (by omega),d0Y,h4,d0Y,u7 (by omega) (by omega),d0Y,h1,d0Y,b5h _ _ (by omega),d0Y,if_neg (by simpa using hne),c8]
 ·obtain⟨h1,h2,h3,h4⟩:=hone (rnd s t l)
  obtain⟨_,h2',_,_⟩:=hone (rnd s t l+1)
  have hst:=b7T s t l
  refine⟨.inl (frc s t l,(rnd s t l:Int)),?_,rfl⟩
  simp only
  rw[if_pos (by simp;omega),T5 (by omega) (by omega),d0Y,h4,d0Y,u7 (by omega) (by omega),d0Y,h1,d0Y,b5h _ _ (by omega),d0Y,if_pos (by simpa using b9c hst),b45 hst]
theorem c2j(hF:FB s){l:List Int}(hl:LB l)(hlen:l.length≤1000000):a9o s t l=some (frc s t l):=by
 unfold a9o
 rw[c2s hR hT hTB hF hl hlen]
 rfl
theorem a8Q{l:List Int}(hlen:l.length≤1000000):a4L (sO s) (t.map L6) l=some (frc s t l):=by
 unfold a4L
 rw[b7V hR hT hTB hlen]
 rfl
omit hT hTB hR in
theorem c5f {l:List Int} {x:Int}:Rch s (frc s t l) x↔Q3 s t l x:=by
 constructor
 ·intro q
  exact Z8.1 (Rch.least (c6D s t l) (λx h _=>h) q)
 ·exact λq=>.base (Z8.2 q) q.live
theorem c2l(hF:FB s){l:List Int}(hl:LB l)(hlen:l.length≤1000000):a6D s t l=some (fls s t l):=by
 unfold a6D
 rw[c2j hR hT hTB hF hl hlen,d0Y,c4C hR hF (c6E hR t l) (by have:=a9q hR t l;omega),d0Y]
 congr 1
 unfold I4 fls
 exact List.filter_congr λx _=>decide_eq_decide.2 (not_congr c5f)
open Classical in
theorem b8B {l:List Int} (hlen:l.length≤1000000):a95 (sO s) (t.map L6) l=some (fls s t l):=by
 unfold a95
 have h24:=D2 hR
 have hfl:=a9q hR t l
 rw[a8Q hR hT hTB hlen,d0Y,a1t hR,d0Y]
 simp only[jn]
 rw[D0 (lv s) (λacc x=>if decide (¬Q3 s t l x) then acc ++ [x] else acc) id (λk acc=>acc.length≤k) (by omega) (by simp) (λk hk acc hb=>?_) (λb _=>?_)]
 ·simp only[d0Y,id]
  rw[foldl_filter]
  rfl
 ·simp only[Int.ofNat_lt,hk,decide_true,if_true,l5 hk,d0Y]
  rw[a9w _ _ (by omega),d0Y]
  have h0:=b9R hR _ (List.getElem_mem hk)
  by_cases q:Q3 s t l (lv s)[k]
  ·have e:(lv s)[k]∈frc s t l:=Z8.2 q
   rw[if_neg (by simp[e,h0]),if_neg (by simpa using q),c8]
   exact⟨rfl,by omega⟩
  ·have e:(lv s)[k]∉frc s t l:=λh=>q (Z8.1 h)
   rw[if_pos (by simp[e]),if_pos (by simpa using q),u7 (by omega) (by simp;omega),d0Y,c8]
   exact⟨rfl,by simp;omega⟩
 ·simp only[Int.lt_irrefl,decide_false,Bool.false_eq_true,if_false]
  rfl
end
end Go.Sh
namespace Go.Sh
end Go.Sh
namespace Go.Sh
end Go.Sh
namespace Go.Sh
section
variable(s:store_Store)(hF:FB s)(t:Tb)(hTB:TB t)
include hF hTB
end
end Go.Sh
namespace Go.Sh
def ce(s:store_Store)(i:Nat):slab_Cell_store_Obj:=s.S.Cells.getD i ⟨0,0,z0⟩
theorem G9{s:store_Store}{i:Nat}(h:i<s.S.Cells.length):ce s i=s.S.Cells[i]:=by
 unfold ce
 rw[List.getD_eq_getElem?_getD,List.getElem?_eq_getElem h]
 rfl
theorem b9K{s:store_Store}{i:Nat}(h:i<s.S.Cells.length):ix s.S.Cells (i:Int)=some (ce s i):=by rw[l5 h,G9 h]
def Th(c:slab_Cell_store_Obj):Prop:=c.State=1∨c.State=2
instance(c:slab_Cell_store_Obj):Decidable (Th c):=by unfold Th;infer_instance
structure OkO (s:store_Store) (o:store_Obj):Prop where
 s1:1≤o.Serial
 s2:o.Serial≤s.Serial
 st:0≤o.Strong
 wk:0≤o.Weak
 p1 : -1≤o.Prog
 p2:o.Prog≤5
 fl:o.Fields.length≤4
structure SR (s:store_Store):Prop where
 len:s.S.Cells.length≤24
 l0:0≤s.S.Last
 l9:s.S.Last≤9
 ser:0≤s.Serial
 cell:∀i,i<s.S.Cells.length→0≤(ce s i).State∧(ce s i).State≤3∧0≤(ce s i).Gen∧(ce s i).Gen≤s.S.Last
 no:∀i,i<s.S.Cells.length→¬Th (ce s i)→b1J (oo (ce s i).Val)
 ok:∀i,i<s.S.Cells.length→Th (ce s i)→OkO s (ce s i).Val
 dif:∀i j,i<s.S.Cells.length→j<s.S.Cells.length→Th (ce s i)→Th (ce s j)→(ce s i).Val.Serial=(ce s j).Val.Serial→i=j
theorem p6{s:store_Store}:RtR (sO s)↔SR s:=by
 constructor
 ·intro h
  refine⟨a2r h,h.l0,h.l9,h.ser,λi hi=>?_,λi hi hn=>?_,λi hi ht=>?_,λi j hi hj a b e=>?_⟩
  ·rw[G9 hi];exact c0g h i hi
  ·rw[G9 hi] at hn ⊢
   have:=h.no i (by rw[C4];exact hi)
   simp only[sO,List.getElem_map] at this
   exact this hn
  ·rw[G9 hi] at ht ⊢
   obtain⟨a,b,c,d,e,f,g⟩:=c53 h i hi ht
   exact⟨a,b,c,d,e,f,g⟩
  ·rw[G9 hi] at a e
   rw[G9 hj] at b e
   exact c3n h hi hj a b e
 ·intro h
  refine⟨by rw[C4];exact h.len,h.l0,h.l9,h.ser,λi hi=>?_,λi hi hn=>?_,λi hi ht=>?_,λi hi k hk a b=>?_⟩
  ·rw[C4] at hi
   have:=h.cell i hi
   rw[G9 hi] at this
   simpa[sO,cO] using this
  ·rw[C4] at hi
   have:=h.no i hi
   rw[G9 hi] at this
   simp only[sO,List.getElem_map] at hn ⊢
   exact this hn
  ·rw[C4] at hi
   have:=h.ok i hi
   rw[G9 hi] at this
   simp only[sO,List.getElem_map] at ht ⊢
   obtain⟨a,b,c,d,e,f,g⟩:=this ht
   exact⟨a,b,c,d,e,f,g⟩
  ·rw[C4] at hi
   have hk':k<s.S.Cells.length:=by omega
   have:=h.dif i k hi hk'
   rw[G9 hi,G9 hk'] at this
   simp only[sO,List.getElem_map,cO,oo] at a b ⊢
   intro e
   have:=this a b e.symm
   omega
def At(s:store_Store)(h:Int)(i:Nat):Prop:=i<s.S.Cells.length∧(ce s i).State=1∧h=1+(i:Int)+32*(ce s i).Gen
def AtD(s:store_Store)(h:Int)(i:Nat):Prop:=i<s.S.Cells.length∧Th (ce s i)∧h=1+(i:Int)+32*(ce s i).Gen
theorem At.d{s:store_Store}{h:Int}{i:Nat}(q:At s h i):AtD s h i:=⟨q.1,.inl q.2.1,q.2.2⟩
theorem AtD.one{s:store_Store}(hR:SR s){h:Int}{i j:Nat}(q:AtD s h i)(q':AtD s h j):i=j:=by
 obtain⟨a1,_,a2⟩:=q
 obtain⟨b1,_,b2⟩:=q'
 have:=hR.len
 omega
theorem AtD.rng{s:store_Store}(hR:SR s){h:Int}{i:Nat}(q:AtD s h i):1≤h∧h≤320:=by
 obtain⟨a1,_,a2⟩:=q
 have:=hR.len
 have:=hR.cell i a1
 have:=hR.l9
 omega
theorem b7k{s:store_Store}{h:Int}:h∈Y2 0 s.S.Cells↔∃i,At s h i:=by
 rw[a6N]
 constructor
 ·rintro⟨i,hi,h1,h2⟩
  refine⟨i,hi,by rw[G9 hi];exact h1,?_⟩
  rw[G9 hi,h2,Nat.zero_add]
 ·rintro⟨i,hi,h1,h2⟩
  rw[G9 hi] at h1 h2
  exact⟨i,hi,h1,by rw[h2,Nat.zero_add]⟩
theorem a9L{s:store_Store}(hR:SR s){h:Int}:h∈lv s↔∃i,At s h i:=by rw[b0U (p6.2 hR),b7k]
theorem a8R{s:store_Store}(hR:SR s){h:Int}{i:Nat}:b0C s.S h i↔AtD s h i:=by
 constructor
 ·rintro⟨hi,h1,h2,h3,h4⟩
  unfold Hnd at h1
  refine⟨hi,by rw[G9 hi];exact h4,?_⟩
  rw[G9 hi]
  omega
 ·rintro⟨hi,h1,h2⟩
  have l:=hR.len
  have l9:=hR.l9
  have c:=hR.cell i hi
  rw[G9 hi] at h1 h2 c
  exact⟨hi,by unfold Hnd;omega,by omega,by omega,h1⟩
theorem a1d{s:store_Store}(hR:SR s){h:Int}{i:Nat}(q:At s h i):ob s h=(ce s i).Val:=by
 obtain⟨j,hj,h1,h2,_,e⟩:=b5Q (p6.2 hR) ((a9L hR).2 ⟨i,q⟩)
 have:j=i:=AtD.one hR ⟨hj,by rw[G9 hj];exact .inl h1,by rw[G9 hj];exact h2⟩ q.d
 subst this
 rw[e,G9 hj]
theorem c5A{s:store_Store}(hR:SR s){h:Int}{i:Nat}(q:At s h i):sk s.S.Cells h=(ce s i).Val.Serial:=by
 have:=hR.len
 have hi:=q.1
 rw[q.2.2,c0l hi (by omega),G9 hi]
theorem a7x{s:store_Store}(hR:SR s){h:Int}{i:Nat}(q:AtD s h i):p7 s.S h=some ((i:Int),0):=a7z ((a8R hR).2 q)
theorem b2s{s:store_Store}(hR:SR s){h:Int}(hh:h≤9223372036854775807)(q:∀i,¬AtD s h i):p7 s.S h=some (-1,if h=0 then 2 else 3):=b0N hh λi hi=>q i ((a8R hR).1 hi)
theorem c2E{s s':store_Store}(hR:SR s)(hR':SR s')(P:Int→Bool)(hm:∀h,(∃i,At s' h i)↔(∃i,At s h i)∧P h=true)(hk:∀h i j,At s' h i→At s h j→(ce s' i).Val.Serial=(ce s j).Val.Serial):lv s'=(lv s).filter P:=by
 have hk':∀h∈lv s,P h=true→sk s'.S.Cells h=sk s.S.Cells h:=λh hh hp=>by
  obtain⟨j,hj⟩:=(a9L hR).1 hh
  obtain⟨i,hi⟩:=(hm h).2 ⟨⟨j,hj⟩,hp⟩
  rw[c5A hR' hi,c5A hR hj,hk h i j hi hj]
 refine c8t (p6.2 hR') ?_ ?_
 ·rw[List.perm_ext_iff_of_nodup ((a3g (p6.2 hR)).filter _) (a5o 0 _ (by have:=hR'.len;omega))]
  intro h
  rw[List.mem_filter,a9L hR,b7k,hm h]
 ·refine ((a5w (p6.2 hR)).2.2.filter P).imp_of_mem λ{a b} ha hb hab=>?_
  rw[List.mem_filter] at ha hb
  rw[hk' a ha.1 ha.2,hk' b hb.1 hb.2]
  exact hab
theorem c4E{s s':store_Store}(hR:SR s)(hR':SR s')(hl:s'.S.Cells.length=s.S.Cells.length)(h1:∀i,i<s.S.Cells.length→((ce s' i).State=1↔(ce s i).State=1)∧(ce s' i).Gen=(ce s i).Gen∧(ce s' i).Val.Serial=(ce s i).Val.Serial):lv s'=lv s:=by
 have ha:∀h i,At s' h i↔At s h i:=λh i=>by
  unfold At
  rw[hl]
  constructor
  ·rintro⟨a,b,c⟩
   obtain⟨x,y,z⟩:=h1 i a
   exact⟨a,x.1 b,by rw[←y];exact c⟩
  ·rintro⟨a,b,c⟩
   obtain⟨x,y,z⟩:=h1 i a
   exact⟨a,x.2 b,by rw[y];exact c⟩
 rw[c2E hR hR' (λ_=>true) (λh=>by simp only[and_true];exact⟨λ⟨i,q⟩=>⟨i,(ha h i).1 q⟩,λ⟨i,q⟩=>⟨i,(ha h i).2 q⟩⟩) (λh i j q q'=>by
  have:=AtD.one hR ((ha h i).1 q).d q'.d
  subst this
  exact (h1 i q'.1).2.2)]
 simp
def a0V(s:store_Store)(i:Nat)(o:store_Obj):store_Store:=⟨⟨s.S.Cells.set i ⟨(ce s i).State,(ce s i).Gen,o⟩,s.S.Last⟩,s.Serial⟩
theorem R7(s:store_Store)(i:Nat)(o:store_Obj):(a0V s i o).S.Cells.length=s.S.Cells.length:=by simp[a0V]
theorem a9u{α:Type}{l:List α}{i:Nat}(hi:i<l.length)(c d:α)(j:Nat):(l.set i c).getD j d=if j=i then c else l.getD j d:=by
 rw[List.getD_eq_getElem?_getD,List.getD_eq_getElem?_getD,List.getElem?_set]
 by_cases h:j=i
 ·subst h
  rw[if_pos rfl,if_pos hi,if_pos rfl]
  rfl
 ·rw[if_neg (Ne.symm h),if_neg h]
theorem a6t{s:store_Store}{i:Nat}(hi:i<s.S.Cells.length)(o:store_Obj)(j:Nat):ce (a0V s i o) j=if j=i then ⟨(ce s i).State,(ce s i).Gen,o⟩ else ce s j:=a9u hi _ _ j
theorem b3F{s:store_Store}{i:Nat}(hi:i<s.S.Cells.length)(o:store_Obj)(j:Nat):(ce (a0V s i o) j).State=(ce s j).State∧(ce (a0V s i o) j).Gen=(ce s j).Gen:=by
 rw[a6t hi]
 split
 ·rename_i q;subst q;exact⟨rfl,rfl⟩
 ·exact⟨rfl,rfl⟩
theorem c31{s:store_Store}{i:Nat}(hi:i<s.S.Cells.length)(o:store_Obj){h:Int}{j:Nat}:AtD (a0V s i o) h j↔AtD s h j:=by
 unfold AtD Th
 rw[R7,(b3F hi o j).1,(b3F hi o j).2]
theorem b8n{s:store_Store}{i:Nat}(hi:i<s.S.Cells.length)(o:store_Obj){h:Int}{j:Nat}:At (a0V s i o) h j↔At s h j:=by
 unfold At
 rw[R7,(b3F hi o j).1,(b3F hi o j).2]
theorem c7F{s:store_Store}(hR:SR s){h:Int}{i:Nat}(q:AtD s h i)(o:store_Obj):J3 s h o=some (a0V s i o,0):=by
 obtain⟨hi,e⟩:=b7Z (v:=o) hR.len ((a8R hR).2 q)
 unfold J3
 rw[e]
 simp[a0V,G9 hi]
theorem SR.put{s:store_Store}(hR:SR s){i:Nat}(hi:i<s.S.Cells.length)(ht:Th (ce s i)){o:store_Obj}(hs:o.Serial=(ce s i).Val.Serial)(ho:OkO s o):SR (a0V s i o):=by
 have hst:=b3F hi o
 have hse:∀j,(ce (a0V s i o) j).Val.Serial=(ce s j).Val.Serial:=λj=>by
  rw[a6t hi]
  split
  ·rename_i q;subst q;exact hs
  ·rfl
 refine⟨by rw[R7];exact hR.len,hR.l0,hR.l9,hR.ser,λj hj=>?_,λj hj hn=>?_,λj hj hn=>?_,λj k hj hk a b e=>?_⟩
 ·rw[R7] at hj
  rw[(hst j).1,(hst j).2]
  exact hR.cell j hj
 ·rw[R7] at hj
  unfold Th at hn
  rw[(hst j).1] at hn
  rw[a6t hi]
  split
  ·rename_i q;subst q;exact absurd ht hn
  ·exact hR.no j hj hn
 ·rw[R7] at hj
  unfold Th at hn
  rw[(hst j).1] at hn
  rw[a6t hi]
  split
  ·exact⟨ho.s1,ho.s2,ho.st,ho.wk,ho.p1,ho.p2,ho.fl⟩
  ·have:=hR.ok j hj hn
   exact⟨this.s1,this.s2,this.st,this.wk,this.p1,this.p2,this.fl⟩
 ·rw[R7] at hj hk
  unfold Th at a b
  rw[(hst j).1] at a
  rw[(hst k).1] at b
  rw[hse,hse] at e
  exact hR.dif j k hj hk a b e
theorem c6Z{s:store_Store}(hR:SR s){i:Nat}(hi:i<s.S.Cells.length){o:store_Obj}(hs:o.Serial=(ce s i).Val.Serial)(hR':SR (a0V s i o)):lv (a0V s i o)=lv s:=by
 refine c4E hR hR' (R7 ..) λj hj=>?_
 rw[a6t hi]
 split
 ·rename_i q;subst q;exact⟨Iff.rfl,rfl,hs⟩
 ·exact⟨Iff.rfl,rfl,rfl⟩
theorem c67{s:store_Store}(hR:SR s){h:Int}{i:Nat}(q:At s h i){o:store_Obj}(hR':SR (a0V s i o)){k:Int}(hk:k≤9223372036854775807):ob (a0V s i o) k=if k=h then o else ob s k:=by
 by_cases e:k=h
 ·subst e
  rw[if_pos rfl,a1d hR' ((b8n q.1 o).2 q),a6t q.1,if_pos rfl]
 ·rw[if_neg e]
  by_cases hl:∃j,At s k j
  ·obtain⟨j,hj⟩:=hl
   rw[a1d hR' ((b8n q.1 o).2 hj),a1d hR hj,a6t q.1,if_neg]
   intro e2
   subst e2
   exact e (hj.2.2.trans q.2.2.symm)
  ·rw[b22 (p6.2 hR) hk (λq2=>hl ((a9L hR).1 q2)),b22 (p6.2 hR') hk λq2=>hl (by
    obtain⟨j,hj⟩:=(a9L hR').1 q2
    exact⟨j,(b8n q.1 o).1 hj⟩)]
def Z0(h:Int):Nat:=((h-1) % 32).toNat
theorem AtD.Z0{s:store_Store}(hR:SR s){h:Int}{i:Nat}(q:AtD s h i):Z0 h=i:=by
 obtain⟨a,_,c⟩:=q
 have:=hR.len
 unfold Sh.Z0
 omega
def seO(s:store_Store)(h:Int)(o:store_Obj):store_Store:=a0V s (Z0 h) o
theorem A9{s:store_Store}(hR:SR s){h:Int}(hh:h∈lv s):At s h (Z0 h):=by
 obtain⟨i,hi⟩:=(a9L hR).1 hh
 rw[hi.d.Z0 hR]
 exact hi
theorem L7{s:store_Store}(hR:SR s){h:Int}(hh:h∈lv s):OkO s (ob s h):=by
 have q:=A9 hR hh
 rw[a1d hR q]
 exact hR.ok _ q.1 (.inl q.2.1)
theorem V0{s:store_Store}(hR:SR s){h:Int}(hh:h∈lv s):1≤h∧h≤320:=(A9 hR hh).d.rng hR
theorem b0S{s:store_Store}(hR:SR s):(0:Int)∉lv s:=λh=>by have:=V0 hR h;omega
section
variable{s:store_Store}(hR:SR s){h:Int}(hh:h∈lv s){o:store_Obj}(hs:o.Serial=(ob s h).Serial)(ho:OkO s o)
include hR hh hs ho
theorem a4j:SR (seO s h o):=by
 have q:=A9 hR hh
 exact hR.put q.1 (.inl q.2.1) (by rw[hs,a1d hR q]) ho
theorem a7m:lv (seO s h o)=lv s:=by
 have q:=A9 hR hh
 exact c6Z hR q.1 (by rw[hs,a1d hR q]) (a4j hR hh hs ho)
theorem a4i{k:Int}(hk:k≤9223372036854775807):ob (seO s h o) k=if k=h then o else ob s k:=c67 hR (A9 hR hh) (a4j hR hh hs ho) hk
theorem b2h:J3 s h o=some (seO s h o,0):=c7F hR (A9 hR hh).d o
theorem c3s{k:Int}{i:Nat}:AtD (seO s h o) k i↔AtD s k i:=c31 (A9 hR hh).1 o
theorem c3t(i:Nat):ce (seO s h o) i=if i=Z0 h then ⟨(ce s i).State,(ce s i).Gen,o⟩ else ce s i:=by
 unfold seO
 rw[a6t (A9 hR hh).1]
 split
 ·rename_i q;rw[q]
 ·rfl
end
abbrev stg(o:store_Obj)(n:Int):store_Obj:=⟨o.Serial,n,o.Weak,o.Prog,o.Started,o.Fields⟩
structure Kin (s s':store_Store):Prop where
 sr:SR s'
 len:s'.S.Cells.length=s.S.Cells.length
 last:s'.S.Last=s.S.Last
 ser:s'.Serial=s.Serial
 lv:lv s'=lv s
 ad:∀k i,AtD s' k i↔AtD s k i
 ob:∀k,k≤9223372036854775807→∃n,ob s' k=(stg (ob s k) (n))
 ce:∀i,i<s.S.Cells.length→(ce s' i).State=(ce s i).State∧(ce s' i).Gen=(ce s i).Gen∧(ce s' i).Val.Weak=(ce s i).Val.Weak∧(ce s' i).Val.Fields=(ce s i).Val.Fields∧((ce s i).State≠1→ce s' i=ce s i)
theorem Kin.refl{s:store_Store}(hR:SR s):Kin s s:=⟨hR,rfl,rfl,rfl,rfl,λ_ _=>Iff.rfl,λk _=>⟨_,rfl⟩,λi _=>⟨rfl,rfl,rfl,rfl,λ_=>rfl⟩⟩
theorem Kin.trans{a b c:store_Store}(h:Kin a b)(q:Kin b c):Kin a c:=by
 refine⟨q.sr,q.len.trans h.len,q.last.trans h.last,q.ser.trans h.ser,q.lv.trans h.lv,λk i=>(q.ad k i).trans (h.ad k i),λk hk=>?_,λi hi=>?_⟩
 ·obtain⟨n,e⟩:=h.ob k hk
  obtain⟨m,f⟩:=q.ob k hk
  exact⟨m,by rw[f,e]⟩
 ·obtain⟨a1,a2,a3,a4,a5⟩:=h.ce i hi
  obtain⟨b1,b2,b3,b4,b5⟩:=q.ce i (by rw[h.len];exact hi)
  refine⟨b1.trans a1,b2.trans a2,b3.trans a3,b4.trans a4,λhn=>?_⟩
  rw[b5 (by rw[a1];exact hn),a5 hn]
theorem Kin.outs{s s':store_Store}(k:Kin s s'){h:Int}(hh:h≤9223372036854775807):outs s' h=outs s h:=by
 obtain⟨n,e⟩:=k.ob h hh
 unfold Sh.outs
 rw[e]
theorem Kin.inn{s s':store_Store}(hR:SR s)(k:Kin s s')(h:Int):inn s' h=inn s h:=by
 unfold Sh.inn
 rw[k.lv]
 congr 1
 refine List.map_congr_left λx hx=>?_
 rw[k.outs (by have:=V0 hR hx;omega)]
theorem c4z{s:store_Store}(hR:SR s){h:Int}(hh:h∈lv s){n:Int}(hn:0≤n):Kin s (seO s h (stg (ob s h) (n))):=by
 have ho:OkO s (stg (ob s h) (n)):=by
  have:=L7 hR hh
  exact⟨this.s1,this.s2,hn,this.wk,this.p1,this.p2,this.fl⟩
 have q:=A9 hR hh
 refine⟨a4j hR hh rfl ho,R7 ..,rfl,rfl,a7m hR hh rfl ho,λk i=>c3s (o:=(stg (ob s h) (n))) hR hh rfl ho,λk hk=>?_,λi hi=>?_⟩
 ·rw[a4i (o:=(stg (ob s h) (n))) hR hh rfl ho hk]
  split
  ·rename_i e;subst e;exact⟨n,rfl⟩
  ·exact⟨_,rfl⟩
 ·rw[c3t (o:=(stg (ob s h) (n))) hR hh rfl ho]
  split
  ·rename_i e
   subst e
   rw[a1d hR q]
   exact⟨rfl,rfl,rfl,rfl,λhn=>absurd q.2.1 hn⟩
  ·exact⟨rfl,rfl,rfl,rfl,λ_=>rfl⟩
def SB(s:store_Store):Prop:=∀c∈s.S.Cells,c.Val.Strong≤9223372036854775807
theorem c5L{s:store_Store}:FB s↔∀i,i<s.S.Cells.length→∀x∈(ce s i).Val.Fields,x≤9223372036854775807:=by
 constructor
 ·intro h i hi x hx
  rw[G9 hi] at hx
  exact h _ (List.getElem_mem hi) x hx
 ·intro h c hc x hx
  obtain⟨i,hi,rfl⟩:=List.getElem_of_mem hc
  exact h i hi x (by rw[G9 hi];exact hx)
theorem c8V{s:store_Store}:SB s↔∀i,i<s.S.Cells.length→(ce s i).Val.Strong≤9223372036854775807:=by
 constructor
 ·intro h i hi
  rw[G9 hi]
  exact h _ (List.getElem_mem hi)
 ·intro h c hc
  obtain⟨i,hi,rfl⟩:=List.getElem_of_mem hc
  have:=h i hi
  rwa [G9 hi] at this
end Go.Sh
namespace Go.Sh
noncomputable def inr(s:store_Store)(t:Tb)(h:Int):Nat:=inn s h+own t h
noncomputable def rst(s:store_Store)(t:Tb)(h:Int):Int:=if h∈lv s then (ob s h).Strong-(inr s t h:Int) else 0
noncomputable def hld(s:store_Store)(t:Tb):List Int:=(lv s).filter λh=>decide (0<rst s t h∨12≤(ob s h).Strong)
def b4r(s:store_Store)(t:Tb)(l:List Int):Prop:=∀h∈lv s,(ob s h).Strong<12→rst s t h=(X9 l h:Int)
noncomputable instance(s:store_Store)(t:Tb)(l:List Int):Decidable (b4r s t l):=Classical.propDecidable _
section
variable{s:store_Store}(hR:RtR (sO s)){t:Tb}(hT:HR t)
include hR hT
theorem c2z(h:Int):a3Z s t h=some (inr s t h:Int):=by
 unfold a3Z
 have h1:=b8K hR h
 have h2:=b8T hT.l8 h
 rw[c8j hR,d0Y,c27 hT,d0Y,G7 (by omega) (by omega)]
 unfold inr
 simp
theorem b8L(h:Int):a7M (sO s) (t.map L6) h=some (inr s t h:Int):=by
 unfold a7M
 have h1:=b8K hR h
 have h2:=b8T hT.l8 h
 rw[c4t hR,d0Y,c1k hT,d0Y,G7 (by omega) (by omega)]
 unfold inr
 simp
theorem c2A(h:Int):inr s t h≤104:=by
 have h1:=b8K hR h
 have h2:=b8T hT.l8 h
 unfold inr
 omega
omit hT in
theorem b1g (hB:SB s) {h:Int} (hh:h∈lv s):0≤(ob s h).Strong∧(ob s h).Strong≤9223372036854775807:=by
 obtain⟨i,hi⟩:=(a9L (p6.1 hR)).1 hh
 rw[a1d (p6.1 hR) hi]
 refine⟨((p6.1 hR).ok i hi.1 (.inl hi.2.1)).st,?_⟩
 rw[G9 hi.1]
 exact hB _ (List.getElem_mem _)
theorem b99(hB:SB s){h:Int}(hh:h≤9223372036854775807):a3w s t h=some (rst s t h):=by
 unfold a3w
 obtain⟨e,h1,h2⟩:=Q8 hR hh
 rw[h1,d0Y]
 by_cases q:h∈lv s
 ·have:=h2.2 q
  subst this
  have h3:=c2A hR hT h
  have h4:=b1g hR hB q
  rw[if_neg (by simp),c2z hR hT,d0Y,G7 (by dsimp only;omega) (by dsimp only;omega)]
  unfold rst
  rw[if_pos q]
 ·rw[if_pos (by simpa using λq2=>q (h2.1 q2))]
  unfold rst
  rw[if_neg q]
theorem b44(hB:SB s){h:Int}(hh:h≤9223372036854775807):a68 (sO s) (t.map L6) h=some (rst s t h):=by
 unfold a68
 obtain⟨e,h1,h2⟩:=Q8 hR hh
 rw[a6H s (by have:=a2r hR;omega) hh,h1,Option.map_some,d0Y]
 by_cases q:h∈lv s
 ·have:=h2.2 q
  subst this
  have h3:=c2A hR hT h
  have h4:=b1g hR hB q
  rw[if_neg (by simp),b8L hR hT,d0Y]
  simp only[oo]
  rw[G7 (by omega) (by omega)]
  unfold rst
  rw[if_pos q]
 ·rw[if_pos (by simpa using λq2=>q (h2.1 q2))]
  unfold rst
  rw[if_neg q]
omit hT in
theorem b3B {h:Int} (hh:h≤9223372036854775807):a4N (sO s) h=some (decide (12≤(ob s h).Strong)):=by
 unfold a4N P6
 obtain⟨e,h1,h2⟩:=Q8 hR hh
 rw[a6H s (by have:=a2r hR;omega) hh,h1,Option.map_some,d0Y,d0Y]
 rfl
omit hT in
theorem b7h {k:Nat} (hk:k<(lv s).length):(lv s)[k]≤9223372036854775807:=by
 have:=a4e hR (List.getElem_mem hk)
 omega
theorem c4o(hB:SB s):a5V s t=some (hld s t):=by
 unfold a5V
 simp only[jn]
 have h24:=D2 hR
 rw[a1S hR,d0Y,D0 (lv s) (λb x=>if decide (0<rst s t x∨12≤(ob s x).Strong) then b ++ [x] else b) id (λk b=>b.length≤k) (by omega) (by simp) (λk hk b hI=>?_) (λb _=>by simp),d0Y]
 ·rw[foldl_filter]
  rfl
 ·have hm:=List.getElem_mem hk
  have hle:=b7h hR hk
  simp only[Int.ofNat_lt,hk,decide_true,if_true,l5 hk,d0Y]
  rw[b0T hR hm,d0Y]
  unfold a5W a1X C9
  rw[b99 hR hT hB hle,d0Y,d0Y]
  by_cases q:0<rst s t (lv s)[k]
  ·rw[decide_eq_true (show rst s t (lv s)[k] > 0 from q)]
   simp only[show ((true==false):Bool)=false from rfl,a58,d0Y,Bool.true_or,if_true]
   rw[u7 (by omega) (by simp;omega),d0Y,c8,if_pos (decide_eq_true (.inl q))]
   exact⟨rfl,by simp;omega⟩
  ·rw[decide_eq_false (show ¬rst s t (lv s)[k] > 0 from q)]
   simp only[beq_self_eq_true,D1,d0Y,Bool.false_or]
   by_cases q2:12≤(ob s (lv s)[k]).Strong
   ·rw[if_pos (decide_eq_true q2),u7 (by omega) (by simp;omega),d0Y,c8,if_pos (decide_eq_true (.inr q2))]
    exact⟨rfl,by simp;omega⟩
   ·rw[if_neg (by simpa using q2),c8,if_neg (by simp only[decide_eq_true_eq];exact λc=>c.elim q q2)]
    exact⟨rfl,by omega⟩
theorem c0S(hB:SB s):a98 (sO s) (t.map L6)=some (hld s t):=by
 unfold a98
 simp only[jn]
 have h24:=D2 hR
 rw[a1t hR,d0Y,D0 (lv s) (λb x=>if decide (0<rst s t x∨12≤(ob s x).Strong) then b ++ [x] else b) id (λk b=>b.length≤k) (by omega) (by simp) (λk hk b hI=>?_) (λb _=>by simp),d0Y]
 ·rw[foldl_filter]
  rfl
 ·have hle:=b7h hR hk
  simp only[Int.ofNat_lt,hk,decide_true,if_true,l5 hk,d0Y]
  rw[b44 hR hT hB hle,d0Y]
  by_cases q:0<rst s t (lv s)[k]
  ·rw[decide_eq_true (show rst s t (lv s)[k] > 0 from q)]
   simp only[show ((true==false):Bool)=false from rfl,a58,d0Y,Bool.true_or,if_true]
   rw[u7 (by omega) (by simp;omega),d0Y,c8,if_pos (decide_eq_true (.inl q))]
   exact⟨rfl,by simp;omega⟩
  ·rw[decide_eq_false (show ¬rst s t (lv s)[k] > 0 from q)]
   simp only[beq_self_eq_true,D1,d0Y,Bool.false_or]
   rw[b3B hR hle,d0Y]
   by_cases q2:12≤(ob s (lv s)[k]).Strong
   ·rw[if_pos (decide_eq_true q2),u7 (by omega) (by simp;omega),d0Y,c8,if_pos (decide_eq_true (.inr q2))]
    exact⟨rfl,by simp;omega⟩
   ·rw[if_neg (by simpa using q2),c8,if_neg (by simp only[decide_eq_true_eq];exact λc=>c.elim q q2)]
    exact⟨rfl,by omega⟩
omit hT in
theorem b9H:(hld s t).length≤24:=Nat.le_trans (List.length_filter_le ..) (D2 hR)
omit hR hT in
theorem a9B {h:Int}:h∈hld s t↔h∈lv s∧(0<rst s t h∨12≤(ob s h).Strong):=by
 unfold hld
 rw[List.mem_filter,decide_eq_true_eq]
omit hT in
theorem c6P:LB (hld s t):=λx hx=>by have:=a4e hR (a9B.1 hx).1;omega
theorem b8H(hTB:TB t)(hF:FB s)(hB:SB s):Z6 s t=some (fls s t (hld s t)):=by
 unfold Z6
 have:=b9H hR (t:=t)
 rw[c4o hR hT hB,d0Y,c2l hR hT hTB hF (c6P hR) (by omega)]
 rfl
theorem b5H(hTB:TB t)(hB:SB s):a18 (sO s) (t.map L6)=some (fls s t (hld s t)):=by
 unfold a18
 have:=b9H hR (t:=t)
 rw[c0S hR hT hB,d0Y,b8B hR hT hTB (by omega)]
 rfl
theorem c4g(hB:SB s){l:List Int}(hl:l.length≤1000000):a5U s t l=some (decide (b4r s t l)):=by
 unfold a5U
 simp only[jn]
 have h24:=D2 hR
 rw[a1S hR,d0Y,D0 (lv s) (λb x=>if decide ((ob s x).Strong<12∧rst s t x≠(X9 l x:Int)) then b ++ [x] else b) id (λk b=>b.length≤k) (by omega) (by simp) (λk hk b hI=>?_) (λb _=>by simp),d0Y]
 ·rw[foldl_filter]
  simp only[id,List.nil_append]
  congr 1
  rw[Bool.eq_iff_iff,decide_eq_true_iff,beq_iff_eq]
  constructor
  ·intro e h hh hs
   have:(lv s).filter (λx=>decide ((ob s x).Strong<12∧rst s t x≠(X9 l x:Int))) = []:=List.eq_nil_of_length_eq_zero (by omega)
   rw[List.filter_eq_nil_iff] at this
   have:=this h hh
   simp only[decide_eq_true_eq,not_and,Decidable.not_not] at this
   exact this hs
  ·intro q
   rw[List.filter_eq_nil_iff.2]
   ·rfl
   ·intro h hh
    simp only[decide_eq_true_eq,not_and,Decidable.not_not]
    exact q h hh
 ·have hm:=List.getElem_mem hk
  have hle:=b7h hR hk
  simp only[Int.ofNat_lt,hk,decide_true,if_true,l5 hk,d0Y]
  rw[b0T hR hm,d0Y]
  unfold a2O a1X C9
  simp only[d0Y]
  by_cases q2:12≤(ob s (lv s)[k]).Strong
  ·rw[decide_eq_true (show (ob s (lv s)[k]).Strong≥12 from q2)]
   simp only[Bool.not_true,show ((false==true):Bool)=false from rfl,a58,d0Y,Bool.false_and,Bool.false_eq_true,if_false]
   rw[c8,if_neg (by simp;omega)]
   exact⟨rfl,by omega⟩
  ·rw[decide_eq_false (show ¬(ob s (lv s)[k]).Strong≥12 from q2)]
   simp only[Bool.not_false,beq_self_eq_true,D1,Bool.true_and]
   rw[b99 hR hT hB hle,d0Y,c3C _ _ hl,d0Y,d0Y]
   by_cases q3:rst s t (lv s)[k]=(X9 l (lv s)[k]:Int)
   ·rw[if_neg (by simpa using q3),c8,if_neg (by simp only[decide_eq_true_eq];exact λc=>c.2 q3)]
    exact⟨rfl,by omega⟩
   ·rw[if_pos (by simpa using q3),u7 (by omega) (by simp;omega),d0Y,c8,if_pos (decide_eq_true ⟨by omega,q3⟩)]
    exact⟨rfl,by simp;omega⟩
theorem c0M(hB:SB s){l:List Int}(hl:l.length≤1000000):a97 (sO s) (t.map L6) l=some (decide (b4r s t l)):=by
 unfold a97
 simp only[jn]
 have h24:=D2 hR
 rw[a1t hR,d0Y,c6Y (lv s) (λx => !decide ((ob s x).Strong<12∧rst s t x≠(X9 l x:Int))) (.inr ()) (.inl false) (by omega) (λk hk=>?_) (by simp),d0Y]
 ·have:(lv s).all (λx => !decide ((ob s x).Strong<12∧rst s t x≠(X9 l x:Int)))=decide (b4r s t l):=by
   rw[Bool.eq_iff_iff,decide_eq_true_iff,List.all_eq_true]
   constructor
   ·intro e h hh hs
    have:=e h hh
    simp only[Bool.not_eq_true',decide_eq_false_iff_not,not_and,Decidable.not_not] at this
    exact this hs
   ·intro q h hh
    simp only[Bool.not_eq_true',decide_eq_false_iff_not,not_and,Decidable.not_not]
    exact q h hh
  rw[this]
  by_cases q:b4r s t l
  ·rw[decide_eq_true q];rfl
  ·rw[decide_eq_false q];rfl
 ·have hle:=b7h hR hk
  simp only[Int.ofNat_lt,hk,decide_true,if_true,l5 hk,d0Y]
  rw[b3B hR hle,d0Y]
  by_cases q2:12≤(ob s (lv s)[k]).Strong
  ·rw[decide_eq_true q2]
   simp only[Bool.not_true,show ((false==true):Bool)=false from rfl,a58,d0Y,Bool.false_and,Bool.false_eq_true,if_false]
   rw[c8,if_pos (by simp;omega)]
  ·rw[decide_eq_false q2]
   simp only[Bool.not_false,beq_self_eq_true,D1,Bool.true_and]
   rw[b44 hR hT hB hle,d0Y,W1 _ _ hl,d0Y]
   by_cases q3:rst s t (lv s)[k]=(X9 l (lv s)[k]:Int)
   ·rw[if_neg (by simpa using q3),c8,if_pos (by simp[q3])]
   ·rw[if_pos (by simpa using q3),if_neg (by simp;exact⟨by omega,q3⟩)]
end
end Go.Sh
namespace Go.Sh
abbrev TQ:=queue_Queue_task_Task
def tad(q:TQ)(t:task_Task):TQ × Int:=if q.Cap≤q.L.length then (q,4) else (⟨q.L ++ [t],q.Cap⟩,0)
theorem c56{q:TQ}(t:task_Task)(h:q.L.length≤1000):a7t q t=some (tad q t):=by
 unfold tad
 unfold a7t M4 O5 M5
 simp only[d0Y]
 by_cases c:q.Cap≤q.L.length
 ·rw[if_pos (by simpa using c),if_pos c,d0Y]
 ·rw[if_neg (by simpa using c),if_neg c]
  have e:cut q.L 0 (q.L.length:Int)=some q.L:=by
   have:=b5u (xs:=q.L) (i:=0) (j:=q.L.length) (Nat.zero_le _) (Nat.le_refl _)
   simpa using this
  rw[e,d0Y,d0Y,u7 (by omega) (by simp;omega),d0Y,d0Y]
theorem b4F{α β:Type}(p:α→Bool)(f:α→β)(l:List α)(k:Nat)(h:k<l.length):((l.take (k+1)).filter p).map f=((l.take k).filter p).map f++(if p l[k] then [f l[k]] else []):=by
 rw[List.take_succ_eq_append_getElem h,List.filter_append,List.map_append]
 congr 1
 simp only[List.filter_cons,List.filter_nil]
 split <;> rfl
theorem c7J{q:TQ}(h:q.L.length≤1000):a48 q=some ((q.L.filter (·.Kind==1)).map (·.At)):=by
 unfold a48 b0q
 simp only[jn,d0Y]
 refine M1 q.L.length (λk l=>l=((q.L.take k).filter (·.Kind==1)).map (·.At)) (by omega) (by simp) ?_ (λl hl=>⟨_,by simp;rfl,by rw[hl,List.take_length]⟩)
 rintro k l hk rfl
 left
 rw[b4F _ _ _ _ hk]
 simp only[Int.ofNat_lt,hk,decide_true,if_true,l5 hk,d0Y]
 have hle:(List.map (·.At) (List.filter (·.Kind==1) (List.take k q.L))).length≤1000:=by
  rw[List.length_map]
  exact Nat.le_trans (List.length_filter_le ..) (by simp;omega)
 by_cases c:(q.L[k].Kind==1)=true
 ·rw[c,if_pos (by decide),u7 (by omega) (by simp only[List.length_cons,List.length_nil];omega),d0Y,c8]
  exact⟨_,rfl,rfl⟩
 ·have c:(q.L[k].Kind==1)=false:=by simpa using c
  rw[c,if_neg (by decide),c8]
  exact⟨_,rfl,by simp⟩
end Go.Sh
namespace Go.Sh
def tkR(t:task_Task):m9:=⟨t.Kind,t.At,t.Prog⟩
def tqR(q:TQ):r7:=⟨q.L.map tkR,q.Cap⟩
theorem c51{q:TQ}(t:task_Task)(h:q.L.length≤1000):a3T (tqR q) (tkR t)=some (tqR (tad q t).1,(tad q t).2):=by
 unfold a3T tad
 have hl:(tqR q).L.length=q.L.length:=by simp[tqR]
 by_cases c:q.Cap≤q.L.length
 ·rw[if_pos (by simp[hl];exact c),if_pos c]
 ·rw[if_neg (by simp[hl];exact Int.not_le.1 c),if_neg c,T5 (by omega) (by rw[hl];omega),d0Y,u7 (by omega) (by simp[hl];omega),d0Y]
  simp[tqR]
theorem c7p{q:TQ}(h:q.L.length≤1000):b0a (tqR q) (tqR q)=some true:=by
 unfold b0a
 have hl:(tqR q).L.length=q.L.length:=by simp[tqR]
 rw[if_neg (by simp)]
 simp only[jn]
 refine E0 (tqR q).L.length (λ_=>True) (by omega) trivial (λk hk _=>.inl ⟨?_,trivial⟩) (λ_=>⟨.inr (),by simp,rfl⟩)
 simp only[Int.ofNat_lt,hk,decide_true,if_true,l5 hk,d0Y]
 rw[if_neg (by simp),c8 (n:=k) (by omega)]
theorem c7r{q:TQ}(h:q.L.length≤1000):a69 (tqR q)=some ((q.L.filter (·.Kind==1)).map (·.At)):=by
 unfold a69
 have hl:(tqR q).L.length=q.L.length:=by simp[tqR]
 simp only[jn,hl]
 refine M1 q.L.length (λk l=>l=((q.L.take k).filter (·.Kind==1)).map (·.At)) (by omega) (by simp) ?_ (λl hl=>⟨_,by simp;rfl,by rw[hl,List.take_length]⟩)
 rintro k l hk rfl
 left
 rw[b4F _ _ _ _ hk]
 have e:ix (tqR q).L (k:Int)=some (tkR q.L[k]):=by rw[show (tqR q).L=q.L.map tkR from rfl,a0Q,l5 hk];rfl
 simp only[Int.ofNat_lt,hk,decide_true,if_true,e,d0Y]
 have hle:(List.map (·.At) (List.filter (·.Kind==1) (List.take k q.L))).length≤1000:=by
  rw[List.length_map]
  exact Nat.le_trans (List.length_filter_le ..) (by simp;omega)
 by_cases c:(q.L[k].Kind==1)=true
 ·rw[show ((tkR q.L[k]).Kind==1)=true from c,if_pos rfl,u7 (by omega) (by simp only[List.length_cons,List.length_nil];omega),d0Y,c8,if_pos c]
  exact⟨_,rfl,rfl⟩
 ·have c:(q.L[k].Kind==1)=false:=by simpa using c
  rw[show ((tkR q.L[k]).Kind==1)=false from c,if_neg (by decide),c8,if_neg (by simp[c])]
  exact⟨_,rfl,by simp⟩
theorem c5e{q:TQ}{w:Int}(h:q.L.length≤1000):a4O (tqR q) w=some (q.L.any λt=>t.Kind==2&&t.At==w):=by
 unfold a4O
 have hl:(tqR q).L.length=q.L.length:=by simp[tqR]
 simp only[jn,hl]
 refine E0 q.L.length (λk=>(q.L.take k).any (λt=>t.Kind==2&&t.At==w)=false) (by omega) (by simp) ?_ (λhl=>⟨.inr (),by simp,by rw[List.take_length] at hl;rw[hl]⟩)
 intro k hk hP
 have e:ix (tqR q).L (k:Int)=some (tkR q.L[k]):=by rw[show (tqR q).L=q.L.map tkR from rfl,a0Q,l5 hk];rfl
 simp only[Int.ofNat_lt,hk,decide_true,if_true,e,d0Y]
 rw[List.take_succ_eq_append_getElem hk,List.any_append,hP,Bool.false_or]
 by_cases c:(q.L[k].Kind==2&&q.L[k].At==w)=true
 ·right
  rw[show ((tkR q.L[k]).Kind==2&&(tkR q.L[k]).At==w)=true from c,if_pos rfl]
  refine⟨.inl true,rfl,?_⟩
  simp only[Option.some.injEq]
  symm
  rw[List.any_eq_true]
  exact⟨_,List.getElem_mem hk,c⟩
 ·have c:(q.L[k].Kind==2&&q.L[k].At==w)=false:=by simpa using c
  left
  rw[show ((tkR q.L[k]).Kind==2&&(tkR q.L[k]).At==w)=false from c,if_neg (by decide),c8]
  exact⟨rfl,by simp[c]⟩
end Go.Sh
namespace Go.Sh
abbrev Hp:=hold_Heap
abbrev wS(x:Hp)(s:store_Store):Hp:=⟨s,x.Roots,x.Cells,x.T,x.Q⟩
def nmg(l:List weak_Cell)(h:Int):Nat:=l.countP λc=>(h != 0)&&(c.Target==h)
def b1O(q:TQ):List Int:=(q.L.filter (·.Kind==1)).map (·.At)
def wts(q:TQ)(w:Int):Bool:=q.L.any λt=>t.Kind==2&&t.At==w
def otr(x:Hp):List Int:=nz x.Roots++b1O x.Q
noncomputable def nms(x:Hp)(h:Int):Nat:=inn x.S h+own x.T h+X9 (otr x) h
def G3(s:store_Store)(i:Nat)(c:slab_Cell_store_Obj):store_Store:=⟨⟨s.S.Cells.set i c,s.S.Last⟩,s.Serial⟩
theorem a02(s:store_Store)(i:Nat)(c:slab_Cell_store_Obj):(G3 s i c).S.Cells.length=s.S.Cells.length:=by simp[G3]
theorem L9{s:store_Store}{i:Nat}(hi:i<s.S.Cells.length)(c:slab_Cell_store_Obj)(j:Nat):ce (G3 s i c) j=if j=i then c else ce s j:=a9u hi _ _ j
theorem SR.G3{s:store_Store}(hR:SR s){i:Nat}(hi:i<s.S.Cells.length){c:slab_Cell_store_Obj}(h1:0≤c.State∧c.State≤3∧0≤c.Gen∧c.Gen≤s.S.Last)(h2:¬Th c→b1J (oo c.Val))(h3:Th c→OkO s c.Val∧Th (ce s i)∧c.Val.Serial=(ce s i).Val.Serial):SR (G3 s i c):=by
 have key:∀j,Th (ce (Sh.G3 s i c) j)→Th (ce s j)∧(ce (Sh.G3 s i c) j).Val.Serial=(ce s j).Val.Serial:=λj hj=>by
  rw[L9 hi] at hj ⊢
  split at hj
  ·rename_i e
   subst e
   rw[if_pos rfl]
   exact (h3 hj).2
  ·rename_i e
   rw[if_neg e]
   exact⟨hj,rfl⟩
 refine⟨by rw[a02];exact hR.len,hR.l0,hR.l9,hR.ser,λj hj=>?_,λj hj hn=>?_,λj hj hn=>?_,λj k hj hk a b e=>?_⟩
 ·rw[a02] at hj
  rw[L9 hi]
  split
  ·exact h1
  ·exact hR.cell j hj
 ·rw[a02] at hj
  rw[L9 hi] at hn ⊢
  split at hn
  ·rename_i e
   rw[if_pos e];exact h2 hn
  ·rename_i e
   rw[if_neg e];exact hR.no j hj hn
 ·rw[a02] at hj
  rw[L9 hi] at hn ⊢
  split at hn
  ·rename_i e
   rw[if_pos e]
   have:=(h3 hn).1
   exact⟨this.s1,this.s2,this.st,this.wk,this.p1,this.p2,this.fl⟩
  ·rename_i e
   rw[if_neg e]
   have:=hR.ok j hj hn
   exact⟨this.s1,this.s2,this.st,this.wk,this.p1,this.p2,this.fl⟩
 ·rw[a02] at hj hk
  obtain⟨a1,a2⟩:=key j a
  obtain⟨b1,b2⟩:=key k b
  rw[a2,b2] at e
  exact hR.dif j k hj hk a1 b1 e
theorem b12{s:store_Store}{i:Nat}(hi:i<s.S.Cells.length)(c:slab_Cell_store_Obj){h:Int}{j:Nat}(hj:j≠i):At (G3 s i c) h j↔At s h j:=by
 unfold At
 rw[a02,L9 hi,if_neg hj]
theorem c4F{s:store_Store}(hR:SR s){i:Nat}(hi:i<s.S.Cells.length){c:slab_Cell_store_Obj}(hc:c.State≠1)(hR':SR (G3 s i c)):lv (G3 s i c)=(lv s).filter λh=>decide (Z0 h≠i):=by
 have hno:∀h,¬At (G3 s i c) h i:=λh q=>by
  have:=q.2.1
  rw[L9 hi,if_pos rfl] at this
  exact hc this
 refine c2E hR hR' _ (λh=>?_) (λh j k q q'=>?_)
 ·rw[decide_eq_true_iff]
  constructor
  ·rintro⟨j,hj⟩
   have hne:j≠i:=λe=>hno h (e▸hj)
   have:=(b12 hi c hne).1 hj
   exact⟨⟨j,this⟩,by rw[this.d.Z0 hR];exact hne⟩
  ·rintro⟨⟨j,hj⟩,hp⟩
   rw[hj.d.Z0 hR] at hp
   exact⟨j,(b12 hi c hp).2 hj⟩
 ·have hne:j≠i:=λe=>hno h (e▸q)
  have q2:=(b12 hi c hne).1 q
  have:=AtD.one hR q2.d q'.d
  subst this
  rw[L9 hi,if_neg hne]
theorem c4Q{s:store_Store}(hR:SR s){i:Nat}(hi:i<s.S.Cells.length){c:slab_Cell_store_Obj}(hR':SR (G3 s i c)){k:Int}(hk:k∈lv s)(hp:Z0 k≠i):ob (G3 s i c) k=ob s k:=by
 have q:=A9 hR hk
 rw[a1d hR' ((b12 hi c hp).2 q),a1d hR q,L9 hi,if_neg hp]
structure Kn (s s':store_Store):Prop where
 sr:SR s'
 len:s'.S.Cells.length=s.S.Cells.length
 lv:lv s'=lv s
 ad:∀k i,AtD s' k i↔AtD s k i
 ob:∀k,k∈Sh.lv s→∃n m,ob s' k=⟨(ob s k).Serial,n,m,(ob s k).Prog,(ob s k).Started,(ob s k).Fields⟩
theorem Kin.kn{s s':store_Store}(hR:SR s)(k:Kin s s'):Kn s s':=⟨k.sr,k.len,k.lv,k.ad,λh hh=>by
 obtain⟨n,e⟩:=k.ob h (by have:=V0 hR hh;omega)
 exact⟨n,_,e⟩⟩
theorem Kn.inn{s s':store_Store}(k:Kn s s')(h:Int):inn s' h=inn s h:=by
 unfold Sh.inn
 rw[k.lv]
 congr 1
 refine List.map_congr_left λx hx=>?_
 obtain⟨n,m,e⟩:=k.ob x hx
 unfold Sh.outs
 rw[e]
structure HpS (x:Hp):Prop where
 sr:SR x.S
 hr:HR x.T
 r6:x.Roots.length=6
 c6:x.Cells.length=6
 cap:x.Q.Cap=30
 q30:x.Q.L.length≤30
 tk:∀t∈x.Q.L,0≤t.Prog∧t.Prog≤5∧((t.Kind=1∧t.At∈lv x.S∧(ob x.S t.At).Started=true)∨(t.Kind=2∧0≤t.At∧t.At≤5))
 td:x.Q.L.Pairwise λa b=>¬(a.Kind=b.Kind∧a.At=b.At)
 rt:∀h∈x.Roots,h=0∨h∈lv x.S
 fl:∀h∈lv x.S,∀v∈(ob x.S h).Fields,v=0∨v∈lv x.S
 pr:∀k v,Has x.T k v→k∈lv x.S∧v∈lv x.S
 cl:∀i (hi:i<x.Cells.length),-1≤x.Cells[i].Call∧x.Cells[i].Call≤5∧(x.Cells[i].Target=0→x.Cells[i].Intact=false)∧(x.Cells[i].Target≠0→∃p,AtD x.S x.Cells[i].Target p)∧(x.Cells[i].Intact=true→x.Cells[i].Target∈lv x.S∧wts x.Q i=false)
def Wk(x:Hp):Prop:=∀i,i<x.S.S.Cells.length→Th (ce x.S i)→(ce x.S i).Val.Weak=(nmg x.Cells (1+(i:Int)+32*(ce x.S i).Gen):Int)∧((ce x.S i).State=2→1≤(ce x.S i).Val.Weak∧(ce x.S i).Val.Fields = []∧(ce x.S i).Val.Strong=0)
def b4q(x:Hp)(L:List Int):Prop:=∀h∈lv x.S,(ob x.S h).Strong<12→(ob x.S h).Strong=((nms x h+X9 L h:Nat):Int)
structure HpR (x:Hp):Prop where
 sh:HpS x
 wk:Wk x
 fair:b4q x []
theorem HpS.of{x:Hp}(h:HpS x){s':store_Store}(hS:SR s')(hl:lv s'=lv x.S)(hd:∀k i,AtD x.S k i→AtD s' k i)(hst:∀k∈lv x.S,(ob x.S k).Started=true→(ob s' k).Started=true)(hfl:∀k∈lv x.S,∀v∈(ob s' k).Fields,v=0∨v∈lv x.S):HpS (wS x s'):=by
 refine⟨hS,h.hr,h.r6,h.c6,h.cap,h.q30,λt ht=>?_,h.td,λk hk=>?_,λk hk=>?_,λk v hkv=>?_,λi hi=>?_⟩
 ·obtain⟨a,b,c⟩:=h.tk t ht
  refine⟨a,b,?_⟩
  rcases c with ⟨c1,c2,c3⟩ | c
  ·exact .inl ⟨c1,by rw[hl];exact c2,hst _ c2 c3⟩
  ·exact .inr c
 ·dsimp only
  rw[hl]
  exact h.rt k hk
 ·dsimp only at hk ⊢
  rw[hl] at hk ⊢
  exact hfl k hk
 ·dsimp only
  rw[hl]
  exact h.pr k v hkv
 ·obtain⟨a,b,c,d,e⟩:=h.cl i hi
  refine⟨a,b,c,λq=>?_,λq=>?_⟩
  ·obtain⟨p,hp⟩:=d q
   exact⟨p,hd _ _ hp⟩
  ·dsimp only
   rw[hl]
   exact e q
theorem HpS.kn{x:Hp}(h:HpS x){s':store_Store}(k:Kn x.S s'):HpS (wS x s'):=by
 refine h.of k.sr k.lv (λj i q=>(k.ad j i).2 q) (λj hj q=>?_) (λj hj=>?_)
 ·obtain⟨n,m,e⟩:=k.ob j hj
  rw[e];exact q
 ·obtain⟨n,m,e⟩:=k.ob j hj
  rw[e];exact h.fl j hj
theorem HpS.kin{x:Hp}(h:HpS x){s':store_Store}(k:Kin x.S s'):HpS (wS x s'):=h.kn (k.kn h.sr)
theorem Wk.kin{x:Hp}(h:Wk x){s':store_Store}(k:Kin x.S s'):Wk (wS x s'):=by
 intro i hi ht
 dsimp only at hi ht ⊢
 rw[k.len] at hi
 obtain⟨a,b,c,d,e⟩:=k.ce i hi
 unfold Th at ht
 rw[a] at ht
 obtain⟨f,g⟩:=h i hi ht
 rw[a,b,c]
 refine⟨f,λq=>?_⟩
 have e':=e (by omega)
 rw[←c,e']
 exact g q
def a3e(c:Int):Int:=if 12≤c then 12 else if c<0 then 1 else c+1
def a6w(c:Int):Int:=if 12≤c then 12 else if c<1 then c else c-1
theorem a1R{c:Int}(h:0≤c):0≤a3e c:=by unfold a3e;split <;> (try split) <;> omega
theorem a0F{c:Int}(h:0≤c):0≤a6w c:=by unfold a6w;split <;> (try split) <;> omega
noncomputable def stO(x:Hp)(h:Int)(f:Int→Int):Hp:=if h∈lv x.S then wS x (seO x.S h (stg (ob x.S h) (f (ob x.S h).Strong))) else x
noncomputable def rtn(x:Hp)(h:Int):Hp:=stO x h a3e
noncomputable def X4(x:Hp)(h:Int):Hp:=stO x h a6w
theorem b3w(x:Hp)(h:Int)(f:Int→Int):stO x h f=wS x (stO x h f).S:=by
 unfold stO
 split <;> rfl
theorem c7C(x:Hp)(h:Int):rtn x h=wS x (rtn x h).S:=b3w x h a3e
theorem c7A(x:Hp)(h:Int):X4 x h=wS x (X4 x h).S:=b3w x h a6w
section
variable{x:Hp}(hR:SR x.S)(h:Int){f:Int→Int}(hf:∀c,0≤c→0≤f c)
include hR hf
theorem a1V:Kin x.S (stO x h f).S:=by
 unfold stO
 split
 ·rename_i q
  exact c4z hR q (hf _ (L7 hR q).st)
 ·exact Kin.refl hR
theorem b3x{k:Int}(hk:k∈lv x.S):(ob (stO x h f).S k).Strong=if k=h then f (ob x.S k).Strong else (ob x.S k).Strong:=by
 unfold stO
 split
 ·rename_i q
  dsimp only
  have ho:OkO x.S (stg (ob x.S h) (f (ob x.S h).Strong)):=by
   have:=L7 hR q
   exact⟨this.s1,this.s2,hf _ this.st,this.wk,this.p1,this.p2,this.fl⟩
  rw[a4i (o:=stg (ob x.S h) (f (ob x.S h).Strong)) hR q rfl ho (by have:=V0 hR hk;omega)]
  split
  ·rename_i e;subst e;rfl
  ·rfl
 ·rename_i q
  rw[if_neg]
  intro e
  subst e
  exact q hk
theorem c0m(k:Int):nms (stO x h f) k=nms x k:=by
 rw[b3w]
 unfold nms otr
 dsimp only
 rw[(a1V hR h hf).inn hR]
end
theorem HpS.st{x:Hp}(h:HpS x)(k:Int){f:Int→Int}(hf:∀c,0≤c→0≤f c):HpS (stO x k f):=by
 rw[b3w]
 exact h.kin (a1V h.sr k hf)
theorem Wk.st{x:Hp}(h:Wk x)(hR:SR x.S)(k:Int){f:Int→Int}(hf:∀c,0≤c→0≤f c):Wk (stO x k f):=by
 rw[b3w]
 exact h.kin (a1V hR k hf)
theorem a2N(h:Int):X9 [] h=0:=by unfold X9;split <;> rfl
theorem b0s(v:Int)(L:List Int)(h:Int):X9 (v::L) h=X9 L h+if v=h∧h≠0 then 1 else 0:=by
 unfold X9
 by_cases h0:h=0
 ·simp[h0]
 ·rw[if_neg h0,if_neg h0,List.count_cons]
  by_cases e:v=h
  ·simp[e,h0]
  ·simp[e]
theorem c3j{x:Hp}(hR:SR x.S){L:List Int}{v:Int}(hf:b4q x (v::L)):b4q (X4 x v) L:=by
 intro h hh hlt
 unfold X4 at hh hlt ⊢
 rw[(a1V hR v λc=>a0F).lv] at hh
 rw[b3x hR v (λc=>a0F) hh] at hlt ⊢
 rw[c0m hR v λc=>a0F]
 have h0:h≠0:=λe=>b0S hR (e▸hh)
 have hp:=(L7 hR hh).st
 by_cases e:h=v
 ·subst e
  rw[if_pos rfl] at hlt ⊢
  have:=hf h hh (by unfold a6w at hlt;split at hlt <;> omega)
  rw[b0s,if_pos ⟨rfl,h0⟩] at this
  unfold a6w at hlt ⊢
  split at hlt
  ·omega
  ·rename_i q
   rw[if_neg q,if_neg (by omega)]
   omega
 ·rw[if_neg e] at hlt ⊢
  have:=hf h hh hlt
  rw[b0s,if_neg (λq=>e q.1.symm)] at this
  exact this
end Go.Sh
namespace Go.Sh
theorem c0n{α:Type}:∀ {l:List α} (hn:l.Nodup) {a:α} (ha:a∈l) (f g:α→Nat) (h:∀x∈l,x≠a→f x=g x),(l.map g).sum+f a=(l.map f).sum+g a
 | [],_,_,ha,_,_,_=>by cases ha
 | b::l,hn,a,ha,f,g,h=>by
  rw[List.nodup_cons] at hn
  rw[List.map_cons,List.map_cons,List.sum_cons,List.sum_cons]
  rcases List.mem_cons.1 ha with e | e
  ·subst e
   have:l.map g=l.map f:=List.map_congr_left λx hx=>(h x (List.mem_cons_of_mem _ hx) λe=>hn.1 (e▸hx)).symm
   rw[this]
   omega
  ·have:=c0n hn.2 e f g λx hx=>h x (List.mem_cons_of_mem _ hx)
   have:=h b (List.mem_cons_self ..) λq=>hn.1 (q▸e)
   omega
theorem c4v{s:store_Store}(hR:SR s){h:Int}(hh:h∈lv s){o:store_Obj}(hs:o.Serial=(ob s h).Serial)(ho:OkO s o)(y:Int):inn (seO s h o) y+X9 (ob s h).Fields y=inn s y+X9 o.Fields y:=by
 have hle:=V0 hR hh
 have:=c0n (a3g (p6.2 hR)) hh (λx=>X9 (outs s x) y) (λx=>X9 (outs (seO s h o) x) y) λx hx hne=>by
  have:=V0 hR hx
  unfold outs
  rw[a4i hR hh hs ho (by omega),if_neg hne]
 have e:X9 (outs (seO s h o) h) y=X9 o.Fields y:=by
  unfold outs
  rw[a4i hR hh hs ho (by omega),if_pos rfl,c3E]
 have e2:X9 (outs s h) y=X9 (ob s h).Fields y:=c3E _ _
 rw[e,e2] at this
 unfold inn
 rw[a7m hR hh hs ho]
 exact this
end Go.Sh
namespace Go.Sh
instance(s:store_Store)(h:Int)(i:Nat):Decidable (AtD s h i):=by unfold AtD;infer_instance
abbrev wkg(o:store_Obj)(n:Int):store_Obj:=⟨o.Serial,o.Strong,n,o.Prog,o.Started,o.Fields⟩
def mkA(s:store_Store)(i:Nat)(d:Int):store_Store:=a0V s i (wkg (ce s i).Val ((ce s i).Val.Weak+d))
def gvA(s:store_Store)(i:Nat):store_Store:=G3 s i (if (ce s i).Gen=s.S.Last then ⟨3,(ce s i).Gen,z0⟩ else ⟨0,(ce s i).Gen+1,z0⟩)
section
variable{s:store_Store}(hR:SR s){i:Nat}(hi:i<s.S.Cells.length)(ht:Th (ce s i))
include hR hi ht
end
def mkd(x:Hp)(h:Int)(d:Int):Hp:=if AtD x.S h (Z0 h) then wS x (mkA x.S (Z0 h) d) else x
theorem c4M{l:List weak_Cell}{i:Nat}(hi:i<l.length)(h0:l[i].Target≠0):0<nmg l l[i].Target:=List.countP_pos_iff.2 ⟨l[i],List.getElem_mem hi,by simp[h0]⟩
end Go.Sh
namespace Go.Sh
def wcR(c:weak_Cell):k9:=⟨c.Target,c.Intact,c.Call⟩
def hO(x:Hp):c5:=⟨sO x.S,x.Roots,x.Cells.map wcR,x.T.map L6,tqR x.Q⟩
structure HB (x:Hp):Prop where
 sb:SB x.S
 fb:FB x.S
 rb:LB x.Roots
 cb:∀c∈x.Cells,c.Target≤9223372036854775807
 tb:TB x.T
 qb:∀t∈x.Q.L,t.At≤9223372036854775807
theorem c2D{β:Type}{b:Nat}{f:Int × List β→Option ((Int × List β) ⊕ List β)}(n:Nat)(g:Nat→β)(hb:0<b)(h:n*b≤140737488355328)
  (hs:∀(k:Nat) acc,k<n→f ((k:Int),acc)=(app b acc [g k]).bind λv=>some (.inl (s7 ((k:Int)+1),v)))(he:∀acc,f ((n:Int),acc)=some (.inr acc)):lp f (0,[])=some ((List.range n).map g):=by
 have hl:n*1≤n*b:=Nat.mul_le_mul_left _ hb
 refine a3W (a0m n (λk l=>l=(List.range k).map g) (λe=>e=(List.range n).map g) (by omega) (by simp) ?_ ?_)
 ·rintro k l hk rfl
  have h3:(k+1)*b≤n*b:=Nat.mul_le_mul_right _ hk
  refine .inl ⟨(List.range (k+1)).map g,?_,rfl⟩
  rw[hs k _ hk,u7 hb (by simp;omega),d0Y,c8,List.range_succ,List.map_append]
  rfl
 ·rintro l rfl
  exact⟨_,he _,rfl⟩
theorem b6N{R:Type}{f:Int→Option (Int ⊕ (Bool ⊕ Unit))}{κ:Bool ⊕ Unit→Option R}{Q:R→Prop}(n:Nat)(p:Nat→Prop)(hn:n<4611686018427387904)
  (hs:∀k:Nat,k<n→∃z,f (k:Int)=some z∧((p k∧z = .inl ((k+1:Nat):Int))∨(¬p k∧z = .inr (.inl false))))(he:f (n:Int)=some (.inr (.inr ())))
  (h1:(∀k,k<n→p k)→∃r,κ (.inr ())=some r∧Q r)(h0:(¬∀k,k<n→p k)→∃r,κ (.inl false)=some r∧Q r):∃r,(lp f 0).bind κ=some r∧Q r:=by
 obtain⟨e,e1,e2⟩:=b7g (f:=f) n (λk=>∀j,j<k→p j) (λe=>(e = .inr ()∧∀k,k<n→p k)∨(e = .inl false∧¬∀k,k<n→p k)) hn (λj hj=>by omega) (λk hk hP=>by
  obtain⟨z,z1,z2⟩:=hs k hk
  rcases z2 with ⟨a,rfl⟩ | ⟨a,rfl⟩
  ·refine .inl ⟨z1,λj hj=>?_⟩
   rcases Nat.lt_or_ge j k with q | q
   ·exact hP j q
   ·have:j=k:=by omega
    subst this;exact a
  ·exact .inr ⟨_,z1,.inr ⟨rfl,λq=>a (q k hk)⟩⟩) (λhP=>⟨_,he,.inl ⟨rfl,hP⟩⟩)
 rw[e1]
 rcases e2 with ⟨rfl,h⟩ | ⟨rfl,h⟩
 ·exact h1 h
 ·exact h0 h
theorem c3u{s:store_Store}(hR:SR s){h:Int}(hh:h∈lv s):seO s h (ob s h)=s:=by
 have q:=A9 hR hh
 unfold seO a0V
 rw[a1d hR q]
 have e:s.S.Cells.set (Z0 h) ⟨(ce s (Z0 h)).State,(ce s (Z0 h)).Gen,(ce s (Z0 h)).Val⟩=s.S.Cells:=by
  rw[show (⟨(ce s (Z0 h)).State,(ce s (Z0 h)).Gen,(ce s (Z0 h)).Val⟩:slab_Cell_store_Obj)=ce s (Z0 h) from rfl,G9 q.1]
  exact List.set_getElem_self q.1
 rw[e]
section
variable{x:Hp}(hR:SR x.S)
include hR
theorem a9G{h:Int}(hh:h≤9223372036854775807):U8 x h=some (decide (h∈lv x.S)):=by
 unfold U8
 obtain⟨e,h1,h2⟩:=Q8 (p6.2 hR) hh
 rw[h1,d0Y]
 congr 1
 rw[Bool.eq_iff_iff,beq_iff_eq,decide_eq_true_iff,h2]
theorem a7F{h:Int}(hh:h≤9223372036854775807):W8 (hO x) h=some (decide (h∈lv x.S)):=by
 unfold W8
 obtain⟨e,h1,h2⟩:=Q8 (p6.2 hR) hh
 rw[show (hO x).S=sO x.S from rfl,a6H x.S (by have:=hR.len;omega) hh,h1,Option.map_some,d0Y]
 congr 1
 rw[Bool.eq_iff_iff,beq_iff_eq,decide_eq_true_iff,h2]
theorem b8O{h:Int}(hh:h≤9223372036854775807):F2 x h=some (decide (h=0∨h∈lv x.S)):=by
 unfold F2
 by_cases q:h=0
 ·subst q
  simp[l4]
 ·have e:(h==0)=false:=by simpa using q
  rw[e]
  simp only[beq_self_eq_true,D1,Bool.false_or]
  rw[a9G hR hh,d0Y]
  simp[q]
theorem b9S{h:Int}(hh:h≤9223372036854775807):a2V (hO x) h=some (decide (h=0∨h∈lv x.S)):=by
 unfold a2V
 by_cases q:h=0
 ·subst q
  simp[l4]
 ·have e:(h==0)=false:=by simpa using q
  rw[e]
  simp only[beq_self_eq_true,D1,Bool.false_or]
  rw[a7F hR hh,d0Y]
  simp[q]
theorem c6Q{c:Int}(hc:c≤9223372036854775807):a7y c=some (a3e c):=by
 unfold a7y a20 C9 a3e
 simp only[d0Y]
 by_cases q:12≤c
 ·rw[if_pos (by simpa using q),if_pos q,d0Y]
 ·rw[if_neg (by simpa using q),if_neg q,d0Y]
  by_cases q2:c<0
  ·rw[if_pos (show 0 > c from q2),if_pos q2]
   rfl
  ·rw[if_neg (show ¬0 > c from q2),if_neg q2,G7 (by omega) (by omega)]
theorem b7a{c:Int}(hc:c≤9223372036854775807):a9U c=some (a3e c):=by
 unfold a9U P6 a3e
 simp only[d0Y]
 by_cases q:12≤c
 ·rw[if_pos (by simpa using q),if_pos q]
 ·rw[if_neg (by simpa using q),if_neg q]
  by_cases q2:c<0
  ·rw[if_pos (by simpa using q2),if_pos q2]
  ·rw[if_neg (by simpa using q2),if_neg q2,G7 (by omega) (by omega)]
omit hR in
theorem c3b {s:store_Store} (hR:SR s) {h:Int} (hh:h∈lv s) {n:Int} (hn:0≤n):J3 s h (stg (ob s h) n)=some (seO s h (stg (ob s h) n),0):=by
 have:=L7 hR hh
 exact b2h (o:=stg (ob s h) n) hR hh rfl ⟨this.s1,this.s2,hn,this.wk,this.p1,this.p2,this.fl⟩
omit hR in
theorem b2i {s:store_Store} (hR:SR s) {h:Int} (hh:h∈lv s) {o:store_Obj} (hs:o.Serial=(ob s h).Serial) (ho:OkO s o):a0c (sO s) h (oo o)=some (sO (seO s h o),0):=by
 have:=V0 hR hh
 rw[c8W s hR.len (by omega) o,b2h hR hh hs ho]
 rfl
theorem c1e{h:Int}(hh:h≤9223372036854775807)(hB:∀k∈lv x.S,(ob x.S k).Strong≤9223372036854775807):U6 x h=some (rtn x h):=by
 unfold U6 P2 rtn stO
 obtain⟨e,h1,h2⟩:=Q8 (p6.2 hR) hh
 rw[h1,d0Y]
 by_cases q:h∈lv x.S
 ·have e0:=h2.2 q
  subst e0
  rw[if_pos q,c6Q hR (hB h q)]
  simp only[beq_self_eq_true,if_true,d0Y]
  have:=c3b hR q (a1R (L7 hR q).st)
  rw[this]
  rfl
 ·have:(e==0)=false:=by simpa using λc=>q (h2.1 c)
  rw[this,if_neg q]
  rfl
theorem c3e{h:Int}(hh:h≤9223372036854775807)(hB:∀k∈lv x.S,(ob x.S k).Strong≤9223372036854775807):a3n (hO x) h=some (hO (rtn x h)):=by
 unfold a3n a3o rtn stO
 obtain⟨e,h1,h2⟩:=Q8 (p6.2 hR) hh
 have hg:E2 (hO x).S h=some (oo (ob x.S h),e):=by
  rw[show (hO x).S=sO x.S from rfl,a6H x.S (by have:=hR.len;omega) hh,h1]
  rfl
 rw[hg,d0Y]
 by_cases q:h∈lv x.S
 ·have e0:=h2.2 q
  subst e0
  have hs:a9U (oo (ob x.S h),(0:Int)).1.Strong=some (a3e (ob x.S h).Strong):=b7a hR (hB h q)
  rw[if_pos q,hs,d0Y]
  simp only[d0Y,bne_self_eq_false,Bool.false_eq_true,if_false]
  have ok:=L7 hR q
  have:=b2i (o:=stg (ob x.S h) (a3e (ob x.S h).Strong)) hR q rfl ⟨ok.s1,ok.s2,a1R ok.st,ok.wk,ok.p1,ok.p2,ok.fl⟩
  rw[show a0c (hO x).S h ⟨(oo (ob x.S h)).Serial,a3e (ob x.S h).Strong,(oo (ob x.S h)).Weak,(oo (ob x.S h)).Prog,(oo (ob x.S h)).Started,(oo (ob x.S h)).Fields⟩=_ from this]
  rfl
 ·have he:(e != 0)=true:=by simpa using λc=>q (h2.1 c)
  have hb:(oo (ob x.S h)).Strong≤9223372036854775807:=by
   rw[b22 (p6.2 hR) hh q];decide
  rw[b7a hR hb,d0Y,d0Y]
  simp only[he,if_true]
  rw[if_neg q]
  rfl
omit hR in
theorem c6o (c:Int) (h1 : -1000000≤c):a0K c=some (a6w c):=by
 unfold a0K b0F a1m C9 a6w
 simp only[d0Y]
 by_cases q:12≤c
 ·rw[if_pos (by simpa using q),if_pos q]
  rfl
 ·rw[if_neg (by simpa using q),if_neg q]
  by_cases q2:c<1
  ·rw[if_pos (by simpa using q2),if_pos q2]
   rfl
  ·rw[if_neg (by simpa using q2),if_neg q2,G7 (by omega) (by omega)]
   rfl
theorem b87{h:Int}(hh:h≤9223372036854775807):H9 x h=some (X4 x h):=by
 unfold H9 J5 X4 stO
 obtain⟨e,h1,h2⟩:=Q8 (p6.2 hR) hh
 rw[h1,d0Y]
 by_cases q:h∈lv x.S
 ·have e0:=h2.2 q
  subst e0
  have ok:=L7 hR q
  rw[if_pos q,c6o _ (by have:=ok.st;dsimp only;omega)]
  simp only[beq_self_eq_true,if_true,d0Y]
  have:=c3b hR q (a0F ok.st)
  rw[this]
  rfl
 ·have:(e==0)=false:=by simpa using λc=>q (h2.1 c)
  rw[this,if_neg q]
  rfl
theorem c1d{h:Int}(hh:h≤9223372036854775807):V3 (hO x) h=some (hO (X4 x h)):=by
 unfold V3 a3o X4 stO
 obtain⟨e,h1,h2⟩:=Q8 (p6.2 hR) hh
 have hg:E2 (hO x).S h=some (oo (ob x.S h),e):=by
  rw[show (hO x).S=sO x.S from rfl,a6H x.S (by have:=hR.len;omega) hh,h1]
  rfl
 rw[hg,d0Y]
 by_cases q:h∈lv x.S
 ·have e0:=h2.2 q
  subst e0
  have ok:=L7 hR q
  have put:∀n,0≤n→a0c (hO x).S h ⟨(oo (ob x.S h)).Serial,n,(oo (ob x.S h)).Weak,(oo (ob x.S h)).Prog,(oo (ob x.S h)).Started,(oo (ob x.S h)).Fields⟩=some (sO (seO x.S h (stg (ob x.S h) n)),0):=λn hn=>
   b2i (o:=stg (ob x.S h) n) hR q rfl ⟨ok.s1,ok.s2,hn,ok.wk,ok.p1,ok.p2,ok.fl⟩
  have hs:(oo (ob x.S h)).Strong=(ob x.S h).Strong:=rfl
  rw[if_pos q]
  unfold b2e P6 a6w
  simp only[d0Y,hs]
  by_cases q1:12≤(ob x.S h).Strong
  ·rw[if_pos (by simpa using q1),if_pos q1]
   simp only[d0Y,bne_self_eq_false,Bool.false_eq_true,if_false]
   rw[put 12 (by decide)]
   rfl
  ·rw[if_neg (by simpa using q1),if_neg q1]
   by_cases q2:(ob x.S h).Strong<1
   ·rw[if_pos (by simpa using q2),if_pos q2]
    simp only[d0Y,show ((11:Int) != 0)=true from rfl,if_true]
    rw[show stg (ob x.S h) (ob x.S h).Strong=ob x.S h from rfl,c3u hR q]
   ·rw[if_neg (by simpa using q2),if_neg q2,G7 (by omega) (by have:=ok.st;omega)]
    simp only[d0Y,bne_self_eq_false,Bool.false_eq_true,if_false]
    rw[put _ (by omega)]
    rfl
 ·have he:(e != 0)=true:=by simpa using λc=>q (h2.1 c)
  rw[if_neg q,b22 (p6.2 hR) hh q]
  unfold b2e P6
  simp only[d0Y]
  rfl
end
theorem c1u{x:Hp}(hR:SR x.S)(hB:SB x.S):∀k∈lv x.S,(ob x.S k).Strong≤9223372036854775807:=λk hk=>(b1g (p6.2 hR) hB hk).2
end Go.Sh
namespace Go.Sh
section
variable{x:Hp}(hx:HpR x)(hS:∀k∈lv x.S,(ob x.S k).Strong≤9223372036854775807)
include hx hS
end
theorem c4n{s:store_Store}(hR:SR s){h:Int}{i:Nat}(q:AtD s h i):J8 s.S h=some ((gvA s i).S,0):=by
 have hi:=q.1
 have hc:=hR.cell i hi
 have l9:=hR.l9
 unfold J8 gvA
 rw[a7x hR q,d0Y,if_neg (by simp),b9K hi,d0Y]
 by_cases g:(ce s i).Gen=s.S.Last
 ·rw[if_pos (by simpa using g),if_pos g,a75 rfl hi hR.len]
  rfl
 ·rw[if_neg (by simpa using g),if_neg g,a75 rfl hi hR.len,G7 (by omega) (by omega)]
  rfl
theorem c8k{s:store_Store}{i:Nat}(hi:i<s.S.Cells.length):ix (sO s).Cells (i:Int)=some (cO (ce s i)):=by
 rw[c0j,b9K hi]
 rfl
theorem c0k(s:store_Store)(i:Nat)(c:slab_Cell_store_Obj):sO (G3 s i c)=⟨(sO s).Cells.set i (cO c),s.S.Last,s.Serial⟩:=by
 unfold sO G3
 rw[List.map_set]
theorem b75(t:c9)(p:z7)(hl:t.Cells.length≤1000)(hp:p.Cells.length=t.Cells.length):a1x t p=some ⟨(List.range t.Cells.length).map λk=>⟨(p.Cells.getD k ⟨0,0,0⟩).State,(p.Cells.getD k ⟨0,0,0⟩).Gen,(t.Cells.getD k ⟨0,0,oo z0⟩).Val⟩,t.Last,t.Serial⟩:=by
 unfold a1x
 simp only[jn]
 rw[c2D (b:=80) t.Cells.length (λk=>⟨(p.Cells.getD k ⟨0,0,0⟩).State,(p.Cells.getD k ⟨0,0,0⟩).Gen,(t.Cells.getD k ⟨0,0,oo z0⟩).Val⟩) (by omega) (by omega) (λk acc hk=>?_) (λacc=>by simp)]
 ·rfl
 ·have hk2:k<p.Cells.length:=by omega
  simp only[Int.ofNat_lt,hk,decide_true,if_true,l5 hk,l5 hk2,d0Y]
  rw[List.getD_eq_getElem?_getD,List.getElem?_eq_getElem hk2,List.getD_eq_getElem?_getD,List.getElem?_eq_getElem hk]
  rfl
theorem c6I{s:store_Store}(hR:SR s){h:Int}{i:Nat}(q:AtD s h i):a9W (sO s) h=some (sO (gvA s i)):=by
 have hi:=q.1
 have hc:=hR.cell i hi
 have l9:=hR.l9
 have hlen:=hR.len
 have hr:=q.rng hR
 have hH:Hnd h:=((a8R hR).2 q).2.1
 have hsl:(h-1) % 32=i:=((a8R hR).2 q).2.2.1
 have L6:i<(pl (sO s)).Cells.length:=by rw[a5z,C4];exact hi
 have key:∀st g,(st:Int)=st→a1x (sO s) ⟨(pl (sO s)).Cells.set i ⟨st,g,0⟩,(pl (sO s)).Last⟩=some ⟨(sO s).Cells.set i ⟨st,g,oo (ce s i).Val⟩,s.S.Last,s.Serial⟩:=λst g _=>by
  rw[b75 _ _ (by rw[C4];omega) (by simp[a5z])]
  congr 1
  congr 1
  refine List.ext_getElem (by simp) λk h1 h2=>?_
  have hk:k<s.S.Cells.length:=by simpa[C4] using h1
  have hk2:k<(sO s).Cells.length:=by rw[C4];exact hk
  have hk3:k<(pl (sO s)).Cells.length:=by rw[a5z];exact hk2
  simp only[List.getElem_map,List.getElem_range,List.getElem_set]
  have e1:(sO s).Cells.getD k ⟨0,0,oo z0⟩=cO (ce s k):=by
   rw[List.getD_eq_getElem?_getD,List.getElem?_eq_getElem hk2,G9 hk]
   simp[sO]
  have e2:((pl (sO s)).Cells.set i ⟨st,g,0⟩).getD k ⟨0,0,0⟩=if k=i then ⟨st,g,0⟩ else plc k (cO (ce s k)):=by
   rw[a9u L6]
   split
   ·rfl
   ·rw[List.getD_eq_getElem?_getD,List.getElem?_eq_getElem hk3,G9 hk]
    simp[pl,sO]
  rw[e1,e2]
  by_cases e:k=i
  ·subst e
   rw[if_pos rfl,if_pos rfl]
   rfl
  ·rw[if_neg e,if_neg (Ne.symm e)]
   rw[G9 hk]
   simp[sO,plc,cO]
 have fin:∀st g,(a3m ⟨(sO s).Cells.set i ⟨st,g,oo (ce s i).Val⟩,s.S.Last,s.Serial⟩ (i:Int) ⟨0,0,0,0,false,[]⟩)=some (sO (G3 s i ⟨st,g,z0⟩)):=λst g=>by
  unfold a3m
  have hi2:i<((sO s).Cells.set i ⟨st,g,oo (ce s i).Val⟩).length:=by simp[C4];exact hi
  rw[T5 (by omega) (by simp[C4];omega),d0Y,l5 hi2,d0Y,c0k]
  simp[cO,oo,List.set_set]
 unfold a9W b3b gvA
 rw[a5A _ (by rw[C4];omega),d0Y,b0M s (by omega),a7x hR q,d0Y,if_neg (by simp)]
 rw[b7s (by rw[C4];exact hi),d0Y]
 have hgen:(plc i ((sO s).Cells[i]'(by rw[C4];exact hi))).Gen=(ce s i).Gen:=by
  rw[G9 hi]
  simp[plc,sO,cO]
 have hlast:(pl (sO s)).Last=s.S.Last:=rfl
 have w3:∀c:r8,a0Y (pl (sO s)) (i:Int) c=some ⟨(pl (sO s)).Cells.set i c,(pl (sO s)).Last⟩:=λc=>by
  unfold a0Y
  rw[T5 (by omega) (by rw[a5z,C4];omega),d0Y,l5 L6,d0Y,Int.toNat_natCast]
 rw[hgen,hlast,b1s,if_pos hH,hsl]
 by_cases g:(ce s i).Gen=s.S.Last
 ·rw[if_pos (by simp[g]),if_pos g,w3,d0Y,d0Y,if_neg (by simp),key _ _ rfl,d0Y,d0Y,fin]
  rfl
 ·rw[if_neg (by simp;omega),if_neg g,w3,d0Y,d0Y,if_neg (by simp),key _ _ rfl,d0Y,d0Y,G7 (by omega) (by omega),fin]
  rfl
section
variable{x:Hp}(hR:SR x.S)
include hR
end
theorem c60(l:List weak_Cell)(h:Int):nmg l h≤l.length:=List.countP_le_length
end Go.Sh
namespace Go.Sh
section
variable{x:Hp}(hx:HpR x)(hS:∀k∈lv x.S,(ob x.S k).Strong≤9223372036854775807)
include hx hS
end
end Go.Sh
