/- A part. -/
import Derived.Test.YtjlokngooekbcaaGreatESh
import Derived.Test.YtjlokngooekbcaaGreatESh1
set_option linter.unusedVariables false
set_option linter.unusedSimpArgs false
set_option linter.unusedSectionVars false
namespace Go.Sh
def qT(h:Int):Prop:=1<=h/\(h-1) % 32<24/\(h-1) / 32<=9
instance(h:Int):Decidable (qT h):=by unfold qT;infer_instance
theorem yR{h:Int}(q:qT h):1<=h/\h<=320:=by unfold qT at q;omega
theorem oI{i g:Int}(h1:0<=i)(h2:i<24)(h3:0<=g)(h4:g<=9):cQ i g=some (1+i+32*g):=by
 unfold cQ;rw[za (by simp;omega)];rw[show A1 (i*1)=i by rw[gJ];omega,show A1 (1+i)=1+i by rw[gJ];omega,show A1 (g*32)=32*g by rw[gJ];omega,show A1 (1+i+32*g)=1+i+32*g by rw[gJ];omega]
theorem jG{i g:Int}:fM i g=some (if 0<=i/\i<24/\0<=g/\g<=9 then 1+i+32*g else 0):=by
 unfold fM;split;·rename_i h;rw[za (by simp at h;omega)]
 .rename_i h;have h:0<=i/\i<24/\0<=g/\g<=9:=by simp at h;omega
  rw[zb h];rw[show A1 (1+i)=1+i by rw[gJ];omega,show A1 (32*g)=32*g by rw[gJ];omega,show A1 (1+i+32*g)=1+i+32*g by rw[gJ];omega]
theorem nK{h:Int}(hh:h<=9223372036854775807):dx h=some (if qT h then ((h-1) % 32,(h-1) / 32,true) else (-1,-1,false)):=by
 unfold dx;split
 .rename_i q;rw[za (by unfold qT;simp at q;omega)]
 .rename_i q;have q:1<=h:=by simpa using q
  rw[G4 (n:=h-1),uA (by omega) (by omega),a1b,xN (by omega) (by omega) (by omega),a1b,xN (by omega) (by omega) (by omega),a1b,Int.ediv_one];split
  .rename_i q2;rw[za (by unfold qT;simp at q2;omega)]
  .rename_i q2;rw[zb (by unfold qT;simp at q2;omega)]
theorem iy{h:Int}(hh:h<=9223372036854775807):fF h=some (if qT h then (h-1) % 32 else -1):=by
 unfold fF;rw[nK hh,a1b];split <;> rfl
theorem kl{h:Int}(hh:h<=9223372036854775807):iw h=some (if qT h then (h-1) / 32 else -1):=by
 unfold iw;rw[nK hh,a1b];split <;> rfl
theorem tP{h:Int}:lk h=some (decide (qT h)):=by
 unfold lk;split
 .rename_i q;rw[zA (by unfold qT;simp at q;omega)]
 .rename_i q;have q:1<=h/\h<=400:=by simp at q;omega
  rw[G4 (n:=h-1),uA (by omega) (by omega),a1b,xN (by omega) (by omega) (by omega),a1b,jG,a1b];congr 1;by_cases k:qT h
  .rw[zp k,zb (by unfold qT at k;omega)];simp;omega
  .rw[zA k,za (by unfold qT at k;omega)];simp;omega
theorem oV{h:Int}:lj h=some (if qT h then (h-1) % 32 else -1):=by
 unfold lj;rw[tP,a1b];by_cases k:qT h
 .have:=yR k;rw[zp k,za (by simp),zb k,G4 (n:=h-1),uA (by omega) (by omega),a1b]
 .rw[zA k,zb (by simp),za k]
theorem JR{h:Int}:xO h=some (if qT h then (h-1) / 32 else -1):=by
 unfold xO;rw[tP,a1b];by_cases k:qT h
 .have:=yR k;rw[zp k,za (by simp),zb k,G4 (n:=h-1),xN (by omega) (by omega) (by omega),a1b]
 .rw[zA k,zb (by simp),za k]
theorem CW(a b:List Int)(ha:a.length<4611686018427387904):dK a b=some (decide (a=b)):=by
 unfold dK;by_cases hl:a.length=b.length
 .rw[za (by simp[hl])];simp only[jn];refine N6 a.length (λk=>∀j (h1:j<a.length) (h2:j<b.length),j<k->a[j]=b[j]) ha (λ_ _ _ h=>by omega) (λk hk hP=>?_) (λhP=>?_)
  .have hk2:k<b.length:=by omega
   simp only[zo,hk,zt,zD,r8 hk,r8 hk2,a1b];by_cases e:a[k]=b[k]
   .refine .inl ⟨?_,λj h1 h2 hj=>?_⟩;·rw[za (by simpa using e),l6]
    .rcases zy j k with q | q
     .exact hP j h1 h2 q
     .have:j=k:=by omega
      subst this;exact e
   .refine .inr ⟨.inl false,by rw[zb (by simpa using e)],?_⟩;simp only;rw[zA (λq=>e (by subst q;rfl))]
  .refine⟨.inr (),by simp,?_⟩;simp only;rw[zp (zbc hl λi h1 h2=>hP i h1 h2 h1)]
 .rw[zb (by rw[za8];omega)];rw[zA (λq=>hl (by rw[q]))]
abbrev z0:n7:=⟨0,0,0,0,false,[]⟩
structure SlO (s:g6):Prop where
 len:s.Cells.length<=24
 l0:0<=s.Last
 l9:s.Last<=9
 cell:∀i (h:i<s.Cells.length),0<=s.Cells[i].State/\s.Cells[i].State<=3/\0<=s.Cells[i].Gen/\s.Cells[i].Gen<=s.Last
theorem lX{s:g6}{i:Int}{k:Nat}{c:c4}(hi:i=k)(hk:k<s.Cells.length)(hl:s.Cells.length<=24):E3 s i c=some ⟨s.Cells.set k c,s.Last⟩:=by
 subst hi;unfold E3 A8;rw[O4 (by omega) (by omega),a1b,r8 hk,a1b,zV]
theorem FI{s:g6}(hR:SlO s)(v:n7) :
  (∃i,∃h:i<s.Cells.length,s.Cells[i].State=0/\(∀j (hj:j<i),s.Cells[j].State≠0)/\K7 s v=some (⟨s.Cells.set i ⟨1,s.Cells[i].Gen,v⟩,s.Last⟩,1+i+32*s.Cells[i].Gen,0)) \/
  ((∀i (h:i<s.Cells.length),s.Cells[i].State≠0)/\K7 s v=some (s,0,4)):=by
 have hlen:=hR.len;by_cases q:∃i,∃h:i<s.Cells.length,s.Cells[i].State=0
 .obtain⟨i,⟨hi,h0⟩,hmin⟩:=Y3 (p:=λi=>∃h:i<s.Cells.length,s.Cells[i].State=0) q;left;refine⟨i,hi,h0,λj hj=>λe=>by have:=hmin j ⟨by omega,e⟩;omega,?_⟩;unfold K7;simp only[jn,P8,a1b];have hc:=hR.cell i hi;refine N6 s.Cells.length (λk=>k<=i) (by omega) (by omega) (λk hk hP=>?_) (λhP=>by omega);rcases zy k i with g | g
  .refine .inl ⟨?_,g⟩;have:s.Cells[k].State≠0:=λe=>by have:=hmin k ⟨hk,e⟩;omega
   simp only[zo,hk,zt,zD,r8 hk,a1b];rw[za (by simpa using this),l6]
  .have:k=i:=by omega
   subst this;refine .inr ⟨.inl _,?_,rfl⟩;simp only[zo,hk,zt,zD,r8 hk,a1b,h0,lX rfl hk hlen];rw[oI (by omega) (by omega) hc.2.2.1 (by have:=hR.l9;omega)];simp
 .right;refine⟨λi h e=>q ⟨i,h,e⟩,?_⟩;unfold K7;simp only[jn,P8,a1b];refine N6 s.Cells.length (λk=>True) (by omega) trivial (λk hk _=>?_) (λhP=>⟨.inr (),by simp,rfl⟩);refine .inl ⟨?_,trivial⟩;have:s.Cells[k].State≠0:=λe=>q ⟨k,hk,e⟩;simp only[zo,hk,zt,zD,r8 hk,a1b];rw[za (by simpa using this),l6]
def va(s:g6)(h:Int)(i:Nat):Prop:=∃hi:i<s.Cells.length,qT h/\(h-1) % 32=i/\s.Cells[i].Gen=(h-1) / 32/\(s.Cells[i].State=1\/s.Cells[i].State=2)
theorem dv(s:g6){h:Int}(hh:h<=9223372036854775807) :
  (∃i,va s h i/\y8 s h=some ((i:Int),0))\/((∀i,¬va s h i)/\y8 s h=some (-1,if h=0 then 2 else 3)):=by
 unfold y8;by_cases h0:h=0
 .right;subst h0;exact⟨λi ⟨_,h1,_⟩=>by unfold qT at h1;omega,by simp⟩
 .rw[za (by simpa using h0),iy hh,a1b,za h0];by_cases hd:qT h
  .rw[zb hd];have hd':=hd;unfold qT at hd';obtain⟨k,hk⟩:∃k:Nat,(h-1) % 32=k:=⟨((h-1) % 32).toNat,by omega⟩;rw[hk];by_cases hl:k<s.Cells.length
   .rw[za (by simp;omega),r8 hl,a1b,kl hh,a1b,zb hd];by_cases g:s.Cells[k].Gen=(h-1) / 32/\(s.Cells[k].State=1\/s.Cells[k].State=2)
    .left;refine⟨k,⟨hl,hd,hk,g⟩,?_⟩;rw[za];simp;omega
    .right;refine⟨λi ⟨hi,_,h2,h3⟩=>?_,?_⟩
     .have:i=k:=by omega
      subst this;exact g h3
     .rw[zb];simp;omega
   .right;refine⟨λi ⟨hi,_,h2,h3⟩=>by omega,?_⟩;rw[zb (by simp;omega)]
  .right;refine⟨λi ⟨hi,h1,_⟩=>hd h1,?_⟩;rw[za hd,zb (by simp)]
theorem pS{s:g6}{h:Int}{i:Nat}(hf:va s h i):y8 s h=some ((i:Int),0):=by
 have hh:=yR hf.2.1;rcases dv s (h:=h) (by omega) with ⟨j,h1,h2⟩ | ⟨h1,_⟩
 .obtain⟨_,_,e1,_⟩:=hf;obtain⟨_,_,e2,_⟩:=h1;have:i=j:=by omega
  subst this;exact h2
 .exact absurd hf (h1 i)
theorem vu{s:g6}{h:Int}(hh:h<=9223372036854775807)(hf:∀i,¬va s h i):y8 s h=some (-1,if h=0 then 2 else 3):=by
 rcases dv s hh with ⟨j,h1,_⟩ | ⟨_,h2⟩;·exact absurd h1 (hf j)
 .exact h2
theorem dt(h:Int):(if h=0 then 2 else 3:Int)≠0:=by split <;> omega
theorem GK{s:g6}{h:Int}{i:Nat}(hf:va s h i):∃hi:i<s.Cells.length,F0 s h=some (if s.Cells[i].State=2 then (z0,3) else (s.Cells[i].Val,0)):=by
 refine⟨hf.1,?_⟩;unfold F0;rw[pS hf,a1b,za (by simp),r8 hf.1,a1b];split <;> rename_i q
 .rw[zb (by simpa using q)]
 .rw[za (by simpa using q)]
theorem PB{s:g6}{h:Int}(hh:h<=9223372036854775807)(hf:∀i,¬va s h i):F0 s h=some (z0,if h=0 then 2 else 3):=by
 unfold F0;rw[vu hh hf,a1b,zb (by simpa using dt h)]
theorem Ii{s:g6}{h:Int}{v:n7}{i:Nat}(hl:s.Cells.length<=24)(hf:va s h i):∃hi:i<s.Cells.length,L7 s h v=some (⟨s.Cells.set i ⟨s.Cells[i].State,s.Cells[i].Gen,v⟩,s.Last⟩,0):=by
 refine⟨hf.1,?_⟩;unfold L7;rw[pS hf,a1b,za (by simp),r8 hf.1,a1b,lX rfl hf.1 hl,a1b]
theorem Ru{s:g6}{h:Int}{v:n7}(hh:h<=9223372036854775807)(hf:∀i,¬va s h i):L7 s h v=some (s,if h=0 then 2 else 3):=by
 unfold L7;rw[vu hh hf,a1b,zb (by simpa using dt h)]
def oo(o:n7):D2:=⟨o.Serial,o.Strong,o.Weak,o.Prog,o.Started,o.Fields⟩
def cO(c:c4):n8:=⟨c.State,c.Gen,oo c.Val⟩
def sO(s:a7):l4:=⟨s.S.Cells.map cO,s.S.Last,s.Serial⟩
def Sm(s:a7):Prop:=s.S.Cells.length<=30/\∀i (h:i<s.S.Cells.length),s.S.Cells[i].Val.Fields.length<=10
instance(s:a7):Decidable (Sm s):=by unfold Sm;infer_instance
def xJ(i:Nat)(c:n8):z6:=⟨c.State,c.Gen,(i:Int)⟩
def pl(t:l4):y9:=⟨t.Cells.mapIdx xJ,t.Last⟩
theorem dF(t:l4)(h:t.Cells.length<=1000):K6 t=some (pl t):=by
 unfold K6;simp only[jn];refine M7 t.Cells.length (λk acc=>acc=(t.Cells.mapIdx xJ).take k) (by omega) (by simp) (λk acc hk hP=>?_) (λacc hP=>?_)
 .subst hP;refine .inl ⟨_,?_,rfl⟩;simp only[zo,hk,zt,zD,r8 hk,a1b];rw[B3 (by omega) (by simp;omega),a1b,l6];have e:(t.Cells.mapIdx xJ).take (k+1)=(t.Cells.mapIdx xJ).take k ++ [xJ k t.Cells[k]]:=by
   rw[List.take_add_one,zc (by simpa using hk)];simp
  rw[e];rfl
 .subst hP;rw[List.take_of_length_le (by simp)];exact⟨t.Cells.mapIdx xJ,by simp only[mt,or,zg,zU],rfl⟩
theorem RU(s:y9):qc s=some (decide (s.Cells.length<=24/\0<=s.Last/\s.Last<=9/\∀i (h:i<s.Cells.length),0<=s.Cells[i].State/\s.Cells[i].State<=3/\0<=s.Cells[i].Gen/\s.Cells[i].Gen<=s.Last)):=by
 unfold qc;split
 .rename_i q;rw[zA (by simp at q;omega)]
 .rename_i q;have q:s.Cells.length<=24/\0<=s.Last/\s.Last<=9:=by simp at q;omega
  simp only[jn];refine N6 s.Cells.length (λk=>∀j (h:j<s.Cells.length),j<k->0<=s.Cells[j].State/\s.Cells[j].State<=3/\0<=s.Cells[j].Gen/\s.Cells[j].Gen<=s.Last) (by omega) (λ_ _ h=>by omega) (λk hk hP=>?_) (λhP=>?_)
  .by_cases g:0<=s.Cells[k].State/\s.Cells[k].State<=3/\0<=s.Cells[k].Gen/\s.Cells[k].Gen<=s.Last
   .refine .inl ⟨?_,λj h hj=>?_⟩
    .simp only[zo,hk,zt,zD,r8 hk,a1b];rw[za (by simp;omega),l6]
    .rcases zy j k with q' | q'
     .exact hP j h q'
     .have:j=k:=by omega
      subst this;exact g
   .refine .inr ⟨.inl false,?_,?_⟩
    .simp only[zo,hk,zt,zD,r8 hk,a1b];rw[zb (by simp;omega)]
    .simp only;rw[zA (λq'=>g (q'.2.2.2 k hk))]
  .refine⟨.inr (),by simp,?_⟩;simp only;rw[zp ⟨q.1,q.2.1,q.2.2,λi h=>hP i h h⟩]
def CZ(c:n8):Prop:=c.State=1\/c.State=2
instance(c:n8):Decidable (CZ c):=by unfold CZ;infer_instance
theorem uN(c:n8):gP c=some (decide (CZ c)):=by
 unfold gP;congr 1;rw[zan,zx,t8,ww,ww];rfl
def Oi(t:l4)(o:D2):Prop:=1<=o.Serial/\o.Serial<=t.Serial/\0<=o.Strong/\0<=o.Weak /\ -1<=o.Prog/\o.Prog<=5/\o.Fields.length<=4
def CX(o:D2):Prop:=o.Serial=0/\o.Strong=0/\o.Weak=0/\o.Prog=0/\o.Started=false/\o.Fields.length=0
structure sz (t:l4):Prop where
 len:t.Cells.length<=24
 l0:0<=t.Last
 l9:t.Last<=9
 aV:0<=t.Serial
 cell:∀i (h:i<t.Cells.length),0<=t.Cells[i].State/\t.Cells[i].State<=3/\0<=t.Cells[i].Gen/\t.Cells[i].Gen<=t.Last
 no:∀i (h:i<t.Cells.length),¬CZ t.Cells[i]->CX t.Cells[i].Val
 ok:∀i (h:i<t.Cells.length),CZ t.Cells[i]->Oi t t.Cells[i].Val
 dif:∀i (h:i<t.Cells.length) k (hk:k<i),CZ t.Cells[i]->CZ t.Cells[k]->t.Cells[k].Val.Serial≠t.Cells[i].Val.Serial
def RQ(t:l4)(i:Nat)(h:i<t.Cells.length):Prop:=
 (¬CZ t.Cells[i]->CX t.Cells[i].Val)/\(CZ t.Cells[i]->Oi t t.Cells[i].Val)/\∀k (hk:k<i),CZ t.Cells[i]->CZ t.Cells[k]->t.Cells[k].Val.Serial≠t.Cells[i].Val.Serial
theorem RV(t:l4)(hl:t.Cells.length<=1000):∃b,qe t=some b/\(b=true↔sz t):=by
 unfold qe;rw[dF t hl,a1b,RU,a1b];by_cases hR:(pl t).Cells.length<=24/\0<=(pl t).Last/\(pl t).Last<=9/\∀i (h:i<(pl t).Cells.length),0<=(pl t).Cells[i].State/\(pl t).Cells[i].State<=3/\0<=(pl t).Cells[i].Gen/\(pl t).Cells[i].Gen<=(pl t).Last
 .by_cases hs:0<=t.Serial
  .rw[zp hR];rw[za (by simp;omega)];simp only[jn];have hcell:∀i (h:i<t.Cells.length),0<=t.Cells[i].State/\t.Cells[i].State<=3/\0<=t.Cells[i].Gen/\t.Cells[i].Gen<=t.Last:=λi h=>by
    have:=hR.2.2.2 i (by simpa[pl] using h);simpa[pl,xJ] using this
   have key:(∀i (h:i<t.Cells.length),RQ t i h)↔sz t:=by
    constructor
    .intro q;exact⟨by simpa[pl] using hR.1,hR.2.1,hR.2.2.1,hs,hcell,λi h=>(q i h).1,λi h=>(q i h).2.1,λi h=>(q i h).2.2⟩
    .intro q i h;exact⟨q.no i h,q.ok i h,q.dif i h⟩
   by_cases hall:∀i (h:i<t.Cells.length),RQ t i h
   .refine⟨true,?_,by simpa using key.1 hall⟩;refine N6 t.Cells.length (λ_=>True) (by omega) trivial (λk hk _=>.inl ⟨?_,trivial⟩) (λ_=>⟨.inr (),by simp,rfl⟩);obtain⟨q1,q2,q3⟩:=hall k hk;simp only[zo,hk,zt,zD,r8 hk,a1b,uN];by_cases ht:CZ t.Cells[k]
    .rw[zp ht];obtain⟨o1,o2,o3,o4,o5,o6,o7⟩:=q2 ht;rw[za (by simp),za (by simp;omega)];refine N6 k (λ_=>True) (by omega) trivial (λj hj _=>.inl ⟨?_,trivial⟩) (λ_=>⟨.inr (),by simp,by rw[l6]⟩);have hj':j<t.Cells.length:=by omega
     simp only[zo,hj,zt,zD,r8 hj',a1b,uN];rw[za (by simp only[zj,up,ww,not_and];exact λa=>q3 j hj ht a),l6]
    .rw[zA ht];obtain⟨o1,o2,o3,o4,o5,o6⟩:=q1 ht;rw[zb (by simp),za (by simp[o1,o2,o3,o4,o5,o6]),l6]
   .refine⟨false,?_,by simpa using λq=>hall (key.2 q)⟩;obtain⟨i,⟨hi,hbad⟩,hmin⟩:=Y3 (p:=λi=>∃h:i<t.Cells.length,¬RQ t i h) (by
     have:=Classical.not_forall.1 hall;obtain⟨i,q⟩:=this;obtain⟨h,q⟩:=Classical.not_forall.1 q;exact⟨i,h,q⟩)
    refine N6 t.Cells.length (λk=>k<=i) (by omega) (by omega) (λk hk hP=>?_) (λhP=>by omega);simp only[zo,hk,zt,zD,r8 hk,a1b,uN];rcases zy k i with g | g
    .refine .inl ⟨?_,g⟩;have hok:RQ t k hk:=zP λq=>by have:=hmin k ⟨hk,q⟩;omega
     obtain⟨q1,q2,q3⟩:=hok;by_cases ht:CZ t.Cells[k]
     .rw[zp ht];obtain⟨o1,o2,o3,o4,o5,o6,o7⟩:=q2 ht;rw[za (by simp),za (by simp;omega)];refine N6 k (λ_=>True) (by omega) trivial (λj hj _=>.inl ⟨?_,trivial⟩) (λ_=>⟨.inr (),by simp,by rw[l6]⟩);have hj':j<t.Cells.length:=by omega
      simp only[zo,hj,zt,zD,r8 hj',a1b,uN];rw[za (by simp only[zj,up,ww,not_and];exact λa=>q3 j hj ht a),l6]
     .rw[zA ht];obtain⟨o1,o2,o3,o4,o5,o6⟩:=q1 ht;rw[zb (by simp),za (by simp[o1,o2,o3,o4,o5,o6]),l6]
    .have:k=i:=by omega
     subst this;refine .inr ⟨.inl false,?_,rfl⟩;by_cases ht:CZ t.Cells[k]
     .rw[zp ht];rw[za (by simp)];by_cases ho:Oi t t.Cells[k].Val
      .have ho':=ho;obtain⟨o1,o2,o3,o4,o5,o6,o7⟩:=ho';rw[za (by simp;omega)];have:∃j,j<k/\∃h:j<t.Cells.length,CZ t.Cells[j]/\t.Cells[j].Val.Serial=t.Cells[k].Val.Serial:=zP λq=>hbad ⟨λn=>absurd ht n,λ_=>ho,λj hj _ h2 h3=>q ⟨j,hj,by omega,h2,h3⟩⟩;obtain⟨j,⟨hj,hj',h2,h3⟩,hjm⟩:=Y3 this;refine N6 k (λm=>m<=j) (by omega) (by omega) (λm hm hP2=>?_) (λhP2=>by omega);have hm':m<t.Cells.length:=by omega
       simp only[zo,hm,zt,zD,r8 hm',a1b,uN];rcases zy m j with g2 | g2
       .refine .inl ⟨?_,g2⟩;rw[za (by
         simp only[zj,up,ww,not_and];intro a b;have:=hjm m ⟨by omega,hm',a,b⟩;omega),l6]
       .have:m=j:=by omega
        subst this;refine .inr ⟨.inl false,?_,rfl⟩;rw[zb (by simp only[zj,up,ww];exact⟨h2,h3⟩)]
      .rw[zb (by
        unfold Oi at ho;simp only[t8,up];omega)]
     .rw[zA ht];rw[zb (by simp)];have hno:¬CX t.Cells[k].Val:=λq=>hbad ⟨λ_=>q,λn=>absurd n ht,λj hj h1 _=>absurd h1 ht⟩;rw[zb (by
       unfold CX at hno;simp only[t8,za8,zci];cases hst:t.Cells[k].Val.Started
       .simp only[hst,true_and,zg,or_false] at hno |-;omega
       .simp)]
  .refine⟨false,?_,by simp;exact λq=>hs q.aV⟩;rw[zb (by simp;omega)]
 .refine⟨false,?_,?_⟩;·rw[zA hR,zb (by simp)]
  .simp only[zg,false_iff];intro q;exact hR ⟨by simpa[pl] using q.len,q.l0,q.l9,λi h=>by have:=q.cell i (by simpa[pl] using h);simpa[pl,xJ] using this⟩
theorem Il{c:Int->Int->Option Int}{xs:List Int}(key:Int->Int)(hc:∀x y,∃r,c x y=some r/\(r<0↔key x<key y))(hl:xs.length<4611686018427387904) :
  ∃ys,wa c xs=some ys/\ys.Perm xs/\ys.Pairwise (λa b=>key a<=key b):=by
 have hlt:∀x y,Go.Proofs.ltOf (λx y=>(c x y).getD 0) x y=decide (key x<key y):=λx y=>by
  obtain⟨r,h1,h2⟩:=hc x y;show decide ((c x y).getD 0<0)=_;rw[h1,ut];exact za0.2 h2
 have hO:Go.Sort.SWO (Go.Proofs.ltOf λx y=>(c x y).getD 0):=by
  refine⟨λx=>?_,λx y z=>?_,λx y z=>?_⟩;·rw[hlt];simp
  .rw[hlt,hlt,hlt];simp;omega
  .rw[hlt,hlt,hlt];simp;omega
 have hcond:(∀x y,(c x y).isSome=true)/\Go.Sort.SWO (Go.Proofs.ltOf λx y=>(c x y).getD 0)/\xs.length<4611686018427387904:=⟨λx y=>by
  obtain⟨r,h1,_⟩:=hc x y;rw[h1];rfl,hO,hl⟩
 unfold wa;rw[zb hcond];refine⟨_,rfl,?_⟩;obtain⟨⟨p1,p2,p3⟩,p4⟩:=Go.Sort.pdq_sorts (Go.Proofs.ltOf λx y=>(c x y).getD 0) hO xs.toArray 0 xs.length (Go.Lib.bitLen xs.length) true true (t7 _) (by simp) (Or.inl rfl);generalize Go.Sort.pdq (Go.Proofs.ltOf λx y=>(c x y).getD 0) xs.toArray 0 xs.length (Go.Lib.bitLen xs.length) true true=d at p1 p2 p3 p4 |-;have hs:d.size=xs.length:=by simpa using p1
 refine⟨?_,?_⟩
 .have e1:d.extract 0 xs.length=d:=by rw[<-hs];exact Array.extract_size
  have e2:xs.toArray.extract 0 xs.length=xs.toArray:=by
   simp
  rw[e1,e2] at p3;simpa using p3
 .rw[zbx];intro i j hi hj hij;have hi':i<d.size:=by simpa using hi
  have hj':j<d.size:=by simpa using hj
  have:=p4 i j (t7 _) hij (by omega);rw[hlt,getElem!_pos d j hj',getElem!_pos d i hi'] at this;have:=of_decide_eq_false this;simp only[Array.getElem_toList];omega
def ay:Nat->List c4->List Int
 | _,[]=>[]
 | k,c::r=>(if c.State=1 then [1+(k:Int)+32*c.Gen] else [])++ay (k+1) r
theorem pW(c:c4):∀(k:Nat) (xs:List c4),ay k (xs ++ [c])=ay k xs++(if c.State=1 then [1+((k+xs.length:Nat):Int)+32*c.Gen] else [])
 | k,[]=>by simp[ay]
 | k,x::r=>by
  simp only[List.cons_append,ay,pW c (k+1) r,zad,zE];rw[show k+1+r.length=k+(r.length+1) by omega]
theorem kW:∀(k:Nat) (xs:List c4),(ay k xs).length<=xs.length
 | _,[]=>by simp[ay]
 | k,c::r=>by
  have:=kW (k+1) r;simp only[ay,zT,zE];split <;> simp <;> omega
theorem oN{h:Int}:∀ {k:Nat} {xs:List c4},h∈ay k xs↔∃i,∃hi:i<xs.length,xs[i].State=1/\h=1+((k+i:Nat):Int)+32*xs[i].Gen
 | k,[]=>by simp[ay]
 | k,c::r=>by
  simp only[ay,zB,oN (k:=k+1) (xs:=r)];constructor
  .rintro (q | ⟨i,hi,q1,q2⟩)
   .by_cases hc:c.State=1
    .rw[zb hc] at q;exact⟨0,by simp,by simpa using hc,by simpa using q⟩
    .rw[za hc] at q;cases q
   .exact⟨i+1,by simpa using hi,by simpa using q1,by simp only[List.getElem_cons_succ];rw[q2,show k+1+i=k+(i+1) by omega]⟩
  .rintro⟨i,hi,q1,q2⟩;cases i with
   | zero=>
    left;simp only[List.getElem_cons_zero] at q1 q2;rw[zb q1];simp[q2]
   | succ i=>
    right;simp only[List.getElem_cons_succ] at q1 q2;exact⟨i,by simpa using hi,q1,by rw[q2,show k+1+i=k+(i+1) by omega]⟩
def sk(cs:List c4)(h:Int):Int:=match cs[((h-1) % 32).toNat]? with
 | some c=>c.Val.Serial
 | none=>0
theorem Ik{cs:List c4}{i:Nat}{g:Int}(h:i<cs.length)(h32:cs.length<=32):sk cs (1+(i:Int)+32*g)=cs[i].Val.Serial:=by
 unfold sk;have:((1+(i:Int)+32*g-1) % 32).toNat=i:=by omega
 rw[this,zc h]
structure Slb (cs:List c4):Prop where
 len:cs.length<=24
 gen:∀i (h:i<cs.length),0<=cs[i].Gen/\cs[i].Gen<=9
theorem Cu{s:a7}(hR:Slb s.S.Cells):∃l,F2 s=some l/\l.Perm (ay 0 s.S.Cells)/\l.Pairwise (λa b=>sk s.S.Cells a<=sk s.S.Cells b):=by
 have hlen:=hR.len;unfold F2;simp only[jn];have hh:=kW 0 s.S.Cells;have hloop:∃e:List (Int × Int) × List Int,lp (S:=Int × (List (Int × Int)) × (List Int)) (E:=((List (Int × Int)) × (List Int))) (λ((s23,s24,s25):Int × (List (Int × Int)) × (List Int))=>
   if (decide (s23<(s.S.Cells.length:Int))) then
    ((ix s.S.Cells s23).bind λv35=>
     if (v35.State==1) then
      (cQ s23 v35.Gen).bind λv36=>
      (app 8 s25 [v36]).bind λv37=>
      some (.inl (A1 (s23+1),(u9 s24 v36 v35.Val.Serial),v37))
     else
     some (.inl (A1 (s23+1),s24,s25)))
   else
   some (.inr (s24,s25))) (0,[],[])=some e/\e.2=ay 0 s.S.Cells/\∀h∈e.2,D1 e.1 h=some (sk s.S.Cells h):=by
  refine eK (T:=List (Int × Int) × List Int) s.S.Cells.length (λk e=>e.2=ay 0 (s.S.Cells.take k)/\∀h∈e.2,D1 e.1 h=some (sk s.S.Cells h)) (λe:List (Int × Int) × List Int=>e.2=ay 0 s.S.Cells/\∀h∈e.2,D1 e.1 h=some (sk s.S.Cells h)) (by omega) ⟨by simp[ay],by simp⟩ (λk e hk hP=>?_) (λe hP=>?_)
  .obtain⟨h1,h2⟩:=hP;obtain⟨m,l⟩:=e;simp only at h1 h2;left;have hc:=hR.gen k hk;have hl:l.length<=24:=by rw[h1];have:=kW 0 (s.S.Cells.take k);simp at this;omega
   have et:s.S.Cells.take (k+1)=s.S.Cells.take k ++ [s.S.Cells[k]]:=by rw[List.take_add_one,zc hk];rfl
   have el:(s.S.Cells.take k).length=k:=by simp;omega
   by_cases q:s.S.Cells[k].State=1
   .refine⟨(u9 m (1+(k:Int)+32*s.S.Cells[k].Gen) s.S.Cells[k].Val.Serial,l ++ [1+(k:Int)+32*s.S.Cells[k].Gen]),?_,?_,?_⟩
    .simp only[zo,hk,zt,zD,r8 hk,a1b,q,zF];rw[oI (by omega) (by omega) hc.1 hc.2,a1b,B3 (by omega) (by simp;omega),a1b,l6]
    .simp only;rw[et,pW,zb q,el,h1,so]
    .intro h hh;simp only[zB,zO] at hh |-;rw[pX];rcases hh with hh | rfl
     .split;·rename_i e;rw[e,Ik hk (by omega)]
      .exact h2 h hh
     .rw[zb rfl,Ik hk (by omega)]
   .refine⟨(m,l),?_,?_,h2⟩
    .simp only[zo,hk,zt,zD,r8 hk,a1b];rw[za (by simpa using q),l6]
    .simp only;rw[et,pW,za q,h1,my]
  .obtain⟨h1,h2⟩:=hP;obtain⟨m,l⟩:=e;refine⟨(m,l),by simp only[mt,or,zg,zU],?_,h2⟩;simpa using h1
 obtain⟨⟨m,l⟩,e1,e2,e3⟩:=hloop;rw[show lp _ _=_ from e1,a1b];simp only at e2 e3 |-;subst e2;obtain⟨ys,q1,q2,q3⟩:=Il (c:=λp q=>gI p q m) (xs:=ay 0 s.S.Cells) (λh=>(D1 m h).getD 0) (λx y=>by
  unfold gI fV bR;simp only[a1b,zau,zg,zU];generalize (D1 m x).getD 0=a;generalize (D1 m y).getD 0=b;by_cases h1:a<b
  .rw[zp h1];exact⟨-1,rfl,by simp[h1]⟩
  .rw[zA h1];by_cases h2:a > b
   .rw[zp h2];exact⟨1,rfl,by simp[h1]⟩
   .rw[zA h2];exact⟨0,rfl,by simp[h1]⟩) (by omega)
 refine⟨ys,by rw[q1];rfl,q2,q3.imp_of_mem λ{a b} ha hb hab=>?_⟩;rw[e3 a (q2.mem_iff.1 ha),e3 b (q2.mem_iff.1 hb)] at hab;simpa using hab
theorem ns{key:Int->Int}:∀ {l m:List Int},l.Perm m->l.Pairwise (λa b=>key a<=key b)->m.Pairwise (λa b=>key a<=key b)->(∀a∈l,∀b∈l,key a=key b->a=b)->l=m
 | [],m,hp,_,_,_=>(List.nil_perm.1 hp).symm
 | a::l,[],hp,_,_,_=>by simp at hp
 | a::l,b::m,hp,h1,h2,hk=>by
  have ha:=zbu.1 h1;have hb:=zbu.1 h2;have e:a=b:=by
   have m1:b∈a::l:=hp.mem_iff.2 (zl ..);have m2:a∈b::m:=hp.mem_iff.1 (zl ..);rcases zY.1 m1 with q | q
   .exact q.symm
   .rcases zY.1 m2 with q' | q'
    .exact q'
    .exact hk a (zl ..) b m1 (Int.le_antisymm (ha.1 b q) (hb.1 a q'))
  subst e;rw[ns (List.perm_cons a |>.1 hp) ha.2 hb.2 λx hx y hy=>hk x (zC _ hx) y (zC _ hy)]
theorem IJ(o:D2)(h:o.Fields.length<4611686018427387904):ln o o=some true:=by
 unfold ln;simp only[zF,Bool.and_self,wn,J9];rw[CW _ _ h,a1b,zp rfl]
theorem MJ(t:l4)(h:t.Cells.length<4611686018427387904)(hf:∀i (h:i<t.Cells.length),t.Cells[i].Val.Fields.length<4611686018427387904):tX t t=some true:=by
 unfold tX;rw[za (by simp)];simp only[jn];refine N6 t.Cells.length (λ_=>True) h trivial (λk hk _=>.inl ⟨?_,trivial⟩) (λ_=>⟨.inr (),by simp,rfl⟩);simp only[zo,hk,zt,zD,r8 hk,a1b,zau,Bool.or_self,zF,J9];rw[IJ _ (hf k hk),a1b,za (by simp),l6]
theorem C9(s:a7):(sO s).Cells.length=s.S.Cells.length:=by simp[sO]
theorem Ms(s:a7)(i:Int):ix (sO s).Cells i=(ix s.S.Cells i).map cO:=bn cO s.S.Cells i
theorem cC(t:l4):(pl t).Cells.length=t.Cells.length:=by simp[pl]
theorem Hn{t:l4}{k:Nat}(h:k<t.Cells.length):ix (pl t).Cells k=some (xJ k t.Cells[k]):=by
 rw[r8 (by simpa[pl] using h)];simp[pl]
theorem rQ(s:a7){h:Int}(hh:h<=9223372036854775807):P6 (pl (sO s)) h=y8 s.S h:=by
 unfold P6 y8;rw[oV,iy hh,JR,kl hh];simp only[a1b,cC,C9];generalize (if qT h then (h-1) % 32 else -1:Int)=v;generalize (if qT h then (h-1) / 32 else -1:Int)=g;split;·rfl
 .split;·rfl
  .rename_i q;have q:0<=v/\v<s.S.Cells.length:=by simp at q;omega
   obtain⟨k,rfl⟩:∃k:Nat,v=k:=⟨v.toNat,by omega⟩;have hk:k<s.S.Cells.length:=by omega
   rw[Hn (by rw[C9];exact hk),r8 hk];simp only[a1b,xJ,sO,wt,cO]
theorem Rt(s:a7)(hl:s.S.Cells.length<=24){h:Int}(hh:h<=9223372036854775807)(o:n7):O6 (sO s) h (oo o)=(L8 s h o).map λp=>(sO p.1,p.2):=by
 unfold O6 L8;rw[dF _ (by rw[C9];omega),a1b,rQ s hh];rcases dv s.S hh with ⟨i,hf,e⟩ | ⟨hf,e⟩
 .obtain⟨hi,e2⟩:=Ii (v:=o) hl hf;rw[e,e2];simp only[a1b,zau,zg,zU,zM];unfold bV;rw[O4 (by omega) (by rw[C9];omega),a1b,r8 (by rw[C9];exact hi),a1b];simp[sO,cO,oo,zcg]
 .rw[e,Ru hh hf];simp only[a1b];rw[zb (by simpa using dt h)];rfl
theorem dQ{s:a7}(h:sz (sO s)):s.S.Cells.length<=24:=by have:=h.len;rwa [C9] at this
theorem Fl{s:a7}(h:sz (sO s))(i:Nat)(hi:i<s.S.Cells.length):0<=s.S.Cells[i].State/\s.S.Cells[i].State<=3/\0<=s.S.Cells[i].Gen/\s.S.Cells[i].Gen<=s.S.Last:=by
 have:=h.cell i (by rw[C9];exact hi);simpa[sO,cO] using this
theorem Fo{s:a7}(h:sz (sO s)):Slb s.S.Cells:=⟨dQ h,λi hi=>by have:=Fl h i hi;have h9:s.S.Last<=9:=h.l9;omega⟩
theorem Rk{s:a7}(h:sz (sO s))(i:Nat)(hi:i<s.S.Cells.length)(ht:s.S.Cells[i].State=1\/s.S.Cells[i].State=2):Oi (sO s) (oo s.S.Cells[i].Val):=by
 have:=h.ok i (by rw[C9];exact hi);simp only[sO,wt,cO,CZ] at this;exact this ht
theorem Rj{s:a7}(h:sz (sO s)){i j:Nat}(hi:i<s.S.Cells.length)(hj:j<s.S.Cells.length)(a:s.S.Cells[i].State=1\/s.S.Cells[i].State=2)(b:s.S.Cells[j].State=1\/s.S.Cells[j].State=2)(e:s.S.Cells[i].Val.Serial=s.S.Cells[j].Val.Serial):i=j:=by
 have key:∀i (hi:i<s.S.Cells.length) j (hj:j<i),(s.S.Cells[i].State=1\/s.S.Cells[i].State=2)->(s.S.Cells[j].State=1\/s.S.Cells[j].State=2)->s.S.Cells[j].Val.Serial≠s.S.Cells[i].Val.Serial:=λi hi j hj a b=>by
  have:=h.dif i (by rw[C9];exact hi) j hj;simp only[sO,wt,cO,CZ,oo] at this;exact this a b
 rcases Nat.lt_trichotomy i j with q | q | q
 .exact absurd e (key j hj i q b a)
 .exact q
 .exact absurd e.symm (key i hi j q a b)
theorem kV{s:a7}(hR:sz (sO s)){x:Int}(hx:x∈ay 0 s.S.Cells):∃i,∃hi:i<s.S.Cells.length,s.S.Cells[i].State=1/\x=1+(i:Int)+32*s.S.Cells[i].Gen/\va s.S x i/\sk s.S.Cells x=s.S.Cells[i].Val.Serial/\A7 s x=some (s.S.Cells[i].Val,0):=by
 obtain⟨i,hi,h1,h2⟩:=oN.1 hx;rw[so] at h2;have hl:=(dQ hR);have hc:=(Fo hR).gen i hi;have hf:va s.S x i:=⟨hi,by unfold qT;omega,by omega,by omega,.inl h1⟩;refine⟨i,hi,h1,h2,hf,by rw[h2];exact Ik hi (by omega),?_⟩;obtain⟨_,e⟩:=GK hf;unfold A7;rw[e,za (by omega)];rfl
theorem Py{s:a7}{x:Int}{i:Nat}(hf:va s.S x i)(h1:∀hi:i<s.S.Cells.length,s.S.Cells[i].State=1):x∈ay 0 s.S.Cells:=by
 obtain⟨hi,q1,q2,q3,_⟩:=hf;refine oN.2 ⟨i,hi,h1 hi,?_⟩;unfold qT at q1;rw[so];omega
theorem Fz{s:a7}(hR:sz (sO s)){x y:Int}(hx:x∈ay 0 s.S.Cells)(hy:y∈ay 0 s.S.Cells)(e:sk s.S.Cells x=sk s.S.Cells y):x=y:=by
 obtain⟨i,hi,a1,a2,_,a4,_⟩:=kV hR hx;obtain⟨j,hj,b1,b2,_,b4,_⟩:=kV hR hy;have:=(Rj hR) hi hj (.inl a1) (.inl b1) (by rw[<-a4,<-b4];exact e);subst this;rw[a2,b2]
theorem mE:∀(k:Nat) (cs:List c4),k+cs.length<=32->(ay k cs).Nodup
 | _,[],_=>List.nodup_nil
 | k,c::r,h=>by
  simp only[zE] at h;unfold ay;rw[zb3];refine⟨by split <;> simp,mE (k+1) r (by omega),λa ha b hb e=>?_⟩;split at ha
  .simp only[zO] at ha;subst ha;subst e;obtain⟨i,hi,h1,h2⟩:=oN.1 hb;have:((1+(k:Int)+32*c.Gen)-1) % 32=((1+((k+1+i:Nat):Int)+32*r[i].Gen)-1) % 32:=by rw[h2]
   omega
  .cases ha
theorem LD{s:a7}(hR:sz (sO s)):∃l,F2 s=some l/\l.Perm (ay 0 s.S.Cells)/\l.Pairwise (λa b=>sk s.S.Cells a<sk s.S.Cells b):=by
 obtain⟨l,h1,h2,h3⟩:=Cu (Fo hR);refine⟨l,h1,h2,?_⟩;have hn:l.Nodup:=h2.nodup_iff.2 (mE 0 _ (by have:=(dQ hR);omega));have:=List.Pairwise.and h3 hn;refine this.imp_of_mem λ{a b} ha hb ⟨q1,q2⟩=>?_;rcases Int.lt_or_eq_of_le q1 with q | q
 .exact q
 .exact absurd (Fz hR (h2.mem_iff.1 ha) (h2.mem_iff.1 hb) q) q2
theorem tx:∀(k:Nat) (cs:List c4) (i:Nat) (c:c4) (hi:i<cs.length),cs[i].State≠1->c.State=1->(ay k (cs.set i c)).Perm ((1+((k+i:Nat):Int)+32*c.Gen)::ay k cs)
 | _,[],i,_,hi,_,_=>by simp at hi
 | k,d::r,0,c,hi,h1,h2=>by
  simp only[List.getElem_cons_zero] at h1;simp only[List.set_cons_zero,ay,zb h2,za h1,zb9,zaz];exact List.Perm.refl _
 | k,d::r,i+1,c,hi,h1,h2=>by
  simp only[List.getElem_cons_succ] at h1;simp only[List.set_cons_succ,ay];have:=tx (k+1) r i c (by simpa using hi) h1 h2;rw[show k+1+i=k+(i+1) by omega] at this;exact (List.Perm.append_left _ this).trans List.perm_middle
theorem Yg{cs:List c4}{i:Nat}{c:c4}{x:Int}(h:((x-1) % 32).toNat≠i):sk (cs.set i c) x=sk cs x:=by
 unfold sk;rw[List.getElem?_set_ne (by omega)]
theorem Jy{s:a7}(hR:sz (sO s)){i:Nat}(hi:i<s.S.Cells.length)(h0:s.S.Cells[i].State=0)(o:n7)(ho:o.Serial=s.Serial+1){l:List Int}(hl:F2 s=some l) :
  F2 ⟨⟨s.S.Cells.set i ⟨1,s.S.Cells[i].Gen,o⟩,s.S.Last⟩,s.Serial+1⟩=some (l ++ [1+(i:Int)+32*s.S.Cells[i].Gen]):=by
 obtain⟨l',e,l1,l2⟩:=LD hR;rw[hl] at e;cases e;have hlen:=dQ hR;have hsl:Slb (s.S.Cells.set i ⟨1,s.S.Cells[i].Gen,o⟩):=⟨by simpa using hlen,λj hj=>by
  rw[zb4];have:=(Fo hR).gen;split;·exact this i hi
  .exact this j (by simpa using hj)⟩
 obtain⟨m,m1,m2,m3⟩:=Cu (s:=⟨⟨s.S.Cells.set i ⟨1,s.S.Cells[i].Gen,o⟩,s.S.Last⟩,s.Serial+1⟩) hsl;have hp:=tx 0 s.S.Cells i ⟨1,s.S.Cells[i].Gen,o⟩ hi (by omega) rfl;rw[so] at hp;have hold:∀x∈l,sk (s.S.Cells.set i ⟨1,s.S.Cells[i].Gen,o⟩) x=sk s.S.Cells x/\sk s.S.Cells x<=s.Serial:=λx hx=>by
  obtain⟨j,hj,a1,a2,a3,a4,_⟩:=kV hR (l1.mem_iff.1 hx);refine⟨Yg ?_,?_⟩
  .obtain⟨_,_,q,_⟩:=a3;intro e;have:j=i:=by omega
   subst this;omega
  .rw[a4];exact (Rk hR j hj (.inl a1)).2.1
 have hnew:sk (s.S.Cells.set i ⟨1,s.S.Cells[i].Gen,o⟩) (1+(i:Int)+32*s.S.Cells[i].Gen)=s.Serial+1:=by
  rw[Ik (by simpa using hi) (by simp;omega)];simp[ho]
 rw[m1];congr 1;refine ns (key:=sk (s.S.Cells.set i ⟨1,s.S.Cells[i].Gen,o⟩)) ?_ m3 ?_ ?_
 .refine m2.trans (hp.trans ?_);refine List.Perm.trans (List.Perm.cons _ l1.symm) ?_;exact (List.perm_append_singleton _ _).symm
 .rw[zbb];refine⟨l2.imp_of_mem λ{a b} ha hb hab=>?_,by simp,λa ha b hb=>?_⟩;·rw[(hold a ha).1,(hold b hb).1];omega
  .rw[zO] at hb;subst hb;rw[hnew,(hold a ha).1];have:=(hold a ha).2;omega
 .have hm:∀a∈m,a∈l\/a=1+(i:Int)+32*s.S.Cells[i].Gen:=λa ha=>by
   have:=hp.mem_iff.1 (m2.mem_iff.1 ha);rcases zY.1 this with q | q
   .exact .inr q
   .exact .inl (l1.mem_iff.2 q)
  intro a ha b hb hab;rcases hm a ha with qa | rfl <;> rcases hm b hb with qb | rfl
  .rw[(hold a qa).1,(hold b qb).1] at hab;exact Fz hR (l1.mem_iff.1 qa) (l1.mem_iff.1 qb) hab
  .rw[(hold a qa).1,hnew] at hab;have:=(hold a qa).2;omega
  .rw[(hold b qb).1,hnew] at hab;have:=(hold b qb).2;omega
  .rfl
noncomputable def lv(s:a7):List Int:=(F2 s).getD []
def ob(s:a7)(h:Int):n7:=((A7 s h).getD (z0,0)).1
def outs(s:a7)(h:Int):List Int:=nz (ob s h).Fields
def FB(s:a7):Prop:=∀c∈s.S.Cells,∀x∈c.Val.Fields,x<=9223372036854775807
section
variable{s:a7}(hR:sz (sO s))
include hR
theorem jB:F2 s=some (lv s)/\(lv s).Perm (ay 0 s.S.Cells)/\(lv s).Pairwise (λa b=>sk s.S.Cells a<sk s.S.Cells b):=by
 obtain⟨l,h1,h2,h3⟩:=LD hR;have:lv s=l:=by unfold lv;rw[h1];rfl
 rw[this];exact⟨h1,h2,h3⟩
theorem dB:F2 s=some (lv s):=(jB hR).1
theorem vB{h:Int}:h∈lv s↔h∈ay 0 s.S.Cells:=(jB hR).2.1.mem_iff
theorem H2:(lv s).length<=24:=by
 rw[(jB hR).2.1.length_eq];exact we (kW 0 s.S.Cells) (dQ hR)
theorem tI:(lv s).Nodup:=(jB hR).2.1.nodup_iff.2 (mE 0 _ (by have:=(dQ hR);omega))
theorem vA{h:Int}(hh:h∈lv s):A7 s h=some (ob s h,0):=by
 obtain⟨i,hi,_,_,_,_,e⟩:=kV hR ((vB hR).1 hh);unfold ob;rw[e];rfl
theorem Eg{h:Int}(hh:h∈lv s):∃i,∃hi:i<s.S.Cells.length,s.S.Cells[i].State=1/\h=1+(i:Int)+32*s.S.Cells[i].Gen/\va s.S h i/\ob s h=s.S.Cells[i].Val:=by
 obtain⟨i,hi,h1,h2,h3,_,e⟩:=kV hR ((vB hR).1 hh);refine⟨i,hi,h1,h2,h3,?_⟩;unfold ob;rw[e];rfl
theorem ko{h:Int}(hh:h∈lv s):1<=h/\h<=320:=by
 obtain⟨i,hi,_,_,hf,_⟩:=Eg hR hh;exact yR hf.2.1
theorem VE{h:Int}(hh:h<=9223372036854775807)(hn:h∉lv s):∃e,e≠0/\A7 s h=some (z0,e):=by
 rcases dv s.S hh with ⟨i,hf,_⟩ | ⟨hf,_⟩
 .obtain⟨hi,e⟩:=GK hf;unfold A7;rw[e];by_cases h2:s.S.Cells[i].State=2
  .rw[zb h2];exact⟨3,by decide,rfl⟩
  .exact absurd ((vB hR).2 (Py hf λ_=>hf.2.2.2.2.resolve_right h2)) hn
 .unfold A7;rw[PB hh hf];exact⟨_,dt h,rfl⟩
theorem rm{h:Int}(hh:h<=9223372036854775807)(hn:h∉lv s):ob s h=z0:=by
 obtain⟨e,_,h1⟩:=VE hR hh hn;unfold ob;rw[h1];rfl
theorem T0{h:Int}(hh:h<=9223372036854775807):∃e,A7 s h=some (ob s h,e)/\(e=0↔h∈lv s):=by
 by_cases q:h∈lv s
 .exact⟨0,vA hR q,by simp[q]⟩
 .obtain⟨e,h0,h1⟩:=VE hR hh q;refine⟨e,?_,by simp[h0,q]⟩;rw[h1,rm hR hh q]
theorem LV{h:Int}(hh:h<=9223372036854775807)(hn:h∉lv s):outs s h = []:=by
 unfold outs;rw[rm hR hh hn];rfl
theorem Ek(h:Int)(hh:h<=9223372036854775807):(ob s h).Fields.length<=4:=by
 by_cases q:h∈lv s
 .obtain⟨i,hi,h1,_,_,e⟩:=Eg hR q;rw[e];exact (Rk hR i hi (.inl h1)).2.2.2.2.2.2
 .rw[rm hR hh q];exact t7 _
theorem lf(h:Int)(hh:h<=9223372036854775807):(outs s h).length<=4:=we (JB _) (Ek hR h hh)
theorem Ui(hF:FB s){h x:Int}(hh:h<=9223372036854775807)(hx:x∈outs s h):x<=9223372036854775807:=by
 by_cases q:h∈lv s
 .obtain⟨i,hi,h1,_,_,e⟩:=Eg hR q;unfold outs at hx;rw[e] at hx;exact hF _ (zd hi) x (mO.1 hx).1
 .rw[LV hR hh q] at hx;cases hx
end
theorem Uj{s:a7}{h x:Int}(hx:x∈outs s h):x≠0:=(mO.1 hx).2
theorem iv(s:a7)(hl:s.S.Cells.length<=1000){h:Int}(hh:h<=9223372036854775807):G9 (sO s) h=(A7 s h).map λp=>(oo p.1,p.2):=by
 unfold G9 A7 F0 tR;rw[dF _ (by rw[C9];exact hl),a1b,rQ s hh];rcases dv s.S hh with ⟨i,hf,e⟩ | ⟨hf,e⟩
 .rw[e];have hi:=hf.1;simp only[a1b,zau,zg,zU];rw[Hn (by rw[C9];exact hi),r8 hi];simp only[a1b,xJ,sO,wt,cO];split;·rfl
  .simp only[a1b,zau,zg,zU];rw[r8 (by simpa using hi)];simp[cO,oo]
 .rw[e];simp only[a1b];have hne:((if h=0 then 2 else 3:Int) != 0)=true:=by simpa using dt h
  simp only[hne,zD,a1b];rfl
theorem Rv{s:a7}(hR:sz (sO s)){l:List Int}(hl:∀x∈l,x∈lv s)(hn:l.length<=100) :
  ∃m,iH (sO s) l=some m/\m.Perm l/\m.Pairwise (λa b=>sk s.S.Cells a<=sk s.S.Cells b):=by
 have hfind:∀x∈l,∃i:Nat,∃hi:i<s.S.Cells.length,P6 (pl (sO s)) x=some ((i:Int),0)/\s.S.Cells[i].Val.Serial=sk s.S.Cells x:=λx hx=>by
  obtain⟨i,hi,_,_,hf,h4,_⟩:=kV hR ((vB hR).1 (hl x hx));refine⟨i,hi,?_,h4.symm⟩;rw[rQ s (by have:=yR hf.2.1;omega),pS hf]
 unfold iH;rw[O4 (by omega) (by omega),a1b];simp only[jn];let K:List Int->Nat->Int:=λo a=>sk s.S.Cells (o.getD a 0)
 have hplain:=dF (sO s) (by rw[C9];have:=dQ hR;omega);have inner:∀(n:Nat) (o:List Int),n<l.length->o.Perm l->(∀a b,a<b->b<=n->b≠n->K o a<=K o b) ->
   ∃o',lp (S:=Int × (List Int)) (E:=(List Int)) (λ((s58,s59):Int × (List Int))=>
      if (decide (s58 > 0)) then
       (K6 (sO s)).bind λv62=>
       (ix s59 (A1 (s58-1))).bind λv63=>
       (P6 v62 v63).bind λv64=>
       (ix s59 s58).bind λv65=>
       (P6 v62 v65).bind λv66=>
       (u5 (((decide (v64.1<0))||(decide (v66.1<0)))==false) (⟨0,0,⟨0,0,0,0,false,[]⟩⟩:n8) (ix (sO s).Cells v64.1)).bind λv67=>
       (u5 (((decide (v64.1<0))||(decide (v66.1<0)))==false) (⟨0,0,⟨0,0,0,0,false,[]⟩⟩:n8) (ix (sO s).Cells v66.1)).bind λv68=>
       if (((decide (v64.1<0))||(decide (v66.1<0)))||(decide (v67.Val.Serial<=v68.Val.Serial))) then
        some (.inr s59)
       else
       (ix (s59.set (s58).toNat v63) (A1 (s58-1))).bind λv69=>
       some (.inl (A1 (s58-1),((s59.set (s58).toNat v63).set (A1 (s58-1)).toNat v65)))
      else
      some (.inr s59)) ((n:Int),o)=some o'/\o'.Perm l/\∀a b,a<b->b<=n->K o' a<=K o' b:=by
  intro n o hn' hp hk;have hbn:(n:Int).toNat<4611686018427387904:=by rw[zV];omega
  refine rX (s0:=((n:Int),o)) (λq=>∃k:Nat,q.1=(k:Int)/\k<=n/\q.2.Perm l/\∀a b,a<b->b<=n->b≠k->K q.2 a<=K q.2 b) (λo'=>o'.Perm l/\∀a b,a<b->b<=n->K o' a<=K o' b) (λq=>q.1.toNat) ⟨n,rfl,zI _,hp,hk⟩ hbn ?_;rintro⟨_,o⟩ ⟨k,rfl,hkn,hp,hk⟩;simp only at hp hk |-;have hol:o.length=l.length:=hp.length_eq;rcases pm k with rfl | hpos
  .right;refine⟨o,by rw[za (by simp)],hp,λa b h1 h2=>hk a b h1 h2 (by omega)⟩
  .obtain⟨j,rfl⟩:∃j,k=j+1:=⟨k-1,by omega⟩;have hj1:j+1<o.length:=by omega
   have hj:j<o.length:=by omega
   have ew:A1 (((j+1:Nat):Int)-1)=(j:Int):=by rw[G4 (by omega) (by omega)];omega
   obtain⟨ia,hia,fa,ka⟩:=hfind o[j] (hp.mem_iff.1 (zd hj));obtain⟨ib,hib,fb,kb⟩:=hfind o[j+1] (hp.mem_iff.1 (zd hj1));have ea:ix (sO s).Cells (ia:Int)=some (cO s.S.Cells[ia]):=by rw[Ms,r8 hia];rfl
   have eb:ix (sO s).Cells (ib:Int)=some (cO s.S.Cells[ib]):=by rw[Ms,r8 hib];rfl
   have hneg:((decide ((ia:Int)<0))||(decide ((ib:Int)<0)))=false:=by simp
   have hpos':decide (((j+1:Nat):Int) > 0)=true:=by simp
   simp only[hpos',zD,hplain,ew,r8 hj,r8 hj1,a1b,fa,fb,hneg,zF,J9,ea,eb,za7,cO,oo,ka,kb,zV];have Kj:K o j=sk s.S.Cells o[j]:=by simp[K,List.getD,zc hj]
   have Kj1:K o (j+1)=sk s.S.Cells o[j+1]:=by simp[K,List.getD,zc hj1]
   by_cases hle:sk s.S.Cells o[j]<=sk s.S.Cells o[j+1]
   .right;refine⟨o,by rw[zb (by simpa using hle)],hp,λa b h1 h2=>?_⟩;by_cases e:b=j+1
    .subst e;rcases zy a j with q | q
     .have:=hk a j q (by omega) (by omega);omega
     .have:a=j:=by omega
      subst this;omega
    .exact hk a b h1 h2 e
   .left;refine⟨_,by rw[za (by simpa using hle),r8 (by simpa using hj)];rfl,⟨j,rfl,by omega,?_,λa b h1 h2 h3=>?_⟩,by show (j:Int).toNat<((j+1:Nat):Int).toNat;omega⟩;·exact (List.set_set_perm hj1 hj).trans hp
    .have hK:∀c,K ((o.set (j+1) o[j]).set j o[j+1]) c=if c=j then K o (j+1) else if c=j+1 then K o j else K o c:=λc=>by
      simp only[K,List.getD,List.getElem?_set,zbm];by_cases c1:c=j
      .subst c1;simp[hj,zc hj1]
      .by_cases c2:c=j+1
       .subst c2;simp[hj1,zc hj]
       .rw[za (by omega),za (by omega),za c1,za c2]
     show K ((o.set (j+1) o[j]).set ((j:Nat):Int).toNat o[j+1]) a<=K ((o.set (j+1) o[j]).set ((j:Nat):Int).toNat o[j+1]) b;rw[zV,hK,hK];by_cases a1:a=j
     .subst a1;rw[zb rfl];by_cases b2:b=a+1
      .subst b2;rw[za (by omega),zb rfl];omega
      .rw[za (by omega),za b2];exact hk (a+1) b (by omega) h2 b2
     .rw[za a1];by_cases a2:a=j+1
      .subst a2;rw[zb rfl,za (by omega),za (by omega)];exact hk j b (by omega) h2 (by omega)
      .rw[za a2,za h3];by_cases b2:b=j+1
       .subst b2;rw[zb rfl];exact hk a j (by omega) (by omega) (by omega)
       .rw[za b2];exact hk a b h1 h2 b2
 have outer:∃m,(lp (S:=Int × (List Int)) (E:=(List Int)) (λ((s38,s39):Int × (List Int))=>
   if (decide (s38<(s39.length:Int))) then
     (lp (S:=Int × (List Int)) (E:=(List Int)) (λ((s58,s59):Int × (List Int))=>
      if (decide (s58 > 0)) then
       (K6 (sO s)).bind λv62=>
       (ix s59 (A1 (s58-1))).bind λv63=>
       (P6 v62 v63).bind λv64=>
       (ix s59 s58).bind λv65=>
       (P6 v62 v65).bind λv66=>
       (u5 (((decide (v64.1<0))||(decide (v66.1<0)))==false) (⟨0,0,⟨0,0,0,0,false,[]⟩⟩:n8) (ix (sO s).Cells v64.1)).bind λv67=>
       (u5 (((decide (v64.1<0))||(decide (v66.1<0)))==false) (⟨0,0,⟨0,0,0,0,false,[]⟩⟩:n8) (ix (sO s).Cells v66.1)).bind λv68=>
       if (((decide (v64.1<0))||(decide (v66.1<0)))||(decide (v67.Val.Serial<=v68.Val.Serial))) then
        some (.inr s59)
       else
       (ix (s59.set (s58).toNat v63) (A1 (s58-1))).bind λv69=>
       some (.inl (A1 (s58-1),((s59.set (s58).toNat v63).set (A1 (s58-1)).toNat v65)))
      else
      some (.inr s59)) (s38,s39)).bind λe57=>
     some (.inl (A1 (s38+1),e57))
   else
   some (.inr s39)) (1,l))=some m/\m.Perm l/\m.Pairwise (λa b=>sk s.S.Cells a<=sk s.S.Cells b):=by
  have hb1:l.length+1-(1:Int).toNat<4611686018427387904:=by omega
  refine rX (s0:=((1:Int),l)) (λq=>∃k:Nat,q.1=(k:Int)/\(k<=l.length\/k=1)/\1<=k/\q.2.Perm l/\∀a b,a<b->b<k->K q.2 a<=K q.2 b) (λ(o':List Int)=>o'.Perm l/\o'.Pairwise (λa b=>sk s.S.Cells a<=sk s.S.Cells b)) (λq=>l.length+1-q.1.toNat) ⟨1,rfl,.inr rfl,by omega,List.Perm.refl _,λa b h1 h2=>by omega⟩ hb1 ?_;rintro⟨_,o⟩ ⟨k,rfl,hkl,hk1,hp,hk⟩;simp only at hp hk |-;have hol:o.length=l.length:=hp.length_eq;rcases zy k l.length with h1 | h1
  .left;obtain⟨o',e1,e2,e3⟩:=inner k o h1 hp λa b x1 x2 x3=>hk a b x1 (by omega);refine⟨(((k+1:Nat):Int),o'),?_,⟨k+1,rfl,by omega,by omega,e2,λa b x1 x2=>e3 a b x1 (by omega)⟩,by show l.length+1-((k+1:Nat):Int).toNat<l.length+1-(k:Int).toNat;omega⟩;rw[zb (by simp;omega),e1,a1b,l6 (by omega)]
  .right;refine⟨o,by rw[za (by simp;omega)],hp,?_⟩;rw[zbx];intro i j hi hj hij;have:=hk i j hij (by omega);simpa[K,List.getD,zc hi,zc hj] using this
 obtain⟨m,e1,e2,e3⟩:=outer;exact⟨m,by rw[show lp _ _=_ from e1];rfl,e2,e3⟩
theorem km{s:a7}(hR:sz (sO s)):T6 (sO s)=some (lv s):=by
 have hlen:=dQ hR;unfold T6;simp only[jn];have hloop:lp (S:=Int × (List Int)) (E:=(List Int)) (λ((s18,s19):Int × (List Int))=>
   if (decide (s18<((sO s).Cells.length:Int))) then
     (ix (sO s).Cells s18).bind λv27=>
     if (v27.State==1) then
      (fM s18 v27.Gen).bind λv28=>
      (app 8 s19 [v28]).bind λv29=>
      some (.inl (A1 (s18+1),v29))
     else
     some (.inl (A1 (s18+1),s19))
   else
   some (.inr s19)) (0,[])=some (ay 0 s.S.Cells):=by
  refine gH (eK (T:=List Int) s.S.Cells.length (λk l=>l=ay 0 (s.S.Cells.take k)) (λe=>e=ay 0 s.S.Cells) (by omega) (by simp[ay]) (λk l hk hP=>?_) (λl hP=>?_))
  .subst hP;left;have hc:=(Fo hR).gen k hk;have hl:=kW 0 (s.S.Cells.take k);have et:s.S.Cells.take (k+1)=s.S.Cells.take k ++ [s.S.Cells[k]]:=by rw[List.take_add_one,zc hk];rfl
   have el:(s.S.Cells.take k).length=k:=by simp;omega
   refine⟨_,?_,rfl⟩;simp only[C9,zo,hk,zt,zD,Ms,r8 hk,zM,a1b,cO];rw[et,pW,el,so];by_cases q:s.S.Cells[k].State=1
   .rw[zb (by simpa using q),zb q,jG,a1b,zb (by omega),B3 (by omega) (by simp;omega),a1b,l6]
   .rw[za (by simpa using q),za q,l6,my]
  .subst hP;refine⟨_,by simp only[C9,mt,or,zg,zU];rfl,by simp⟩
 rw[show lp _ _=_ from hloop,a1b];obtain⟨m,h1,h2,h3⟩:=Rv hR (l:=ay 0 s.S.Cells) (λx hx=>(vB hR).2 hx) (by have:=kW 0 s.S.Cells;omega);rw[h1,a1b];congr 1;obtain⟨_,l2,l3⟩:=jB hR;exact ns (key:=sk s.S.Cells) (h2.trans l2.symm) h3 (l3.imp λh=>by omega) λa ha b hb e=>Fz hR (h2.mem_iff.1 ha) (h2.mem_iff.1 hb) e
theorem Hd(v:List Int)(h:v.length<=1000000):gW v=some (nz v):=by
 unfold gW qF;simp only[jn,a1b];rw[H6 v (λb x=>if x != 0 then b ++ [x] else b) id (λk b=>b.length<=k) (by omega) (by simp) (λk hk b hb=>?_) (λb _=>?_)]
 .simp only[a1b,id];rw[foldl_filter];rfl
 .simp only[zo,hk,zt,zD,r8 hk,a1b];by_cases q:(v[k] != 0)=true
  .rw[zb (by simpa using q),zb q,B3 (by omega) (by simp;omega),a1b,l6];exact⟨rfl,by simp;omega⟩
  .rw[za (by simpa using q),za q,l6];exact⟨rfl,by omega⟩
 .simp only[mt,or,zg,zU];rfl
theorem Ae(v:List Int)(h:v.length<=1000000):eP v=some (nz v):=by
 unfold eP;simp only[jn];rw[H6 v (λb x=>if x != 0 then b ++ [x] else b) id (λk b=>b.length<=k) (by omega) (by simp) (λk hk b hb=>?_) (λb _=>?_)]
 .simp only[a1b,id];rw[foldl_filter];rfl
 .simp only[zo,hk,zt,zD,r8 hk,a1b];by_cases q:(v[k] != 0)=true
  .rw[zb q,zb q,B3 (by omega) (by simp;omega),a1b,l6];exact⟨rfl,by simp;omega⟩
  .rw[za q,za q,l6];exact⟨rfl,by omega⟩
 .simp only[mt,or,zg,zU];rfl
theorem nv(l:List Int)(h:Int)(hl:l.length<=1000000):cT l h=some (Y9 l h:Int):=by
 unfold cT;simp only[jn];rw[vz l (λ(b:Int) x=>if (x==h&&h != 0) then b+1 else b) id (λk b=>0<=b/\b<=k) (by omega) (by simp) (λk hk b hb=>?_) (λb _=>?_)]
 .simp only[a1b,id];rw[wA];simp
 .simp only[zo,hk,zt,zD,r8 hk,a1b];by_cases q:(l[k]==h&&h != 0)=true
  .rw[zb q,zb q,l6,G4 (n:=b+1) (by omega) (by omega)];exact⟨rfl,by omega⟩
  .rw[za q,za q,l6];exact⟨rfl,by omega⟩
 .simp only[mt,or,zg,zU];rfl
noncomputable def jy(s:a7)(h:Int):Nat:=((lv s).map λx=>Y9 (outs s x) h).sum
theorem LG{s:a7}(hR:sz (sO s)){k:Nat}(hk:k<(lv s).length):(lv s)[k]<=9223372036854775807:=by
 have:=ko hR (zd hk);omega
section
variable{s:a7}(hR:sz (sO s))
include hR
theorem QH{h:Int}(hh:h<=9223372036854775807):lH s h=some (outs s h):=by
 obtain⟨e,h1,_⟩:=T0 hR hh;unfold lH;rw[h1,a1b,Hd _ (by have:=Ek hR h hh;simp only;omega)];rfl
theorem Hj{h:Int}(hh:h<=9223372036854775807):tZ (sO s) h=some (outs s h):=by
 unfold tZ;rw[iv s (by have:=dQ hR;omega) hh];obtain⟨e,h1,h2⟩:=T0 hR hh;rw[h1];simp only[zM,a1b];by_cases q:e=0
 .subst q;rw[za (by simp),Ae _ (by have:=Ek hR h hh;simp only[oo];omega)];rfl
 .rw[zb (by simpa using q),LV hR hh (λq'=>q (h2.2 q'))]
theorem Jt(h:Int):jy s h<=96:=by
 have:=FF (λx=>Y9 (outs s x) h) 4 (lv s) λx hx=>we (Kt _ _) (lf hR x (by have:=ko hR hx;omega));have:=H2 hR;unfold jy;omega
theorem Zd(h:Int):xW s h=some (jy s h:Int):=by
 unfold xW nh;simp only[jn,a1b];rw[show F2 s=_ from dB hR,a1b];have hl:=H2 hR;rw[H6 (lv s) (λ(b:Int) x=>b+(Y9 (outs s x) h:Int)) id (λk b=>0<=b/\b<=4*k) (by omega) (by simp) (λk hk b hb=>?_) (λb _=>?_)]
 .simp only[a1b,id];have:=rU (λx=>Y9 (outs s x) h) (lv s) 0;rw[show ((0:Nat):Int)=0 from rfl] at this;rw[this,so];rfl
 .have ho:=QH hR (LG hR hk);have hol:=lf hR _ (LG hR hk);have ht:=Kt (outs s (lv s)[k]) h;simp only[zo,hk,zt,zD,r8 hk,a1b,ho];rw[H6 (outs s (lv s)[k]) (λ(b:Int) x=>if (x==h&&h != 0) then b+1 else b) id (λj c=>b<=c/\c<=b+j) (by omega) (by simp) (λj hj c hc=>?_) (λc _=>?_)]
  .simp only[a1b,id];rw[wA,l6];exact⟨rfl,by omega⟩
  .simp only[zo,hj,zt,zD,r8 hj,a1b];have hne:=Uj (zd hj);by_cases q:(outs s (lv s)[k])[j]=h
   .have e2:((outs s (lv s)[k])[j]==h&&h != 0)=true:=by simp only[zj,ww,za8];omega
    rw[e2,zb (by simpa using q),zb rfl,l6,G4 (n:=c+1) (by omega) (by omega)];exact⟨rfl,by omega⟩
   .have e2:((outs s (lv s)[k])[j]==h&&h != 0)=false:=by rw[zbf];simp only[zci,zj,ww,za8];omega
    rw[e2,za (by simpa using q),l6];exact⟨rfl,by simp;omega⟩
  .simp only[mt,or,zg,zU];rfl
 .simp only[mt,or,zg,zU];rfl
theorem Ty(h:Int):ED (sO s) h=some (jy s h:Int):=by
 unfold ED;simp only[jn,km hR,a1b];have hl:=H2 hR;rw[vz (lv s) (λ(b:Int) x=>b+(Y9 (outs s x) h:Int)) id (λk b=>0<=b/\b<=4*k) (by omega) (by simp) (λk hk b hb=>?_) (λb _=>?_)]
 .simp only[a1b,id];have:=rU (λx=>Y9 (outs s x) h) (lv s) 0;rw[show ((0:Nat):Int)=0 from rfl] at this;rw[this,so];rfl
 .have hol:=lf hR _ (LG hR hk);have ht:=Kt (outs s (lv s)[k]) h;simp only[zo,hk,zt,zD,r8 hk,a1b,Hj hR (LG hR hk)];rw[nv _ _ (by omega),a1b,l6,G4 (by omega) (by omega)];exact⟨rfl,by omega⟩
 .simp only[mt,or,zg,zU];rfl
end
section
variable{s:a7}(hR:sz (sO s))(hF:FB s)
include hR hF
end
theorem sZ{α:Type}(p:α->Bool):∀l:List α,l.length=(l.filter p).length+(l.filter λx => !p x).length
 | []=>rfl
 | x::l=>by
  have:=sZ p l;by_cases h:p x
  .simp[h];omega
  .simp[h];omega
theorem Zf{s:a7}(hR:sz (sO s)){l:List Int}(hp:l.Perm (ay 0 s.S.Cells))(hs:l.Pairwise (λa b=>sk s.S.Cells a<sk s.S.Cells b)):lv s=l:=by
 obtain⟨_,l2,l3⟩:=jB hR;exact ns (key:=sk s.S.Cells) (l2.trans hp.symm) (l3.imp λh=>by omega) (hs.imp λh=>by omega) λa ha b hb e=>Fz hR (l2.mem_iff.1 ha) (l2.mem_iff.1 hb) e
inductive qV (s:a7) (l:List Int):Int->Prop
 | base {h:Int}:h∈l->h∈lv s->qV s l h
 | step {a b:Int}:qV s l a->b∈outs s a->b∈lv s->qV s l b
open Classical in
noncomputable def Ge (s:a7) (l:List Int):List Int:=(lv s).filter λh=>decide (qV s l h)
open Classical in
noncomputable def lst (s:a7) (l:List Int):List Int:=(lv s).filter λh=>decide (¬qV s l h)
def Cl(s:a7)(l:List Int):Prop:=∀a∈l,∀b∈outs s a,b∈lv s->b∈l
def LB(l:List Int):Prop:=∀x∈l,x<=9223372036854775807
theorem qV.live{s:a7}{l:List Int}{h:Int}(q:qV s l h):h∈lv s:=by cases q <;> assumption
open Classical in
theorem aF {s:a7} {l:List Int} {h:Int}:h∈Ge s l↔qV s l h:=by
 unfold Ge;rw[zn];exact⟨λq=>zbl q.2,λq=>⟨q.live,zp q⟩⟩
theorem Mc{s:a7}(hR:sz (sO s))(l:List Int):(Ge s l).length<=24:=we (zN ..) (H2 hR)
theorem XR(s:a7)(l:List Int):Cl s (Ge s l):=λa ha b hb hl=>aF.2 (.step (aF.1 ha) hb hl)
theorem qV.least{s:a7}{l m:List Int}(hc:Cl s m)(hl:∀x∈l,x∈lv s->x∈m){h:Int}(q:qV s l h):h∈m:=by
 induction q with
 | base h1 h2=>exact hl _ h1 h2
 | step _ h1 h2 ih=>exact hc _ ih _ h1 h2
theorem qV.mono{s:a7}{l m:List Int}(hl:∀x∈l,x∈lv s->qV s m x){h:Int}(q:qV s l h):qV s m h:=by
 induction q with
 | base h1 h2=>exact hl _ h1 h2
 | step _ h1 h2 ih=>exact .step ih h1 h2
theorem CJ{s:a7}{l m:List Int}(h:∀x,qV s l x↔qV s m x):Ge s l=Ge s m:=by
 unfold Ge;exact zat λx _=>za0.2 (h x)
theorem filter_lt{α:Type}{p q:α->Bool}:∀ {l:List α},(∀x∈l,p x=true->q x=true)->∀x∈l,q x=true->p x=false->(l.filter p).length<(l.filter q).length
 | [],_,x,hx,_,_=>by cases hx
 | y::l,h,x,hx,h1,h2=>by
  have hle:(l.filter p).length<=(l.filter q).length:=by
   have h':∀x∈l,p x=true->q x=true:=λx hx=>h x (zC _ hx);clear h hx;induction l with
   | nil=>simp
   | cons z l ih=>
    have:=ih λx hx=>h' x (zC _ hx);have hz:=h' z (zl ..);simp only[rx];by_cases a:p z=true
    .rw[zb a,zb (hz a)];simp only[zE];omega
    .rw[za a];split <;> (try simp only[zE]) <;> omega
  rcases zY.1 hx with rfl | hx'
  .simp only[rx,h1,h2,zD,zg,zU,zE];omega
  .have:=filter_lt (λx hx=>h x (zC _ hx)) x hx' h1 h2;have hy:=h y (zl ..);simp only[rx];by_cases a:p y=true
   .rw[zb a,zb (hy a)];simp only[zE];omega
   .rw[za a];split <;> (try simp only[zE]) <;> omega
theorem iD{l m:List Int}(hn:l.Nodup)(h:∀x∈l,x∈m):l.length<=m.length:=by
 induction l generalizing m with
 | nil=>simp
 | cons x l ih=>
  rw[zam] at hn;have hx:=h x (zl ..);have:=ih (m:=m.erase x) hn.2 λy hy=>(List.mem_erase_of_ne (λe=>hn.1 (by subst e;exact hy))).2 (h y (zC _ hy));rw[List.length_erase_of_mem hx] at this;have:0<m.length:=List.length_pos_of_mem hx;simp only[zE];omega
section
variable{s:a7}(hR:sz (sO s))
include hR
theorem Nt{h:Int}(hh:h<=9223372036854775807):bw s h=some (decide (h∈lv s)):=by
 obtain⟨e,h1,h2⟩:=T0 hR hh;unfold bw;rw[h1,a1b];congr 1;rw[zan,ww,zx];exact h2
abbrev Mk(m:List (Int × Bool))(x:Int):Prop:=(D1 m x).getD false=true
noncomputable def ME(s:a7)(m:List (Int × Bool)):Nat:=((lv s).filter λx => !(D1 m x).getD false).length
omit hR in
theorem vF (m:List (Int × Bool)) (x y:Int):Mk (u9 m x true) y↔y=x\/Mk m y:=by
 unfold Mk;rw[pX];by_cases q:y=x
 .simp[q]
 .simp[q]
omit hR in
theorem UY {m:List (Int × Bool)} {x:Int} (hx:x∈lv s) (hm:¬Mk m x):ME s (u9 m x true)<ME s m:=by
 unfold ME;refine filter_lt (λy _ h=>?_) x hx (by simpa[Mk] using hm) ?_
 .by_cases q:Mk m y
  .have:=(vF m x y).2 (.inr q);unfold Mk at this;rw[this] at h;cases h
  .simpa[Mk] using q
 .have:=(vF m x x).2 (.inl rfl);unfold Mk at this;rw[this];rfl
structure IM (s:a7) (l:List Int) (q:l7) (m:List (Int × Bool)):Prop where
 nd:q.L.Nodup
 cap:q.Cap=((lv s).length:Int)
 kY:∀x∈q.L,Mk m x
 rc:∀x,Mk m x->qV s l x
omit hR in
theorem IM.room {l:List Int} {q:l7} {m:List (Int × Bool)} (h:IM s l q m) {x:Int} (hx:x∈lv s) (hm:¬Mk m x):q.L.length<(lv s).length:=by
 have:(x::q.L).length<=(lv s).length:=iD (zam.2 ⟨λk=>hm (h.kY x k),h.nd⟩) λy hy=>by
  rcases zY.1 hy with rfl | k
  .exact hx
  .exact (h.rc y (h.kY y k)).live
 simp only[zE] at this;omega
omit hR in
theorem Un {q:l7} {x:Int} (h:(q.L.length:Int)<q.Cap) (h2:q.L.length<=1000):R3 q x=some (⟨q.L ++ [x],q.Cap⟩,0):=by
 unfold R3 M9 R4;rw[a1b,za (by simp;omega)];have:=rM (xs:=q.L) (i:=0) (j:=q.L.length) (by omega) (zI _);rw[show ((0:Nat):Int)=0 from rfl] at this;rw[this];simp only[zK,List.drop_zero,a1b];rw[B3 (by omega) (by simp;omega)];rfl
omit hR in
theorem XD {x:Int} {r:List Int} {c:Int} (h2:r.length<=1000):bU ⟨x::r,c⟩=some (⟨r,c⟩,x,0):=by
 unfold bU gh M9 R4;simp only[a1b,zE];have e:(if (if (((r.length+1:Nat):Int))<1 then (((r.length+1:Nat):Int)) else 1) > 0 then (if (((r.length+1:Nat):Int))<1 then (((r.length+1:Nat):Int)) else 1) else 0:Int)=((1:Nat):Int):=by
  rw[za (show ¬(((r.length+1:Nat):Int)<1) by omega)];rfl
 rw[e];have h1:=rM (xs:=x::r) (i:=0) (j:=1) (by omega) (by simp);have h3:=rM (xs:=x::r) (i:=1) (j:=r.length+1) (by omega) (by simp);rw[show ((0:Nat):Int)=0 from rfl] at h1;rw[h1,h3];simp only[a1b];have e1:List.drop 0 (List.take 1 (x::r)) = [x]:=by simp
 have e2:List.drop 1 (List.take (r.length+1) (x::r))=r:=by simp
 rw[e1,e2];rfl
abbrev Hq(s:a7)(xs:List Int):Int × l7 × (List (Int × Bool))->Option ((Int × l7 × (List (Int × Bool))) ⊕ (l7 × (List (Int × Bool)))):=
 λ(s114,s115,s116)=>
   if (decide (s114<(xs.length:Int))) then
     (ix xs s114).bind λv126=>
     (bw s v126).bind λv127=>
     if (v127==true) then
      if (!((D1 s116 v126).getD (false:Bool))) then
       (R3 s115 v126).bind λv128=>
       some (.inl (A1 (s114+1),v128.1,(u9 s116 v126 true)))
      else
      some (.inl (A1 (s114+1),s115,s116))
     else
     some (.inl (A1 (s114+1),s115,s116))
   else
   some (.inr (s115,s116))
theorem CF{l xs:List Int}{q:l7}{m:List (Int × Bool)}(hxs:LB xs)(hlen:xs.length<=1000000)(h0:IM s l q m)(hr:∀x∈xs,x∈lv s->qV s l x) :
  ∃q' m',lp (Hq s xs) (0,q,m)=some (q',m')/\IM s l q' m'/\(∀x,Mk m' x↔Mk m x\/x∈xs/\x∈lv s)/\(∀x,Mk m' x->Mk m x\/x∈q'.L)/\(∀x∈q.L,x∈q'.L)/\2*ME s m'+q'.L.length<=2*ME s m+q.L.length:=by
 have:=eK (f:=Hq s xs) (t0:=(q,m)) xs.length (λk t=>IM s l t.1 t.2/\(∀x,Mk t.2 x↔Mk m x\/x∈xs.take k/\x∈lv s)/\(∀x,Mk t.2 x->Mk m x\/x∈t.1.L)/\(∀x∈q.L,x∈t.1.L)/\2*ME s t.2+t.1.L.length<=2*ME s m+q.L.length)
  (λt=>IM s l t.1 t.2/\(∀x,Mk t.2 x↔Mk m x\/x∈xs/\x∈lv s)/\(∀x,Mk t.2 x->Mk m x\/x∈t.1.L)/\(∀x∈q.L,x∈t.1.L)/\2*ME s t.2+t.1.L.length<=2*ME s m+q.L.length) (by omega)
  ⟨h0,λx=>by simp,λx h=>.inl h,λx h=>h,zI _⟩ (λk t hk hP=>?_) (λt hP=>?_)
 .obtain⟨⟨q',m'⟩,h1,h2⟩:=this;exact⟨q',m',h1,h2⟩
 .obtain⟨q1,m1⟩:=t;obtain⟨p1,p2,p3,p4,p5⟩:=hP;simp only at p1 p2 p3 p4 p5;left;have hle:=hxs _ (zd hk);have ht:∀x,x∈xs.take (k+1)↔x∈xs.take k\/x=xs[k]:=λx=>by rw[zw hk,zB,zO]
  simp only[Hq,zo,hk,zt,zD,r8 hk,a1b,Nt hR hle];by_cases hv:xs[k]∈lv s
  .rw[zb (by simpa using hv)];by_cases hm:Mk m1 xs[k]
   .rw[za (by rw[show (D1 m1 xs[k]).getD false=true from hm];decide),l6];refine⟨(q1,m1),rfl,p1,λx=>?_,p3,p4,p5⟩;rw[p2,ht];constructor
    .rintro (a | ⟨a,b⟩);·exact .inl a
     .exact .inr ⟨.inl a,b⟩
    .rintro (a | ⟨a | rfl,b⟩);·exact .inl a
     .exact .inr ⟨a,b⟩
     .exact (p2 _).1 hm
   .have hm':(D1 m1 xs[k]).getD false=false:=by simpa[Mk] using hm
    have hroom:=p1.room hv hm;have hl24:=H2 hR;rw[zb (by rw[hm'];decide),Un (by rw[p1.cap];omega) (by omega),a1b,l6];refine⟨(⟨q1.L ++ [xs[k]],q1.Cap⟩,u9 m1 xs[k] true),rfl,⟨?_,p1.cap,λx hx=>?_,λx hx=>?_⟩,λx=>?_,λx hx=>?_,λx hx=>?_,?_⟩
    .simp only;rw[zb3];refine⟨p1.nd,by simp,λa ha b hb e=>?_⟩;rw[zO] at hb;subst hb;subst e;exact hm (p1.kY _ ha)
    .simp only[zB,zO] at hx;rw[vF];rcases hx with a | a
     .exact .inr (p1.kY x a)
     .exact .inl a
    .rcases (vF m1 xs[k] x).1 hx with rfl | a
     .exact hr _ (zd hk) hv
     .exact p1.rc x a
    .simp only;rw[vF,p2,ht];constructor
     .rintro (rfl | a | ⟨a,b⟩);·exact .inr ⟨.inr rfl,hv⟩
      .exact .inl a
      .exact .inr ⟨.inl a,b⟩
     .rintro (a | ⟨a | a,b⟩);·exact .inr (.inl a)
      .exact .inr (.inr ⟨a,b⟩)
      .exact .inl a
    .simp only[zB,zO];rcases (vF m1 xs[k] x).1 hx with a | a
     .exact .inr (.inr a)
     .rcases p3 x a with b | b
      .exact .inl b
      .exact .inr (.inl b)
    .simp only[zB];exact .inl (p4 x hx)
    .have:=UY hv hm;simp only[zT,List.length_singleton];omega
  .rw[za (by simpa using hv),l6];refine⟨(q1,m1),rfl,p1,λx=>?_,p3,p4,p5⟩;rw[p2,ht];constructor
   .rintro (a | ⟨a,b⟩);·exact .inl a
    .exact .inr ⟨.inl a,b⟩
   .rintro (a | ⟨a | rfl,b⟩);·exact .inl a
    .exact .inr ⟨a,b⟩
    .exact absurd b hv
 .obtain⟨q1,m1⟩:=t;refine⟨(q1,m1),?_,?_⟩;·simp only[Hq,mt,or,zg,zU]
  .simpa using hP
theorem CR(hF:FB s){l:List Int}(hl:LB l)(hlen:l.length<=1000000):∃m,dO s l=some m/\∀x,Mk m x↔qV s l x:=by
 unfold dO fy;simp only[jn,dB hR,a1b];have h24:=H2 hR;obtain⟨q0,m0,e0,i0,i1,i2,i3,i4⟩:=CF hR (l:=l) (xs:=l) (q:=⟨[],((lv s).length:Int)⟩) (m:=[]) hl hlen ⟨List.nodup_nil,rfl,(λx hx=>by cases hx),(λx hx=>by simp[Mk,D1] at hx)⟩ (λx h1 h2=>.base h1 h2);rw[show lp _ _=_ from e0,a1b];simp only;have hu:ME s []<=24:=we (zN ..) h24;obtain⟨m,h1,h2⟩:=rX (s0:=(q0,m0)) (f:=λ((s70,s71):l7 × (List (Int × Bool)))=>
    (M9 s70).bind λv74=>
    if (decide (v74 > 0)) then
     (bU s70).bind λv75=>
     (lH s v75.2.1).bind λv76=>
      (lp (Hq s v76) (0,v75.1,s71)).bind λe97=>
      (some (.inl (e97.1,e97.2)):Option ((l7 × List (Int × Bool)) ⊕ List (Int × Bool)))
    else
    some (.inr s71)) (λt=>IM s l t.1 t.2/\(∀x∈l,x∈lv s->Mk t.2 x)/\∀a,Mk t.2 a->a∈t.1.L\/∀b∈outs s a,b∈lv s->Mk t.2 b) (λm=>∀x,Mk m x↔qV s l x) (λt=>2*ME s t.2+t.1.L.length)
   ⟨i0,λx h1 h2=>(i1 x).2 (.inr ⟨h1,h2⟩),λa ha=>.inl ((i2 a ha).resolve_left (by simp[Mk,D1]))⟩ (by show 2*ME s m0+q0.L.length<_;simp only[un] at i4;omega) (by
   rintro⟨q,m⟩ ⟨p1,p2,p3⟩;simp only at p1 p2 p3 |-;have hq:=iD p1.nd λx hx=>(p1.rc x (p1.kY x hx)).live;unfold M9;rw[a1b];cases hqL:q.L with
   | nil=>
    right;refine⟨m,by rw[za (by simp)],λx=>⟨p1.rc x,λh=>?_⟩⟩;induction h with
    | base a b=>exact p2 _ a b
    | step _ a b ih=>
     rcases p3 _ ih with c | c
     .rw[hqL] at c;cases c
     .exact c _ a b
   | cons a r=>
    left;have hqe:q=⟨a::r,q.Cap⟩:=by rw[<-hqL]
    have hal:a∈lv s:=(p1.rc a (p1.kY a (by rw[hqL];exact zl ..))).live;have ha:a<=9223372036854775807:=by have:=ko hR hal;omega
    have hnd:=p1.nd;rw[hqL] at hnd hq;simp only[zE] at hq;obtain⟨q',m',e1,j0,j1,j2,j3,j4⟩:=CF hR (l:=l) (xs:=outs s a) (q:=⟨r,q.Cap⟩) (m:=m) (λx hx=>Ui hR hF ha hx) (by have:=lf hR a ha;omega) ⟨(zam.1 hnd).2,p1.cap,λx hx=>p1.kY x (by rw[hqL];exact zC _ hx),p1.rc⟩ (λx h1 h2=>.step (p1.rc a (p1.kY a (by rw[hqL];exact zl ..))) h1 h2);refine⟨(q',m'),?_,⟨j0,λx h1 h2=>(j1 x).2 (.inl (p2 x h1 h2)),λb hb=>?_⟩,?_⟩
    .rw[zb (by simp),hqe,XD (by omega),a1b];simp only;rw[QH hR ha,a1b,e1,a1b]
    .simp only at hb |-;rcases j2 b hb with c | c
     .rcases p3 b c with d | d
      .rw[hqL] at d;rcases zY.1 d with rfl | d
       .exact .inr λy h1 h2=>(j1 y).2 (.inr ⟨h1,h2⟩)
       .exact .inl (j3 b d)
      .exact .inr λy h1 h2=>(j1 y).2 (.inl (d y h1 h2))
     .exact .inl c
    .show 2*ME s m'+q'.L.length<2*ME s m+(a::r).length;simp only[zE] at j4 |-;omega)
 refine⟨m,?_,h2⟩;rw[show lp _ _=_ from h1];rfl
end
theorem PK(l:List Int)(x:Int)(hl:l.length<=1000000):∃r:Int,T8 l x=some r/\(0<=r↔x∈l):=by
 unfold T8;simp only[jn];by_cases h:x∈l
 .obtain⟨i,hi,e⟩:=List.mem_iff_getElem.1 h;obtain⟨j,⟨hj,ej⟩,hmin⟩:=Y3 (p:=λi=>∃hi:i<l.length,l[i]=x) ⟨i,hi,e⟩;refine⟨(j:Int),?_,by simp[h]⟩;refine N6 l.length (λk=>k<=j) (by omega) (t7 _) (λk hk hP=>?_) (λhP=>by omega);simp only[zo,hk,zt,zD,r8 hk,a1b];rcases zy k j with q | q
  .refine .inl ⟨?_,q⟩;rw[za (by
    rw[ww];intro e;have:=hmin k ⟨hk,e.symm⟩;omega),l6]
  .have:k=j:=by omega
   subst this;exact .inr ⟨_,by rw[zb (by simpa using ej.symm)],rfl⟩
 .refine⟨-1,?_,by simp[h]⟩;refine N6 l.length (λk=>True) (by omega) trivial (λk hk hP=>.inl ⟨?_,trivial⟩) (λhP=>⟨.inr (),by simp,rfl⟩);simp only[zo,hk,zt,zD,r8 hk,a1b];rw[za (by
   rw[ww];intro e;exact h (e▸zd hk)),l6]
theorem contains_eq(l:List Int)(x:Int)(hl:l.length<=1000000):G7 l x=some (decide (x∈l)):=by
 obtain⟨r,h1,h2⟩:=PK l x hl;unfold G7;rw[h1,a1b];congr 1;exact za0.2 h2
theorem tn(l:List Int)(x:Int)(hl:l.length<=1000000):mW l x=some (decide (x≠0/\x∈l)):=by
 unfold mW;rw[nv l x hl,a1b];congr 1;rw[za0,<-dU];omega
open Classical in
theorem Iq (all l:List Int) (b:Bool) (ha:all.length<=1000000) (hl:l.length<=1000000) (h0:∀x∈all,x≠0):lu all l b=some (all.filter λx=>decide (x∈l)==b):=by
 unfold lu;simp only[jn];rw[H6 all (λacc x=>if decide (x∈l)==b then acc ++ [x] else acc) id (λk acc=>acc.length<=k) (by omega) (by simp) (λk hk acc hb=>?_) (λb _=>?_)]
 .simp only[a1b,id];rw[foldl_filter];rfl
 .simp only[zo,hk,zt,zD,r8 hk,a1b,tn _ _ hl];have e:decide (all[k]≠0/\all[k]∈l)=decide (all[k]∈l):=za0.2 ⟨λq=>q.2,λq=>⟨h0 _ (zd hk),q⟩⟩;rw[e];by_cases q:(decide (all[k]∈l)==b)=true
  .rw[zb q,zb q,B3 (by omega) (by simp;omega),a1b,l6];exact⟨rfl,by simp;omega⟩
  .rw[za q,za q,l6];exact⟨rfl,by omega⟩
 .simp only[mt,or,zg,zU];rfl
section
variable{s:a7}(hR:sz (sO s))
include hR
theorem LI:∀x∈lv s,x≠0:=λx hx=>by have:=ko hR hx;omega
open Classical in
theorem Lr (hF:FB s) {l:List Int} (hl:LB l) (hlen:l.length<=1000000):iM s l=some (Ge s l):=by
 obtain⟨m,h1,h2⟩:=CR hR hF hl hlen;unfold iM U4 gD;rw[h1,a1b];simp only[jn,dB hR,a1b];have h24:=H2 hR;rw[H6 (lv s) (λacc x=>if decide (qV s l x) then acc ++ [x] else acc) id (λk acc=>acc.length<=k) (by omega) (by simp) (λk hk acc hb=>?_) (λb _=>?_)]
 .simp only[a1b,id];rw[foldl_filter];rfl
 .simp only[zo,hk,zt,zD,r8 hk,a1b];by_cases q:qV s l (lv s)[k]
  .rw[zb ((h2 _).2 q),zb (by simpa using q),B3 (by omega) (by simp;omega),a1b,l6];exact⟨rfl,by simp;omega⟩
  .rw[za (λk=>q ((h2 _).1 k)),za (by simpa using q),l6];exact⟨rfl,by omega⟩
 .simp only[mt,or,zg,zU];rfl
open Classical in
theorem TH (hF:FB s) {l:List Int} (hl:LB l) (hlen:l.length<=1000000):ng s l=some (lst s l):=by
 obtain⟨m,h1,h2⟩:=CR hR hF hl hlen;unfold ng U5 gE;rw[h1,a1b];simp only[jn,dB hR,a1b];have h24:=H2 hR;rw[H6 (lv s) (λacc x=>if decide (¬qV s l x) then acc ++ [x] else acc) id (λk acc=>acc.length<=k) (by omega) (by simp) (λk hk acc hb=>?_) (λb _=>?_)]
 .simp only[a1b,id];rw[foldl_filter];rfl
 .simp only[zo,hk,zt,zD,r8 hk,a1b];by_cases q:qV s l (lv s)[k]
  .have e:(D1 m (lv s)[k]).getD false=true:=(h2 _).2 q;rw[za (by rw[e];decide),za (by simpa using q),l6];exact⟨rfl,by omega⟩
  .have e:(D1 m (lv s)[k]).getD false=false:=by
    have:¬Mk m (lv s)[k]:=λk=>q ((h2 _).1 k);simpa[Mk] using this
   rw[zb (by rw[e];decide),zb (by simpa using q),B3 (by omega) (by simp;omega),a1b,l6];exact⟨rfl,by simp;omega⟩
 .simp only[mt,or,zg,zU];rfl
def grow(s:a7)(all seen:List Int):List Int:=all.filter λx=>decide (x∈seen++seen.flatMap (outs s))
def aK(s:a7)(all seen:List Int):Nat->List Int
 | 0=>seen
 | k+1=>grow s all (aK s all seen k)
omit hR in
theorem rV (all seen:List Int) (k:Nat):aK s all seen (k+1)=grow s all (aK s all seen k):=rfl
omit hR in
theorem tl {all seen:List Int} {x:Int}:x∈grow s all seen↔x∈all/\(x∈seen\/∃a∈seen,x∈outs s a):=by
 unfold grow;rw[zn,zx,zB,zao]
open Classical in
omit hR in
theorem PF (l:List Int):aK s (lv s) ((lv s).filter λx=>decide (x∈l)==true) (lv s).length=Ge s l:=by
 have hsub:∀k x,x∈aK s (lv s) ((lv s).filter λx=>decide (x∈l)==true) k->qV s l x:=by
  intro k;induction k with
  | zero=>
   intro x hx;have:=zn.1 (show x∈(lv s).filter λx=>decide (x∈l)==true from hx);exact .base (by simpa using this.2) this.1
  | succ k ih=>
   intro x hx;rw[rV,tl] at hx;rcases hx.2 with q | ⟨a,q1,q2⟩
   .exact ih x q
   .exact .step (ih a q1) q2 hx.1
 have hall:∀k x,x∈aK s (lv s) ((lv s).filter λx=>decide (x∈l)==true) k->x∈lv s:=λk x hx=>(hsub k x hx).live;have hfil:∀k,∃p:Int->Bool,aK s (lv s) ((lv s).filter λx=>decide (x∈l)==true) k=(lv s).filter p:=by
  intro k;cases k with
  | zero=>exact⟨_,rfl⟩
  | succ k=>exact⟨_,rfl⟩
 have hinc:∀k x,x∈aK s (lv s) ((lv s).filter λx=>decide (x∈l)==true) k->x∈aK s (lv s) ((lv s).filter λx=>decide (x∈l)==true) (k+1):=λk x hx=>tl.2 ⟨hall k x hx,.inl hx⟩;have key:∀k,Cl s (aK s (lv s) ((lv s).filter λx=>decide (x∈l)==true) k)\/k<=(aK s (lv s) ((lv s).filter λx=>decide (x∈l)==true) k).length:=by
  intro k;induction k with
  | zero=>exact .inr (t7 _)
  | succ k ih=>
   by_cases hc:Cl s (aK s (lv s) ((lv s).filter λx=>decide (x∈l)==true) k)
   .left;have:∀x,x∈aK s (lv s) ((lv s).filter λx=>decide (x∈l)==true) (k+1)↔x∈aK s (lv s) ((lv s).filter λx=>decide (x∈l)==true) k:=λx=>⟨λhx=>by
     rw[rV,tl] at hx;rcases hx.2 with q | ⟨a,q1,q2⟩
     .exact q
     .exact hc a q1 x q2 hx.1,hinc k x⟩
    intro a ha b hb hbl;exact (this b).2 (hc a ((this a).1 ha) b hb hbl)
   .right;have hk:=ih.resolve_left hc;obtain⟨b,hb1,hb2,hb3⟩:∃b,b∈lv s/\b∈aK s (lv s) ((lv s).filter λx=>decide (x∈l)==true) (k+1)/\b∉aK s (lv s) ((lv s).filter λx=>decide (x∈l)==true) k:=by
     refine zP λq=>hc λa ha b hb hbl=>zP λq2=>q ⟨b,hbl,tl.2 ⟨hbl,.inr ⟨a,ha,hb⟩⟩,q2⟩
    obtain⟨p,hp⟩:=hfil k;obtain⟨p',hp'⟩:=hfil (k+1);have hi:=hinc k;rw[hp] at hi hb3 hk;rw[hp'] at hi hb2 |-;have:=filter_lt (p:=p) (q:=p') (l:=lv s) (λx hx h=>(zn.1 (hi x (zn.2 ⟨hx,h⟩))).2) b hb1 (zn.1 hb2).2 (by
     cases h:p b;·rfl
     .exact absurd (zn.2 ⟨hb1,h⟩) hb3)
    omega
 have hcl:Cl s (aK s (lv s) ((lv s).filter λx=>decide (x∈l)==true) (lv s).length):=by
  rcases key (lv s).length with q | q
  .exact q
  .obtain⟨p,hp⟩:=hfil (lv s).length;rw[hp] at q |-;have:(lv s).filter p=lv s:=zap.2 λx hx=>by
    cases h:p x
    .have:=filter_lt (p:=p) (q:=λ_=>true) (l:=lv s) (λ_ _ _=>rfl) x hx rfl h;rw[zap.2 (λ_ _=>rfl)] at this;omega
    .rfl
   rw[this];exact λ_ _ _ _ h=>h
 have hbase:∀k x,x∈l->x∈lv s->x∈aK s (lv s) ((lv s).filter λx=>decide (x∈l)==true) k:=by
  intro k;induction k with
  | zero=>intro x h1 h2;exact zn.2 ⟨h2,by simpa using h1⟩
  | succ k ih=>intro x h1 h2;exact hinc k x (ih x h1 h2)
 have hiff:∀x,x∈aK s (lv s) ((lv s).filter λx=>decide (x∈l)==true) (lv s).length↔qV s l x:=λx=>⟨hsub _ x,λq=>qV.least hcl (hbase _) q⟩;obtain⟨p,hp⟩:=hfil (lv s).length;rw[hp];unfold Ge;refine zat λx hx=>?_;have:=hiff x;rw[hp,zn] at this;rw[zan,zx,<-this];exact⟨λh=>⟨hx,h⟩,λh=>h.2⟩
open Classical in
theorem Ck {l:List Int} (hlen:l.length<=1000000):lr (sO s) l=some (Ge s l):=by
 unfold lr;have h24:=H2 hR;rw[km hR,a1b,Iq _ _ _ (by omega) hlen (LI hR),a1b];simp only[jn];have hg:∀k,(aK s (lv s) ((lv s).filter λx=>decide (x∈l)==true) k).length<=24/\∀x∈aK s (lv s) ((lv s).filter λx=>decide (x∈l)==true) k,x∈lv s:=by
  intro k;cases k with
  | zero=>exact⟨we (zN ..) h24,λx hx=>(zn.1 (show x∈(lv s).filter λx=>decide (x∈l)==true from hx)).1⟩
  | succ k=>exact⟨we (zN ..) h24,λx hx=>(zn.1 (show x∈(lv s).filter _ from hx)).1⟩
 refine dA (p:=λk=>(aK s (lv s) ((lv s).filter λx=>decide (x∈l)==true) k,(k:Int))) rfl (lv s).length (λ_=>True) (by omega) trivial (λk hk _=>.inl ⟨?_,trivial⟩) (λ_=>⟨_,by simp only[mt,or,zg,zU];rfl,by rw[PF l]⟩);obtain⟨g1,g2⟩:=hg k;simp only[zo,hk,zt,zD];rw[O4 (by omega) (by omega),a1b];generalize hS:aK s (lv s) ((lv s).filter λx=>decide (x∈l)==true) k=S at g1 g2;have hSle:∀x∈S,x<=9223372036854775807:=λx hx=>by have:=ko hR (g2 x hx);omega
 have hflat:∀T:List Int,T.length<=24->(∀x∈T,x<=9223372036854775807)->(T.flatMap (outs s)).length<=96:=λT h1 h2=>by
  rw[List.length_flatMap];have:=FF (λx=>(outs s x).length) 4 T λx hx=>lf hR x (h2 x hx);omega
 rw[H6 S (λacc x=>acc++outs s x) id (λj acc=>acc.length<=S.length+4*j) (by omega) (by simp) (λj hj acc hb=>?_) (λb _=>?_)]
 .simp only[a1b,id];rw[eF,Iq _ _ _ (by omega) (by
   have:=hflat S g1 hSle;simp only[zT];omega) (LI hR),a1b,l6,rV,hS]
  unfold grow;congr 3;refine zat λx _=>?_;rw[zan];simp
 .have ho:=lf hR _ (hSle _ (zd hj));simp only[zo,hj,zt,zD,r8 hj,a1b,Hj hR (hSle _ (zd hj))];rw[B3 (by omega) (by omega),a1b,l6];exact⟨rfl,by simp;omega⟩
 .simp only[mt,or,zg,zU];rfl
end
abbrev Tb:=List c9
abbrev J7(p:c9):k7:=⟨p.State,p.Key,p.Val⟩
def pt(t:Tb)(j:Nat):c9:=t.getD j ⟨0,0,0⟩
theorem wD{t:Tb}{j:Nat}(h:j<t.length):pt t j=t[j]:=by unfold pt;rw[zf,zc h];rfl
theorem Cr{t:Tb}{j:Nat}(h:j<t.length):ix t (j:Int)=some (pt t j):=by rw[r8 h,wD h]
theorem Ak{t:Tb}{i:Nat}(h:i<t.length)(p:c9)(j:Nat):pt (t.set i p) j=if j=i then p else pt t j:=by
 unfold pt;rw[zf,zf,List.getElem?_set];by_cases e:i=j
 .subst e;simp[h]
 .rw[za e,za (za2 e)]
def hm(n:Nat)(k:Int):Nat:=(A1 ((A1 (5*k))+1) % (n:Int)).toNat
theorem PI{n:Nat}(h:1<=n)(k:Int):hm n k<n:=by
 unfold hm;have h1:=Int.emod_nonneg (A1 ((A1 (5*k))+1)) (show (n:Int)≠0 by omega);have h2:=Int.emod_lt_of_pos (A1 ((A1 (5*k))+1)) (show (0:Int)<n by omega);omega
theorem tC{n:Nat}(h:1<=n)(h2:n<=1000)(k:Int):bk n k=some (hm n k:Int):=by
 unfold bk hm;rw[za (by simp;omega)];generalize A1 ((A1 (5*k))+1)=a;have hp:=Int.emod_nonneg a (show (n:Int)≠0 by omega);have hl:=Int.emod_lt_of_pos a (show (0:Int)<n by omega);unfold rem;rw[za (by omega),a1b,Int.toNat_of_nonneg hp];rw[Int.tmod_eq_emod];split;·rw[show a % (n:Int)-((0:Nat):Int)=a % n by simp,za (by simp;omega)]
 .have:((n:Int).natAbs:Int)=n:=by simp
  rw[this];rw[zb (by simp;omega),G4 (by omega) (by omega)];congr 1;omega
def pos(n:Nat)(k:Int)(d:Nat):Nat:=(hm n k+d) % n
theorem eO{n:Nat}(h:1<=n)(k:Int)(d:Nat):pos n k d<n:=Nat.mod_lt _ h
theorem VN{n:Nat}(h:1<=n)(h8:n<=8):n=1\/n=2\/n=3\/n=4\/n=5\/n=6\/n=7\/n=8:=by omega
theorem Ql{n m i:Nat}(h:1<=n)(h8:n<=8)(hm:m<n)(hi:i<n):∃d,d<n/\(m+d) % n=i:=by
 refine⟨(i+n-m) % n,Nat.mod_lt _ h,?_⟩;rcases VN h h8 with rfl | rfl | rfl | rfl | rfl | rfl | rfl | rfl <;> omega
theorem TO{n m d d':Nat}(h:1<=n)(h8:n<=8)(hd:d<n)(hd':d'<n)(e:(m+d) % n=(m+d') % n):d=d':=by
 rcases VN h h8 with rfl | rfl | rfl | rfl | rfl | rfl | rfl | rfl <;> omega
theorem Ah{n:Nat}(h:1<=n)(h8:n<=8)(k:Int){i:Nat}(hi:i<n):∃d,d<n/\pos n k d=i:=Ql h h8 (PI h k) hi
theorem Es{n:Nat}(h:1<=n)(h8:n<=8){k:Int}{d d':Nat}(hd:d<n)(hd':d'<n)(e:pos n k d=pos n k d'):d=d':=TO h h8 hd hd' e
structure HR (t:Tb):Prop where
 l1:1<=t.length
 l8:t.length<=8
 st:∀i,i<t.length->((pt t i).State=0\/(pt t i).State=1\/(pt t i).State=2)/\((pt t i).State≠1->(pt t i).Key=0/\(pt t i).Val=0)
 uq:∀i j,i<t.length->j<t.length->(pt t i).State=1->(pt t j).State=1->(pt t i).Key=(pt t j).Key->i=j
 rd:∀i,i<t.length->(pt t i).State=1->∀d,d<t.length->(∀d',d'<=d->pos t.length (pt t i).Key d'≠i)->(pt t (pos t.length (pt t i).Key d)).State≠0
def Fk(t:Tb)(k:Int)(i:Nat):Prop:=i<t.length/\(pt t i).State=1/\(pt t i).Key=k
instance(t:Tb)(k:Int)(i:Nat):Decidable (Fk t k i):=by unfold Fk;infer_instance
theorem step_eq{n:Nat}(h:1<=n)(h2:n<=1000)(k:Int){d:Nat}(hd:d<n):rem (A1 ((hm n k:Int)+d)) n=some ((pos n k d:Nat):Int):=by
 have:=PI h k;rw[G4 (by omega) (by omega),uA (by omega) (by omega)];unfold pos;simp[Int.natCast_emod]
theorem Ch{t:Tb}(h1:1<=t.length)(h8:t.length<=8)(k:Int) :
  (∃d,d<t.length/\(∀j,j<d->(pt t (pos t.length k j)).State≠0/\¬Fk t k (pos t.length k j))/\Fk t k (pos t.length k d)/\aa t k=some ((pos t.length k d:Nat):Int)) \/
  (∃d,d<=t.length/\(∀j,j<d->(pt t (pos t.length k j)).State≠0/\¬Fk t k (pos t.length k j))/\(d=t.length\/(pt t (pos t.length k d)).State=0)/\aa t k=some (-1)):=by
 unfold aa;simp only[jn,gL,a1b];generalize hq:(lp (S:=Int) (E:=Int ⊕ Unit) _ 0)=q;have body:∀d:Nat,d<t.length->(if (decide ((d:Int)<(t.length:Int))) then
    (bk (t.length:Int) k).bind λv14=>
    (rem (A1 (v14+d)) (t.length:Int)).bind λv15=>
    (ix t v15).bind λv16=>
    if (v16.State==0) then
     some (.inr (.inr ()))
    else
    if ((v16.State==1)&&(v16.Key==k)) then
     some (.inr (.inl v15))
    else
    some (.inl (A1 ((d:Int)+1)))
   else
   some (.inr (.inr ())):Option (Int ⊕ (Int ⊕ Unit)))=if (pt t (pos t.length k d)).State=0 then some (.inr (.inr ())) else if Fk t k (pos t.length k d) then some (.inr (.inl ((pos t.length k d:Nat):Int))) else some (.inl ((d+1:Nat):Int)):=λd hd=>by
  have hp:=eO h1 k d;rw[zb (by simpa using hd),tC h1 (by omega),a1b,step_eq h1 (by omega) k hd,a1b,Cr hp,a1b,l6 (by omega)];by_cases a:(pt t (pos t.length k d)).State=0
  .rw[zb (by simpa using a),zb a]
  .rw[za (by simpa using a),za a];by_cases b:Fk t k (pos t.length k d)
   .rw[zb (by simp[b.2.1,b.2.2]),zb b]
   .rw[za (by simp;exact λh1 h2=>b ⟨hp,h1,h2⟩),za b]
 have key:=Cx (f:=λ(s12:Int)=>if (decide (s12<(t.length:Int))) then
    (bk (t.length:Int) k).bind λv14=>
    (rem (A1 (v14+s12)) (t.length:Int)).bind λv15=>
    (ix t v15).bind λv16=>
    if (v16.State==0) then
     some (.inr (.inr ()))
    else
    if ((v16.State==1)&&(v16.Key==k)) then
     some (.inr (.inl v15))
    else
    some (.inl (A1 (s12+1)))
   else
   some (.inr (.inr ()))) t.length (λd=>∀j,j<d->(pt t (pos t.length k j)).State≠0/\¬Fk t k (pos t.length k j))
   (λ(e:Int ⊕ Unit)=>(∃d,d<t.length/\(∀j,j<d->(pt t (pos t.length k j)).State≠0/\¬Fk t k (pos t.length k j))/\Fk t k (pos t.length k d)/\e = .inl ((pos t.length k d:Nat):Int)) \/
    (∃d,d<=t.length/\(∀j,j<d->(pt t (pos t.length k j)).State≠0/\¬Fk t k (pos t.length k j))/\(d=t.length\/(pt t (pos t.length k d)).State=0)/\e = .inr ())) (by omega) (λj hj=>by omega)
   (λd hd hP=>by
    rw[body d hd];by_cases a:(pt t (pos t.length k d)).State=0
    .rw[zb a];exact .inr ⟨_,rfl,.inr ⟨d,by omega,hP,.inr a,rfl⟩⟩
    .rw[za a];by_cases b:Fk t k (pos t.length k d)
     .rw[zb b];exact .inr ⟨_,rfl,.inl ⟨d,hd,hP,b,rfl⟩⟩
     .rw[za b];refine .inl ⟨rfl,λj hj=>?_⟩;rcases zy j d with q | q
      .exact hP j q
      .have:j=d:=by omega
       subst this;exact⟨a,b⟩)
   (λhP=>⟨.inr (),by simp,.inr ⟨t.length,zI _,hP,.inl rfl,rfl⟩⟩)
 obtain⟨e,he,hQ⟩:=key;rw[he] at hq;subst hq;rcases hQ with ⟨d,a1,a2,a3,rfl⟩ | ⟨d,a1,a2,a3,rfl⟩;·exact .inl ⟨d,a1,a2,a3,rfl⟩
 .exact .inr ⟨d,a1,a2,a3,rfl⟩
theorem mz{t:Tb}(hR:HR t){k:Int}{i:Nat}(hi:Fk t k i):aa t k=some (i:Int):=by
 obtain⟨di,hdi,hpi⟩:=Ah hR.l1 hR.l8 k hi.1;have road:∀d,d<di->(pt t (pos t.length k d)).State≠0:=λd hd=>by
  have:=hR.rd i hi.1 hi.2.1 d (by omega) (λd' hd' e=>by
   rw[hi.2.2] at e;have:=Es hR.l1 hR.l8 (by omega) hdi (e.trans hpi.symm);omega)
  rwa [hi.2.2] at this
 rcases Ch hR.l1 hR.l8 k with ⟨d,a1,a2,a3,a4⟩ | ⟨d,a1,a2,a3,a4⟩;·rw[a4,hR.uq _ i (eO hR.l1 k d) hi.1 a3.2.1 hi.2.1 (by rw[a3.2.2,hi.2.2])]
 .exfalso;rcases zy di d with q | q
  .exact (a2 di q).2 (by rw[hpi];exact hi)
  .rcases a3 with rfl | a3
   .omega
   .rcases zy d di with q' | q'
    .exact road d q' a3
    .have:d=di:=by omega
     subst this;rw[hpi,hi.2.1] at a3;cases a3
theorem jv{t:Tb}(h1:1<=t.length)(h8:t.length<=8){k:Int}(hi:∀i,¬Fk t k i):aa t k=some (-1):=by
 rcases Ch h1 h8 k with ⟨d,a1,a2,a3,a4⟩ | ⟨d,a1,a2,a3,a4⟩;·exact absurd a3 (hi _)
 .exact a4
theorem wy(t:Tb)(k:Int):(∃i,Fk t k i)\/∀i,¬Fk t k i:=by
 by_cases h:∃i,Fk t k i
 .exact .inl h
 .exact .inr λi hi=>h ⟨i,hi⟩
theorem Bd{t:Tb}{i:Nat}(h8:t.length<=1000)(hi:i<t.length)(p:c9):cR t (i:Int) p=some (t.set i p):=by
 unfold cR F1;rw[O4 (by omega) (by omega),a1b,r8 hi,a1b,zV]
inductive xb (t:Tb) (k v:Int):Tb × Int->Prop
 | old (i:Nat) (hi:Fk t k i):xb t k v (t.set i ⟨1,k,v⟩,0)
 | new (d:Nat) (hn:∀i,¬Fk t k i) (hd:d<t.length) (hb:∀j,j<d->(pt t (pos t.length k j)).State=1) (hf:(pt t (pos t.length k d)).State≠1):xb t k v (t.set (pos t.length k d) ⟨1,k,v⟩,0)
 | full (hn:∀i,¬Fk t k i) (ha:∀i,i<t.length->(pt t i).State=1):xb t k v (t,8)
theorem JO{t:Tb}(hR:HR t)(k v:Int):∃r,oM t k v=some r/\xb t k v r:=by
 have h1:=hR.l1;have h8:=hR.l8;unfold oM;rcases wy t k with ⟨i,hi⟩ | hn
 .rw[mz hR hi,a1b,zb (by simp),Bd (by omega) hi.1];exact⟨_,rfl,.old i hi⟩
 .rw[jv h1 h8 hn,a1b,za (by decide)];simp only[jn,gL,a1b];have key:=Cx (f:=λ(s15:Int)=>
   if (decide (s15<(t.length:Int))) then
    (bk (t.length:Int) k).bind λv17=>
    (rem (A1 (v17+s15)) (t.length:Int)).bind λv18=>
    (ix t v18).bind λv19=>
    if (v19.State != 1) then
     (cR t v18 (⟨1,k,v⟩:c9)).bind λv20=>
     some (Sum.inr (.inl (v20,(0:Int))))
    else
    some (.inl (A1 (s15+1)))
   else
   some (.inr (.inr ()))) t.length (λd=>∀j,j<d->(pt t (pos t.length k j)).State=1)
   (λ(e:(Tb × Int) ⊕ Unit)=>(∃r,e = .inl r/\xb t k v r)\/(e = .inr ()/\xb t k v (t,8))) (by omega) (λj hj=>by omega)
   (λd hd hP=>by
    have hp:=eO h1 k d;rw[zb (by simpa using hd),tC h1 (by omega),a1b,step_eq h1 (by omega) k hd,a1b,Cr hp,a1b];by_cases a:(pt t (pos t.length k d)).State=1
    .rw[za (by simpa using a),l6 (by omega)];refine .inl ⟨rfl,λj hj=>?_⟩;rcases zy j d with q | q
     .exact hP j q
     .have:j=d:=by omega
      subst this;exact a
    .rw[zb (by simpa using a),Bd (by omega) hp,a1b];exact .inr ⟨_,rfl,.inl ⟨_,rfl,.new d hn hd hP a⟩⟩)
   (λhP=>⟨.inr (),by simp,.inr ⟨rfl,.full hn λi hi=>by
    obtain⟨d,hd,rfl⟩:=Ah h1 h8 k hi;exact hP d hd⟩⟩)
  obtain⟨e,he,hQ⟩:=key;rw[he,a1b];rcases hQ with ⟨r,rfl,hr⟩ | ⟨rfl,hr⟩;·exact⟨r,rfl,hr⟩
  .exact⟨_,rfl,hr⟩
theorem Jr{t:Tb}(hR:HR t){k:Int}{i:Nat}(hi:Fk t k i):N5 t k=some ((pt t i).Val,0):=by
 unfold N5;rw[mz hR hi,a1b,za (by simp),Cr hi.1,a1b]
theorem Jq{t:Tb}(hR:HR t){k:Int}(hi:∀i,¬Fk t k i):N5 t k=some (0,9):=by
 unfold N5;rw[jv hR.l1 hR.l8 hi,a1b,zb (by decide)]
theorem pR{t:Tb}(hR:HR t){k:Int}{i:Nat}(hi:Fk t k i):Z9 t k=some (t.set i ⟨2,0,0⟩,(pt t i).Val,0):=by
 have:=hR.l8;unfold Z9;rw[mz hR hi,a1b,za (by simp),Bd (by omega) hi.1,a1b,Cr hi.1,a1b]
theorem pQ{t:Tb}(hR:HR t){k:Int}(hi:∀i,¬Fk t k i):Z9 t k=some (t,0,9):=by
 unfold Z9;rw[jv hR.l1 hR.l8 hi,a1b,zb (by decide)]
theorem HR.set{t:Tb}(hR:HR t){i:Nat}(hi:i<t.length){p:c9}(h0:p.State=1\/p=⟨2,0,0⟩)
  (hu:p.State=1->∀j,j≠i->¬Fk t p.Key j)(hr:p.State=1->∀d,d<t.length->(∀d',d'<=d->pos t.length p.Key d'≠i)->(pt t (pos t.length p.Key d)).State≠0):HR (t.set i p):=by
 have hnz:p.State≠0:=by
  rcases h0 with h | rfl
  .omega
  .simp
 refine⟨by simpa using hR.l1,by simpa using hR.l8,λj hj=>?_,λj j' hj hj' s1 s2 hk=>?_,λj hj s1 d hd hne=>?_⟩ <;> simp only[zbm] at *
 .rw[Ak hi];split
  .rcases h0 with h | rfl
   .exact⟨.inr (.inl h),λq=>absurd h q⟩
   .exact⟨.inr (.inr rfl),λ_=>⟨rfl,rfl⟩⟩
  .exact hR.st j hj
 .rw[Ak hi] at s1 s2 hk;rw[Ak hi] at hk;by_cases e1:j=i <;> by_cases e2:j'=i
  .rw[e1,e2]
  .rw[zb e1] at s1 hk;rw[za e2] at s2 hk;exact absurd ⟨hj',s2,hk.symm⟩ (hu s1 j' e2)
  .rw[za e1] at s1 hk;rw[zb e2] at s2 hk;exact absurd ⟨hj,s1,hk⟩ (hu s2 j e1)
  .rw[za e1] at s1 hk;rw[za e2] at s2 hk;exact hR.uq j j' hj hj' s1 s2 hk
 .simp only[Ak hi] at s1 hne |-;by_cases e1:j=i
  .simp only[zb e1] at s1 hne |-;split;·exact hnz
   .exact hr s1 d hd (by rw[<-e1];exact hne)
  .simp only[za e1] at s1 hne |-;split;·exact hnz
   .exact hR.rd j hj s1 d hd hne
theorem se{t:Tb}(hR:HR t){k v:Int}{r:Tb × Int}(h:xb t k v r):HR r.1:=by
 cases h with
 | old i hi=>
  refine hR.set hi.1 (.inl rfl) (λ_ j hj q=>hj (hR.uq j i q.1 hi.1 q.2.1 hi.2.1 (q.2.2.trans hi.2.2.symm))) λ_ d hd hne=>?_;have:=hR.rd i hi.1 hi.2.1 d hd (by rw[hi.2.2];exact hne);rwa [hi.2.2] at this
 | new d hn hd hb hf=>
  refine hR.set (eO hR.l1 k d) (.inl rfl) (λ_ j _=>hn j) λ_ d' hd' hne=>?_;rcases zy d' d with q | q
  .have:=hb d' q;simp only;omega
  .exact absurd rfl (hne d q)
 | full hn ha=>exact hR
theorem jr{t:Tb}(hR:HR t){i:Nat}(hi:i<t.length):HR (t.set i ⟨2,0,0⟩):=hR.set hi (.inr rfl) (λq=>by cases q) λq=>by cases q
theorem RN{t:Tb}{j:Nat}(h:j<t.length):ix (t.map J7) (j:Int)=some (J7 (pt t j)):=by rw[bn,Cr h];rfl
theorem HX{t:Tb}(h8:t.length<=1000){k:Int}{i:Nat}(hi:Fk t k i)(hf:∀j,j<i->¬Fk t k j):bW (t.map J7) k=some (i:Int):=by
 unfold bW;simp only[jn];refine N6 t.length (λj=>j<=i) (by omega) (t7 _) (λj hj hP=>?_) (λhP=>by have:=hi.1;omega);rw[zb (by simpa using hj),RN hj,a1b];by_cases e:j=i
 .subst e;exact .inr ⟨.inl (j:Int),by rw[zb (by simp[J7,hi.2.1,hi.2.2])],rfl⟩
 .have:=hf j (by omega);refine .inl ⟨by rw[za (by simp[J7];exact λh1 h2=>this ⟨hj,h1,h2⟩),l6 (by omega)],by omega⟩
theorem QW{t:Tb}(h8:t.length<=1000){k:Int}(hf:∀j,¬Fk t k j):bW (t.map J7) k=some (-1):=by
 unfold bW;simp only[jn];refine N6 t.length (λj=>True) (by omega) trivial (λj hj hP=>?_) (λhP=>⟨.inr (),by simp,rfl⟩);rw[zb (by simpa using hj),RN hj,a1b];refine .inl ⟨by rw[za (by simp[J7];exact λh1 h2=>hf j ⟨hj,h1,h2⟩),l6 (by omega)],trivial⟩
theorem GD{t:Tb}{k:Int}(h:∃i,Fk t k i):∃i,Fk t k i/\∀j,j<i->¬Fk t k j:=by
 obtain⟨i,h1,h2⟩:=Y3 h;exact⟨i,h1,λj hj q=>by have:=h2 j q;omega⟩
theorem CP{t:Tb}{i:Nat}(h8:t.length<=1000)(hi:i<t.length)(p:c9):bX (t.map J7) (i:Int) (J7 p)=some ((t.set i p).map J7):=by
 unfold bX;rw[O4 (by omega) (by simp;omega),a1b,RN hi,a1b,zV,zcg]
theorem AF:uc=bk:=rfl
theorem Re{n:Nat}(h1:1<=n)(h8:n<=8)(k:Int)(d:Nat):rem (A1 (((pos n k d:Nat):Int)+1)) n=some ((pos n k (d+1):Nat):Int):=by
 have:=eO h1 k d;rw[G4 (by omega) (by omega),uA (by omega) (by omega)];unfold pos;congr 1;have:((hm n k+d) % n+1) % n=(hm n k+(d+1)) % n:=by rw[Nat.mod_add_mod];rfl
 rw[<-this];simp[Int.natCast_emod]
theorem Ai{n:Nat}(h1:1<=n)(k:Int):pos n k 0=hm n k:=by
 unfold pos;rw[zaz,Nat.mod_eq_of_lt (PI h1 k)]
theorem ZJ{t:Tb}(h1:1<=t.length)(h8:t.length<=8)(k:Int){i di:Nat}(hi:i<t.length)(hdi:di<t.length)(hp:pos t.length k di=i) :
  ∃e,lp (S:=Int) (E:=Bool ⊕ Unit) (λ(s41:Int)=>
      if (s41 != (i:Int)) then
       (ix (t.map J7) s41).bind λv43=>
       if (v43.State==0) then
        some (.inr (.inl false))
       else
       (rem (A1 (s41+1)) (t.length:Int)).bind λv44=>
       some (.inl v44)
      else
      some (.inr (.inr ()))) (hm t.length k:Int)=some e/\((e = .inr ()/\∀d,d<di->(pt t (pos t.length k d)).State≠0)\/(e = .inl false/\∃d,d<di/\(pt t (pos t.length k d)).State=0)):=by
 rw[<-Ai h1 k];refine xG (λd=>((pos t.length k d:Nat):Int)) di (λd=>∀d',d'<d->(pt t (pos t.length k d')).State≠0) _ (by omega) (λd' hd'=>by omega) (λd hd hP=>?_) (λhP=>?_)
 .have hne:pos t.length k d≠i:=λe=>by
   have:=Es h1 h8 (by omega) hdi (e.trans hp.symm);omega
  have hlt:=eO h1 k d;rw[zb (by simp;omega),RN hlt,a1b];by_cases a:(pt t (pos t.length k d)).State=0
  .rw[zb (by simpa[J7] using a)];exact .inr ⟨_,rfl,.inr ⟨rfl,d,hd,a⟩⟩
  .rw[za (by simpa[J7] using a),Re h1 h8,a1b];refine .inl ⟨rfl,λd' hd'=>?_⟩;rcases zy d' d with q | q
   .exact hP d' q
   .have:d'=d:=by omega
    subst this;exact a
 .rw[za (by simp;omega)];exact⟨_,rfl,.inl ⟨rfl,hP⟩⟩
def Ok(t:Tb)(i:Nat):Prop:=((pt t i).State=0\/(pt t i).State=1\/(pt t i).State=2)/\((pt t i).State≠1->(pt t i).Key=0/\(pt t i).Val=0)/\((pt t i).State=1->(∀j,j<i->¬Fk t (pt t i).Key j)/\∀d,d<t.length->(∀d',d'<=d->pos t.length (pt t i).Key d'≠i)->(pt t (pos t.length (pt t i).Key d)).State≠0)
theorem Vx{t:Tb}(h1:1<=t.length)(h8:t.length<=8):HR t↔∀i,i<t.length->Ok t i:=by
 constructor
 .intro hR i hi;exact⟨(hR.st i hi).1,(hR.st i hi).2,λs=>⟨λj hj q=>by have:=hR.uq j i q.1 hi q.2.1 s q.2.2;omega,hR.rd i hi s⟩⟩
 .intro hO;refine⟨h1,h8,λi hi=>⟨(hO i hi).1,(hO i hi).2.1⟩,λi j hi hj s1 s2 hk=>?_,λi hi s=>((hO i hi).2.2 s).2⟩;rcases Nat.lt_trichotomy i j with q | q | q
  .exact absurd ⟨hi,s1,hk⟩ (((hO j hj).2.2 s2).1 i q)
  .exact q
  .exact absurd ⟨hj,s2,hk.symm⟩ (((hO i hi).2.2 s1).1 j q)
theorem NR(t:Tb)(h:t.length<=1000):∃b,qh (t.map J7)=some b/\(b=true↔HR t):=by
 unfold qh;rw[wd];by_cases hl:1<=t.length/\t.length<=8
 .obtain⟨h1,h8⟩:=hl;rw[za (by simp;omega)];simp only[jn];suffices hs:∀(b:Bool),(b=true↔HR t)->_=some b by
   by_cases q:HR t
   .exact⟨true,hs true (by simp[q]),by simp[q]⟩
   .exact⟨false,hs false (by simp[q]),by simp[q]⟩
  intro b hb;refine N6 t.length (λi=>∀j,j<i->Ok t j) (by omega) (λj hj=>by omega) (λi hi hP=>?_) (λhP=>⟨.inr (),by simp,by
   simp only;rw[hb.2 ((Vx h1 h8).2 hP)]⟩)
  have good:Ok t i->∀j,j<i+1->Ok t j:=λo j hj=>by
   rcases zy j i with q | q
   .exact hP j q
   .have:j=i:=by omega
    subst this;exact o
  have bad:¬Ok t i->some false=some b:=λo=>by
   have:b=false:=by
    cases hbb:b with
    | false=>rfl
    | true=>exact absurd ((Vx h1 h8).1 (hb.1 hbb) i hi) o
   rw[this]
  rw[zb (by simpa using hi)];rw[RN hi,a1b,l6 (by omega)];dsimp only[J7];by_cases a:((pt t i).State=0\/(pt t i).State=1\/(pt t i).State=2)/\((pt t i).State≠1->(pt t i).Key=0/\(pt t i).Val=0)
  .rw[za (by
    have a1:=a.1;have a2:=a.2;simp only[t8,zj,up,za8,zci,not_or,not_and];refine⟨⟨by omega,by omega⟩,λq=>?_⟩;have:=a2 q;omega)]
   by_cases s:(pt t i).State=1
   .rw[za (by simpa using s)];obtain⟨f,hf1,hf2⟩:=GD (t:=t) (k:=(pt t i).Key) ⟨i,hi,s,rfl⟩;rw[HX h hf1 hf2,a1b];by_cases e:f=i
    .rw[e] at hf2;rw[za (by simp[e]),AF,tC h1 (by omega),a1b];obtain⟨di,hdi,hpi⟩:=Ah h1 h8 (pt t i).Key hi;obtain⟨e,he,hQ⟩:=ZJ h1 h8 (pt t i).Key hi hdi hpi;rw[he,a1b];rcases hQ with ⟨rfl,q⟩ | ⟨rfl,d,hd,q⟩
     .refine .inl ⟨rfl,good ⟨a.1,a.2,λ_=>⟨hf2,λd hd hne=>?_⟩⟩⟩;rcases zy d di with q' | q'
      .exact q d q'
      .exact absurd hpi (hne di q')
     .refine .inr ⟨_,rfl,bad λo=>(o.2.2 s).2 d (by omega) (λd' hd' e=>?_) q⟩;have:=Es h1 h8 (by omega) hdi (e.trans hpi.symm);omega
    .rw[zb (by simp;omega)];refine .inr ⟨_,rfl,bad λo=>?_⟩;rcases zy f i with q | q
     .exact (o.2.2 s).1 f q hf1
     .exact hf2 i (by omega) ⟨hi,s,rfl⟩
   .rw[zb (by simpa using s)];exact .inl ⟨rfl,good ⟨a.1,a.2,λq=>absurd q s⟩⟩
  .rw[zb (by
    simp only[t8,zj,up,za8,zci];omega)]
   exact .inr ⟨_,rfl,bad λo=>a ⟨o.1,o.2.1⟩⟩
 .rw[zb (by simp;omega)];exact⟨false,rfl,⟨λq=>(by cases q),λhR=>absurd ⟨hR.l1,hR.l8⟩ hl⟩⟩
def Has(t:Tb)(k v:Int):Prop:=∃i,Fk t k i/\(pt t i).Val=v
theorem WR{t:Tb}{k:Int}:(∀v,¬Has t k v)↔∀i,¬Fk t k i:=by
 constructor;·intro h i hi;exact h _ ⟨i,hi,rfl⟩
 .rintro h v ⟨i,hi,_⟩;exact h i hi
theorem WS(t:Tb)(k:Int):(∃v,Has t k v)\/∀v,¬Has t k v:=by
 by_cases h:∃v,Has t k v
 .exact .inl h
 .exact .inr λv hv=>h ⟨v,hv⟩
theorem Has.fn{t:Tb}(hR:HR t){k v v':Int}(h:Has t k v)(h':Has t k v'):v=v':=by
 obtain⟨i,a,rfl⟩:=h;obtain⟨j,b,rfl⟩:=h';rw[hR.uq i j a.1 b.1 a.2.1 b.2.1 (a.2.2.trans b.2.2.symm)]
theorem Lt{t:Tb}(hR:HR t){k v:Int}(h:Has t k v):N5 t k=some (v,0):=by
 obtain⟨i,a,rfl⟩:=h;exact Jr hR a
theorem Nq{t:Tb}(hR:HR t){k:Int}(h:∀v,¬Has t k v):N5 t k=some (0,9):=Jq hR (WR.1 h)
theorem Ea{t:Tb}{i:Nat}(hi:i<t.length){k v:Int}(p:c9)(h:∀j,j≠i->Fk t p.Key j->p.State≠1)(k' v':Int) :
  Has (t.set i p) k' v'↔(p.State=1/\p.Key=k'/\p.Val=v')\/∃j,j≠i/\Fk t k' j/\(pt t j).Val=v':=by
 unfold Has Fk;simp only[zbm,Ak hi];constructor
 .rintro⟨j,⟨h1,h2,h3⟩,h4⟩;by_cases e:j=i
  .rw[zb e] at h2 h3 h4;exact .inl ⟨h2,h3,h4⟩
  .rw[za e] at h2 h3 h4;exact .inr ⟨j,e,⟨h1,h2,h3⟩,h4⟩
 .rintro (⟨h1,h2,h3⟩ | ⟨j,e,⟨h1,h2,h3⟩,h4⟩);·exact⟨i,by simp[hi,h1,h2,h3]⟩
  .exact⟨j,by simp[e,h1,h2,h3,h4]⟩
theorem Ew{t:Tb}(hR:HR t){k v:Int}{r:Tb × Int}(h:xb t k v r)(h0:r.2=0)(k' v':Int):Has r.1 k' v'↔(k'=k/\v'=v)\/(k'≠k/\Has t k' v'):=by
 cases h with
 | old i hi=>
  rw[Ea (k:=k) (v:=v) hi.1 _ (λj hj q=>absurd (hR.uq j i q.1 hi.1 q.2.1 hi.2.1 (q.2.2.trans hi.2.2.symm)) hj)];constructor
  .rintro (⟨_,rfl,rfl⟩ | ⟨j,e,h1,h2⟩);·exact .inl ⟨rfl,rfl⟩
   .refine .inr ⟨λq=>?_,j,h1,h2⟩;subst q;exact e (hR.uq j i h1.1 hi.1 h1.2.1 hi.2.1 (h1.2.2.trans hi.2.2.symm))
  .rintro (⟨rfl,rfl⟩ | ⟨e,j,h1,h2⟩);·exact .inl ⟨rfl,rfl,rfl⟩
   .refine .inr ⟨j,λq=>?_,h1,h2⟩;subst q;exact e (h1.2.2.symm.trans hi.2.2)
 | new d hn hd hb hf=>
  rw[Ea (k:=k) (v:=v) (eO hR.l1 k d) _ (λj hj q=>absurd q (hn j))];constructor
  .rintro (⟨_,rfl,rfl⟩ | ⟨j,e,h1,h2⟩);·exact .inl ⟨rfl,rfl⟩
   .refine .inr ⟨λq=>?_,j,h1,h2⟩;subst q;exact hn j h1
  .rintro (⟨rfl,rfl⟩ | ⟨e,j,h1,h2⟩);·exact .inl ⟨rfl,rfl,rfl⟩
   .refine .inr ⟨j,λq=>?_,h1,h2⟩;subst q;exact hf h1.2.1
 | full hn ha=>cases h0
theorem yA{t:Tb}(hR:HR t){k:Int}{i:Nat}(hi:Fk t k i)(k' v':Int):Has (t.set i ⟨2,0,0⟩) k' v'↔k'≠k/\Has t k' v':=by
 rw[Ea (k:=k) (v:=0) hi.1 _ (λj hj q=>by simp)];constructor
 .rintro (⟨h,_⟩ | ⟨j,e,h1,h2⟩);·cases h
  .refine⟨λq=>?_,j,h1,h2⟩;subst q;exact e (hR.uq j i h1.1 hi.1 h1.2.1 hi.2.1 (h1.2.2.trans hi.2.2.symm))
 .rintro⟨e,j,h1,h2⟩;refine .inr ⟨j,λq=>?_,h1,h2⟩;subst q;exact e (h1.2.2.symm.trans hi.2.2)
theorem NS{l:List k7}(h:l.length<=100000):ue l l=some true:=by
 unfold ue;rw[za (by simp)];simp only[jn];refine N6 l.length (λ_=>True) (by omega) trivial (λk hk _=>.inl ⟨?_,trivial⟩) (λ_=>⟨.inr (),by simp,rfl⟩);rw[zb (by simpa using hk),r8 hk,a1b,a1b,za (by simp),l6 (by omega)]
theorem yU{l:List Int}(h:l.length<=100000):dK l l=some true:=by
 unfold dK;rw[za (by simp)];simp only[jn];refine N6 l.length (λ_=>True) (by omega) trivial (λk hk _=>.inl ⟨?_,trivial⟩) (λ_=>⟨.inr (),by simp,rfl⟩);rw[zb (by simpa using hk),r8 hk,a1b,a1b,za (by simp),l6 (by omega)]
def keys(t:Tb):List Int:=(t.filter (·.State==1)).map (·.Key)
theorem yG{α β:Type}(p:α->Bool)(f:α->β)(l:List α)(k:Nat)(h:k<l.length):((l.take (k+1)).filter p).map f=((l.take k).filter p).map f++(if p l[k] then [f l[k]] else []):=by
 rw[zw h,zak,zaa];congr 1;simp only[rx,zca];split <;> rfl
theorem keys_eq{t:Tb}(h:t.length<=1000):kU t=some (keys t):=by
 unfold kU keys;simp only[jn];refine M7 t.length (λk l=>l=((t.take k).filter (·.State==1)).map (·.Key)) (by omega) (by simp) ?_ (λl hl=>⟨_,by simp;rfl,by rw[hl,zK]⟩);rintro k l hk rfl;left;rw[yG _ _ _ _ hk];rw[zb (by simpa using hk),r8 hk,a1b,l6 (by omega)];have hle:(List.map (·.Key) (List.filter (·.State==1) (List.take k t))).length<=1000:=by
  rw[wd];exact we (zN ..) (by simp;omega)
 by_cases c:(t[k].State==1)=true
 .rw[zb c,zb c,B3 (by omega) (by simp only[zE,un];omega),a1b];exact⟨_,rfl,rfl⟩
 .rw[za c,za c];exact⟨_,rfl,by simp⟩
theorem QY{t:Tb}(h:t.length<=1000):ud (t.map J7)=some (keys t):=by
 unfold ud keys;simp only[jn];refine M7 t.length (λk l=>l=((t.take k).filter (·.State==1)).map (·.Key)) (by omega) (by simp) ?_ (λl hl=>⟨_,by simp;rfl,by rw[hl,zK]⟩);rintro k l hk rfl;left;rw[yG _ _ _ _ hk];rw[zb (by simpa using hk),bn,r8 hk,zM,a1b,l6 (by omega)];have hle:(List.map (·.Key) (List.filter (·.State==1) (List.take k t))).length<=1000:=by
  rw[wd];exact we (zN ..) (by simp;omega)
 by_cases c:(t[k].State==1)=true
 .rw[zb (by simpa[J7] using c),zb c,B3 (by omega) (by simp only[zE,un];omega),a1b];exact⟨_,rfl,rfl⟩
 .rw[za (by simpa[J7] using c),za c];exact⟨_,rfl,by simp⟩
theorem Ff{t:Tb}(hR:HR t)(k:Int):bW (t.map J7) k=aa t k:=by
 have h8:=hR.l8;rcases wy t k with ⟨i,hi⟩ | hn
 .rw[mz hR hi];obtain⟨f,hf1,hf2⟩:=GD ⟨i,hi⟩;rw[HX (by omega) hf1 hf2,hR.uq f i hf1.1 hi.1 hf1.2.1 hi.2.1 (hf1.2.2.trans hi.2.2.symm)]
 .rw[jv hR.l1 hR.l8 hn,QW (by omega) hn]
theorem QX{t:Tb}(hR:HR t)(k:Int):qg (t.map J7) k=N5 t k:=by
 unfold qg N5;rw[Ff hR];rcases wy t k with ⟨i,hi⟩ | hn;·rw[mz hR hi,a1b,a1b,za (by simp),za (by simp),RN hi.1,Cr hi.1];rfl
 .rw[jv hR.l1 hR.l8 hn];rfl
theorem QV{t:Tb}(hR:HR t)(k:Int):lx (t.map J7) k=(Z9 t k).map λr=>(r.1.map J7,r.2):=by
 have h8:=hR.l8;rcases wy t k with ⟨i,hi⟩ | hn
 .rw[pR hR hi];unfold lx;rw[Ff hR,mz hR hi,a1b,za (by simp)];have:=CP (t:=t) (by omega) hi.1 ⟨2,0,0⟩;dsimp only[J7] at this;rw[this,a1b,RN hi.1];rfl
 .rw[pQ hR hn];unfold lx;rw[Ff hR,jv hR.l1 hR.l8 hn];rfl
theorem ZI{t:Tb}(hR:HR t)(k v:Int){r:Tb × Int}(h:xb t k v r):xS (t.map J7) k v=some (r.1.map J7,r.2):=by
 have h1:=hR.l1;have h8:=hR.l8;unfold xS;rw[Ff hR];have hw:∀i,i<t.length->bX (t.map J7) (i:Int) ⟨1,k,v⟩=some ((t.set i ⟨1,k,v⟩).map J7):=λi hi=>CP (t:=t) (by omega) hi ⟨1,k,v⟩;cases h with
 | old i hi=>
  rw[mz hR hi,a1b,zb (by simp),hw i hi.1];rfl
 | new d hn hd hb hf=>
  rw[jv h1 h8 hn,a1b,za (by decide),wd,AF,tC h1 (by omega),a1b];simp only[jn];rw[<-Ai h1 k];obtain⟨e,he,hQ⟩:=xG (f:=λ((s15,s16):Int × Int)=>
   if (decide (s16<(t.length:Int))) then
    (ix (t.map J7) s15).bind λv19=>
    if (v19.State != 1) then
     (bX (t.map J7) s15 (⟨1,k,v⟩:k7)).bind λv20=>
     some (Sum.inr (Sum.inl (β:=Unit) (v20,(0:Int))))
    else
    (rem (A1 (s15+1)) (t.length:Int)).bind λv21=>
    some (Sum.inl (v21,A1 (s16+1)))
   else
   some (Sum.inr (Sum.inr ()))) (λd=>(((pos t.length k d:Nat):Int),(d:Int))) d (λ_=>True) (λe=>e = .inl ((t.set (pos t.length k d) ⟨1,k,v⟩).map J7,0)) (by omega) trivial (λj hj _=>by
    have hp:=eO h1 k j;dsimp only;rw[zb (by simp;omega),RN hp,a1b,za (by simpa[J7] using hb j hj),Re h1 h8,a1b,l6 (by omega)];exact .inl ⟨rfl,trivial⟩) (λ_=>by
    have hp:=eO h1 k d;dsimp only;rw[zb (by simpa using hd),RN hp,a1b,zb (by simpa[J7] using hf),hw _ hp];exact⟨_,rfl,rfl⟩)
  have he':lp _ (((pos t.length k 0:Nat):Int),(0:Int))=some e:=he;rw[he',hQ];rfl
 | full hn ha=>
  rw[jv h1 h8 hn,a1b,za (by decide),wd,AF,tC h1 (by omega),a1b];simp only[jn];rw[<-Ai h1 k];obtain⟨e,he,hQ⟩:=xG (f:=λ((s15,s16):Int × Int)=>
   if (decide (s16<(t.length:Int))) then
    (ix (t.map J7) s15).bind λv19=>
    if (v19.State != 1) then
     (bX (t.map J7) s15 (⟨1,k,v⟩:k7)).bind λv20=>
     some (Sum.inr (Sum.inl (β:=Unit) (v20,(0:Int))))
    else
    (rem (A1 (s15+1)) (t.length:Int)).bind λv21=>
    some (Sum.inl (v21,A1 (s16+1)))
   else
   some (Sum.inr (Sum.inr ()))) (λd=>(((pos t.length k d:Nat):Int),(d:Int))) t.length (λ_=>True) (λe=>e = .inr ()) (by omega) trivial (λj hj _=>by
    have hp:=eO h1 k j;dsimp only;rw[zb (by simp;omega),RN hp,a1b,za (by simpa[J7] using ha _ hp),Re h1 h8,a1b,l6 (by omega)];exact .inl ⟨rfl,trivial⟩) (λ_=>⟨.inr (),by simp,rfl⟩)
  have he':lp _ (((pos t.length k 0:Nat):Int),(0:Int))=some e:=he;rw[he',hQ];rfl
theorem Al{t:Tb}{k v:Int}{r:Tb × Int}(h:xb t k v r):r.1.length=t.length:=by cases h <;> simp
theorem iA(t:Tb):(keys t).length=t.countP (·.State==1):=by
 unfold keys;rw[wd,zbn]
theorem tE{t:Tb}{i:Nat}(h:i<t.length)(p:c9):(keys (t.set i p)).length+(if (pt t i).State=1 then 1 else 0)=(keys t).length+if p.State=1 then 1 else 0:=by
 rw[iA,iA,List.countP_set h,wD h];simp only[ww];have:(if t[i].State=1 then 1 else 0)<=t.countP λc=>c.State==1:=by
  split
  .rename_i e;exact zbo.2 ⟨t[i],zd h,by simpa using e⟩
  .exact t7 _
 omega
theorem Nu{t:Tb}(h:∀i,i<t.length->(pt t i).State=1):(keys t).length=t.length:=by
 rw[iA,List.countP_eq_length];intro a ha;obtain⟨i,hi,rfl⟩:=q9 ha;have:=h i hi;rw[wD hi] at this;simpa using this
theorem TD{t:Tb}{i:Nat}(hi:i<t.length)(h:(pt t i).State≠1):(keys t).length<t.length:=by
 have h1:(keys t).length<=t.length:=by rw[iA];exact za5
 rcases zy (keys t).length t.length with q | q
 .exact q
 .exfalso;have e:(keys t).length=t.length:=by omega
  rw[iA,List.countP_eq_length] at e;have:=e t[i] (zd hi);rw[wD hi] at h;exact h (by simpa using this)
structure TM {V:Type} (φ:V->Int->Prop) (t:Tb) (m:List (Int × V)):Prop where
 R:HR t
 nd:(m.map (·.1)).Nodup
 len:(keys t).length=m.length
 has:∀k,(∀v,Has t k v->∃u,D1 m k=some u/\φ u v)/\((D1 m k).isSome=true->∃v,Has t k v)
theorem TM.some{V:Type}{φ:V->Int->Prop}{t:Tb}{m:List (Int × V)}(h:TM φ t m)(k:Int):(∃v u,Has t k v/\D1 m k=some u/\φ u v)\/(D1 m k=none/\∀v,¬Has t k v):=by
 rcases WS t k with ⟨v,hv⟩ | hn
 .obtain⟨u,h1,h2⟩:=(h.has k).1 v hv;exact .inl ⟨v,u,hv,h1,h2⟩
 .refine .inr ⟨?_,hn⟩;cases hq:D1 m k with
  | none=>rfl
  | some u=>
   obtain⟨v,hv⟩:=(h.has k).2 (by rw[hq];rfl);exact absurd hv (hn v)
theorem TM.put{V:Type}{φ:V->Int->Prop}{t:Tb}{m:List (Int × V)}(h:TM φ t m)(k v:Int)(u:V)(hφ:φ u v):∃r,oM t k v = .some r/\r.1.length=t.length/\((r.2=0/\TM φ r.1 (u9 m k u)/\((D1 m k).isSome=true\/m.length<t.length))\/(r=(t,8)/\(D1 m k)=none/\m.length=t.length)):=by
 obtain⟨r,hr,hp⟩:=JO h.R k v;refine⟨r,hr,Al hp,?_⟩;have hRr:=se h.R hp;by_cases h0:r.2=0
 .left;have hh:=Ew h.R hp h0;have hmem:∀k',(∀w,Has r.1 k' w->∃x,D1 (u9 m k u) k' = .some x/\φ x w)/\((D1 (u9 m k u) k').isSome=true->∃w,Has r.1 k' w):=λk'=>by
   rw[pX];by_cases e:k'=k
   .subst e;rw[zb rfl];refine⟨λw hw=>?_,λ_=>⟨v,(hh _ _).2 (.inl ⟨rfl,rfl⟩)⟩⟩;rcases (hh _ _).1 hw with ⟨_,rfl⟩ | ⟨q,_⟩;·exact⟨u,rfl,hφ⟩
    .exact absurd rfl q
   .rw[za e];refine⟨λw hw=>?_,λq=>?_⟩
    .rcases (hh _ _).1 hw with ⟨q,_⟩ | ⟨_,q⟩;·exact absurd q e
     .exact (h.has k').1 w q
    .obtain⟨w,hw⟩:=(h.has k').2 q;exact⟨w,(hh _ _).2 (.inr ⟨e,hw⟩)⟩
  have hlen:(keys r.1).length=(u9 m k u).length/\((D1 m k).isSome=true\/m.length<t.length):=by
   rw[Qm];cases hp with
   | old i hi=>
    have h1:(D1 m k).isSome=true:=by
     obtain⟨x,h1,_⟩:=(h.has k).1 _ ⟨i,hi,rfl⟩;rw[h1];rfl
    have:=tE hi.1 ⟨1,k,v⟩;rw[zb hi.2.1,zb rfl,h.len] at this;rw[zb h1];exact⟨by simp only;omega,.inl h1⟩
   | new d hn hd hb hf=>
    have h1:(D1 m k)=none:=by
     rcases h.some k with ⟨w,x,hw,_⟩ | ⟨q,_⟩
     .obtain⟨i,hi,_⟩:=hw;exact absurd hi (hn i)
     .exact q
    have hlt:=eO h.R.l1 k d;have:=tE hlt ⟨1,k,v⟩;rw[za hf,zb rfl,h.len] at this;rw[h1];have h2:=TD hlt hf;rw[h.len] at h2;exact⟨by simpa using this,.inr h2⟩
   | full hn ha=>cases h0
  exact⟨h0,⟨hRr,JA h.nd k u,hlen.1,hmem⟩,hlen.2⟩
 .right;cases hp with
  | old i hi=>exact absurd rfl h0
  | new d hn hd hb hf=>exact absurd rfl h0
  | full hn ha=>
   refine⟨rfl,?_,?_⟩
   .rcases h.some k with ⟨w,x,hw,_⟩ | ⟨q,_⟩
    .obtain⟨i,hi,_⟩:=hw;exact absurd hi (hn i)
    .exact q
   .rw[<-h.len,Nu ha]
theorem TM.drop{V:Type}{φ:V->Int->Prop}{t:Tb}{m:List (Int × V)}(h:TM φ t m)(k:Int):(∃r v u,Z9 t k = .some (r,v,0)/\r.length=t.length/\D1 m k = .some u/\φ u v/\TM φ r (vD m k))\/(Z9 t k = .some (t,0,9)/\D1 m k=none/\vD m k=m):=by
 rcases wy t k with ⟨i,hi⟩ | hn
 .left;obtain⟨u,h1,h2⟩:=(h.has k).1 _ ⟨i,hi,rfl⟩;refine⟨_,_,u,pR h.R hi,by simp,h1,h2,jr h.R hi.1,(Qg m k).nodup h.nd,?_,λk'=>?_⟩
  .have:=tE hi.1 ⟨2,0,0⟩;rw[zb hi.2.1,za (by decide),h.len] at this;rw[Qf,h1];simp only[Option.isSome_some,zD];omega
  .have hh:=yA h.R hi;rw[Ny h.nd];by_cases e:k'=k
   .subst e;rw[zb rfl];exact⟨λw hw=>absurd rfl ((hh _ _).1 hw).1,λq=>by cases q⟩
   .rw[za e];refine⟨λw hw=>(h.has k').1 w ((hh _ _).1 hw).2,λq=>?_⟩;obtain⟨w,hw⟩:=(h.has k').2 q;exact⟨w,(hh _ _).2 ⟨e,hw⟩⟩
 .right;have h1:D1 m k=none:=by
   rcases h.some k with ⟨w,x,hw,_⟩ | ⟨q,_⟩
   .obtain⟨i,hi,_⟩:=hw;exact absurd hi (hn i)
   .exact q
  refine⟨pQ h.R hn,h1,?_⟩;have:∀(l:List (Int × V)),D1 l k=none->vD l k=l:=by
   intro l;induction l with
   | nil=>intro _;rfl
   | cons p l ih=>
    intro q;unfold D1 at q;unfold vD;by_cases e:k=p.1
    .rw[zb (by simpa using e)] at q;cases q
    .rw[za (by simpa using e)] at q;rw[za (by simpa using e),ih q]
  exact this m h1
theorem Xl{n:Nat}(h1:1<=n)(h8:n<=8):tu (n:Int)=some (List.replicate n ⟨0,0,0⟩):=by
 unfold tu;rw[za (by simp;omega),Ac (by omega) (by omega)];rfl
theorem Aj{n j:Nat}:pt (List.replicate n ⟨0,0,0⟩) j=⟨0,0,0⟩:=by
 unfold pt;rw[zf,List.getElem?_replicate];split <;> rfl
theorem Yr{V:Type}(φ:V->Int->Prop){n:Nat}(h1:1<=n)(h8:n<=8):TM φ (List.replicate n ⟨0,0,0⟩) []:=by
 refine⟨⟨by simpa using h1,by simpa using h8,λi hi=>?_,λi j hi hj s=>?_,λi hi s=>?_⟩,by simp,?_,λk=>⟨λv hv=>?_,λq=>by cases q⟩⟩;·rw[Aj];exact⟨.inl rfl,λ_=>⟨rfl,rfl⟩⟩
 .rw[Aj] at s;cases s
 .rw[Aj] at s;cases s
 .rw[iA,List.countP_replicate];rfl
 .obtain⟨i,hi,_⟩:=hv;have:=hi.2.1;rw[Aj] at this;cases this
abbrev pp(p:p6):B0:=⟨p.Key,p.Val⟩
def aO(t:Tb):List p6:=(t.filter (·.State==1)).map λp=>⟨p.Key,p.Val⟩
theorem tD(t:Tb):keys t=(aO t).map (·.Key):=by
 unfold keys aO;rw[zb7];rfl
theorem bp(t:Tb):(aO t).length=(keys t).length:=by rw[tD,wd]
theorem iG{t:Tb}(h:t.length<=8):(aO t).length<=8:=by
 rw[bp,iA];exact we za5 h
theorem cg{t:Tb}{p:p6}:p∈aO t↔Has t p.Key p.Val:=by
 unfold aO Has;rw[zZ];constructor
 .rintro⟨q,hq,rfl⟩;obtain⟨h1,h2⟩:=zn.1 hq;obtain⟨i,hi,rfl⟩:=q9 h1;refine⟨i,⟨hi,?_,?_⟩,?_⟩ <;> rw[wD hi]
  simpa using h2
 .rintro⟨i,⟨hi,h1,h2⟩,h3⟩;rw[wD hi] at h1 h2 h3;refine⟨t[i],zn.2 ⟨zd hi,by simpa using h1⟩,?_⟩;cases p;simp at h2 h3 |-;exact⟨h2,h3⟩
theorem Eu{t:Tb}(hR:HR t){j:Nat}(h:j<(aO t).length):N5 t (aO t)[j].Key=some ((aO t)[j].Val,0):=Lt hR (cg.1 (zd h))
theorem Vl{E R:Type}{x:Option E}{r:E}{κ:E->Option R}{y:Option R}(h:x=some r)(hy:κ r=y):((x.bind λe=>some e).bind κ)=y:=by rw[h];exact hy
theorem QM{t:Tb}(hR:HR t):jt t=some (aO t):=by
 have h8:=hR.l8;have hp:=iG h8;unfold jt C5 cM fq;simp only[jn,a1b];rw[keys_eq (by omega),a1b];refine Vl (gH (eK (aO t).length (λk l=>l=(aO t).take k) (λe=>e=aO t) (by omega) (by simp) ?_ ?_)) rfl
 .rintro k l hk rfl;refine .inl ⟨_,?_,rfl⟩;dsimp only;rw[zb (by rw[<-bp];simpa using hk),r8 (by rw[<-bp];exact hk),a1b];have e:(keys t)[k]'(by rw[<-bp];exact hk)=(aO t)[k].Key:=by simp[tD]
  rw[e,Eu hR hk,a1b,zb (by trivial),B3 (by omega) (by simp;omega),a1b,l6 (by omega),zw hk]
 .rintro l rfl;exact⟨_,by rw[<-bp];simp;rfl,by simp⟩
theorem vU{t:Tb}(hR:HR t):gQ (t.map J7)=some ((aO t).map pp):=by
 have h8:=hR.l8;have hp:=iG h8;unfold gQ;simp only[jn];rw[QY (by omega),a1b];refine M7 (aO t).length (λk l=>l=((aO t).take k).map pp) (by omega) (by simp) ?_ (λl hl=>⟨_,by rw[<-bp];simp;rfl,by rw[hl,zK]⟩);rintro k l hk rfl;refine .inl ⟨_,?_,rfl⟩;rw[zb (by rw[<-bp];simpa using hk),r8 (by rw[<-bp];exact hk),a1b];have e:(keys t)[k]'(by rw[<-bp];exact hk)=(aO t)[k].Key:=by simp[tD]
 rw[e,QX hR,Eu hR hk,a1b,B3 (by omega) (by simp;omega),a1b,l6 (by omega),zw hk,zaa];rfl
def own(t:Tb)(h:Int):Nat:=(aO t).countP λp=>(h != 0)&&(p.Val==h)
theorem QI{t:Tb}(hR:HR t)(h:Int):js t h=some (own t h:Int):=by
 have h8:=hR.l8;have hp:=iG h8;unfold js C4 cM fp;simp only[jn,a1b];rw[keys_eq (by omega),a1b];refine Vl (r:=(aO t).filter λp=>(h != 0)&&(p.Val==h)) (gH (eK (aO t).length (λk l=>l=((aO t).take k).filter λp=>(h != 0)&&(p.Val==h)) (λe=>e=(aO t).filter λp=>(h != 0)&&(p.Val==h)) (by omega) (by simp) ?_ ?_)) (by unfold own;rw[zbn])
 .rintro k l hk rfl;refine .inl ⟨((aO t).take (k+1)).filter λp=>(h != 0)&&(p.Val==h),?_,rfl⟩;dsimp only;rw[zb (by rw[<-bp];simpa using hk),r8 (by rw[<-bp];exact hk),a1b];have e:(keys t)[k]'(by rw[<-bp];exact hk)=(aO t)[k].Key:=by simp[tD]
  have hle:(((aO t).take k).filter λp=>(h != 0)&&(p.Val==h)).length<=8:=we (zN ..) (by simp;omega);rw[e,Eu hR hk,a1b,l6 (by omega),zw hk,zak,rx,zca];by_cases c:((h != 0)&&((aO t)[k].Val==h))=true
  .rw[zb c,zb c,B3 (by omega) (by simp only[zE,un];omega),a1b]
  .rw[za c,za c,my]
 .rintro l rfl;exact⟨_,by rw[<-bp];simp;rfl,by simp⟩
theorem NQ{t:Tb}(hR:HR t)(h:Int):qi (t.map J7) h=some (own t h:Int):=by
 have h8:=hR.l8;have hp:=iG h8;unfold qi;simp only[jn];rw[vU hR,a1b,wd];refine TJ (λs=>∃k:Nat,k<=(aO t).length/\s.2=(k:Int)/\s.1=((((aO t).take k).countP λp=>(h != 0)&&(p.Val==h):Nat):Int)) (λs=>(aO t).length+1-s.2.toNat) ⟨0,by omega,rfl,by simp⟩ (by simp;omega) ?_;rintro⟨_,_⟩ ⟨k,hk,rfl,rfl⟩;dsimp only;by_cases hlt:k<(aO t).length
 .left;rw[zb (by simpa using hlt),bn,r8 hlt,zM,a1b,l6 (n:=k) (by omega)];have hle:(((aO t).take k).countP λp=>(h != 0)&&(p.Val==h))<=8:=we za5 (by simp;omega);have hstep:(((aO t).take (k+1)).countP λp=>(h != 0)&&(p.Val==h))=(((aO t).take k).countP λp=>(h != 0)&&(p.Val==h))+if ((h != 0)&&((aO t)[k].Val==h))=true then 1 else 0:=by
   rw[zw hlt,List.countP_append,List.countP_cons,List.countP_nil,so]
  by_cases c:((h != 0)&&((aO t)[k].Val==h))=true
  .rw[zb (by simp only[zj] at c |-;exact⟨c.2,c.1⟩),l6 (by omega)];rw[zb c] at hstep;exact⟨_,rfl,⟨k+1,by omega,rfl,by rw[hstep]⟩,by simp;omega⟩
  .rw[za (by simp only[zj] at c |-;exact λq=>c ⟨q.2,q.1⟩)];rw[za c] at hstep;exact⟨_,rfl,⟨k+1,by omega,rfl,by rw[hstep];rfl⟩,by simp;omega⟩
 .right;have:k=(aO t).length:=by omega
  subst this;exact⟨_,by rw[za (by simp)],by rw[zK];rfl⟩
theorem Ko{t:Tb}(hR:HR t)(k v:Int):∃r,V8 t k v=some r/\HR r.1/\r.1.length=t.length /\
  ((k=0/\r=(t,0,2))\/(k≠0/\v=0/\((∃i,Fk t k i/\r=(t.set i ⟨2,0,0⟩,(pt t i).Val,0))\/((∀i,¬Fk t k i)/\r=(t,0,0)))) \/
   (k≠0/\v≠0/\((∃i,Fk t k i/\r=(t.set i ⟨1,k,v⟩,(pt t i).Val,0))\/(∃d,(∀i,¬Fk t k i)/\d<t.length/\(pt t d).State≠1/\xb t k v (t.set d ⟨1,k,v⟩,0)/\r=(t.set d ⟨1,k,v⟩,0,0))\/((∀i,¬Fk t k i)/\(∀i,i<t.length->(pt t i).State=1)/\r=(t,0,8))))):=by
 unfold V8;by_cases hk:k=0
 .rw[zb (by simpa using hk)];exact⟨_,rfl,hR,rfl,.inl ⟨hk,rfl⟩⟩
 .rw[za (by simpa using hk)];obtain⟨g,hg,hgv⟩:∃g,N5 t k=some g/\((∃i,Fk t k i/\g=((pt t i).Val,0))\/((∀i,¬Fk t k i)/\g=(0,9))):=by
   rcases wy t k with ⟨i,hi⟩ | hn;·exact⟨_,Jr hR hi,.inl ⟨i,hi,rfl⟩⟩
   .exact⟨_,Jq hR hn,.inr ⟨hn,rfl⟩⟩
  rw[hg,a1b];by_cases hv:v=0
  .rw[zb (by simpa using hv)];rcases hgv with ⟨i,hi,rfl⟩ | ⟨hn,rfl⟩
   .rw[pR hR hi,a1b];exact⟨_,rfl,jr hR hi.1,by simp,.inr (.inl ⟨hk,hv,.inl ⟨i,hi,rfl⟩⟩)⟩
   .rw[pQ hR hn,a1b];exact⟨_,rfl,hR,rfl,.inr (.inl ⟨hk,hv,.inr ⟨hn,rfl⟩⟩)⟩
  .rw[za (by simpa using hv)];obtain⟨r,hr,hp⟩:=JO hR k v;rw[hr,a1b];have hRr:=se hR hp;have hl:=Al hp;have hp':=hp;cases hp with
   | old i hi=>
    rcases hgv with ⟨j,hj,rfl⟩ | ⟨hn,rfl⟩
    .rw[hR.uq j i hj.1 hi.1 hj.2.1 hi.2.1 (hj.2.2.trans hi.2.2.symm)];exact⟨_,rfl,hRr,hl,.inr (.inr ⟨hk,hv,.inl ⟨i,hi,rfl⟩⟩)⟩
    .exact absurd hi (hn i)
   | new d hn hd hb hf=>
    rcases hgv with ⟨j,hj,rfl⟩ | ⟨_,rfl⟩;·exact absurd hj (hn j)
    .exact⟨_,rfl,hRr,hl,.inr (.inr ⟨hk,hv,.inr (.inl ⟨_,hn,eO hR.l1 k d,hf,hp',rfl⟩)⟩)⟩
   | full hn ha=>exact⟨_,rfl,hR,rfl,.inr (.inr ⟨hk,hv,.inr (.inr ⟨hn,ha,rfl⟩)⟩)⟩
theorem NT{t:Tb}(hR:HR t)(k v:Int):∃r,V8 t k v=some r/\HR r.1/\r.1.length=t.length/\xU (t.map J7) k v=some (r.1.map J7,r.2) /\
  ((k=0/\r=(t,0,2))\/(k≠0/\v=0/\((∃i,Fk t k i/\r=(t.set i ⟨2,0,0⟩,(pt t i).Val,0))\/((∀i,¬Fk t k i)/\r=(t,0,0)))) \/
   (k≠0/\v≠0/\((∃i,Fk t k i/\r=(t.set i ⟨1,k,v⟩,(pt t i).Val,0))\/(∃d,(∀i,¬Fk t k i)/\d<t.length/\(pt t d).State≠1/\xb t k v (t.set d ⟨1,k,v⟩,0)/\r=(t.set d ⟨1,k,v⟩,0,0))\/((∀i,¬Fk t k i)/\(∀i,i<t.length->(pt t i).State=1)/\r=(t,0,8))))):=by
 unfold V8 xU;by_cases hk:k=0
 .rw[zb (by simpa using hk),zb (by simpa using hk)];exact⟨_,rfl,hR,rfl,rfl,.inl ⟨hk,rfl⟩⟩
 .rw[za (by simpa using hk),za (by simpa using hk),QX hR];obtain⟨g,hg,hgv⟩:∃g,N5 t k=some g/\((∃i,Fk t k i/\g=((pt t i).Val,0))\/((∀i,¬Fk t k i)/\g=(0,9))):=by
   rcases wy t k with ⟨i,hi⟩ | hn;·exact⟨_,Jr hR hi,.inl ⟨i,hi,rfl⟩⟩
   .exact⟨_,Jq hR hn,.inr ⟨hn,rfl⟩⟩
  rw[hg,a1b,a1b];by_cases hv:v=0
  .rw[zb (by simpa using hv),zb (by simpa using hv),QV hR];rcases hgv with ⟨i,hi,rfl⟩ | ⟨hn,rfl⟩
   .rw[pR hR hi,a1b];exact⟨_,rfl,jr hR hi.1,by simp,rfl,.inr (.inl ⟨hk,hv,.inl ⟨i,hi,rfl⟩⟩)⟩
   .rw[pQ hR hn,a1b];exact⟨_,rfl,hR,rfl,rfl,.inr (.inl ⟨hk,hv,.inr ⟨hn,rfl⟩⟩)⟩
  .rw[za (by simpa using hv),za (by simpa using hv)];obtain⟨r,hr,hp⟩:=JO hR k v;rw[hr,a1b,ZI hR k v hp,a1b];have hRr:=se hR hp;have hl:=Al hp;have hp':=hp;cases hp with
   | old i hi=>
    rcases hgv with ⟨j,hj,rfl⟩ | ⟨hn,rfl⟩
    .rw[hR.uq j i hj.1 hi.1 hj.2.1 hi.2.1 (hj.2.2.trans hi.2.2.symm)];exact⟨_,rfl,hRr,hl,rfl,.inr (.inr ⟨hk,hv,.inl ⟨i,hi,rfl⟩⟩)⟩
    .exact absurd hi (hn i)
   | new d hn hd hb hf=>
    rcases hgv with ⟨j,hj,rfl⟩ | ⟨_,rfl⟩;·exact absurd hj (hn j)
    .exact⟨_,rfl,hRr,hl,rfl,.inr (.inr ⟨hk,hv,.inr (.inl ⟨_,hn,eO hR.l1 k d,hf,hp',rfl⟩)⟩)⟩
   | full hn ha=>exact⟨_,rfl,hR,rfl,rfl,.inr (.inr ⟨hk,hv,.inr (.inr ⟨hn,ha,rfl⟩)⟩)⟩
theorem CE(t:Tb)(h:Int):own t h=t.countP λp=>(p.State==1)&&((h != 0)&&(p.Val==h)):=by
 unfold own aO;rw[List.countP_map,List.countP_filter];congr 1;funext p
 simp[Bool.and_comm]
theorem LZ{t:Tb}{i:Nat}(hi:i<t.length)(p:c9)(h:Int):own (t.set i p) h+(if (((pt t i).State==1)&&((h != 0)&&((pt t i).Val==h)))=true then 1 else 0)=own t h+if ((p.State==1)&&((h != 0)&&(p.Val==h)))=true then 1 else 0:=by
 rw[CE,CE,List.countP_set hi,wD hi];have:(if ((t[i].State==1)&&((h != 0)&&(t[i].Val==h)))=true then 1 else 0)<=t.countP λp=>(p.State==1)&&((h != 0)&&(p.Val==h)):=by
  split
  .rename_i e;exact zbo.2 ⟨t[i],zd hi,e⟩
  .exact t7 _
 omega
theorem JI{t:Tb}(h8:t.length<=8)(h:Int):own t h<=8:=we za5 (iG h8)
theorem IE{t:Tb}(hR:HR t)(ks:List Int)(hks:ks.length<=1000):∃a had,Z7 t ks=some (a,had)/\HR a/\a.length=t.length/\had.length<=ks.length/\fN (t.map J7) ks=some (a.map J7,had) /\
  (∀k v,Has a k v↔k∉ks/\Has t k v)/\(keys a).length+had.length=(keys t).length/\(∀k v,k∈ks->Has t k v->v∈had)/\∀y,own a y+Y9 had y=own t y:=by
 have key:∀n,n<=ks.length->∃a had,HR a/\a.length=t.length/\had.length<=n/\(∀k v,Has a k v↔k∉ks.take n/\Has t k v)/\(keys a).length+had.length=(keys t).length/\(∀k v,k∈ks.take n->Has t k v->v∈had)/\(∀y,own a y+Y9 had y=own t y) /\
   ∃f:Nat->Tb × List Int,f 0=(t,[])/\f n=(a,had)/\∀j,(hj:j<n)->HR (f j).1/\(f j).2.length<=j/\((∃i,∃hjk:j<ks.length,Fk (f j).1 ks[j] i/\f (j+1)=((f j).1.set i ⟨2,0,0⟩,(f j).2 ++ [(pt (f j).1 i).Val]))\/((∀i,∀hjk:j<ks.length,¬Fk (f j).1 ks[j] i)/\f (j+1)=f j)):=by
  intro n;induction n with
  | zero=>exact λ_=>⟨t,[],hR,rfl,by simp,by simp,by simp,by simp,λy=>by unfold Y9;split <;> simp,λ_=>(t,[]),rfl,rfl,λj hj=>by omega⟩
  | succ n ih=>
   intro hn;obtain⟨a,had,h1,h2,h3,h4,h5,h6,h7,f,f0,fn,fs⟩:=ih (by omega);have hlt:n<ks.length:=by omega
   have htk:∀k,k∈ks.take (n+1)↔k∈ks.take n\/k=ks[n]:=λk=>by
    rw[zw hlt,zB,zO]
   rcases wy a ks[n] with ⟨i,hi⟩ | hno
   .have hd:=yA h1 hi;refine⟨a.set i ⟨2,0,0⟩,had ++ [(pt a i).Val],jr h1 hi.1,by simpa using h2,by simp;omega,λk v=>?_,?_,λk v hk hv=>?_,λy=>?_,λj=>if j=n+1 then (a.set i ⟨2,0,0⟩,had ++ [(pt a i).Val]) else f j,by simp[f0],by simp,λj hj=>?_⟩
    .rw[hd,h4,htk];constructor;·rintro⟨q1,q2,q3⟩;exact⟨λq=>q.elim q2 q1,q3⟩
     .rintro⟨q1,q2⟩;exact⟨λq=>q1 (.inr q),λq=>q1 (.inl q),q2⟩
    .have:=tE hi.1 ⟨2,0,0⟩;rw[zb hi.2.1,za (by decide)] at this;simp only[zT,zE,un];omega
    .rw[zB];rcases (htk k).1 hk with q | q
     .exact .inl (h6 k v q hv)
     .subst q;by_cases q':ks[n]∈ks.take n
      .exact .inl (h6 _ v q' hv)
      .have:=(h4 _ _).2 ⟨q',hv⟩;rw[this.fn h1 ⟨i,hi,rfl⟩];exact .inr (by simp)
    .have:=LZ hi.1 ⟨2,0,0⟩ y;have h7':=h7 y;rw[L9];have e:Y9 [(pt a i).Val] y=if (((pt a i).State==1)&&((y != 0)&&((pt a i).Val==y)))=true then 1 else 0:=by
      rw[hi.2.1];unfold Y9;by_cases y0:y=0
      .simp[y0]
      .by_cases e:(pt a i).Val=y
       .simp[y0,e]
       .simp[y0,e]
     rw[e];rw[za (show ¬((((2:Int)==1)&&((y != 0)&&((0:Int)==y)))=true) by simp)] at this;omega
    .rcases zy j n with q | q
     .have:=fs j q;dsimp only;rw[za (by omega),za (by omega)];exact this
     .have:j=n:=by omega
      subst this;dsimp only;rw[za (by omega),zb rfl,fn];exact⟨h1,h3,.inl ⟨i,hlt,hi,rfl⟩⟩
   .refine⟨a,had,h1,h2,by omega,λk v=>?_,h5,λk v hk hv=>?_,h7,λj=>if j=n+1 then (a,had) else f j,by simp[f0],by simp,λj hj=>?_⟩
    .rw[h4,htk];constructor
     .rintro⟨q1,q2⟩;refine⟨λq=>q.elim q1 λq=>?_,q2⟩;subst q;obtain⟨i,hi,_⟩:=(h4 _ _).2 ⟨q1,q2⟩;exact hno i hi
     .rintro⟨q1,q2⟩;exact⟨λq=>q1 (.inl q),q2⟩
    .rcases (htk k).1 hk with q | q
     .exact h6 k v q hv
     .subst q;by_cases q':ks[n]∈ks.take n
      .exact h6 _ v q' hv
      .obtain⟨i,hi,_⟩:=(h4 _ _).2 ⟨q',hv⟩;exact absurd hi (hno i)
    .rcases zy j n with q | q
     .have:=fs j q;dsimp only;rw[za (by omega),za (by omega)];exact this
     .have:j=n:=by omega
      subst this;dsimp only;rw[za (by omega),zb rfl,fn];exact⟨h1,h3,.inr ⟨λi _=>hno i,rfl⟩⟩
 obtain⟨a,had,h1,h2,h3,h4,h5,h6,h7,f,f0,fn,fs⟩:=key ks.length (zI _);rw[zK] at h4 h6;refine⟨a,had,?_,h1,h2,h3,?_,h4,h5,h6,h7⟩
 .unfold Z7;simp only[jn];refine dA (λj=>((f j).1,(j:Int),(f j).2)) (by rw[f0];rfl) ks.length (λ_=>True) (by omega) trivial (λj hj _=>?_) (λ_=>⟨(a,had),by dsimp only;rw[za (by simp),fn],rfl⟩);obtain⟨g1,g2,g3⟩:=fs j hj;left;refine⟨?_,trivial⟩;dsimp only;rw[zb (by simpa using hj),r8 hj,a1b,l6 (by omega)];rcases g3 with ⟨i,_,hi,e⟩ | ⟨hno,e⟩
  .rw[pR g1 hi,a1b,e];dsimp only;rw[zb (by decide),B3 (by omega) (by simp;omega),a1b]
  .rw[pQ g1 (λi=>hno i hj),a1b,e];dsimp only;rw[za (by decide)]
 .unfold fN;simp only[jn];refine dA (λj=>((f j).1.map J7,(j:Int),(f j).2)) (by rw[f0];rfl) ks.length (λ_=>True) (by omega) trivial (λj hj _=>?_) (λ_=>⟨(a.map J7,had),by dsimp only;rw[za (by simp),fn],rfl⟩);obtain⟨g1,g2,g3⟩:=fs j hj;left;refine⟨?_,trivial⟩;dsimp only;rw[zb (by simpa using hj),r8 hj,a1b,l6 (by omega),QV g1];rcases g3 with ⟨i,_,hi,e⟩ | ⟨hno,e⟩
  .rw[pR g1 hi,zM,a1b,e];dsimp only;rw[zb (by decide),B3 (by omega) (by simp;omega),a1b]
  .rw[pQ g1 (λi=>hno i hj),zM,a1b,e];dsimp only;rw[za (by decide)]
inductive bP (s:a7) (t:Tb) (l:List Int):Int->Prop
 | base {h:Int}:h∈l->h∈lv s->bP s t l h
 | step {a b:Int}:bP s t l a->b∈outs s a->b∈lv s->bP s t l b
 | pair {k v:Int}:Has t k v->bP s t l k->v∈lv s->bP s t l v
open Classical in
noncomputable def Gb (s:a7) (t:Tb) (l:List Int):List Int:=(lv s).filter λh=>decide (bP s t l h)
open Classical in
noncomputable def WA (s:a7) (t:Tb) (l:List Int):List Int:=(lv s).filter λh=>decide (¬bP s t l h)
noncomputable def Af(s:a7)(t:Tb)(l:List Int):List Int:=((aO t).filter λp=>decide (p.Key∈l/\p.Key∈lv s/\p.Val∈lv s)).map (·.Val)
def TB(t:Tb):Prop:=∀p∈t,p.Key<=9223372036854775807/\p.Val<=9223372036854775807
def KF(s:a7)(t:Tb)(l:List Int):Prop:=∀k v,Has t k v->k∈l->k∈lv s->v∈lv s->v∈l
theorem TB.has{t:Tb}(h:TB t){k v:Int}(q:Has t k v):k<=9223372036854775807/\v<=9223372036854775807:=by
 obtain⟨i,⟨h1,_,h2⟩,h3⟩:=q;rw[wD h1] at h2 h3;have:=h _ (zd h1);rw[h2,h3] at this;exact this
theorem bP.live{s:a7}{t:Tb}{l:List Int}{h:Int}(q:bP s t l h):h∈lv s:=by cases q <;> assumption
open Classical in
theorem mA {s:a7} {t:Tb} {l:List Int} {h:Int}:h∈Gb s t l↔bP s t l h:=by
 unfold Gb;rw[zn];exact⟨λq=>zbl q.2,λq=>⟨q.live,zp q⟩⟩
theorem DT{s:a7}(hR:sz (sO s))(t:Tb)(l:List Int):(Gb s t l).length<=24:=we (zN ..) (H2 hR)
theorem WC{s:a7}(hR:sz (sO s))(t:Tb)(l:List Int):LB (Gb s t l):=λx hx=>by have:=ko hR (mA.1 hx).live;omega
theorem XS{s:a7}(hR:sz (sO s))(l:List Int):LB (Ge s l):=λx hx=>by have:=ko hR (aF.1 hx).live;omega
theorem WB(s:a7)(t:Tb)(l:List Int):Cl s (Gb s t l):=λa ha b hb hl=>mA.2 (.step (mA.1 ha) hb hl)
theorem bP.least{s:a7}{t:Tb}{l m:List Int}(hc:Cl s m)(hp:KF s t m)(hl:∀x∈l,x∈lv s->x∈m){h:Int}(q:bP s t l h):h∈m:=by
 induction q with
 | base h1 h2=>exact hl _ h1 h2
 | step _ h1 h2 ih=>exact hc _ ih _ h1 h2
 | pair h1 h2 h3 ih=>exact hp _ _ h1 ih h2.live h3
theorem bP.mono{s:a7}{t u:Tb}{l m:List Int}(ht:∀k v,Has t k v->Has u k v)(hl:∀x∈l,x∈lv s->bP s u m x){h:Int}(q:bP s t l h):bP s u m h:=by
 induction q with
 | base h1 h2=>exact hl _ h1 h2
 | step _ h1 h2 ih=>exact .step ih h1 h2
 | pair h1 _ h3 ih=>exact .pair (ht _ _ h1) ih h3
theorem qV.a0C{s:a7}(t:Tb){l:List Int}{h:Int}(q:qV s l h):bP s t l h:=by
 induction q with
 | base h1 h2=>exact .base h1 h2
 | step _ h1 h2 ih=>exact .step ih h1 h2
theorem tO{s:a7}{t:Tb}{l:List Int}{v:Int}:v∈Af s t l↔∃k,Has t k v/\k∈l/\k∈lv s/\v∈lv s:=by
 unfold Af;rw[zZ];constructor
 .rintro⟨p,hp,rfl⟩;obtain⟨h1,h2⟩:=zn.1 hp;exact⟨p.Key,cg.1 h1,zbl h2⟩
 .rintro⟨k,h1,h2⟩;exact⟨⟨k,v⟩,zn.2 ⟨cg.2 h1,zp h2⟩,rfl⟩
theorem En{s:a7}{t:Tb}{l:List Int}:(∀v∈Af s t l,v∈l)↔KF s t l:=by
 constructor;·exact λh k v h1 h2 h3 h4=>h v (tO.2 ⟨k,h1,h2,h3,h4⟩)
 .intro h v hv;obtain⟨k,h1,h2,h3,h4⟩:=tO.1 hv;exact h k v h1 h2 h3 h4
theorem Eo{s:a7}{t:Tb}(hT:HR t)(l:List Int):(Af s t l).length<=8:=by
 unfold Af;rw[wd];exact we (zN ..) (iG hT.l8)
theorem Xz{s:a7}(hR:sz (sO s))(t:Tb)(l:List Int):LB (Af s t l):=λx hx=>by
 obtain⟨_,_,_,_,h⟩:=tO.1 hx;have:=ko hR h;omega
noncomputable def I9(s:a7)(t:Tb)(l:List Int):Nat->List Int
 | 0=>Ge s l
 | k+1=>Ge s (I9 s t l k++Af s t (I9 s t l k))
section
variable{s:a7}{t:Tb}{l:List Int}
theorem vT(k:Nat):I9 s t l (k+1)=Ge s (I9 s t l k++Af s t (I9 s t l k)):=rfl
theorem lJ(k:Nat):∃m,I9 s t l k=Ge s m:=by
 cases k with
 | zero=>exact⟨_,rfl⟩
 | succ k=>exact⟨_,rfl⟩
theorem UB(k:Nat):Cl s (I9 s t l k):=by
 obtain⟨m,e⟩:=lJ (s:=s) (t:=t) (l:=l) k;rw[e];exact XR s m
theorem NN(k:Nat){x:Int}(h:x∈I9 s t l k):x∈lv s:=by
 obtain⟨m,e⟩:=lJ (s:=s) (t:=t) (l:=l) k;rw[e] at h;exact (aF.1 h).live
theorem HZ(k:Nat){x:Int}(h:x∈I9 s t l k):x∈I9 s t l (k+1):=aF.2 (.base (zB.2 (.inl h)) (NN k h))
theorem NM(k:Nat):∀x∈l,x∈lv s->x∈I9 s t l k:=by
 induction k with
 | zero=>exact λx h1 h2=>aF.2 (.base h1 h2)
 | succ k ih=>exact λx h1 h2=>HZ k (ih x h1 h2)
theorem Rc(k:Nat):∀x∈I9 s t l k,bP s t l x:=by
 induction k with
 | zero=>exact λx h=>(aF.1 h).a0C t
 | succ k ih=>
  intro x h;have:=aF.1 h;induction this with
  | base h1 h2=>
   rcases zB.1 h1 with q | q
   .exact ih _ q
   .obtain⟨k',q1,q2,q3,q4⟩:=tO.1 q;exact .pair q1 (ih _ q2) q4
  | step h0 h1 h2 ih2=>exact .step (ih2 (aF.2 h0)) h1 h2
theorem CL{k:Nat}(h:KF s t (I9 s t l k)):I9 s t l k=Gb s t l:=by
 obtain⟨m,e⟩:=lJ (s:=s) (t:=t) (l:=l) k;have hm:∀x,qV s m x↔bP s t l x:=λx=>by
  rw[<-aF,<-e];exact⟨Rc k x,λq=>q.least (UB k) h (NM k)⟩
 rw[e];unfold Ge Gb;exact zat λx _=>za0.2 (hm x)
theorem Ke{k:Nat}(h:KF s t (I9 s t l k)):I9 s t l (k+1)=I9 s t l k:=by
 obtain⟨m,e⟩:=lJ (s:=s) (t:=t) (l:=l) k;rw[vT];have h':=En.2 h;rw[e] at h' |-;refine CJ λx=>⟨λq=>?_,λq=>.base (zB.2 (.inl (aF.2 q))) q.live⟩;refine q.mono λy hy _=>?_;rcases zB.1 hy with c | c
 .exact aF.1 c
 .exact aF.1 (h' y c)
theorem vQ{k:Nat}(h:¬KF s t (I9 s t l k)):((aO t).filter λp=>decide (p.Val∈I9 s t l k)).length<((aO t).filter λp=>decide (p.Val∈I9 s t l (k+1))).length:=by
 obtain⟨v,hv,hn⟩:∃v,v∈Af s t (I9 s t l k)/\v∉I9 s t l k:=zP λq=>h (En.1 λv hv=>zP λq2=>q ⟨v,hv,q2⟩);obtain⟨k',h1,h2,h3,h4⟩:=tO.1 hv;refine filter_lt (λp _ hp=>?_) ⟨k',v⟩ (cg.2 h1) ?_ ?_
 .rw[zx] at hp |-;exact HZ k hp
 .rw[zx];exact aF.2 (.base (zB.2 (.inr hv)) h4)
 .exact zA hn
theorem uF(s:a7)(t:Tb)(l:List Int):∃n,n<=(aO t).length/\KF s t (I9 s t l n)/\∀j,j<n->¬KF s t (I9 s t l j):=by
 have key:∀k,(∃j,j<=k/\KF s t (I9 s t l j))\/k<((aO t).filter λp=>decide (p.Val∈I9 s t l (k+1))).length:=by
  intro k;induction k with
  | zero=>
   by_cases h:KF s t (I9 s t l 0)
   .exact .inl ⟨0,zI _,h⟩
   .have:=vQ h;exact .inr (by omega)
  | succ k ih=>
   rcases ih with ⟨j,h1,h2⟩ | ih;·exact .inl ⟨j,by omega,h2⟩
   .by_cases h:KF s t (I9 s t l (k+1))
    .exact .inl ⟨k+1,zI _,h⟩
    .have:=vQ h;exact .inr (by omega)
 obtain⟨j,h1,h2⟩:∃j,j<=(aO t).length/\KF s t (I9 s t l j):=by
  rcases key (aO t).length with q | q
  .exact q
  .have:=zN (λp:p6=>decide (p.Val∈I9 s t l ((aO t).length+1))) (aO t);omega
 obtain⟨n,hn,hmin⟩:=Y3 (p:=λj=>KF s t (I9 s t l j)) ⟨j,h2⟩;exact⟨n,we (hmin j h2) h1,hn,λi hi q=>by have:=hmin i q;omega⟩
end
noncomputable def Ra(s:a7)(t:Tb)(l:List Int):Nat:=Classical.choose (uF s t l)
theorem Rb(s:a7)(t:Tb)(l:List Int):Ra s t l<=(aO t).length:=(zar (uF s t l)).1
theorem HY(s:a7)(t:Tb)(l:List Int):KF s t (I9 s t l (Ra s t l)):=(zar (uF s t l)).2.1
theorem Mm(s:a7)(t:Tb)(l:List Int){j:Nat}(h:j<Ra s t l):¬KF s t (I9 s t l j):=(zar (uF s t l)).2.2 j h
section
variable{s:a7}(hR:sz (sO s)){t:Tb}(hT:HR t)(hTB:TB t)
include hR hT hTB
omit hT hTB in
theorem Cv {h:Int} (hh:h<=9223372036854775807):ir h s=some (decide (h∈lv s)):=by
 obtain⟨e,h1,h2⟩:=T0 hR hh;unfold ir;rw[h1,a1b];congr 1;rw[zan,ww,zx];exact h2
omit hT hTB in
theorem yZ {h:Int} (hh:h<=9223372036854775807):ly (sO s) h=some (decide (h∈lv s)):=by
 obtain⟨e,h1,h2⟩:=T0 hR hh;unfold ly;rw[iv s (by have:=dQ hR;omega) hh,h1];simp only[zM,a1b];congr 1;rw[zan,ww,zx];exact h2
theorem LX{l:List Int}(hl:l.length<=1000000):tc s t l=some (Af s t l):=by
 unfold tc;simp only[jn,QM hT,a1b];have h8:=iG hT.l8;rw[H6 ((aO t)) (λb p=>b++(if decide (p.Key∈l/\p.Key∈lv s/\p.Val∈lv s) then [p.Val] else [])) id (λk b=>b.length<=k) (by omega) (by simp) (λk hk b hb=>?_) (λb _=>?_)]
 .simp only[a1b,id];rw[eF];congr 1;unfold Af;rw[zb9];generalize aO t=P;induction P with
  | nil=>rfl
  | cons p P ih=>
   rw[za3,rx,ih];by_cases q:p.Key∈l/\p.Key∈lv s/\p.Val∈lv s
   .simp[q]
   .simp[q]
 .have hb':=hTB.has (cg.1 (zd hk));simp only[zo,hk,zt,zD,r8 hk,a1b,contains_eq _ _ hl];rw[Cv hR hb'.1,Cv hR hb'.2];by_cases q1:(aO t)[k].Key∈l
  .rw[zp q1];simp only[zF,J9,a1b,wn];by_cases q2:(aO t)[k].Key∈lv s
   .rw[zp q2];simp only[zF,J9,a1b,wn];by_cases q3:(aO t)[k].Val∈lv s
    .rw[zb (by simpa using q3),B3 (by omega) (by simp;omega),a1b,l6,zb (by simp[q1,q2,q3])];exact⟨rfl,by simp;omega⟩
    .rw[za (by simpa using q3),l6,za (by simp[q3]),my];exact⟨rfl,by omega⟩
   .rw[zA q2];simp only[show ((false==true):Bool)=false from rfl,oU,a1b,zay,zg,zU];rw[l6,za (by simp[q2]),my];exact⟨rfl,by omega⟩
  .rw[zA q1];simp only[show ((false==true):Bool)=false from rfl,oU,a1b,zay,zg,zU];rw[l6,za (by simp[q1]),my];exact⟨rfl,by omega⟩
 .simp only[mt,or,zg,zU];rfl
theorem Nr{l:List Int}(hl:l.length<=1000000):pb (sO s) (t.map J7) l=some (Af s t l):=by
 unfold pb;simp only[jn,vU hT,a1b];have h8:=iG hT.l8;rw[H6 ((aO t)) (λb p=>b++(if decide (p.Key∈l/\p.Key∈lv s/\p.Val∈lv s) then [p.Val] else [])) id (λk b=>b.length<=k) (by omega) (by simp) (λk hk b hb=>?_) (λb _=>?_)]
 .simp only[a1b,id];rw[eF];congr 1;unfold Af;rw[zb9];generalize aO t=P;induction P with
  | nil=>rfl
  | cons p P ih=>
   rw[za3,rx,ih];by_cases q:p.Key∈l/\p.Key∈lv s/\p.Val∈lv s
   .simp[q]
   .simp[q]
 .have hb':=hTB.has (cg.1 (zd hk));have hk':k<((aO t).map pp).length:=by simpa using hk
  have eix:ix ((aO t).map pp) (k:Int)=some (pp (aO t)[k]):=by rw[bn,r8 hk];rfl
  simp only[wd,zo,hk,zt,zD,eix,a1b,tn _ _ hl,pp];rw[yZ hR hb'.1,yZ hR hb'.2];simp only[a1b];by_cases q1:(aO t)[k].Key∈lv s
  .rw[zp q1];simp only[zF,J9,a1b,wn];have h0:=LI hR _ q1;by_cases q2:(aO t)[k].Key∈l
   .rw[zp (show (aO t)[k].Key≠0/\(aO t)[k].Key∈l from ⟨h0,q2⟩)];simp only[zF,J9,a1b,wn];by_cases q3:(aO t)[k].Val∈lv s
    .rw[zb (by simpa using q3),B3 (by omega) (by simp;omega),a1b,l6,zb (by simp[q1,q2,q3])];exact⟨rfl,by simp;omega⟩
    .rw[za (by simpa using q3),l6,za (by simp[q3]),my];exact⟨rfl,by omega⟩
   .rw[zA (show ¬((aO t)[k].Key≠0/\(aO t)[k].Key∈l) from λq=>q2 q.2)];simp only[show ((false==true):Bool)=false from rfl,oU,a1b,zay,zg,zU];rw[l6,za (by simp[q2]),my];exact⟨rfl,by omega⟩
  .rw[zA q1];simp only[show ((false==true):Bool)=false from rfl,oU,a1b,zay,zg,zU];rw[l6,za (by simp[q1]),my];exact⟨rfl,by omega⟩
 .simp only[wd,mt,or,zg,zU];rfl
theorem PE(hF:FB s){l:List Int}(hl:LB l)(hlen:l.length<=1000000):pT s t l=some (Gb s t l,(Ra s t l:Int)):=by
 unfold pT;rw[Lr hR hF hl hlen,a1b];simp only[jn];have hn:=Rb s t l;have h8:=iG hT.l8;have hstep:∀k,∃m,I9 s t l k=Ge s m:=lJ;refine dA (p:=λk=>(I9 s t l k,(k:Int))) rfl (Ra s t l) (λ_=>True) (by omega) trivial (λk hk _=>.inl ⟨?_,trivial⟩) (λ_=>?_)
 .obtain⟨m,hm⟩:=hstep k;have hlk:(I9 s t l k).length<=24:=by rw[hm];exact Mc hR m
  have hlb:LB (I9 s t l k):=by rw[hm];exact XS hR m
  have hno:=Mm s t l hk;simp only;rw[LX hR hT hTB (by omega),a1b];have ho:=Eo (s:=s) hT (I9 s t l k);obtain⟨j,⟨hj,hjn⟩,hmin⟩:=Y3 (p:=λj=>∃hj:j<(Af s t (I9 s t l k)).length,(Af s t (I9 s t l k))[j]∉I9 s t l k) (by
   refine zP λq=>hno (En.1 λv hv=>zP λq2=>?_);obtain⟨j,hj,e⟩:=List.mem_iff_getElem.1 hv;exact q ⟨j,hj,by rw[e];exact q2⟩)
  refine N6 (Af s t (I9 s t l k)).length (λi=>i<=j) (by omega) (t7 _) (λi hi hP=>?_) (λhP=>by omega);simp only[zo,hi,zt,zD,r8 hi,a1b];rw[contains_eq _ _ (by omega),a1b];rcases zy i j with q | q
  .refine .inl ⟨?_,q⟩;have:(Af s t (I9 s t l k))[i]∈I9 s t l k:=zP λq2=>by have:=hmin i ⟨hi,q2⟩;omega
   rw[za (by simp[this]),l6]
  .have:i=j:=by omega
   subst this;refine .inr ⟨.inl (I9 s t l (k+1),((k+1:Nat):Int)),?_,rfl⟩;rw[zb (by simp[hjn]),B3 (by omega) (by omega),a1b,Lr hR hF (λx hx=>by
    rcases zB.1 hx with q | q
    .exact Xz hR t _ x q
    .exact hlb x q) (by simp;omega),a1b,l6,vT]
   rw[CJ (l:=Af s t (I9 s t l k)++I9 s t l k) (m:=I9 s t l k++Af s t (I9 s t l k)) λx=>⟨λq=>q.mono λy hy hyl=>.base (zB.2 (zB.1 hy).symm) hyl,λq=>q.mono λy hy hyl=>.base (zB.2 (zB.1 hy).symm) hyl⟩]
 .have hst:=HY s t l;have hfr:=CL hst;refine⟨(Gb s t l,(Ra s t l:Int)),?_,rfl⟩;simp only;rw[hfr] at hst |-;have hfl:=DT hR t l;rw[LX hR hT hTB (by omega),a1b];have ho:=Eo (s:=s) hT (Gb s t l);refine N6 (Af s t (Gb s t l)).length (λ_=>True) (by omega) trivial (λi hi _=>.inl ⟨?_,trivial⟩) (λ_=>⟨.inr (),by simp,rfl⟩);have:=En.2 hst _ (zd hi);simp only[zo,hi,zt,zD,r8 hi,a1b];rw[contains_eq _ _ (by omega),a1b,za (by simp[this]),l6]
theorem Ib{l:List Int}(hlen:l.length<=1000000):na (sO s) (t.map J7) l=some (Gb s t l,(Ra s t l:Int)):=by
 unfold na;rw[Ck hR hlen,a1b];simp only[jn];have hn:=Rb s t l;have h8:=iG hT.l8;have hone:∀k,lr (sO s) (I9 s t l k++Af s t (I9 s t l k))=some (I9 s t l (k+1))/\(I9 s t l k).length<=24/\(Af s t (I9 s t l k)).length<=8/\pb (sO s) (t.map J7) (I9 s t l k)=some (Af s t (I9 s t l k)):=λk=>by
  obtain⟨m,hm⟩:=lJ (s:=s) (t:=t) (l:=l) k;have hlk:(I9 s t l k).length<=24:=by rw[hm];exact Mc hR m
  have ho:=Eo (s:=s) hT (I9 s t l k);exact⟨by rw[Ck hR (by simp;omega),vT],hlk,ho,Nr hR hT hTB (by omega)⟩
 refine dA (p:=λk=>(I9 s t l k,(k:Int))) rfl (Ra s t l) (λ_=>True) (by omega) trivial (λk hk _=>.inl ⟨?_,trivial⟩) (λ_=>?_)
 .obtain⟨h1,h2,h3,h4⟩:=hone k;obtain⟨_,h2',_,_⟩:=hone (k+1);have hne:I9 s t l (k+1)≠I9 s t l k:=λe=>by
   have:=vQ (Mm s t l hk);rw[e] at this;omega
  simp only;rw[zb (by simp;omega),O4 (by omega) (by omega),a1b,h4,a1b,B3 (by omega) (by omega),a1b,h1,a1b,CW _ _ (by omega),a1b,za (by simpa using hne),l6]
 .obtain⟨h1,h2,h3,h4⟩:=hone (Ra s t l);obtain⟨_,h2',_,_⟩:=hone (Ra s t l+1);have hst:=HY s t l;refine⟨.inl (Gb s t l,(Ra s t l:Int)),?_,rfl⟩;simp only;rw[zb (by simp;omega),O4 (by omega) (by omega),a1b,h4,a1b,B3 (by omega) (by omega),a1b,h1,a1b,CW _ _ (by omega),a1b,zb (by simpa using Ke hst),CL hst]
theorem Ps(hF:FB s){l:List Int}(hl:LB l)(hlen:l.length<=1000000):ta s t l=some (Gb s t l):=by
 unfold ta;rw[PE hR hT hTB hF hl hlen];rfl
theorem Ji{l:List Int}(hlen:l.length<=1000000):ug (sO s) (t.map J7) l=some (Gb s t l):=by
 unfold ug;rw[Ib hR hT hTB hlen];rfl
omit hT hTB hR in
theorem Uy {l:List Int} {x:Int}:qV s (Gb s t l) x↔bP s t l x:=by
 constructor
 .intro q;exact mA.1 (qV.least (WB s t l) (λx h _=>h) q)
 .exact λq=>.base (mA.2 q) q.live
theorem Px(hF:FB s){l:List Int}(hl:LB l)(hlen:l.length<=1000000):oG s t l=some (WA s t l):=by
 unfold oG;rw[Ps hR hT hTB hF hl hlen,a1b,TH hR hF (WC hR t l) (by have:=DT hR t l;omega),a1b];congr 1;unfold lst WA;exact zat λx _=>za0.2 (not_congr Uy)
open Classical in
theorem Jl {l:List Int} (hlen:l.length<=1000000):uh (sO s) (t.map J7) l=some (WA s t l):=by
 unfold uh;have h24:=H2 hR;have hfl:=DT hR t l;rw[Ji hR hT hTB hlen,a1b,km hR,a1b];simp only[jn];rw[H6 (lv s) (λacc x=>if decide (¬bP s t l x) then acc ++ [x] else acc) id (λk acc=>acc.length<=k) (by omega) (by simp) (λk hk acc hb=>?_) (λb _=>?_)]
 .simp only[a1b,id];rw[foldl_filter];rfl
 .simp only[zo,hk,zt,zD,r8 hk,a1b];rw[tn _ _ (by omega),a1b];have h0:=LI hR _ (zd hk);by_cases q:bP s t l (lv s)[k]
  .have e:(lv s)[k]∈Gb s t l:=mA.2 q;rw[za (by simp[e,h0]),za (by simpa using q),l6];exact⟨rfl,by omega⟩
  .have e:(lv s)[k]∉Gb s t l:=λh=>q (mA.1 h);rw[zb (by simp[e]),zb (by simpa using q),B3 (by omega) (by simp;omega),a1b,l6];exact⟨rfl,by simp;omega⟩
 .simp only[mt,or,zg,zU];rfl
end
section
variable(s:a7)(hF:FB s)(t:Tb)(hTB:TB t)
include hF hTB
end
def ce(s:a7)(i:Nat):c4:=s.S.Cells.getD i ⟨0,0,z0⟩
theorem F5{s:a7}{i:Nat}(h:i<s.S.Cells.length):ce s i=s.S.Cells[i]:=by
 unfold ce;rw[zf,zc h];rfl
theorem GS{s:a7}{i:Nat}(h:i<s.S.Cells.length):ix s.S.Cells (i:Int)=some (ce s i):=by rw[r8 h,F5 h]
def Th(c:c4):Prop:=c.State=1\/c.State=2
instance(c:c4):Decidable (Th c):=by unfold Th;infer_instance
structure Bp (s:a7) (o:n7):Prop where
 s1:1<=o.Serial
 s2:o.Serial<=s.Serial
 st:0<=o.Strong
 wk:0<=o.Weak
 p1 : -1<=o.Prog
 p2:o.Prog<=5
 fl:o.Fields.length<=4
structure SR (s:a7):Prop where
 len:s.S.Cells.length<=24
 l0:0<=s.S.Last
 l9:s.S.Last<=9
 aV:0<=s.Serial
 cell:∀i,i<s.S.Cells.length->0<=(ce s i).State/\(ce s i).State<=3/\0<=(ce s i).Gen/\(ce s i).Gen<=s.S.Last
 no:∀i,i<s.S.Cells.length->¬Th (ce s i)->CX (oo (ce s i).Val)
 ok:∀i,i<s.S.Cells.length->Th (ce s i)->Bp s (ce s i).Val
 dif:∀i j,i<s.S.Cells.length->j<s.S.Cells.length->Th (ce s i)->Th (ce s j)->(ce s i).Val.Serial=(ce s j).Val.Serial->i=j
theorem x8{s:a7}:sz (sO s)↔SR s:=by
 constructor
 .intro h;refine⟨dQ h,h.l0,h.l9,h.aV,λi hi=>?_,λi hi hn=>?_,λi hi ht=>?_,λi j hi hj a b e=>?_⟩;·rw[F5 hi];exact Fl h i hi
  .rw[F5 hi] at hn |-;have:=h.no i (by rw[C9];exact hi);simp only[sO,wt] at this;exact this hn
  .rw[F5 hi] at ht |-;obtain⟨a,b,c,d,e,f,g⟩:=Rk h i hi ht;exact⟨a,b,c,d,e,f,g⟩
  .rw[F5 hi] at a e;rw[F5 hj] at b e;exact Rj h hi hj a b e
 .intro h;refine⟨by rw[C9];exact h.len,h.l0,h.l9,h.aV,λi hi=>?_,λi hi hn=>?_,λi hi ht=>?_,λi hi k hk a b=>?_⟩
  .rw[C9] at hi;have:=h.cell i hi;rw[F5 hi] at this;simpa[sO,cO] using this
  .rw[C9] at hi;have:=h.no i hi;rw[F5 hi] at this;simp only[sO,wt] at hn |-;exact this hn
  .rw[C9] at hi;have:=h.ok i hi;rw[F5 hi] at this;simp only[sO,wt] at ht |-;obtain⟨a,b,c,d,e,f,g⟩:=this ht;exact⟨a,b,c,d,e,f,g⟩
  .rw[C9] at hi;have hk':k<s.S.Cells.length:=by omega
   have:=h.dif i k hi hk';rw[F5 hi,F5 hk'] at this;simp only[sO,wt,cO,oo] at a b |-;intro e;have:=this a b e.symm;omega
def At(s:a7)(h:Int)(i:Nat):Prop:=i<s.S.Cells.length/\(ce s i).State=1/\h=1+(i:Int)+32*(ce s i).Gen
def X6(s:a7)(h:Int)(i:Nat):Prop:=i<s.S.Cells.length/\Th (ce s i)/\h=1+(i:Int)+32*(ce s i).Gen
theorem At.d{s:a7}{h:Int}{i:Nat}(q:At s h i):X6 s h i:=⟨q.1,.inl q.2.1,q.2.2⟩
theorem X6.one{s:a7}(hR:SR s){h:Int}{i j:Nat}(q:X6 s h i)(q':X6 s h j):i=j:=by
 obtain⟨a1,_,a2⟩:=q;obtain⟨b1,_,b2⟩:=q';have:=hR.len;omega
theorem X6.Rf{s:a7}(hR:SR s){h:Int}{i:Nat}(q:X6 s h i):1<=h/\h<=320:=by
 obtain⟨a1,_,a2⟩:=q;have:=hR.len;have:=hR.cell i a1;have:=hR.l9;omega
theorem Ha{s:a7}{h:Int}:h∈ay 0 s.S.Cells↔∃i,At s h i:=by
 rw[oN];constructor
 .rintro⟨i,hi,h1,h2⟩;refine⟨i,hi,by rw[F5 hi];exact h1,?_⟩;rw[F5 hi,h2,so]
 .rintro⟨i,hi,h1,h2⟩;rw[F5 hi] at h1 h2;exact⟨i,hi,h1,by rw[h2,so]⟩
theorem gn{s:a7}(hR:SR s){h:Int}:h∈lv s↔∃i,At s h i:=by rw[vB (x8.2 hR),Ha]
theorem rR{s:a7}(hR:SR s){h:Int}{i:Nat}:va s.S h i↔X6 s h i:=by
 constructor
 .rintro⟨hi,h1,h2,h3,h4⟩;unfold qT at h1;refine⟨hi,by rw[F5 hi];exact h4,?_⟩;rw[F5 hi];omega
 .rintro⟨hi,h1,h2⟩;have l:=hR.len;have l9:=hR.l9;have c:=hR.cell i hi;rw[F5 hi] at h1 h2 c;exact⟨hi,by unfold qT;omega,by omega,by omega,h1⟩
theorem Q5{s:a7}(hR:SR s){h:Int}{i:Nat}(q:At s h i):ob s h=(ce s i).Val:=by
 obtain⟨j,hj,h1,h2,_,e⟩:=Eg (x8.2 hR) ((gn hR).2 ⟨i,q⟩);have:j=i:=X6.one hR ⟨hj,by rw[F5 hj];exact .inl h1,by rw[F5 hj];exact h2⟩ q.d;subst this;rw[e,F5 hj]
theorem Wl{s:a7}(hR:SR s){h:Int}{i:Nat}(q:At s h i):A7 s h=some ((ce s i).Val,0):=by
 rw[vA (x8.2 hR) ((gn hR).2 ⟨i,q⟩),Q5 hR q]
theorem OJ{s:a7}(hR:SR s){h:Int}{i:Nat}(q:At s h i):sk s.S.Cells h=(ce s i).Val.Serial:=by
 have:=hR.len;have hi:=q.1;rw[q.2.2,Ik hi (by omega),F5 hi]
theorem jl{s:a7}(hR:SR s){h:Int}{i:Nat}(q:X6 s h i):y8 s.S h=some ((i:Int),0):=pS ((rR hR).2 q)
theorem mi{s:a7}(hR:SR s){h:Int}(hh:h<=9223372036854775807)(q:∀i,¬X6 s h i):y8 s.S h=some (-1,if h=0 then 2 else 3):=vu hh λi hi=>q i ((rR hR).1 hi)
theorem Qa{s s':a7}(hR:SR s)(hR':SR s')(P:Int->Bool)(hm:∀h,(∃i,At s' h i)↔(∃i,At s h i)/\P h=true)(hk:∀h i j,At s' h i->At s h j->(ce s' i).Val.Serial=(ce s j).Val.Serial):lv s'=(lv s).filter P:=by
 have hk':∀h∈lv s,P h=true->sk s'.S.Cells h=sk s.S.Cells h:=λh hh hp=>by
  obtain⟨j,hj⟩:=(gn hR).1 hh;obtain⟨i,hi⟩:=(hm h).2 ⟨⟨j,hj⟩,hp⟩;rw[OJ hR' hi,OJ hR hj,hk h i j hi hj]
 refine Zf (x8.2 hR') ?_ ?_
 .rw[List.perm_ext_iff_of_nodup ((tI (x8.2 hR)).filter _) (mE 0 _ (by have:=hR'.len;omega))];intro h;rw[zn,gn hR,Ha,hm h]
 .refine ((jB (x8.2 hR)).2.2.filter P).imp_of_mem λ{a b} ha hb hab=>?_;rw[zn] at ha hb;rw[hk' a ha.1 ha.2,hk' b hb.1 hb.2];exact hab
theorem TK{s s':a7}(hR:SR s)(hR':SR s')(hl:s'.S.Cells.length=s.S.Cells.length)(h1:∀i,i<s.S.Cells.length->((ce s' i).State=1↔(ce s i).State=1)/\(ce s' i).Gen=(ce s i).Gen/\(ce s' i).Val.Serial=(ce s i).Val.Serial):lv s'=lv s:=by
 have ha:∀h i,At s' h i↔At s h i:=λh i=>by
  unfold At;rw[hl];constructor
  .rintro⟨a,b,c⟩;obtain⟨x,y,z⟩:=h1 i a;exact⟨a,x.1 b,by rw[<-y];exact c⟩
  .rintro⟨a,b,c⟩;obtain⟨x,y,z⟩:=h1 i a;exact⟨a,x.2 b,by rw[y];exact c⟩
 rw[Qa hR hR' (λ_=>true) (λh=>by simp only[and_true];exact⟨λ⟨i,q⟩=>⟨i,(ha h i).1 q⟩,λ⟨i,q⟩=>⟨i,(ha h i).2 q⟩⟩) (λh i j q q'=>by
  have:=X6.one hR ((ha h i).1 q).d q'.d;subst this;exact (h1 i q'.1).2.2)]
 simp
def dH(s:a7)(i:Nat)(o:n7):a7:=⟨⟨s.S.Cells.set i ⟨(ce s i).State,(ce s i).Gen,o⟩,s.S.Last⟩,s.Serial⟩
theorem O5(s:a7)(i:Nat)(o:n7):(dH s i o).S.Cells.length=s.S.Cells.length:=by simp[dH]
theorem kS{α:Type}{l:List α}{i:Nat}(hi:i<l.length)(c d:α)(j:Nat):(l.set i c).getD j d=if j=i then c else l.getD j d:=by
 rw[zf,zf,List.getElem?_set];by_cases h:j=i
 .subst h;rw[zb rfl,zb hi,zb rfl];rfl
 .rw[za (za2 h),za h]
theorem ml{s:a7}{i:Nat}(hi:i<s.S.Cells.length)(o:n7)(j:Nat):ce (dH s i o) j=if j=i then ⟨(ce s i).State,(ce s i).Gen,o⟩ else ce s j:=kS hi _ _ j
theorem AV{s:a7}{i:Nat}(hi:i<s.S.Cells.length)(o:n7)(j:Nat):(ce (dH s i o) j).State=(ce s j).State/\(ce (dH s i o) j).Gen=(ce s j).Gen:=by
 rw[ml hi];split;·rename_i q;subst q;exact⟨rfl,rfl⟩
 .exact⟨rfl,rfl⟩
theorem xz{s:a7}{i:Nat}(hi:i<s.S.Cells.length)(o:n7){h:Int}{j:Nat}:X6 (dH s i o) h j↔X6 s h j:=by
 unfold X6 Th;rw[O5,(AV hi o j).1,(AV hi o j).2]
theorem yt{s:a7}{i:Nat}(hi:i<s.S.Cells.length)(o:n7){h:Int}{j:Nat}:At (dH s i o) h j↔At s h j:=by
 unfold At;rw[O5,(AV hi o j).1,(AV hi o j).2]
theorem Fu{s:a7}(hR:SR s){h:Int}{i:Nat}(q:X6 s h i)(o:n7):L8 s h o=some (dH s i o,0):=by
 obtain⟨hi,e⟩:=Ii (v:=o) hR.len ((rR hR).2 q);unfold L8;rw[e];simp[dH,F5 hi]
theorem SR.put{s:a7}(hR:SR s){i:Nat}(hi:i<s.S.Cells.length)(ht:Th (ce s i)){o:n7}(hs:o.Serial=(ce s i).Val.Serial)(ho:Bp s o):SR (dH s i o):=by
 have hst:=AV hi o;have hse:∀j,(ce (dH s i o) j).Val.Serial=(ce s j).Val.Serial:=λj=>by
  rw[ml hi];split;·rename_i q;subst q;exact hs
  .rfl
 refine⟨by rw[O5];exact hR.len,hR.l0,hR.l9,hR.aV,λj hj=>?_,λj hj hn=>?_,λj hj hn=>?_,λj k hj hk a b e=>?_⟩
 .rw[O5] at hj;rw[(hst j).1,(hst j).2];exact hR.cell j hj
 .rw[O5] at hj;unfold Th at hn;rw[(hst j).1] at hn;rw[ml hi];split;·rename_i q;subst q;exact absurd ht hn
  .exact hR.no j hj hn
 .rw[O5] at hj;unfold Th at hn;rw[(hst j).1] at hn;rw[ml hi];split;·exact⟨ho.s1,ho.s2,ho.st,ho.wk,ho.p1,ho.p2,ho.fl⟩
  .have:=hR.ok j hj hn;exact⟨this.s1,this.s2,this.st,this.wk,this.p1,this.p2,this.fl⟩
 .rw[O5] at hj hk;unfold Th at a b;rw[(hst j).1] at a;rw[(hst k).1] at b;rw[hse,hse] at e;exact hR.dif j k hj hk a b e
theorem PY{s:a7}(hR:SR s){i:Nat}(hi:i<s.S.Cells.length){o:n7}(hs:o.Serial=(ce s i).Val.Serial)(hR':SR (dH s i o)):lv (dH s i o)=lv s:=by
 refine TK hR hR' (O5 ..) λj hj=>?_;rw[ml hi];split;·rename_i q;subst q;exact⟨Iff.rfl,rfl,hs⟩
 .exact⟨Iff.rfl,rfl,rfl⟩
theorem Xt{s:a7}(hR:SR s){h:Int}{i:Nat}(q:At s h i){o:n7}(hR':SR (dH s i o)){k:Int}(hk:k<=9223372036854775807):ob (dH s i o) k=if k=h then o else ob s k:=by
 by_cases e:k=h
 .subst e;rw[zb rfl,Q5 hR' ((yt q.1 o).2 q),ml q.1,zb rfl]
 .rw[za e];by_cases hl:∃j,At s k j
  .obtain⟨j,hj⟩:=hl;rw[Q5 hR' ((yt q.1 o).2 hj),Q5 hR hj,ml q.1,za];intro e2;subst e2;exact e (hj.2.2.trans q.2.2.symm)
  .rw[rm (x8.2 hR) hk (λq2=>hl ((gn hR).1 q2)),rm (x8.2 hR') hk λq2=>hl (by
    obtain⟨j,hj⟩:=(gn hR').1 q2;exact⟨j,(yt q.1 o).1 hj⟩)]
def E4(h:Int):Nat:=((h-1) % 32).toNat
theorem X6.E4{s:a7}(hR:SR s){h:Int}{i:Nat}(q:X6 s h i):E4 h=i:=by
 obtain⟨a,_,c⟩:=q;have:=hR.len;unfold Sh.E4;omega
def cZ(s:a7)(h:Int)(o:n7):a7:=dH s (E4 h) o
theorem B5{s:a7}(hR:SR s){h:Int}(hh:h∈lv s):At s h (E4 h):=by
 obtain⟨i,hi⟩:=(gn hR).1 hh;rw[hi.d.E4 hR];exact hi
theorem L1{s:a7}(hR:SR s){h:Int}(hh:h∈lv s):Bp s (ob s h):=by
 have q:=B5 hR hh;rw[Q5 hR q];exact hR.ok _ q.1 (.inl q.2.1)
theorem I8{s:a7}(hR:SR s){h:Int}(hh:h∈lv s):1<=h/\h<=320:=(B5 hR hh).d.Rf hR
theorem qO{s:a7}(hR:SR s):(0:Int)∉lv s:=λh=>by have:=I8 hR h;omega
section
variable{s:a7}(hR:SR s){h:Int}(hh:h∈lv s){o:n7}(hs:o.Serial=(ob s h).Serial)(ho:Bp s o)
include hR hh hs ho
theorem bN:SR (cZ s h o):=by
 have q:=B5 hR hh;exact hR.put q.1 (.inl q.2.1) (by rw[hs,Q5 hR q]) ho
theorem gj:lv (cZ s h o)=lv s:=by
 have q:=B5 hR hh;exact PY hR q.1 (by rw[hs,Q5 hR q]) (bN hR hh hs ho)
theorem eX{k:Int}(hk:k<=9223372036854775807):ob (cZ s h o) k=if k=h then o else ob s k:=Xt hR (B5 hR hh) (bN hR hh hs ho) hk
theorem uI:L8 s h o=some (cZ s h o,0):=Fu hR (B5 hR hh).d o
theorem Km{k:Int}{i:Nat}:X6 (cZ s h o) k i↔X6 s k i:=xz (B5 hR hh).1 o
theorem Ft(i:Nat):ce (cZ s h o) i=if i=E4 h then ⟨(ce s i).State,(ce s i).Gen,o⟩ else ce s i:=by
 unfold cZ;rw[ml (B5 hR hh).1];split;·rename_i q;rw[q]
 .rfl
end
abbrev CS(o:n7)(n:Int):n7:=⟨o.Serial,n,o.Weak,o.Prog,o.Started,o.Fields⟩
structure xa (s s':a7):Prop where
 sr:SR s'
 len:s'.S.Cells.length=s.S.Cells.length
 last:s'.S.Last=s.S.Last
 aV:s'.Serial=s.Serial
 lv:lv s'=lv s
 ad:∀k i,X6 s' k i↔X6 s k i
 ob:∀k,k<=9223372036854775807->∃n,ob s' k=(CS (ob s k) (n))
 ce:∀i,i<s.S.Cells.length->(ce s' i).State=(ce s i).State/\(ce s' i).Gen=(ce s i).Gen/\(ce s' i).Val.Weak=(ce s i).Val.Weak/\(ce s' i).Val.Fields=(ce s i).Val.Fields/\((ce s i).State≠1->ce s' i=ce s i)
theorem xa.refl{s:a7}(hR:SR s):xa s s:=⟨hR,rfl,rfl,rfl,rfl,λ_ _=>Iff.rfl,λk _=>⟨_,rfl⟩,λi _=>⟨rfl,rfl,rfl,rfl,λ_=>rfl⟩⟩
theorem xa.trans{a b c:a7}(h:xa a b)(q:xa b c):xa a c:=by
 refine⟨q.sr,q.len.trans h.len,q.last.trans h.last,q.aV.trans h.aV,q.lv.trans h.lv,λk i=>(q.ad k i).trans (h.ad k i),λk hk=>?_,λi hi=>?_⟩
 .obtain⟨n,e⟩:=h.ob k hk;obtain⟨m,f⟩:=q.ob k hk;exact⟨m,by rw[f,e]⟩
 .obtain⟨a1,a2,a3,a4,a5⟩:=h.ce i hi;obtain⟨b1,b2,b3,b4,b5⟩:=q.ce i (by rw[h.len];exact hi);refine⟨b1.trans a1,b2.trans a2,b3.trans a3,b4.trans a4,λhn=>?_⟩;rw[b5 (by rw[a1];exact hn),a5 hn]
theorem xa.outs{s s':a7}(k:xa s s'){h:Int}(hh:h<=9223372036854775807):outs s' h=outs s h:=by
 obtain⟨n,e⟩:=k.ob h hh;unfold Sh.outs;rw[e]
theorem xa.jy{s s':a7}(hR:SR s)(k:xa s s')(h:Int):jy s' h=jy s h:=by
 unfold Sh.jy;rw[k.lv];congr 1;refine zG λx hx=>?_;rw[k.outs (by have:=I8 hR hx;omega)]
theorem TF{s:a7}(hR:SR s){h:Int}(hh:h∈lv s){n:Int}(hn:0<=n):xa s (cZ s h (CS (ob s h) (n))):=by
 have ho:Bp s (CS (ob s h) (n)):=by
  have:=L1 hR hh;exact⟨this.s1,this.s2,hn,this.wk,this.p1,this.p2,this.fl⟩
 have q:=B5 hR hh;refine⟨bN hR hh rfl ho,O5 ..,rfl,rfl,gj hR hh rfl ho,λk i=>Km (o:=(CS (ob s h) (n))) hR hh rfl ho,λk hk=>?_,λi hi=>?_⟩
 .rw[eX (o:=(CS (ob s h) (n))) hR hh rfl ho hk];split;·rename_i e;subst e;exact⟨n,rfl⟩
  .exact⟨_,rfl⟩
 .rw[Ft (o:=(CS (ob s h) (n))) hR hh rfl ho];split
  .rename_i e;subst e;rw[Q5 hR q];exact⟨rfl,rfl,rfl,rfl,λhn=>absurd q.2.1 hn⟩
  .exact⟨rfl,rfl,rfl,rfl,λ_=>rfl⟩
def SB(s:a7):Prop:=∀c∈s.S.Cells,c.Val.Strong<=9223372036854775807
theorem Vs{s:a7}:FB s↔∀i,i<s.S.Cells.length->∀x∈(ce s i).Val.Fields,x<=9223372036854775807:=by
 constructor
 .intro h i hi x hx;rw[F5 hi] at hx;exact h _ (zd hi) x hx
 .intro h c hc x hx;obtain⟨i,hi,rfl⟩:=q9 hc;exact h i hi x (by rw[F5 hi];exact hx)
theorem ZK{s:a7}:SB s↔∀i,i<s.S.Cells.length->(ce s i).Val.Strong<=9223372036854775807:=by
 constructor
 .intro h i hi;rw[F5 hi];exact h _ (zd hi)
 .intro h c hc;obtain⟨i,hi,rfl⟩:=q9 hc;have:=h i hi;rwa [F5 hi] at this
noncomputable def inr(s:a7)(t:Tb)(h:Int):Nat:=jy s h+own t h
noncomputable def AK(s:a7)(t:Tb)(h:Int):Int:=if h∈lv s then (ob s h).Strong-(inr s t h:Int) else 0
noncomputable def Tx(s:a7)(t:Tb):List Int:=(lv s).filter λh=>decide (0<AK s t h\/12<=(ob s h).Strong)
def Gf(s:a7)(t:Tb)(l:List Int):Prop:=∀h∈lv s,(ob s h).Strong<12->AK s t h=(Y9 l h:Int)
noncomputable instance(s:a7)(t:Tb)(l:List Int):Decidable (Gf s t l):=Classical.propDecidable _
section
variable{s:a7}(hR:sz (sO s)){t:Tb}(hT:HR t)
include hR hT
theorem PL(h:Int):jS s t h=some (inr s t h:Int):=by
 unfold jS;have h1:=Jt hR h;have h2:=JI hT.l8 h;rw[Zd hR,a1b,QI hT,a1b,G4 (by omega) (by omega)];unfold inr;simp
theorem Ju(h:Int):qj (sO s) (t.map J7) h=some (inr s t h:Int):=by
 unfold qj;have h1:=Jt hR h;have h2:=JI hT.l8 h;rw[Ty hR,a1b,NQ hT,a1b,G4 (by omega) (by omega)];unfold inr;simp
theorem PM(h:Int):inr s t h<=104:=by
 have h1:=Jt hR h;have h2:=JI hT.l8 h;unfold inr;omega
omit hT in
theorem wg (hB:SB s) {h:Int} (hh:h∈lv s):0<=(ob s h).Strong/\(ob s h).Strong<=9223372036854775807:=by
 obtain⟨i,hi⟩:=(gn (x8.1 hR)).1 hh;rw[Q5 (x8.1 hR) hi];refine⟨((x8.1 hR).ok i hi.1 (.inl hi.2.1)).st,?_⟩;rw[F5 hi.1];exact hB _ (zd _)
theorem UA(hB:SB s){h:Int}(hh:h<=9223372036854775807):ny s t h=some (AK s t h):=by
 unfold ny;obtain⟨e,h1,h2⟩:=T0 hR hh;rw[h1,a1b];by_cases q:h∈lv s
 .have:=h2.2 q;subst this;have h3:=PM hR hT h;have h4:=wg hR hB q;rw[za (by simp),PL hR hT,a1b,G4 (by dsimp only;omega) (by dsimp only;omega)];unfold AK;rw[zb q]
 .rw[zb (by simpa using λq2=>q (h2.1 q2))];unfold AK;rw[za q]
theorem CK(hB:SB s){h:Int}(hh:h<=9223372036854775807):pc (sO s) (t.map J7) h=some (AK s t h):=by
 unfold pc;obtain⟨e,h1,h2⟩:=T0 hR hh;rw[iv s (by have:=dQ hR;omega) hh,h1,zM,a1b];by_cases q:h∈lv s
 .have:=h2.2 q;subst this;have h3:=PM hR hT h;have h4:=wg hR hB q;rw[za (by simp),Ju hR hT,a1b];simp only[oo];rw[G4 (by omega) (by omega)];unfold AK;rw[zb q]
 .rw[zb (by simpa using λq2=>q (h2.1 q2))];unfold AK;rw[za q]
omit hT in
theorem AT {h:Int} (hh:h<=9223372036854775807):lz (sO s) h=some (decide (12<=(ob s h).Strong)):=by
 unfold lz bq;obtain⟨e,h1,h2⟩:=T0 hR hh;rw[iv s (by have:=dQ hR;omega) hh,h1,zM,a1b,a1b];rfl
omit hT in
theorem LH {k:Nat} (hk:k<(lv s).length):(lv s)[k]<=9223372036854775807:=by
 have:=ko hR (zd hk);omega
theorem Tw(hB:SB s):nw s t=some (Tx s t):=by
 unfold nw;simp only[jn];have h24:=H2 hR;rw[dB hR,a1b,H6 (lv s) (λb x=>if decide (0<AK s t x\/12<=(ob s x).Strong) then b ++ [x] else b) id (λk b=>b.length<=k) (by omega) (by simp) (λk hk b hI=>?_) (λb _=>by simp),a1b]
 .rw[foldl_filter];rfl
 .have hm:=zd hk;have hle:=LH hR hk;simp only[zo,hk,zt,zD,r8 hk,a1b];rw[vA hR hm,a1b];unfold nx oB H8;rw[UA hR hT hB hle,a1b,a1b];by_cases q:0<AK s t (lv s)[k]
  .rw[zp (show AK s t (lv s)[k] > 0 from q)];simp only[show ((true==false):Bool)=false from rfl,oU,a1b,zch,zD];rw[B3 (by omega) (by simp;omega),a1b,l6,zb (zp (.inl q))];exact⟨rfl,by simp;omega⟩
  .rw[zA (show ¬AK s t (lv s)[k] > 0 from q)];simp only[zF,J9,a1b,za7];by_cases q2:12<=(ob s (lv s)[k]).Strong
   .rw[zb (zp q2),B3 (by omega) (by simp;omega),a1b,l6,zb (zp (.inr q2))];exact⟨rfl,by simp;omega⟩
   .rw[za (by simpa using q2),l6,za (by simp only[up];exact λc=>c.elim q q2)];exact⟨rfl,by omega⟩
theorem Ns(hB:SB s):uk (sO s) (t.map J7)=some (Tx s t):=by
 unfold uk;simp only[jn];have h24:=H2 hR;rw[km hR,a1b,H6 (lv s) (λb x=>if decide (0<AK s t x\/12<=(ob s x).Strong) then b ++ [x] else b) id (λk b=>b.length<=k) (by omega) (by simp) (λk hk b hI=>?_) (λb _=>by simp),a1b]
 .rw[foldl_filter];rfl
 .have hle:=LH hR hk;simp only[zo,hk,zt,zD,r8 hk,a1b];rw[CK hR hT hB hle,a1b];by_cases q:0<AK s t (lv s)[k]
  .rw[zp (show AK s t (lv s)[k] > 0 from q)];simp only[show ((true==false):Bool)=false from rfl,oU,a1b,zch,zD];rw[B3 (by omega) (by simp;omega),a1b,l6,zb (zp (.inl q))];exact⟨rfl,by simp;omega⟩
  .rw[zA (show ¬AK s t (lv s)[k] > 0 from q)];simp only[zF,J9,a1b,za7];rw[AT hR hle,a1b];by_cases q2:12<=(ob s (lv s)[k]).Strong
   .rw[zb (zp q2),B3 (by omega) (by simp;omega),a1b,l6,zb (zp (.inr q2))];exact⟨rfl,by simp;omega⟩
   .rw[za (by simpa using q2),l6,za (by simp only[up];exact λc=>c.elim q q2)];exact⟨rfl,by omega⟩
omit hT in
theorem Lw:(Tx s t).length<=24:=we (zN ..) (H2 hR)
omit hR hT in
theorem xF {h:Int}:h∈Tx s t↔h∈lv s/\(0<AK s t h\/12<=(ob s h).Strong):=by
 unfold Tx;rw[zn,up]
omit hT in
theorem WT:LB (Tx s t):=λx hx=>by have:=ko hR (xF.1 hx).1;omega
theorem Jp(hTB:TB t)(hF:FB s)(hB:SB s):ca s t=some (WA s t (Tx s t)):=by
 unfold ca;have:=Lw hR (t:=t);rw[Tw hR hT hB,a1b,Px hR hT hTB hF (WT hR) (by omega)];rfl
theorem DU(hTB:TB t)(hB:SB s):fO (sO s) (t.map J7)=some (WA s t (Tx s t)):=by
 unfold fO;have:=Lw hR (t:=t);rw[Ns hR hT hB,a1b,Jl hR hT hTB (by omega)];rfl
theorem Nj(hB:SB s){l:List Int}(hl:l.length<=1000000):uj (sO s) (t.map J7) l=some (decide (Gf s t l)):=by
 unfold uj;simp only[jn];have h24:=H2 hR;rw[km hR,a1b,Jx (lv s) (λx => !decide ((ob s x).Strong<12/\AK s t x≠(Y9 l x:Int))) (.inr ()) (.inl false) (by omega) (λk hk=>?_) (by simp),a1b]
 .have:(lv s).all (λx => !decide ((ob s x).Strong<12/\AK s t x≠(Y9 l x:Int)))=decide (Gf s t l):=by
   rw[zan,zx,zh];constructor
   .intro e h hh hs;have:=e h hh;simp only[zbg,zba,not_and,Decidable.not_not] at this;exact this hs
   .intro q h hh;simp only[zbg,zba,not_and,Decidable.not_not];exact q h hh
  rw[this];by_cases q:Gf s t l
  .rw[zp q];rfl
  .rw[zA q];rfl
 .have hle:=LH hR hk;simp only[zo,hk,zt,zD,r8 hk,a1b];rw[AT hR hle,a1b];by_cases q2:12<=(ob s (lv s)[k]).Strong
  .rw[zp q2];simp only[zbq,show ((false==true):Bool)=false from rfl,oU,a1b,zay,zg,zU];rw[l6,zb (by simp;omega)]
  .rw[zA q2];simp only[Bool.not_false,zF,J9,wn];rw[CK hR hT hB hle,a1b,nv _ _ hl,a1b];by_cases q3:AK s t (lv s)[k]=(Y9 l (lv s)[k]:Int)
   .rw[za (by simpa using q3),l6,zb (by simp[q3])]
   .rw[zb (by simpa using q3),za (by simp;exact⟨by omega,q3⟩)]
end
abbrev TQ:=g7
def Rx(q:TQ)(t:l5):TQ × Int:=if q.Cap<=q.L.length then (q,4) else (⟨q.L ++ [t],q.Cap⟩,0)
def Ku(q:TQ):TQ × l5 × Int:=match q.L with
 | []=>(q,⟨0,0,0⟩,10)
 | t::l=>(⟨l,q.Cap⟩,t,0)
theorem VL{q:TQ}(t:l5)(h:q.L.length<=1000):pB q t=some (Rx q t):=by
 unfold Rx;unfold pB T5 K5 H3;simp only[a1b];by_cases c:q.Cap<=q.L.length
 .rw[zb (by simpa using c),zb c,a1b]
 .rw[za (by simpa using c),za c];have e:cut q.L 0 (q.L.length:Int)=some q.L:=by
   have:=rM (xs:=q.L) (i:=0) (j:=q.L.length) (t7 _) (zI _);simpa using this
  rw[e,a1b,a1b,B3 (by omega) (by simp;omega),a1b,a1b]
theorem FH{q:TQ}:cY q=some (Ku q):=by
 unfold Ku;unfold cY bL az K5 H3;simp only[a1b];cases hl:q.L with
 | nil=>
  have e:cut ([]:List l5) 0 0=some []:=rfl;simp[e]
 | cons t l=>
  have hm:(if (if (((t::l).length:Nat):Int)<1 then (((t::l).length:Nat):Int) else 1) > 0 then (if (((t::l).length:Nat):Int)<1 then (((t::l).length:Nat):Int) else 1) else 0)=1:=by
   rw[za (show ¬(((t::l).length:Nat):Int)<1 by simp;omega)];simp
  rw[hm];have e1:cut (t::l) 0 1=some [t]:=by
   have:=rM (xs:=t::l) (i:=0) (j:=1) (t7 _) (by simp);simpa using this
  have e2:cut (t::l) 1 (((t::l).length:Nat):Int)=some l:=by
   have:=rM (xs:=t::l) (i:=1) (j:=(t::l).length) (by simp) (zI _);simpa using this
  rw[e1,e2];simp[ix]
theorem Nm{α β:Type}(p:α->Bool)(f:α->β)(l:List α)(k:Nat)(h:k<l.length):((l.take (k+1)).filter p).map f=((l.take k).filter p).map f++(if p l[k] then [f l[k]] else []):=by
 rw[zw h,zak,zaa];congr 1;simp only[rx,zca];split <;> rfl
theorem UR{q:TQ}{w:Int}(h:q.L.length<=1000):iV q w=some (q.L.any λt=>t.Kind==2&&t.At==w):=by
 unfold iV xY;simp only[jn,a1b];refine N6 q.L.length (λk=>(q.L.take k).any (λt=>t.Kind==2&&t.At==w)=false) (by omega) (by simp) ?_ (λhl=>⟨.inr (),by simp,by rw[zK] at hl;rw[hl]⟩);intro k hk hP;simp only[zo,hk,zt,zD,r8 hk,a1b];rw[zw hk,List.any_append,hP,za7];by_cases c:(q.L[k].Kind==2)=true
 .rw[c,zb (by decide)];by_cases d:(q.L[k].At==w)=true
  .right;rw[d,zb rfl];refine⟨.inl true,rfl,?_⟩;simp only[wl];symm
   rw[List.any_eq_true];exact⟨_,zd hk,by rw[c,d];rfl⟩
  .have d:(q.L[k].At==w)=false:=by simpa using d
   left;rw[d,za (by decide),l6];exact⟨rfl,by simp[d]⟩
 .have c:(q.L[k].Kind==2)=false:=by simpa using c
  left;rw[c,za (by decide),l6];exact⟨rfl,by simp[c]⟩
def su(t:l5):o8:=⟨t.Kind,t.At,t.Prog⟩
def gl(q:TQ):y4:=⟨q.L.map su,q.Cap⟩
theorem VI{q:TQ}(t:l5)(h:q.L.length<=1000):jL (gl q) (su t)=some (gl (Rx q t).1,(Rx q t).2):=by
 unfold jL Rx;have hl:(gl q).L.length=q.L.length:=by simp[gl]
 by_cases c:q.Cap<=q.L.length
 .rw[zb (by simp[hl];exact c),zb c]
 .rw[za (by simp[hl];exact Int.not_le.1 c),za c,O4 (by omega) (by rw[hl];omega),a1b,B3 (by omega) (by simp[hl];omega),a1b];simp[gl]
theorem XP{q:TQ}:uo (gl q)=some (gl (Ku q).1,su (Ku q).2.1,(Ku q).2.2):=by
 unfold uo Ku;obtain⟨L,C⟩:=q;cases L with
 | nil=>simp[gl,su]
 | cons t l=>
  rw[za (by simp[gl];omega)];have e:cut (gl ⟨t::l,C⟩).L 1 (((gl ⟨t::l,C⟩).L.length:Nat):Int)=some (l.map su):=by
   have:=rM (xs:=(gl ⟨t::l,C⟩).L) (i:=1) (j:=(gl ⟨t::l,C⟩).L.length) (by simp[gl]) (zI _);rw[show (1:Int)=((1:Nat):Int) from rfl,this,zK];simp[gl]
  rw[e];simp[ix,gl]
theorem XL{q:TQ}(h:q.L.length<=1000):ur (gl q) (gl q)=some true:=by
 unfold ur;have hl:(gl q).L.length=q.L.length:=by simp[gl]
 rw[za (by simp)];simp only[jn];refine N6 (gl q).L.length (λ_=>True) (by omega) trivial (λk hk _=>.inl ⟨?_,trivial⟩) (λ_=>⟨.inr (),by simp,rfl⟩);simp only[zo,hk,zt,zD,r8 hk,a1b];rw[za (by simp),l6 (n:=k) (by omega)]
theorem XO{q:TQ}(h:q.L.length<=1000):pd (gl q)=some ((q.L.filter (·.Kind==1)).map (·.At)):=by
 unfold pd;have hl:(gl q).L.length=q.L.length:=by simp[gl]
 simp only[jn,hl];refine M7 q.L.length (λk l=>l=((q.L.take k).filter (·.Kind==1)).map (·.At)) (by omega) (by simp) ?_ (λl hl=>⟨_,by simp;rfl,by rw[hl,zK]⟩);rintro k l hk rfl;left;rw[Nm _ _ _ _ hk];have e:ix (gl q).L (k:Int)=some (su q.L[k]):=by rw[show (gl q).L=q.L.map su from rfl,bn,r8 hk];rfl
 simp only[zo,hk,zt,zD,e,a1b];have hle:(List.map (·.At) (List.filter (·.Kind==1) (List.take k q.L))).length<=1000:=by
  rw[wd];exact we (zN ..) (by simp;omega)
 by_cases c:(q.L[k].Kind==1)=true
 .rw[show ((su q.L[k]).Kind==1)=true from c,zb rfl,B3 (by omega) (by simp only[zE,un];omega),a1b,l6,zb c];exact⟨_,rfl,rfl⟩
 .have c:(q.L[k].Kind==1)=false:=by simpa using c
  rw[show ((su q.L[k]).Kind==1)=false from c,za (by decide),l6,za (by simp[c])];exact⟨_,rfl,by simp⟩
theorem Mb{q:TQ}{w:Int}(h:q.L.length<=1000):eT (gl q) w=some (q.L.any λt=>t.Kind==2&&t.At==w):=by
 unfold eT;have hl:(gl q).L.length=q.L.length:=by simp[gl]
 simp only[jn,hl];refine N6 q.L.length (λk=>(q.L.take k).any (λt=>t.Kind==2&&t.At==w)=false) (by omega) (by simp) ?_ (λhl=>⟨.inr (),by simp,by rw[zK] at hl;rw[hl]⟩);intro k hk hP;have e:ix (gl q).L (k:Int)=some (su q.L[k]):=by rw[show (gl q).L=q.L.map su from rfl,bn,r8 hk];rfl
 simp only[zo,hk,zt,zD,e,a1b];rw[zw hk,List.any_append,hP,za7];by_cases c:(q.L[k].Kind==2&&q.L[k].At==w)=true
 .right;rw[show ((su q.L[k]).Kind==2&&(su q.L[k]).At==w)=true from c,zb rfl];refine⟨.inl true,rfl,?_⟩;simp only[wl];symm
  rw[List.any_eq_true];exact⟨_,zd hk,c⟩
 .have c:(q.L[k].Kind==2&&q.L[k].At==w)=false:=by simpa using c
  left;rw[show ((su q.L[k]).Kind==2&&(su q.L[k]).At==w)=false from c,za (by decide),l6];exact⟨rfl,by simp[c]⟩
abbrev Hp:=b7
abbrev wS(x:Hp)(s:a7):Hp:=⟨s,x.Roots,x.Cells,x.T,x.Q⟩
abbrev wR(x:Hp)(l:List Int):Hp:=⟨x.S,l,x.Cells,x.T,x.Q⟩
abbrev wC(x:Hp)(l:List g9):Hp:=⟨x.S,x.Roots,l,x.T,x.Q⟩
abbrev wT(x:Hp)(t:Tb):Hp:=⟨x.S,x.Roots,x.Cells,t,x.Q⟩
abbrev wQ(x:Hp)(q:TQ):Hp:=⟨x.S,x.Roots,x.Cells,x.T,q⟩
def xg(l:List g9)(h:Int):Nat:=l.countP λc=>(h != 0)&&(c.Target==h)
def xf(q:TQ):List Int:=(q.L.filter (·.Kind==1)).map (·.At)
def II(q:TQ)(w:Int):Bool:=q.L.any λt=>t.Kind==2&&t.At==w
def nZ(x:Hp):List Int:=nz x.Roots++xf x.Q
noncomputable def qP(x:Hp)(h:Int):Nat:=jy x.S h+own x.T h+Y9 (nZ x) h
def I4(s:a7)(i:Nat)(c:c4):a7:=⟨⟨s.S.Cells.set i c,s.S.Last⟩,s.Serial⟩
theorem Z6(s:a7)(i:Nat)(c:c4):(I4 s i c).S.Cells.length=s.S.Cells.length:=by simp[I4]
theorem M2{s:a7}{i:Nat}(hi:i<s.S.Cells.length)(c:c4)(j:Nat):ce (I4 s i c) j=if j=i then c else ce s j:=kS hi _ _ j
theorem SR.I4{s:a7}(hR:SR s){i:Nat}(hi:i<s.S.Cells.length){c:c4}(h1:0<=c.State/\c.State<=3/\0<=c.Gen/\c.Gen<=s.S.Last)(h2:¬Th c->CX (oo c.Val))(h3:Th c->Bp s c.Val/\Th (ce s i)/\c.Val.Serial=(ce s i).Val.Serial):SR (I4 s i c):=by
 have key:∀j,Th (ce (Sh.I4 s i c) j)->Th (ce s j)/\(ce (Sh.I4 s i c) j).Val.Serial=(ce s j).Val.Serial:=λj hj=>by
  rw[M2 hi] at hj |-;split at hj
  .rename_i e;subst e;rw[zb rfl];exact (h3 hj).2
  .rename_i e;rw[za e];exact⟨hj,rfl⟩
 refine⟨by rw[Z6];exact hR.len,hR.l0,hR.l9,hR.aV,λj hj=>?_,λj hj hn=>?_,λj hj hn=>?_,λj k hj hk a b e=>?_⟩
 .rw[Z6] at hj;rw[M2 hi];split;·exact h1
  .exact hR.cell j hj
 .rw[Z6] at hj;rw[M2 hi] at hn |-;split at hn
  .rename_i e;rw[zb e];exact h2 hn
  .rename_i e;rw[za e];exact hR.no j hj hn
 .rw[Z6] at hj;rw[M2 hi] at hn |-;split at hn
  .rename_i e;rw[zb e];have:=(h3 hn).1;exact⟨this.s1,this.s2,this.st,this.wk,this.p1,this.p2,this.fl⟩
  .rename_i e;rw[za e];have:=hR.ok j hj hn;exact⟨this.s1,this.s2,this.st,this.wk,this.p1,this.p2,this.fl⟩
 .rw[Z6] at hj hk;obtain⟨a1,a2⟩:=key j a;obtain⟨b1,b2⟩:=key k b;rw[a2,b2] at e;exact hR.dif j k hj hk a1 b1 e
theorem OI{s:a7}{i:Nat}(hi:i<s.S.Cells.length)(c:c4){h:Int}{j:Nat}(hj:j≠i):X6 (I4 s i c) h j↔X6 s h j:=by
 unfold X6;rw[Z6,M2 hi,za hj]
theorem xA{s:a7}{i:Nat}(hi:i<s.S.Cells.length)(c:c4){h:Int}{j:Nat}(hj:j≠i):At (I4 s i c) h j↔At s h j:=by
 unfold At;rw[Z6,M2 hi,za hj]
theorem LJ{s:a7}(hR:SR s){i:Nat}(hi:i<s.S.Cells.length){c:c4}(hc:c.State≠1)(hR':SR (I4 s i c)):lv (I4 s i c)=(lv s).filter λh=>decide (E4 h≠i):=by
 have hno:∀h,¬At (I4 s i c) h i:=λh q=>by
  have:=q.2.1;rw[M2 hi,zb rfl] at this;exact hc this
 refine Qa hR hR' _ (λh=>?_) (λh j k q q'=>?_)
 .rw[zx];constructor
  .rintro⟨j,hj⟩;have hne:j≠i:=λe=>hno h (e▸hj);have:=(xA hi c hne).1 hj;exact⟨⟨j,this⟩,by rw[this.d.E4 hR];exact hne⟩
  .rintro⟨⟨j,hj⟩,hp⟩;rw[hj.d.E4 hR] at hp;exact⟨j,(xA hi c hp).2 hj⟩
 .have hne:j≠i:=λe=>hno h (e▸q);have q2:=(xA hi c hne).1 q;have:=X6.one hR q2.d q'.d;subst this;rw[M2 hi,za hne]
theorem LQ{s:a7}(hR:SR s){i:Nat}(hi:i<s.S.Cells.length){c:c4}(hR':SR (I4 s i c)){k:Int}(hk:k∈lv s)(hp:E4 k≠i):ob (I4 s i c) k=ob s k:=by
 have q:=B5 hR hk;rw[Q5 hR' ((xA hi c hp).2 q),Q5 hR q,M2 hi,za hp]
structure Kn (s s':a7):Prop where
 sr:SR s'
 len:s'.S.Cells.length=s.S.Cells.length
 lv:lv s'=lv s
 ad:∀k i,X6 s' k i↔X6 s k i
 ob:∀k,k∈Sh.lv s->∃n m,ob s' k=⟨(ob s k).Serial,n,m,(ob s k).Prog,(ob s k).Started,(ob s k).Fields⟩
theorem xa.kn{s s':a7}(hR:SR s)(k:xa s s'):Kn s s':=⟨k.sr,k.len,k.lv,k.ad,λh hh=>by
 obtain⟨n,e⟩:=k.ob h (by have:=I8 hR hh;omega);exact⟨n,_,e⟩⟩
theorem Kn.jy{s s':a7}(k:Kn s s')(h:Int):jy s' h=jy s h:=by
 unfold Sh.jy;rw[k.lv];congr 1;refine zG λx hx=>?_;obtain⟨n,m,e⟩:=k.ob x hx;unfold Sh.outs;rw[e]
structure jX (x:Hp):Prop where
 sr:SR x.S
 hr:HR x.T
 r6:x.Roots.length=6
 c6:x.Cells.length=6
 cap:x.Q.Cap=30
 q30:x.Q.L.length<=30
 tk:∀t∈x.Q.L,0<=t.Prog/\t.Prog<=5/\((t.Kind=1/\t.At∈lv x.S/\(ob x.S t.At).Started=true)\/(t.Kind=2/\0<=t.At/\t.At<=5))
 td:x.Q.L.Pairwise λa b=>¬(a.Kind=b.Kind/\a.At=b.At)
 rt:∀h∈x.Roots,h=0\/h∈lv x.S
 fl:∀h∈lv x.S,∀v∈(ob x.S h).Fields,v=0\/v∈lv x.S
 pr:∀k v,Has x.T k v->k∈lv x.S/\v∈lv x.S
 cl:∀i (hi:i<x.Cells.length),-1<=x.Cells[i].Call/\x.Cells[i].Call<=5/\(x.Cells[i].Target=0->x.Cells[i].Intact=false)/\(x.Cells[i].Target≠0->∃p,X6 x.S x.Cells[i].Target p)/\(x.Cells[i].Intact=true->x.Cells[i].Target∈lv x.S/\II x.Q i=false)
def Wk(x:Hp):Prop:=∀i,i<x.S.S.Cells.length->Th (ce x.S i)->(ce x.S i).Val.Weak=(xg x.Cells (1+(i:Int)+32*(ce x.S i).Gen):Int)/\((ce x.S i).State=2->1<=(ce x.S i).Val.Weak/\(ce x.S i).Val.Fields = []/\(ce x.S i).Val.Strong=0)
def cJ(x:Hp)(L:List Int):Prop:=∀h∈lv x.S,(ob x.S h).Strong<12->(ob x.S h).Strong=((qP x h+Y9 L h:Nat):Int)
structure P5 (x:Hp):Prop where
 sh:jX x
 wk:Wk x
 fair:cJ x []
theorem jX.of{x:Hp}(h:jX x){s':a7}(hS:SR s')(hl:lv s'=lv x.S)(hd:∀k i,X6 x.S k i->X6 s' k i)(hst:∀k∈lv x.S,(ob x.S k).Started=true->(ob s' k).Started=true)(hfl:∀k∈lv x.S,∀v∈(ob s' k).Fields,v=0\/v∈lv x.S):jX (wS x s'):=by
 refine⟨hS,h.hr,h.r6,h.c6,h.cap,h.q30,λt ht=>?_,h.td,λk hk=>?_,λk hk=>?_,λk v hkv=>?_,λi hi=>?_⟩
 .obtain⟨a,b,c⟩:=h.tk t ht;refine⟨a,b,?_⟩;rcases c with ⟨c1,c2,c3⟩ | c;·exact .inl ⟨c1,by rw[hl];exact c2,hst _ c2 c3⟩
  .exact .inr c
 .dsimp only;rw[hl];exact h.rt k hk
 .dsimp only at hk |-;rw[hl] at hk |-;exact hfl k hk
 .dsimp only;rw[hl];exact h.pr k v hkv
 .obtain⟨a,b,c,d,e⟩:=h.cl i hi;refine⟨a,b,c,λq=>?_,λq=>?_⟩
  .obtain⟨p,hp⟩:=d q;exact⟨p,hd _ _ hp⟩
  .dsimp only;rw[hl];exact e q
theorem jX.kn{x:Hp}(h:jX x){s':a7}(k:Kn x.S s'):jX (wS x s'):=by
 refine h.of k.sr k.lv (λj i q=>(k.ad j i).2 q) (λj hj q=>?_) (λj hj=>?_)
 .obtain⟨n,m,e⟩:=k.ob j hj;rw[e];exact q
 .obtain⟨n,m,e⟩:=k.ob j hj;rw[e];exact h.fl j hj
theorem jX.BA{x:Hp}(h:jX x){s':a7}(k:xa x.S s'):jX (wS x s'):=h.kn (k.kn h.sr)
theorem Wk.BA{x:Hp}(h:Wk x){s':a7}(k:xa x.S s'):Wk (wS x s'):=by
 intro i hi ht;dsimp only at hi ht |-;rw[k.len] at hi;obtain⟨a,b,c,d,e⟩:=k.ce i hi;unfold Th at ht;rw[a] at ht;obtain⟨f,g⟩:=h i hi ht;rw[a,b,c];refine⟨f,λq=>?_⟩;have e':=e (by omega);rw[<-c,e'];exact g q
theorem jX.roots{x:Hp}(h:jX x){l:List Int}(hl:l.length=6)(hr:∀v∈l,v=0\/v∈lv x.S):jX (wR x l):=⟨h.sr,h.hr,hl,h.c6,h.cap,h.q30,h.tk,h.td,hr,h.fl,h.pr,h.cl⟩
theorem jX.table{x:Hp}(h:jX x){t:Tb}(hr:HR t)(hp:∀k v,Has t k v->k∈lv x.S/\v∈lv x.S):jX (wT x t):=⟨h.sr,hr,h.r6,h.c6,h.cap,h.q30,h.tk,h.td,h.rt,h.fl,hp,h.cl⟩
def W2(c:Int):Int:=if 12<=c then 12 else if c<0 then 1 else c+1
def kP(c:Int):Int:=if 12<=c then 12 else if c<1 then c else c-1
theorem E7{c:Int}(h:0<=c):0<=W2 c:=by unfold W2;split <;> (try split) <;> omega
theorem Q3{c:Int}(h:0<=c):0<=kP c:=by unfold kP;split <;> (try split) <;> omega
noncomputable def uL(x:Hp)(h:Int)(f:Int->Int):Hp:=if h∈lv x.S then wS x (cZ x.S h (CS (ob x.S h) (f (ob x.S h).Strong))) else x
noncomputable def D8(x:Hp)(h:Int):Hp:=uL x h W2
noncomputable def T2(x:Hp)(h:Int):Hp:=uL x h kP
theorem AR(x:Hp)(h:Int)(f:Int->Int):uL x h f=wS x (uL x h f).S:=by
 unfold uL;split <;> rfl
theorem vV(x:Hp)(h:Int):D8 x h=wS x (D8 x h).S:=AR x h W2
theorem XX(x:Hp)(h:Int):T2 x h=wS x (T2 x h).S:=AR x h kP
section
variable{x:Hp}(hR:SR x.S)(h:Int){f:Int->Int}(hf:∀c,0<=c->0<=f c)
include hR hf
theorem I0:xa x.S (uL x h f).S:=by
 unfold uL;split
 .rename_i q;exact TF hR q (hf _ (L1 hR q).st)
 .exact xa.refl hR
theorem wb{k:Int}(hk:k∈lv x.S):(ob (uL x h f).S k).Strong=if k=h then f (ob x.S k).Strong else (ob x.S k).Strong:=by
 unfold uL;split
 .rename_i q;dsimp only;have ho:Bp x.S (CS (ob x.S h) (f (ob x.S h).Strong)):=by
   have:=L1 hR q;exact⟨this.s1,this.s2,hf _ this.st,this.wk,this.p1,this.p2,this.fl⟩
  rw[eX (o:=CS (ob x.S h) (f (ob x.S h).Strong)) hR q rfl ho (by have:=I8 hR hk;omega)];split;·rename_i e;subst e;rfl
  .rfl
 .rename_i q;rw[za];intro e;subst e;exact q hk
theorem xX(k:Int):qP (uL x h f) k=qP x k:=by
 rw[AR];unfold qP nZ;dsimp only;rw[(I0 hR h hf).jy hR]
end
theorem jX.st{x:Hp}(h:jX x)(k:Int){f:Int->Int}(hf:∀c,0<=c->0<=f c):jX (uL x k f):=by
 rw[AR];exact h.BA (I0 h.sr k hf)
theorem Wk.st{x:Hp}(h:Wk x)(hR:SR x.S)(k:Int){f:Int->Int}(hf:∀c,0<=c->0<=f c):Wk (uL x k f):=by
 rw[AR];exact h.BA (I0 hR k hf)
theorem S0(h:Int):Y9 [] h=0:=by unfold Y9;split <;> rfl
theorem I1(v:Int)(L:List Int)(h:Int):Y9 (v::L) h=Y9 L h+if v=h/\h≠0 then 1 else 0:=by
 unfold Y9;by_cases h0:h=0
 .simp[h0]
 .rw[za h0,za h0,List.count_cons];by_cases e:v=h
  .simp[e,h0]
  .simp[e]
theorem Ic{x:Hp}(hR:SR x.S){L:List Int}(hf:cJ x L)(v:Int):cJ (D8 x v) (v::L):=by
 intro h hh hlt;unfold D8 at hh hlt |-;rw[(I0 hR v λc=>E7).lv] at hh;rw[wb hR v (λc=>E7) hh] at hlt |-;rw[xX hR v λc=>E7,I1];have h0:h≠0:=λe=>qO hR (e▸hh);have hp:=(L1 hR hh).st;by_cases e:h=v
 .subst e;rw[zb rfl] at hlt |-;have:=hf h hh (by unfold W2 at hlt;split at hlt <;> omega);rw[zb ⟨rfl,h0⟩];unfold W2 at hlt |-;split at hlt;·omega
  .rename_i q;rw[za q,za (by omega)];omega
 .rw[za e] at hlt |-;rw[za (λq=>e q.1.symm)];exact hf h hh hlt
theorem uE{x:Hp}(hR:SR x.S){L:List Int}{v:Int}(hf:cJ x (v::L)):cJ (T2 x v) L:=by
 intro h hh hlt;unfold T2 at hh hlt |-;rw[(I0 hR v λc=>Q3).lv] at hh;rw[wb hR v (λc=>Q3) hh] at hlt |-;rw[xX hR v λc=>Q3];have h0:h≠0:=λe=>qO hR (e▸hh);have hp:=(L1 hR hh).st;by_cases e:h=v
 .subst e;rw[zb rfl] at hlt |-;have:=hf h hh (by unfold kP at hlt;split at hlt <;> omega);rw[I1,zb ⟨rfl,h0⟩] at this;unfold kP at hlt |-;split at hlt;·omega
  .rename_i q;rw[za q,za (by omega)];omega
 .rw[za e] at hlt |-;have:=hf h hh hlt;rw[I1,za (λq=>e q.1.symm)] at this;exact this
theorem cJ.mv{x x':Hp}{L L':List Int}(hf:cJ x L)(hl:lv x'.S=lv x.S)(hs:∀h∈lv x.S,(ob x'.S h).Strong=(ob x.S h).Strong)(hn:∀h∈lv x.S,qP x' h+Y9 L' h=qP x h+Y9 L h):cJ x' L':=by
 intro h hh hlt;rw[hl] at hh;rw[hs h hh] at hlt |-;rw[hf h hh hlt,hn h hh]
theorem xZ:∀ {l:List Int} {r:Nat} (hr:r<l.length) (h k:Int),Y9 (l.set r h) k+Y9 [l.getD r 0] k=Y9 l k+Y9 [h] k
 | [],_,hr,_,_=>by simp at hr
 | a::l,0,_,h,k=>by
  rw[List.set_cons_zero,List.getD_cons_zero,I1 h l,I1 a l,I1 a [],I1 h [],S0];omega
 | a::l,r+1,hr,h,k=>by
  rw[List.set_cons_succ,List.getD_cons_succ,I1 a,I1 a l];have:=xZ (l:=l) (r:=r) (by simpa using hr) h k;omega
theorem sw{x x1:Hp}(hx:P5 x){old new:Int}(h1:jX (D8 x new)->Wk (D8 x new)->jX x1/\Wk x1)
  (hl:lv x1.S=lv (D8 x new).S)(hs:∀h∈lv x.S,(ob x1.S h).Strong=(ob (D8 x new).S h).Strong)(hn:∀h∈lv x.S,qP x1 h+Y9 [old] h=qP x h+Y9 [new] h):P5 (T2 x1 old):=by
 have l1:lv (D8 x new).S=lv x.S:=(I0 hx.sh.sr new λc=>E7).lv;have f1:cJ (D8 x new) [new]:=Ic hx.sh.sr hx.fair new;obtain⟨h2,w2⟩:=h1 (hx.sh.st new λc=>E7) (hx.wk.st hx.sh.sr new λc=>E7);have f2:cJ x1 [old]:=f1.mv hl (λh hh=>hs h (l1▸hh)) λh hh=>by
  rw[hn h (l1▸hh)];unfold D8;rw[xX hx.sh.sr new λc=>E7]
 exact⟨h2.st _ λc=>Q3,w2.st h2.sr _ λc=>Q3,uE h2.sr f2⟩
noncomputable def H9(x:Hp)(r:Nat)(h:Int):Hp:=T2 (wR (D8 x h) (x.Roots.set r h)) (x.Roots.getD r 0)
theorem aU{x:Hp}(hx:P5 x){r:Nat}(hr:r<6){h:Int}(hh:h=0\/h∈lv x.S):P5 (H9 x r h):=by
 have l1:lv (D8 x h).S=lv x.S:=(I0 hx.sh.sr h λc=>E7).lv;refine sw hx (λa b=>⟨a.roots (by rw[zbm];exact hx.sh.r6) (λv hv=>?_),b⟩) rfl (λ_ _=>rfl) (λk hk=>?_)
 .rw[l1];rcases zbw hv with q | q
  .exact hx.sh.rt v q
  .exact q▸hh
 .have hi:=(I0 hx.sh.sr h λc=>E7).jy hx.sh.sr k;rw[vV];unfold qP nZ;dsimp only;rw[show jy (D8 x h).S k=jy x.S k from hi,L9,L9,wh,wh];have:=xZ (l:=x.Roots) (r:=r) (by rw[hx.sh.r6];exact hr) h k;omega
theorem MA{α:Type}:∀ {l:List α} (hn:l.Nodup) {a:α} (ha:a∈l) (f g:α->Nat) (h:∀x∈l,x≠a->f x=g x),(l.map g).sum+f a=(l.map f).sum+g a
 | [],_,_,ha,_,_,_=>by cases ha
 | b::l,hn,a,ha,f,g,h=>by
  rw[zam] at hn;rw[u8,u8,zbr,zbr];rcases zY.1 ha with e | e
  .subst e;have:l.map g=l.map f:=zG λx hx=>(h x (zC _ hx) λe=>hn.1 (e▸hx)).symm;rw[this];omega
  .have:=MA hn.2 e f g λx hx=>h x (zC _ hx);have:=h b (zl ..) λq=>hn.1 (q▸e);omega
abbrev pV(o:n7)(l:List Int):n7:=⟨o.Serial,o.Strong,o.Weak,o.Prog,o.Started,l⟩
theorem Ly{s:a7}(hR:SR s){h:Int}(hh:h∈lv s){o:n7}(hs:o.Serial=(ob s h).Serial)(ho:Bp s o)(y:Int):jy (cZ s h o) y+Y9 (ob s h).Fields y=jy s y+Y9 o.Fields y:=by
 have hle:=I8 hR hh;have:=MA (tI (x8.2 hR)) hh (λx=>Y9 (outs s x) y) (λx=>Y9 (outs (cZ s h o) x) y) λx hx hne=>by
  have:=I8 hR hx;unfold outs;rw[eX hR hh hs ho (by omega),za hne]
 have e:Y9 (outs (cZ s h o) h) y=Y9 o.Fields y:=by
  unfold outs;rw[eX hR hh hs ho (by omega),zb rfl,wh]
 have e2:Y9 (outs s h) y=Y9 (ob s h).Fields y:=wh _ _;rw[e,e2] at this;unfold jy;rw[gj hR hh hs ho];exact this
noncomputable def cq(x:Hp)(h:Int)(k:Nat)(v:Int):Hp:=T2 (wS (D8 x v) (cZ (D8 x v).S h (pV (ob (D8 x v).S h) ((ob x.S h).Fields.set k v)))) ((ob x.S h).Fields.getD k 0)
theorem DP{x:Hp}(hx:P5 x){h:Int}(hh:h∈lv x.S){k:Nat}(hk:k<(ob x.S h).Fields.length){v:Int}(hv:v=0\/v∈lv x.S):P5 (cq x h k v):=by
 have BA:=I0 hx.sh.sr v (f:=W2) λc=>E7;have l1:lv (D8 x v).S=lv x.S:=BA.lv;have hR1:SR (D8 x v).S:=BA.sr;have hh1:h∈lv (D8 x v).S:=by rw[l1];exact hh
 have hle:=I8 hx.sh.sr hh;have hof:(ob (D8 x v).S h).Fields=(ob x.S h).Fields:=by
  obtain⟨n,e⟩:=BA.ob h (by omega);show (ob (uL x v W2).S h).Fields=_;rw[e]
 have ho:Bp (D8 x v).S (pV (ob (D8 x v).S h) ((ob x.S h).Fields.set k v)):=by
  have:=L1 hR1 hh1;refine⟨this.s1,this.s2,this.st,this.wk,this.p1,this.p2,?_⟩;have h4:=this.fl;rw[hof] at h4;simpa using h4
 have hob:∀j,j∈lv x.S->ob (cZ (D8 x v).S h (pV (ob (D8 x v).S h) ((ob x.S h).Fields.set k v))) j=if j=h then pV (ob (D8 x v).S h) ((ob x.S h).Fields.set k v) else ob (D8 x v).S j:=λj hj=>by
  have:=I8 hx.sh.sr hj;exact eX (o:=pV (ob (D8 x v).S h) ((ob x.S h).Fields.set k v)) hR1 hh1 rfl ho (by omega)
 refine sw hx (λa b=>⟨?_,?_⟩) (gj (o:=pV (ob (D8 x v).S h) ((ob x.S h).Fields.set k v)) hR1 hh1 rfl ho) (λj hj=>?_) (λj hj=>?_)
 .refine a.of (bN (o:=pV (ob (D8 x v).S h) ((ob x.S h).Fields.set k v)) hR1 hh1 rfl ho) (gj (o:=pV (ob (D8 x v).S h) ((ob x.S h).Fields.set k v)) hR1 hh1 rfl ho) (λj i q=>(Km (o:=pV (ob (D8 x v).S h) ((ob x.S h).Fields.set k v)) hR1 hh1 rfl ho).2 q) (λj hj q=>?_) (λj hj u hu=>?_)
  .rw[hob j (l1▸hj)];split;·rename_i e;subst e;exact q
   .exact q
  .rw[hob j (l1▸hj)] at hu;split at hu
   .rename_i e;subst e;rcases zbw hu with q | q
    .exact a.fl j hj u (by rw[hof];exact q)
    .rw[l1,q];exact hv
   .exact a.fl j hj u hu
 .intro i hi ht;dsimp only at hi ht |-;have hp:=B5 hR1 hh1;unfold cZ at hi;rw[O5] at hi;have hce:=Ft (o:=pV (ob (D8 x v).S h) ((ob x.S h).Fields.set k v)) hR1 hh1 rfl ho i;rw[hce] at ht |-;split at ht
  .rename_i e;subst e;rw[zb rfl];have:=b _ hp.1 (.inl hp.2.1);dsimp only;refine⟨?_,λq=>absurd q (by rw[hp.2.1];decide)⟩;rw[<-this.1,Q5 hR1 hp]
  .rename_i e;rw[za e];exact b i hi ht
 .rw[hob j hj];split;·rename_i e;subst e;rfl
  .rfl
 .have hi:=Ly (o:=pV (ob (D8 x v).S h) ((ob x.S h).Fields.set k v)) hR1 hh1 rfl ho j;have hi2:=BA.jy hx.sh.sr j;have hi2:jy (D8 x v).S j=jy x.S j:=hi2;rw[hi2,hof] at hi;dsimp only at hi;have:=xZ hk v j;have hrest:D8 x v=wS x (D8 x v).S:=vV x v;unfold qP nZ;dsimp only;rw[show (D8 x v).T=x.T by rw[hrest],show (D8 x v).Roots=x.Roots by rw[hrest],show (D8 x v).Q=x.Q by rw[hrest]];omega
theorem QL{t:Tb}(hT:HR t){k v:Int}{r:Tb × Int × Int}(h:V8 t k v=some r)(h0:r.2.2=0):HR r.1/\(∀y,own r.1 y+Y9 [r.2.1] y=own t y+Y9 [v] y)/\∀k' v',Has r.1 k' v'->Has t k' v'\/(k'=k/\v'=v/\v≠0):=by
 obtain⟨r',e1,e2,_,e3⟩:=Ko hT k v;rw[h] at e1;cases e1;refine⟨e2,?_⟩;have hos:∀(i:Nat) (p:c9) (y:Int),i<t.length->own (t.set i p) y+(if (pt t i).State=1/\(pt t i).Val=y/\y≠0 then 1 else 0)=own t y+if p.State=1/\p.Val=y/\y≠0 then 1 else 0:=λi p y hi=>by
  have key:∀q:c9,(if ((q.State==1)&&((y != 0)&&(q.Val==y)))=true then 1 else 0:Nat)=if q.State=1/\q.Val=y/\y≠0 then 1 else 0:=λq=>by
   by_cases c:q.State=1/\q.Val=y/\y≠0
   .rw[zb c,zb (by simp[c.1,c.2.1,c.2.2])]
   .rw[za c,za (by simp only[zj,ww,za8,zci];exact λq=>c ⟨q.1,q.2.2,q.2.1⟩)]
  have:=LZ hi p y;rw[key,key] at this;exact this
 rcases e3 with ⟨_,rfl⟩ | ⟨hk,hv,⟨i,hi,rfl⟩ | ⟨hn,rfl⟩⟩ | ⟨hk,hv,⟨i,hi,rfl⟩ | ⟨d,hn,hd,hf,hp,rfl⟩ | ⟨hn,ha,rfl⟩⟩;·simp at h0
 .refine⟨λy=>?_,λk' v' q=>.inl ((yA hT hi k' v').1 q).2⟩;have:=hos i ⟨2,0,0⟩ y hi.1;rw[I1,I1,S0];subst hv;dsimp only at this |-;rw[za (show ¬((2:Int)=1/\(0:Int)=y/\y≠0) by omega)] at this;rw[za (show ¬((0:Int)=y/\y≠0) by omega)];simp only[hi.2.1,true_and] at this;omega
 .refine⟨λy=>?_,λk' v' q=>.inl q⟩;rw[hv]
 .refine⟨λy=>?_,λk' v' q=>?_⟩
  .have:=hos i ⟨1,k,v⟩ y hi.1;rw[I1,I1,S0];simp only[hi.2.1,true_and] at this;dsimp only;omega
  .rcases (Ew hT (.old i hi) rfl k' v').1 q with ⟨a,b⟩ | ⟨_,b⟩;·exact .inr ⟨a,b,hv⟩
   .exact .inl b
 .refine⟨λy=>?_,λk' v' q=>?_⟩
  .have:=hos d ⟨1,k,v⟩ y hd;rw[I1,I1,S0];dsimp only;rw[za (show ¬((0:Int)=y/\y≠0) by omega)];simp only[hf,false_and,true_and,zU] at this;omega
  .rcases (Ew hT hp rfl k' v').1 q with ⟨a,b⟩ | ⟨_,b⟩;·exact .inr ⟨a,b,hv⟩
   .exact .inl b
 .simp at h0
noncomputable def lg(x:Hp)(v:Int)(t:Tb)(old:Int):Hp:=T2 (wT (D8 x v) t) old
theorem Hm{x:Hp}(hx:P5 x){k v:Int}(hk:k∈lv x.S)(hv:v=0\/v∈lv x.S){r:Tb × Int × Int}(h:V8 x.T k v=some r)(h0:r.2.2=0):P5 (lg x v r.1 r.2.1):=by
 have BA:=I0 hx.sh.sr v (f:=W2) λc=>E7;have l1:lv (D8 x v).S=lv x.S:=BA.lv;obtain⟨p1,p2,p3⟩:=QL hx.sh.hr h h0;refine sw hx (λa b=>⟨a.table p1 λk' v' q=>?_,b⟩) rfl (λ_ _=>rfl) (λj hj=>?_)
 .rw[l1];rcases p3 k' v' q with q | ⟨rfl,rfl,hne⟩
  .exact hx.sh.pr k' v' q
  .exact⟨hk,hv.resolve_left hne⟩
 .have hi2:jy (D8 x v).S j=jy x.S j:=BA.jy hx.sh.sr j;have hrest:D8 x v=wS x (D8 x v).S:=vV x v;unfold qP nZ;dsimp only;rw[show (D8 x v).Roots=x.Roots by rw[hrest],show (D8 x v).Q=x.Q by rw[hrest],hi2];have:=p2 j;omega
end Go.Sh
