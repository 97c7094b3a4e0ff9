/- A part. -/
import Derived.Test.YtjlokngooekbcaaGreatP21fSh
import Derived.Test.YtjlokngooekbcaaGreatP21fSh1
set_option linter.unusedVariables false
set_option linter.unusedSimpArgs false
set_option linter.unusedSectionVars false
namespace Go.Sh
def oA(h:Int):Prop:=1<=h/\(h-1) % 32<24/\(h-1) / 32<=9
instance(h:Int):Decidable (oA h):=by unfold oA;infer_instance
theorem vB{h:Int}(q:oA h):1<=h/\h<=320:=by unfold oA at q;omega
theorem ml{i g:Int}(h1:0<=i)(h2:i<24)(h3:0<=g)(h4:g<=9):bF i g=some (1+i+32*g):=by
 unfold bF;rw[za (by simp;omega)];rw[show u4 (i*1)=i by rw[fF];omega,show u4 (1+i)=1+i by rw[fF];omega,show u4 (g*32)=32*g by rw[fF];omega,show u4 (1+i+32*g)=1+i+32*g by rw[fF];omega]
theorem mD{i g:Int}:gj i g=some (if 0<=i/\i<24/\0<=g/\g<=9 then 1+i+32*g else 0):=by
 unfold gj;split;·rename_i h;rw[za (by simp at h;omega)]
 .rename_i h;have h:0<=i/\i<24/\0<=g/\g<=9:=by simp at h;omega
  rw[zb h];rw[show u4 (1+i)=1+i by rw[fF];omega,show u4 (32*g)=32*g by rw[fF];omega,show u4 (1+i+32*g)=1+i+32*g by rw[fF];omega]
theorem lA{h:Int}(hh:h<=9223372036854775807):cd h=some (if oA h then ((h-1) % 32,(h-1) / 32,true) else (-1,-1,false)):=by
 unfold cd;split
 .rename_i q;rw[za (by unfold oA;simp at q;omega)]
 .rename_i q;have q:1<=h:=by simpa using q
  rw[D1 (n:=h-1),nN (by omega) (by omega),XB,uA (by omega) (by omega) (by omega),XB,uA (by omega) (by omega) (by omega),XB,Int.ediv_one];split
  .rename_i q2;rw[za (by unfold oA;simp at q2;omega)]
  .rename_i q2;rw[zb (by unfold oA;simp at q2;omega)]
theorem ga{h:Int}(hh:h<=9223372036854775807):dW h=some (if oA h then (h-1) % 32 else -1):=by
 unfold dW;rw[lA hh,XB];split <;> rfl
theorem iH{h:Int}(hh:h<=9223372036854775807):fZ h=some (if oA h then (h-1) / 32 else -1):=by
 unfold fZ;rw[lA hh,XB];split <;> rfl
theorem qO{h:Int}:nD h=some (decide (oA h)):=by
 unfold nD;split
 .rename_i q;rw[zI (by unfold oA;simp at q;omega)]
 .rename_i q;have q:1<=h/\h<=400:=by simp at q;omega
  rw[D1 (n:=h-1),nN (by omega) (by omega),XB,uA (by omega) (by omega) (by omega),XB,mD,XB];congr 1;by_cases k:oA h
  .rw[zu k,zb (by unfold oA at k;omega)];simp;omega
  .rw[zI k,za (by unfold oA at k;omega)];simp;omega
theorem mF{h:Int}:mE h=some (if oA h then (h-1) % 32 else -1):=by
 unfold mE;rw[qO,XB];by_cases k:oA h
 .have:=vB k;rw[zu k,za (by simp),zb k,D1 (n:=h-1),nN (by omega) (by omega),XB]
 .rw[zI k,zb (by simp),za k]
theorem FC{h:Int}:AZ h=some (if oA h then (h-1) / 32 else -1):=by
 unfold AZ;rw[qO,XB];by_cases k:oA h
 .have:=vB k;rw[zu k,za (by simp),zb k,D1 (n:=h-1),uA (by omega) (by omega) (by omega),XB]
 .rw[zI k,zb (by simp),za k]
theorem yL(a b:List Int)(ha:a.length<4611686018427387904):eh a b=some (decide (a=b)):=by
 unfold eh;by_cases hl:a.length=b.length
 .rw[za (by simp[hl])];simp only[jn];refine T1 a.length (λk=>∀j (h1:j<a.length) (h2:j<b.length),j<k->a[j]=b[j]) ha (λ_ _ _ h=>by omega) (λk hk hP=>?_) (λhP=>?_)
  .have hk2:k<b.length:=by omega
   simp only[zB,hk,zD,zH,o0 hk,o0 hk2,XB];by_cases e:a[k]=b[k]
   .refine .inl ⟨?_,λj h1 h2 hj=>?_⟩;·rw[za (by simpa using e),k8]
    .rcases zy j k with q | q
     .exact hP j h1 h2 q
     .have:j=k:=by omega
      subst this;exact e
   .refine .inr ⟨.inl false,by rw[zb (by simpa using e)],?_⟩;simp only;rw[zI (λq=>e (by subst q;rfl))]
  .refine⟨.inr (),by simp,?_⟩;simp only;rw[zu (za5 hl λi h1 h2=>hP i h1 h2 h1)]
 .rw[zb (by rw[bne_iff_ne];omega)];rw[zI (λq=>hl (by rw[q]))]
abbrev z0:k9:=⟨0,0,0,0,false,[]⟩
structure Xj (s:c4):Prop where
 len:s.a8.length<=24
 l0:0<=s.Last
 l9:s.Last<=9
 cell:∀i (h:i<s.a8.length),0<=s.a8[i].State/\s.a8[i].State<=3/\0<=s.a8[i].Gen/\s.a8[i].Gen<=s.Last
theorem jJ{s:c4}{i:Int}{k:Nat}{c:b7}(hi:i=k)(hk:k<s.a8.length)(hl:s.a8.length<=24):B8 s i c=some ⟨s.a8.set k c,s.Last⟩:=by
 subst hi;unfold B8 w8;rw[I9 (by omega) (by omega),XB,o0 hk,XB,zQ]
theorem BG{s:c4}(hR:Xj s)(v:k9) :
  (∃i,∃h:i<s.a8.length,s.a8[i].State=0/\(∀j (hj:j<i),s.a8[j].State≠0)/\H4 s v=some (⟨s.a8.set i ⟨1,s.a8[i].Gen,v⟩,s.Last⟩,1+i+32*s.a8[i].Gen,0)) \/
  ((∀i (h:i<s.a8.length),s.a8[i].State≠0)/\H4 s v=some (s,0,4)):=by
 have hlen:=hR.len;by_cases q:∃i,∃h:i<s.a8.length,s.a8[i].State=0
 .obtain⟨i,⟨hi,h0⟩,hmin⟩:=bk (p:=λi=>∃h:i<s.a8.length,s.a8[i].State=0) q;left;refine⟨i,hi,h0,λj hj=>λe=>by have:=hmin j ⟨by omega,e⟩;omega,?_⟩;unfold H4;simp only[jn,L7,XB];have hc:=hR.cell i hi;refine T1 s.a8.length (λk=>k<=i) (by omega) (by omega) (λk hk hP=>?_) (λhP=>by omega);rcases zy k i with g | g
  .refine .inl ⟨?_,g⟩;have:s.a8[k].State≠0:=λe=>by have:=hmin k ⟨hk,e⟩;omega
   simp only[zB,hk,zD,zH,o0 hk,XB];rw[za (by simpa using this),k8]
  .have:k=i:=by omega
   subst this;refine .inr ⟨.inl _,?_,rfl⟩;simp only[zB,hk,zD,zH,o0 hk,XB,h0,jJ rfl hk hlen];rw[ml (by omega) (by omega) hc.2.2.1 (by have:=hR.l9;omega)];simp
 .right;refine⟨λi h e=>q ⟨i,h,e⟩,?_⟩;unfold H4;simp only[jn,L7,XB];refine T1 s.a8.length (λk=>True) (by omega) trivial (λk hk _=>?_) (λhP=>⟨.inr (),by simp,rfl⟩);refine .inl ⟨?_,trivial⟩;have:s.a8[k].State≠0:=λe=>q ⟨k,hk,e⟩;simp only[zB,hk,zD,zH,o0 hk,XB];rw[za (by simpa using this),k8]
def rI(s:c4)(h:Int)(i:Nat):Prop:=∃hi:i<s.a8.length,oA h/\(h-1) % 32=i/\s.a8[i].Gen=(h-1) / 32/\(s.a8[i].State=1\/s.a8[i].State=2)
theorem ca(s:c4){h:Int}(hh:h<=9223372036854775807) :
  (∃i,rI s h i/\u6 s h=some ((i:Int),0))\/((∀i,¬rI s h i)/\u6 s h=some (-1,if h=0 then 2 else 3)):=by
 unfold u6;by_cases h0:h=0
 .right;subst h0;exact⟨λi ⟨_,h1,_⟩=>by unfold oA at h1;omega,by simp⟩
 .rw[za (by simpa using h0),ga hh,XB,za h0];by_cases hd:oA h
  .rw[zb hd];have hd':=hd;unfold oA at hd';obtain⟨k,hk⟩:∃k:Nat,(h-1) % 32=k:=⟨((h-1) % 32).toNat,by omega⟩;rw[hk];by_cases hl:k<s.a8.length
   .rw[za (by simp;omega),o0 hl,XB,iH hh,XB,zb hd];by_cases g:s.a8[k].Gen=(h-1) / 32/\(s.a8[k].State=1\/s.a8[k].State=2)
    .left;refine⟨k,⟨hl,hd,hk,g⟩,?_⟩;rw[za];simp;omega
    .right;refine⟨λi ⟨hi,_,h2,h3⟩=>?_,?_⟩
     .have:i=k:=by omega
      subst this;exact g h3
     .rw[zb];simp;omega
   .right;refine⟨λi ⟨hi,_,h2,h3⟩=>by omega,?_⟩;rw[zb (by simp;omega)]
  .right;refine⟨λi ⟨hi,h1,_⟩=>hd h1,?_⟩;rw[za hd,zb (by simp)]
theorem nv{s:c4}{h:Int}{i:Nat}(hf:rI s h i):u6 s h=some ((i:Int),0):=by
 have hh:=vB hf.2.1;rcases ca s (h:=h) (by omega) with ⟨j,h1,h2⟩ | ⟨h1,_⟩
 .obtain⟨_,_,e1,_⟩:=hf;obtain⟨_,_,e2,_⟩:=h1;have:i=j:=by omega
  subst this;exact h2
 .exact absurd hf (h1 i)
theorem rY{s:c4}{h:Int}(hh:h<=9223372036854775807)(hf:∀i,¬rI s h i):u6 s h=some (-1,if h=0 then 2 else 3):=by
 rcases ca s hh with ⟨j,h1,_⟩ | ⟨_,h2⟩;·exact absurd h1 (hf j)
 .exact h2
theorem dV(h:Int):(if h=0 then 2 else 3:Int)≠0:=by split <;> omega
theorem CI{s:c4}{h:Int}{i:Nat}(hf:rI s h i):∃hi:i<s.a8.length,C6 s h=some (if s.a8[i].State=2 then (z0,3) else (s.a8[i].Val,0)):=by
 refine⟨hf.1,?_⟩;unfold C6;rw[nv hf,XB,za (by simp),o0 hf.1,XB];split <;> rename_i q
 .rw[zb (by simpa using q)]
 .rw[za (by simpa using q)]
theorem Lc{s:c4}{h:Int}(hh:h<=9223372036854775807)(hf:∀i,¬rI s h i):C6 s h=some (z0,if h=0 then 2 else 3):=by
 unfold C6;rw[rY hh hf,XB,zb (by simpa using dV h)]
theorem DI{s:c4}{h:Int}{v:k9}{i:Nat}(hl:s.a8.length<=24)(hf:rI s h i):∃hi:i<s.a8.length,I4 s h v=some (⟨s.a8.set i ⟨s.a8[i].State,s.a8[i].Gen,v⟩,s.Last⟩,0):=by
 refine⟨hf.1,?_⟩;unfold I4;rw[nv hf,XB,za (by simp),o0 hf.1,XB,jJ rfl hf.1 hl,XB]
theorem MV{s:c4}{h:Int}{v:k9}(hh:h<=9223372036854775807)(hf:∀i,¬rI s h i):I4 s h v=some (s,if h=0 then 2 else 3):=by
 unfold I4;rw[rY hh hf,XB,zb (by simpa using dV h)]
def oo(o:k9):B7:=⟨o.Serial,o.Strong,o.Weak,o.Prog,o.Started,o.Fields⟩
def cO(c:b7):o6:=⟨c.State,c.Gen,oo c.Val⟩
def sO(s:a7):n7:=⟨s.S.a8.map cO,s.S.Last,s.Serial⟩
def Sm(s:a7):Prop:=s.S.a8.length<=30/\∀i (h:i<s.S.a8.length),s.S.a8[i].Val.Fields.length<=10
instance(s:a7):Decidable (Sm s):=by unfold Sm;infer_instance
def xv(i:Nat)(c:o6):E8:=⟨c.State,c.Gen,(i:Int)⟩
def pl(t:n7):C3:=⟨t.a8.mapIdx xv,t.Last⟩
theorem ig(t:n7)(h:t.a8.length<=1000):K9 t=some (pl t):=by
 unfold K9;simp only[jn];refine M2 t.a8.length (λk acc=>acc=(t.a8.mapIdx xv).take k) (by omega) (by simp) (λk acc hk hP=>?_) (λacc hP=>?_)
 .subst hP;refine .inl ⟨_,?_,rfl⟩;simp only[zB,hk,zD,zH,o0 hk,XB];rw[y4 (by omega) (by simp;omega),XB,k8];have e:(t.a8.mapIdx xv).take (k+1)=(t.a8.mapIdx xv).take k ++ [xv k t.a8[k]]:=by
   rw[List.take_add_one,zc (by simpa using hk)];simp
  rw[e];rfl
 .subst hP;rw[List.take_of_length_le (by simp)];exact⟨t.a8.mapIdx xv,by simp only[ms,or,zi,zV],rfl⟩
def JG(c:o6):Prop:=c.State=1\/c.State=2
instance(c:o6):Decidable (JG c):=by unfold JG;infer_instance
def UG(t:n7)(o:B7):Prop:=1<=o.Serial/\o.Serial<=t.Serial/\0<=o.Strong/\0<=o.Weak /\ -1<=o.Prog/\o.Prog<=5/\o.Fields.length<=4
def Ej(o:B7):Prop:=o.Serial=0/\o.Strong=0/\o.Weak=0/\o.Prog=0/\o.Started=false/\o.Fields.length=0
structure rH (t:n7):Prop where
 len:t.a8.length<=24
 l0:0<=t.Last
 l9:t.Last<=9
 Z4:0<=t.Serial
 cell:∀i (h:i<t.a8.length),0<=t.a8[i].State/\t.a8[i].State<=3/\0<=t.a8[i].Gen/\t.a8[i].Gen<=t.Last
 no:∀i (h:i<t.a8.length),¬JG t.a8[i]->Ej t.a8[i].Val
 ok:∀i (h:i<t.a8.length),JG t.a8[i]->UG t t.a8[i].Val
 dif:∀i (h:i<t.a8.length) k (hk:k<i),JG t.a8[i]->JG t.a8[k]->t.a8[k].Val.Serial≠t.a8[i].Val.Serial
theorem DL{c:Int->Int->Option Int}{xs:List Int}(key:Int->Int)(hc:∀x y,∃r,c x y=some r/\(r<0↔key x<key y))(hl:xs.length<4611686018427387904) :
  ∃ys,sT c xs=some ys/\ys.Perm xs/\ys.Pairwise (λa b=>key a<=key b):=by
 have hlt:∀x y,Go.Proofs.ltOf (λx y=>(c x y).getD 0) x y=decide (key x<key y):=λx y=>by
  obtain⟨r,h1,h2⟩:=hc x y;show decide ((c x y).getD 0<0)=_;rw[h1,ww];exact zay.2 h2
 have hO:Go.Sort.SWO (Go.Proofs.ltOf λx y=>(c x y).getD 0):=by
  refine⟨λx=>?_,λx y z=>?_,λx y z=>?_⟩;·rw[hlt];simp
  .rw[hlt,hlt,hlt];simp;omega
  .rw[hlt,hlt,hlt];simp;omega
 have hcond:(∀x y,(c x y).isSome=true)/\Go.Sort.SWO (Go.Proofs.ltOf λx y=>(c x y).getD 0)/\xs.length<4611686018427387904:=⟨λx y=>by
  obtain⟨r,h1,_⟩:=hc x y;rw[h1];rfl,hO,hl⟩
 unfold sT;rw[zb hcond];refine⟨_,rfl,?_⟩;obtain⟨⟨p1,p2,p3⟩,p4⟩:=Go.Sort.pdq_sorts (Go.Proofs.ltOf λx y=>(c x y).getD 0) hO xs.toArray 0 xs.length (Go.Lib.bitLen xs.length) true true (un _) (by simp) (Or.inl rfl);generalize Go.Sort.pdq (Go.Proofs.ltOf λx y=>(c x y).getD 0) xs.toArray 0 xs.length (Go.Lib.bitLen xs.length) true true=d at p1 p2 p3 p4 |-;have hs:d.size=xs.length:=by simpa using p1
 refine⟨?_,?_⟩
 .have e1:d.extract 0 xs.length=d:=by rw[<-hs];exact Array.extract_size
  have e2:xs.toArray.extract 0 xs.length=xs.toArray:=by
   simp
  rw[e1,e2] at p3;simpa using p3
 .rw[List.pairwise_iff_getElem];intro i j hi hj hij;have hi':i<d.size:=by simpa using hi
  have hj':j<d.size:=by simpa using hj
  have:=p4 i j (un _) hij (by omega);rw[hlt,getElem!_pos d j hj',getElem!_pos d i hi'] at this;have:=of_decide_eq_false this;simp only[Array.getElem_toList];omega
def X4:Nat->List b7->List Int
 | _,[]=>[]
 | k,c::r=>(if c.State=1 then [1+(k:Int)+32*c.Gen] else [])++X4 (k+1) r
theorem nA(c:b7):∀(k:Nat) (xs:List b7),X4 k (xs ++ [c])=X4 k xs++(if c.State=1 then [1+((k+xs.length:Nat):Int)+32*c.Gen] else [])
 | k,[]=>by simp[X4]
 | k,x::r=>by
  simp only[List.cons_append,X4,nA c (k+1) r,zad,zA];rw[show k+1+r.length=k+(r.length+1) by omega]
theorem je:∀(k:Nat) (xs:List b7),(X4 k xs).length<=xs.length
 | _,[]=>by simp[X4]
 | k,c::r=>by
  have:=je (k+1) r;simp only[X4,zY,zA];split <;> simp <;> omega
theorem mr{h:Int}:∀ {k:Nat} {xs:List b7},h∈X4 k xs↔∃i,∃hi:i<xs.length,xs[i].State=1/\h=1+((k+i:Nat):Int)+32*xs[i].Gen
 | k,[]=>by simp[X4]
 | k,c::r=>by
  simp only[X4,zt,mr (k:=k+1) (xs:=r)];constructor
  .rintro (q | ⟨i,hi,q1,q2⟩)
   .by_cases hc:c.State=1
    .rw[zb hc] at q;exact⟨0,by simp,by simpa using hc,by simpa using q⟩
    .rw[za hc] at q;cases q
   .exact⟨i+1,by simpa using hi,by simpa using q1,by simp only[List.getElem_cons_succ];rw[q2,show k+1+i=k+(i+1) by omega]⟩
  .rintro⟨i,hi,q1,q2⟩;cases i with
   | zero=>
    left;simp only[List.getElem_cons_zero] at q1 q2;rw[zb q1];simp[q2]
   | succ i=>
    right;simp only[List.getElem_cons_succ] at q1 q2;exact⟨i,by simpa using hi,q1,by rw[q2,show k+1+i=k+(i+1) by omega]⟩
def sk(cs:List b7)(h:Int):Int:=match cs[((h-1) % 32).toNat]? with
 | some c=>c.Val.Serial
 | none=>0
theorem DK{cs:List b7}{i:Nat}{g:Int}(h:i<cs.length)(h32:cs.length<=32):sk cs (1+(i:Int)+32*g)=cs[i].Val.Serial:=by
 unfold sk;have:((1+(i:Int)+32*g-1) % 32).toNat=i:=by omega
 rw[this,zc h]
structure Wq (cs:List b7):Prop where
 len:cs.length<=24
 gen:∀i (h:i<cs.length),0<=cs[i].Gen/\cs[i].Gen<=9
theorem yf{s:a7}(hR:Wq s.S.a8):∃l,C8 s=some l/\l.Perm (X4 0 s.S.a8)/\l.Pairwise (λa b=>sk s.S.a8 a<=sk s.S.a8 b):=by
 have hlen:=hR.len;unfold C8;simp only[jn];have hh:=je 0 s.S.a8;have hloop:∃e:List (Int × Int) × List Int,lp (S:=Int × (List (Int × Int)) × (List Int)) (E:=((List (Int × Int)) × (List Int))) (λ((s23,s24,s25):Int × (List (Int × Int)) × (List Int))=>
   if (decide (s23<(s.S.a8.length:Int))) then
    ((ix s.S.a8 s23).bind λv35=>
     if (v35.State==1) then
      (bF s23 v35.Gen).bind λv36=>
      (app 8 s25 [v36]).bind λv37=>
      some (.inl (u4 (s23+1),(o8 s24 v36 v35.Val.Serial),v37))
     else
     some (.inl (u4 (s23+1),s24,s25)))
   else
   some (.inr (s24,s25))) (0,[],[])=some e/\e.2=X4 0 s.S.a8/\∀h∈e.2,A6 e.1 h=some (sk s.S.a8 h):=by
  refine dj (T:=List (Int × Int) × List Int) s.S.a8.length (λk e=>e.2=X4 0 (s.S.a8.take k)/\∀h∈e.2,A6 e.1 h=some (sk s.S.a8 h)) (λe:List (Int × Int) × List Int=>e.2=X4 0 s.S.a8/\∀h∈e.2,A6 e.1 h=some (sk s.S.a8 h)) (by omega) ⟨by simp[X4],by simp⟩ (λk e hk hP=>?_) (λe hP=>?_)
  .obtain⟨h1,h2⟩:=hP;obtain⟨m,l⟩:=e;simp only at h1 h2;left;have hc:=hR.gen k hk;have hl:l.length<=24:=by rw[h1];have:=je 0 (s.S.a8.take k);simp at this;omega
   have et:s.S.a8.take (k+1)=s.S.a8.take k ++ [s.S.a8[k]]:=by rw[List.take_add_one,zc hk];rfl
   have el:(s.S.a8.take k).length=k:=by simp;omega
   by_cases q:s.S.a8[k].State=1
   .refine⟨(o8 m (1+(k:Int)+32*s.S.a8[k].Gen) s.S.a8[k].Val.Serial,l ++ [1+(k:Int)+32*s.S.a8[k].Gen]),?_,?_,?_⟩
    .simp only[zB,hk,zD,zH,o0 hk,XB,q,zW];rw[ml (by omega) (by omega) hc.1 hc.2,XB,y4 (by omega) (by simp;omega),XB,k8]
    .simp only;rw[et,nA,zb q,el,h1,t7]
    .intro h hh;simp only[zt,zJ] at hh |-;rw[nB];rcases hh with hh | rfl
     .split;·rename_i e;rw[e,DK hk (by omega)]
      .exact h2 h hh
     .rw[zb rfl,DK hk (by omega)]
   .refine⟨(m,l),?_,?_,h2⟩
    .simp only[zB,hk,zD,zH,o0 hk,XB];rw[za (by simpa using q),k8]
    .simp only;rw[et,nA,za q,h1,mt]
  .obtain⟨h1,h2⟩:=hP;obtain⟨m,l⟩:=e;refine⟨(m,l),by simp only[ms,or,zi,zV],?_,h2⟩;simpa using h1
 obtain⟨⟨m,l⟩,e1,e2,e3⟩:=hloop;rw[show lp _ _=_ from e1,XB];simp only at e2 e3 |-;subst e2;obtain⟨ys,q1,q2,q3⟩:=DL (c:=λp q=>fE p q m) (xs:=X4 0 s.S.a8) (λh=>(A6 m h).getD 0) (λx y=>by
  unfold fE eK aP;simp only[XB,zas,zi,zV];generalize (A6 m x).getD 0=a;generalize (A6 m y).getD 0=b;by_cases h1:a<b
  .rw[zu h1];exact⟨-1,rfl,by simp[h1]⟩
  .rw[zI h1];by_cases h2:a > b
   .rw[zu h2];exact⟨1,rfl,by simp[h1]⟩
   .rw[zI h2];exact⟨0,rfl,by simp[h1]⟩) (by omega)
 refine⟨ys,by rw[q1];rfl,q2,q3.imp_of_mem λ{a b} ha hb hab=>?_⟩;rw[e3 a (q2.mem_iff.1 ha),e3 b (q2.mem_iff.1 hb)] at hab;simpa using hab
theorem lf{key:Int->Int}:∀ {l m:List Int},l.Perm m->l.Pairwise (λa b=>key a<=key b)->m.Pairwise (λa b=>key a<=key b)->(∀a∈l,∀b∈l,key a=key b->a=b)->l=m
 | [],m,hp,_,_,_=>(List.nil_perm.1 hp).symm
 | a::l,[],hp,_,_,_=>by simp at hp
 | a::l,b::m,hp,h1,h2,hk=>by
  have ha:=zbo.1 h1;have hb:=zbo.1 h2;have e:a=b:=by
   have m1:b∈a::l:=hp.mem_iff.2 (zk ..);have m2:a∈b::m:=hp.mem_iff.1 (zk ..);rcases zR.1 m1 with q | q
   .exact q.symm
   .rcases zR.1 m2 with q' | q'
    .exact q'
    .exact hk a (zk ..) b m1 (Int.le_antisymm (ha.1 b q) (hb.1 a q'))
  subst e;rw[lf (List.perm_cons a |>.1 hp) ha.2 hb.2 λx hx y hy=>hk x (zq _ hx) y (zq _ hy)]
theorem Eg(o:B7)(h:o.Fields.length<4611686018427387904):jl o o=some true:=by
 unfold jl;simp only[zW,zb8,ut,aF];rw[yL _ _ h,XB,zu rfl]
theorem Ij(t:n7)(h:t.a8.length<4611686018427387904)(hf:∀i (h:i<t.a8.length),t.a8[i].Val.Fields.length<4611686018427387904):qQ t t=some true:=by
 unfold qQ;rw[za (by simp)];simp only[jn];refine T1 t.a8.length (λ_=>True) h trivial (λk hk _=>.inl ⟨?_,trivial⟩) (λ_=>⟨.inr (),by simp,rfl⟩);simp only[zB,hk,zD,zH,o0 hk,XB,zas,Bool.or_self,zW,aF];rw[Eg _ (hf k hk),XB,za (by simp),k8]
theorem A8(s:a7):(sO s).a8.length=s.S.a8.length:=by simp[sO]
theorem HS(s:a7)(i:Int):ix (sO s).a8 i=(ix s.S.a8 i).map cO:=bc cO s.S.a8 i
theorem bq(t:n7):(pl t).a8.length=t.a8.length:=by simp[pl]
theorem Dg{t:n7}{k:Nat}(h:k<t.a8.length):ix (pl t).a8 k=some (xv k t.a8[k]):=by
 rw[o0 (by simpa[pl] using h)];simp[pl]
theorem rX(s:a7){h:Int}(hh:h<=9223372036854775807):O1 (pl (sO s)) h=u6 s.S h:=by
 unfold O1 u6;rw[mF,ga hh,FC,iH hh];simp only[XB,bq,A8];generalize (if oA h then (h-1) % 32 else -1:Int)=v;generalize (if oA h then (h-1) / 32 else -1:Int)=g;split;·rfl
 .split;·rfl
  .rename_i q;have q:0<=v/\v<s.S.a8.length:=by simp at q;omega
   obtain⟨k,rfl⟩:∃k:Nat,v=k:=⟨v.toNat,by omega⟩;have hk:k<s.S.a8.length:=by omega
   rw[Dg (by rw[A8];exact hk),o0 hk];simp only[XB,xv,sO,wl,cO]
theorem MU(s:a7)(hl:s.S.a8.length<=24){h:Int}(hh:h<=9223372036854775807)(o:k9):M4 (sO s) h (oo o)=(I5 s h o).map λp=>(sO p.1,p.2):=by
 unfold M4 I5;rw[ig _ (by rw[A8];omega),XB,rX s hh];rcases ca s.S hh with ⟨i,hf,e⟩ | ⟨hf,e⟩
 .obtain⟨hi,e2⟩:=DI (v:=o) hl hf;rw[e,e2];simp only[XB,zas,zi,zV,zM];unfold ep;rw[I9 (by omega) (by rw[A8];omega),XB,o0 (by rw[A8];exact hi),XB];simp[sO,cO,oo,zcc]
 .rw[e,MV hh hf];simp only[XB];rw[zb (by simpa using dV h)];rfl
theorem cI{s:a7}(h:rH (sO s)):s.S.a8.length<=24:=by have:=h.len;rwa [A8] at this
theorem Bq{s:a7}(h:rH (sO s))(i:Nat)(hi:i<s.S.a8.length):0<=s.S.a8[i].State/\s.S.a8[i].State<=3/\0<=s.S.a8[i].Gen/\s.S.a8[i].Gen<=s.S.Last:=by
 have:=h.cell i (by rw[A8];exact hi);simpa[sO,cO] using this
theorem Br{s:a7}(h:rH (sO s)):Wq s.S.a8:=⟨cI h,λi hi=>by have:=Bq h i hi;have h9:s.S.Last<=9:=h.l9;omega⟩
theorem MM{s:a7}(h:rH (sO s))(i:Nat)(hi:i<s.S.a8.length)(ht:s.S.a8[i].State=1\/s.S.a8[i].State=2):UG (sO s) (oo s.S.a8[i].Val):=by
 have:=h.ok i (by rw[A8];exact hi);simp only[sO,wl,cO,JG] at this;exact this ht
theorem ML{s:a7}(h:rH (sO s)){i j:Nat}(hi:i<s.S.a8.length)(hj:j<s.S.a8.length)(a:s.S.a8[i].State=1\/s.S.a8[i].State=2)(b:s.S.a8[j].State=1\/s.S.a8[j].State=2)(e:s.S.a8[i].Val.Serial=s.S.a8[j].Val.Serial):i=j:=by
 have key:∀i (hi:i<s.S.a8.length) j (hj:j<i),(s.S.a8[i].State=1\/s.S.a8[i].State=2)->(s.S.a8[j].State=1\/s.S.a8[j].State=2)->s.S.a8[j].Val.Serial≠s.S.a8[i].Val.Serial:=λi hi j hj a b=>by
  have:=h.dif i (by rw[A8];exact hi) j hj;simp only[sO,wl,cO,JG,oo] at this;exact this a b
 rcases Nat.lt_trichotomy i j with q | q | q
 .exact absurd e (key j hj i q b a)
 .exact q
 .exact absurd e.symm (key i hi j q a b)
theorem jd{s:a7}(hR:rH (sO s)){x:Int}(hx:x∈X4 0 s.S.a8):∃i,∃hi:i<s.S.a8.length,s.S.a8[i].State=1/\x=1+(i:Int)+32*s.S.a8[i].Gen/\rI s.S x i/\sk s.S.a8 x=s.S.a8[i].Val.Serial/\u9 s x=some (s.S.a8[i].Val,0):=by
 obtain⟨i,hi,h1,h2⟩:=mr.1 hx;rw[t7] at h2;have hl:=(cI hR);have hc:=(Br hR).gen i hi;have hf:rI s.S x i:=⟨hi,by unfold oA;omega,by omega,by omega,.inl h1⟩;refine⟨i,hi,h1,h2,hf,by rw[h2];exact DK hi (by omega),?_⟩;obtain⟨_,e⟩:=CI hf;unfold u9;rw[e,za (by omega)];rfl
theorem KZ{s:a7}{x:Int}{i:Nat}(hf:rI s.S x i)(h1:∀hi:i<s.S.a8.length,s.S.a8[i].State=1):x∈X4 0 s.S.a8:=by
 obtain⟨hi,q1,q2,q3,_⟩:=hf;refine mr.2 ⟨i,hi,h1 hi,?_⟩;unfold oA at q1;rw[t7];omega
theorem Bz{s:a7}(hR:rH (sO s)){x y:Int}(hx:x∈X4 0 s.S.a8)(hy:y∈X4 0 s.S.a8)(e:sk s.S.a8 x=sk s.S.a8 y):x=y:=by
 obtain⟨i,hi,a1,a2,_,a4,_⟩:=jd hR hx;obtain⟨j,hj,b1,b2,_,b4,_⟩:=jd hR hy;have:=(ML hR) hi hj (.inl a1) (.inl b1) (by rw[<-a4,<-b4];exact e);subst this;rw[a2,b2]
theorem kq:∀(k:Nat) (cs:List b7),k+cs.length<=32->(X4 k cs).Nodup
 | _,[],_=>List.nodup_nil
 | k,c::r,h=>by
  simp only[zA] at h;unfold X4;rw[zbv];refine⟨by split <;> simp,kq (k+1) r (by omega),λa ha b hb e=>?_⟩;split at ha
  .simp only[zJ] at ha;subst ha;subst e;obtain⟨i,hi,h1,h2⟩:=mr.1 hb;have:((1+(k:Int)+32*c.Gen)-1) % 32=((1+((k+1+i:Nat):Int)+32*r[i].Gen)-1) % 32:=by rw[h2]
   omega
  .cases ha
theorem Hg{s:a7}(hR:rH (sO s)):∃l,C8 s=some l/\l.Perm (X4 0 s.S.a8)/\l.Pairwise (λa b=>sk s.S.a8 a<sk s.S.a8 b):=by
 obtain⟨l,h1,h2,h3⟩:=yf (Br hR);refine⟨l,h1,h2,?_⟩;have hn:l.Nodup:=h2.nodup_iff.2 (kq 0 _ (by have:=(cI hR);omega));have:=List.Pairwise.and h3 hn;refine this.imp_of_mem λ{a b} ha hb ⟨q1,q2⟩=>?_;rcases Int.lt_or_eq_of_le q1 with q | q
 .exact q
 .exact absurd (Bz hR (h2.mem_iff.1 ha) (h2.mem_iff.1 hb) q) q2
theorem qx:∀(k:Nat) (cs:List b7) (i:Nat) (c:b7) (hi:i<cs.length),cs[i].State≠1->c.State=1->(X4 k (cs.set i c)).Perm ((1+((k+i:Nat):Int)+32*c.Gen)::X4 k cs)
 | _,[],i,_,hi,_,_=>by simp at hi
 | k,d::r,0,c,hi,h1,h2=>by
  simp only[List.getElem_cons_zero] at h1;simp only[List.set_cons_zero,X4,zb h2,za h1,zb2,zax];exact List.Perm.refl _
 | k,d::r,i+1,c,hi,h1,h2=>by
  simp only[List.getElem_cons_succ] at h1;simp only[List.set_cons_succ,X4];have:=qx (k+1) r i c (by simpa using hi) h1 h2;rw[show k+1+i=k+(i+1) by omega] at this;exact (List.Perm.append_left _ this).trans List.perm_middle
theorem Ud{cs:List b7}{i:Nat}{c:b7}{x:Int}(h:((x-1) % 32).toNat≠i):sk (cs.set i c) x=sk cs x:=by
 unfold sk;rw[List.getElem?_set_ne (by omega)]
theorem Fb{s:a7}(hR:rH (sO s)){i:Nat}(hi:i<s.S.a8.length)(h0:s.S.a8[i].State=0)(o:k9)(ho:o.Serial=s.Serial+1){l:List Int}(hl:C8 s=some l) :
  C8 ⟨⟨s.S.a8.set i ⟨1,s.S.a8[i].Gen,o⟩,s.S.Last⟩,s.Serial+1⟩=some (l ++ [1+(i:Int)+32*s.S.a8[i].Gen]):=by
 obtain⟨l',e,l1,l2⟩:=Hg hR;rw[hl] at e;cases e;have hlen:=cI hR;have hsl:Wq (s.S.a8.set i ⟨1,s.S.a8[i].Gen,o⟩):=⟨by simpa using hlen,λj hj=>by
  rw[zbx];have:=(Br hR).gen;split;·exact this i hi
  .exact this j (by simpa using hj)⟩
 obtain⟨m,m1,m2,m3⟩:=yf (s:=⟨⟨s.S.a8.set i ⟨1,s.S.a8[i].Gen,o⟩,s.S.Last⟩,s.Serial+1⟩) hsl;have hp:=qx 0 s.S.a8 i ⟨1,s.S.a8[i].Gen,o⟩ hi (by omega) rfl;rw[t7] at hp;have hold:∀x∈l,sk (s.S.a8.set i ⟨1,s.S.a8[i].Gen,o⟩) x=sk s.S.a8 x/\sk s.S.a8 x<=s.Serial:=λx hx=>by
  obtain⟨j,hj,a1,a2,a3,a4,_⟩:=jd hR (l1.mem_iff.1 hx);refine⟨Ud ?_,?_⟩
  .obtain⟨_,_,q,_⟩:=a3;intro e;have:j=i:=by omega
   subst this;omega
  .rw[a4];exact (MM hR j hj (.inl a1)).2.1
 have hnew:sk (s.S.a8.set i ⟨1,s.S.a8[i].Gen,o⟩) (1+(i:Int)+32*s.S.a8[i].Gen)=s.Serial+1:=by
  rw[DK (by simpa using hi) (by simp;omega)];simp[ho]
 rw[m1];congr 1;refine lf (key:=sk (s.S.a8.set i ⟨1,s.S.a8[i].Gen,o⟩)) ?_ m3 ?_ ?_
 .refine m2.trans (hp.trans ?_);refine List.Perm.trans (List.Perm.cons _ l1.symm) ?_;exact (List.perm_append_singleton _ _).symm
 .rw[za4];refine⟨l2.imp_of_mem λ{a b} ha hb hab=>?_,by simp,λa ha b hb=>?_⟩;·rw[(hold a ha).1,(hold b hb).1];omega
  .rw[zJ] at hb;subst hb;rw[hnew,(hold a ha).1];have:=(hold a ha).2;omega
 .have hm:∀a∈m,a∈l\/a=1+(i:Int)+32*s.S.a8[i].Gen:=λa ha=>by
   have:=hp.mem_iff.1 (m2.mem_iff.1 ha);rcases zR.1 this with q | q
   .exact .inr q
   .exact .inl (l1.mem_iff.2 q)
  intro a ha b hb hab;rcases hm a ha with qa | rfl <;> rcases hm b hb with qb | rfl
  .rw[(hold a qa).1,(hold b qb).1] at hab;exact Bz hR (l1.mem_iff.1 qa) (l1.mem_iff.1 qb) hab
  .rw[(hold a qa).1,hnew] at hab;have:=(hold a qa).2;omega
  .rw[(hold b qb).1,hnew] at hab;have:=(hold b qb).2;omega
  .rfl
theorem Vw(n last:Int):∃a,bP n last=some a/\Bc n last=some (sO a)/\rH (sO a)/\a.S.a8.length<=24/\∀i (h:i<a.S.a8.length),a.S.a8[i].Val.Fields.length<=4:=by
 unfold bP Bc O3 Hz;by_cases h:0<=n/\n<=24/\0<=last/\last<=9
 .obtain⟨h1,h2,h3,h4⟩:=h;obtain⟨k,rfl⟩:∃k:Nat,n=k:=⟨n.toNat,by omega⟩;rw[za (by simp;omega),za (by simp;omega),lF (by omega) (by omega),lF (by omega) (by omega)];simp only[XB,List.length_replicate];rw[lF (by omega) (by omega)];refine⟨_,rfl,?_,?_,by simp;omega,λi h=>by simp⟩;·simp[sO,cO,oo]
  .refine⟨by simp[sO];omega,h3,h4,by simp[sO],λi h=>?_,λi h=>?_,λi h q=>?_,λi h k hk q=>?_⟩;·simp[sO,cO];omega
   .simp[sO,cO,oo,Ej]
   .exfalso;simp[sO,cO,oo,JG] at q
   .exfalso;simp[sO,cO,oo,JG] at q
 .rw[zb (by simp;omega),zb (by simp;omega)];simp only[XB,wp];rw[show mk 80 ((0:Nat):Int) (⟨0,0,⟨0,0,0,0,false,[]⟩⟩:o6)=some [] from rfl];refine⟨_,rfl,rfl,⟨by simp[sO],by simp[sO],by simp[sO],by simp[sO],?_,?_,?_,?_⟩,by simp,λi h=>by simp at h⟩ <;> (intro i h;simp[sO] at h)
noncomputable def lv(s:a7):List Int:=(C8 s).getD []
def ob(s:a7)(h:Int):k9:=((u9 s h).getD (z0,0)).1
def outs(s:a7)(h:Int):List Int:=nz (ob s h).Fields
def FB(s:a7):Prop:=∀c∈s.S.a8,∀x∈c.Val.Fields,x<=9223372036854775807
section
variable{s:a7}(hR:rH (sO s))
include hR
theorem gX:C8 s=some (lv s)/\(lv s).Perm (X4 0 s.S.a8)/\(lv s).Pairwise (λa b=>sk s.S.a8 a<sk s.S.a8 b):=by
 obtain⟨l,h1,h2,h3⟩:=Hg hR;have:lv s=l:=by unfold lv;rw[h1];rfl
 rw[this];exact⟨h1,h2,h3⟩
theorem cq:C8 s=some (lv s):=(gX hR).1
theorem sf{h:Int}:h∈lv s↔h∈X4 0 s.S.a8:=(gX hR).2.1.mem_iff
theorem E2:(lv s).length<=24:=by
 rw[(gX hR).2.1.length_eq];exact wd (je 0 s.S.a8) (cI hR)
theorem qF:(lv s).Nodup:=(gX hR).2.1.nodup_iff.2 (kq 0 _ (by have:=(cI hR);omega))
theorem vI{h:Int}(hh:h∈lv s):u9 s h=some (ob s h,0):=by
 obtain⟨i,hi,_,_,_,_,e⟩:=jd hR ((sf hR).1 hh);unfold ob;rw[e];rfl
theorem AL{h:Int}(hh:h∈lv s):∃i,∃hi:i<s.S.a8.length,s.S.a8[i].State=1/\h=1+(i:Int)+32*s.S.a8[i].Gen/\rI s.S h i/\ob s h=s.S.a8[i].Val:=by
 obtain⟨i,hi,h1,h2,h3,_,e⟩:=jd hR ((sf hR).1 hh);refine⟨i,hi,h1,h2,h3,?_⟩;unfold ob;rw[e];rfl
theorem iI{h:Int}(hh:h∈lv s):1<=h/\h<=320:=by
 obtain⟨i,hi,_,_,hf,_⟩:=AL hR hh;exact vB hf.2.1
theorem Rc{h:Int}(hh:h<=9223372036854775807)(hn:h∉lv s):∃e,e≠0/\u9 s h=some (z0,e):=by
 rcases ca s.S hh with ⟨i,hf,_⟩ | ⟨hf,_⟩
 .obtain⟨hi,e⟩:=CI hf;unfold u9;rw[e];by_cases h2:s.S.a8[i].State=2
  .rw[zb h2];exact⟨3,by decide,rfl⟩
  .exact absurd ((sf hR).2 (KZ hf λ_=>hf.2.2.2.2.resolve_right h2)) hn
 .unfold u9;rw[Lc hh hf];exact⟨_,dV h,rfl⟩
theorem oT{h:Int}(hh:h<=9223372036854775807)(hn:h∉lv s):ob s h=z0:=by
 obtain⟨e,_,h1⟩:=Rc hR hh hn;unfold ob;rw[h1];rfl
theorem Q2{h:Int}(hh:h<=9223372036854775807):∃e,u9 s h=some (ob s h,e)/\(e=0↔h∈lv s):=by
 by_cases q:h∈lv s
 .exact⟨0,vI hR q,by simp[q]⟩
 .obtain⟨e,h0,h1⟩:=Rc hR hh q;refine⟨e,?_,by simp[h0,q]⟩;rw[h1,oT hR hh q]
theorem Ht{h:Int}(hh:h<=9223372036854775807)(hn:h∉lv s):outs s h = []:=by
 unfold outs;rw[oT hR hh hn];rfl
theorem AP(h:Int)(hh:h<=9223372036854775807):(ob s h).Fields.length<=4:=by
 by_cases q:h∈lv s
 .obtain⟨i,hi,h1,_,_,e⟩:=AL hR q;rw[e];exact (MM hR i hi (.inl h1)).2.2.2.2.2.2
 .rw[oT hR hh q];exact un _
theorem ji(h:Int)(hh:h<=9223372036854775807):(outs s h).length<=4:=wd (LM _) (AP hR h hh)
theorem PB(hF:FB s){h x:Int}(hh:h<=9223372036854775807)(hx:x∈outs s h):x<=9223372036854775807:=by
 by_cases q:h∈lv s
 .obtain⟨i,hi,h1,_,_,e⟩:=AL hR q;unfold outs at hx;rw[e] at hx;exact hF _ (zh hi) x (kI.1 hx).1
 .rw[Ht hR hh q] at hx;cases hx
end
theorem PC{s:a7}{h x:Int}(hx:x∈outs s h):x≠0:=(kI.1 hx).2
theorem ja(s:a7)(hl:s.S.a8.length<=1000){h:Int}(hh:h<=9223372036854775807):E1 (sO s) h=(u9 s h).map λp=>(oo p.1,p.2):=by
 unfold E1 u9 C6 uB;rw[ig _ (by rw[A8];exact hl),XB,rX s hh];rcases ca s.S hh with ⟨i,hf,e⟩ | ⟨hf,e⟩
 .rw[e];have hi:=hf.1;simp only[XB,zas,zi,zV];rw[Dg (by rw[A8];exact hi),o0 hi];simp only[XB,xv,sO,wl,cO];split;·rfl
  .simp only[XB,zas,zi,zV];rw[o0 (by simpa using hi)];simp[cO,oo]
 .rw[e];simp only[XB];have hne:((if h=0 then 2 else 3:Int) != 0)=true:=by simpa using dV h
  simp only[hne,zH,XB];rfl
theorem MW{s:a7}(hR:rH (sO s)){l:List Int}(hl:∀x∈l,x∈lv s)(hn:l.length<=100) :
  ∃m,pD (sO s) l=some m/\m.Perm l/\m.Pairwise (λa b=>sk s.S.a8 a<=sk s.S.a8 b):=by
 have hfind:∀x∈l,∃i:Nat,∃hi:i<s.S.a8.length,O1 (pl (sO s)) x=some ((i:Int),0)/\s.S.a8[i].Val.Serial=sk s.S.a8 x:=λx hx=>by
  obtain⟨i,hi,_,_,hf,h4,_⟩:=jd hR ((sf hR).1 (hl x hx));refine⟨i,hi,?_,h4.symm⟩;rw[rX s (by have:=vB hf.2.1;omega),nv hf]
 unfold pD;rw[I9 (by omega) (by omega),XB];simp only[jn];let K:List Int->Nat->Int:=λo a=>sk s.S.a8 (o.getD a 0)
 have hplain:=ig (sO s) (by rw[A8];have:=cI hR;omega);have inner:∀(n:Nat) (o:List Int),n<l.length->o.Perm l->(∀a b,a<b->b<=n->b≠n->K o a<=K o b) ->
   ∃o',lp (S:=Int × (List Int)) (E:=(List Int)) (λ((s58,s59):Int × (List Int))=>
      if (decide (s58 > 0)) then
       (K9 (sO s)).bind λv62=>
       (ix s59 (u4 (s58-1))).bind λv63=>
       (O1 v62 v63).bind λv64=>
       (ix s59 s58).bind λv65=>
       (O1 v62 v65).bind λv66=>
       (p7 (((decide (v64.1<0))||(decide (v66.1<0)))==false) (⟨0,0,⟨0,0,0,0,false,[]⟩⟩:o6) (ix (sO s).a8 v64.1)).bind λv67=>
       (p7 (((decide (v64.1<0))||(decide (v66.1<0)))==false) (⟨0,0,⟨0,0,0,0,false,[]⟩⟩:o6) (ix (sO s).a8 v66.1)).bind λv68=>
       if (((decide (v64.1<0))||(decide (v66.1<0)))||(decide (v67.Val.Serial<=v68.Val.Serial))) then
        some (.inr s59)
       else
       (ix (s59.set (s58).toNat v63) (u4 (s58-1))).bind λv69=>
       some (.inl (u4 (s58-1),((s59.set (s58).toNat v63).set (u4 (s58-1)).toNat v65)))
      else
      some (.inr s59)) ((n:Int),o)=some o'/\o'.Perm l/\∀a b,a<b->b<=n->K o' a<=K o' b:=by
  intro n o hn' hp hk;have hbn:(n:Int).toNat<4611686018427387904:=by rw[zQ];omega
  refine px (s0:=((n:Int),o)) (λq=>∃k:Nat,q.1=(k:Int)/\k<=n/\q.2.Perm l/\∀a b,a<b->b<=n->b≠k->K q.2 a<=K q.2 b) (λo'=>o'.Perm l/\∀a b,a<b->b<=n->K o' a<=K o' b) (λq=>q.1.toNat) ⟨n,rfl,zF _,hp,hk⟩ hbn ?_;rintro⟨_,o⟩ ⟨k,rfl,hkn,hp,hk⟩;simp only at hp hk |-;have hol:o.length=l.length:=hp.length_eq;rcases pi k with rfl | hpos
  .right;refine⟨o,by rw[za (by simp)],hp,λa b h1 h2=>hk a b h1 h2 (by omega)⟩
  .obtain⟨j,rfl⟩:∃j,k=j+1:=⟨k-1,by omega⟩;have hj1:j+1<o.length:=by omega
   have hj:j<o.length:=by omega
   have ew:u4 (((j+1:Nat):Int)-1)=(j:Int):=by rw[D1 (by omega) (by omega)];omega
   obtain⟨ia,hia,fa,ka⟩:=hfind o[j] (hp.mem_iff.1 (zh hj));obtain⟨ib,hib,fb,kb⟩:=hfind o[j+1] (hp.mem_iff.1 (zh hj1));have ea:ix (sO s).a8 (ia:Int)=some (cO s.S.a8[ia]):=by rw[HS,o0 hia];rfl
   have eb:ix (sO s).a8 (ib:Int)=some (cO s.S.a8[ib]):=by rw[HS,o0 hib];rfl
   have hneg:((decide ((ia:Int)<0))||(decide ((ib:Int)<0)))=false:=by simp
   have hpos':decide (((j+1:Nat):Int) > 0)=true:=by simp
   simp only[hpos',zH,hplain,ew,o0 hj,o0 hj1,XB,fa,fb,hneg,zW,aF,ea,eb,zbw,cO,oo,ka,kb,zQ];have Kj:K o j=sk s.S.a8 o[j]:=by simp[K,List.getD,zc hj]
   have Kj1:K o (j+1)=sk s.S.a8 o[j+1]:=by simp[K,List.getD,zc hj1]
   by_cases hle:sk s.S.a8 o[j]<=sk s.S.a8 o[j+1]
   .right;refine⟨o,by rw[zb (by simpa using hle)],hp,λa b h1 h2=>?_⟩;by_cases e:b=j+1
    .subst e;rcases zy a j with q | q
     .have:=hk a j q (by omega) (by omega);omega
     .have:a=j:=by omega
      subst this;omega
    .exact hk a b h1 h2 e
   .left;refine⟨_,by rw[za (by simpa using hle),o0 (by simpa using hj)];rfl,⟨j,rfl,by omega,?_,λa b h1 h2 h3=>?_⟩,by show (j:Int).toNat<((j+1:Nat):Int).toNat;omega⟩;·exact (List.set_set_perm hj1 hj).trans hp
    .have hK:∀c,K ((o.set (j+1) o[j]).set j o[j+1]) c=if c=j then K o (j+1) else if c=j+1 then K o j else K o c:=λc=>by
      simp only[K,List.getD,List.getElem?_set,zbh];by_cases c1:c=j
      .subst c1;simp[hj,zc hj1]
      .by_cases c2:c=j+1
       .subst c2;simp[hj1,zc hj]
       .rw[za (by omega),za (by omega),za c1,za c2]
     show K ((o.set (j+1) o[j]).set ((j:Nat):Int).toNat o[j+1]) a<=K ((o.set (j+1) o[j]).set ((j:Nat):Int).toNat o[j+1]) b;rw[zQ,hK,hK];by_cases a1:a=j
     .subst a1;rw[zb rfl];by_cases b2:b=a+1
      .subst b2;rw[za (by omega),zb rfl];omega
      .rw[za (by omega),za b2];exact hk (a+1) b (by omega) h2 b2
     .rw[za a1];by_cases a2:a=j+1
      .subst a2;rw[zb rfl,za (by omega),za (by omega)];exact hk j b (by omega) h2 (by omega)
      .rw[za a2,za h3];by_cases b2:b=j+1
       .subst b2;rw[zb rfl];exact hk a j (by omega) (by omega) (by omega)
       .rw[za b2];exact hk a b h1 h2 b2
 have outer:∃m,(lp (S:=Int × (List Int)) (E:=(List Int)) (λ((s38,s39):Int × (List Int))=>
   if (decide (s38<(s39.length:Int))) then
     (lp (S:=Int × (List Int)) (E:=(List Int)) (λ((s58,s59):Int × (List Int))=>
      if (decide (s58 > 0)) then
       (K9 (sO s)).bind λv62=>
       (ix s59 (u4 (s58-1))).bind λv63=>
       (O1 v62 v63).bind λv64=>
       (ix s59 s58).bind λv65=>
       (O1 v62 v65).bind λv66=>
       (p7 (((decide (v64.1<0))||(decide (v66.1<0)))==false) (⟨0,0,⟨0,0,0,0,false,[]⟩⟩:o6) (ix (sO s).a8 v64.1)).bind λv67=>
       (p7 (((decide (v64.1<0))||(decide (v66.1<0)))==false) (⟨0,0,⟨0,0,0,0,false,[]⟩⟩:o6) (ix (sO s).a8 v66.1)).bind λv68=>
       if (((decide (v64.1<0))||(decide (v66.1<0)))||(decide (v67.Val.Serial<=v68.Val.Serial))) then
        some (.inr s59)
       else
       (ix (s59.set (s58).toNat v63) (u4 (s58-1))).bind λv69=>
       some (.inl (u4 (s58-1),((s59.set (s58).toNat v63).set (u4 (s58-1)).toNat v65)))
      else
      some (.inr s59)) (s38,s39)).bind λe57=>
     some (.inl (u4 (s38+1),e57))
   else
   some (.inr s39)) (1,l))=some m/\m.Perm l/\m.Pairwise (λa b=>sk s.S.a8 a<=sk s.S.a8 b):=by
  have hb1:l.length+1-(1:Int).toNat<4611686018427387904:=by omega
  refine px (s0:=((1:Int),l)) (λq=>∃k:Nat,q.1=(k:Int)/\(k<=l.length\/k=1)/\1<=k/\q.2.Perm l/\∀a b,a<b->b<k->K q.2 a<=K q.2 b) (λ(o':List Int)=>o'.Perm l/\o'.Pairwise (λa b=>sk s.S.a8 a<=sk s.S.a8 b)) (λq=>l.length+1-q.1.toNat) ⟨1,rfl,.inr rfl,by omega,List.Perm.refl _,λa b h1 h2=>by omega⟩ hb1 ?_;rintro⟨_,o⟩ ⟨k,rfl,hkl,hk1,hp,hk⟩;simp only at hp hk |-;have hol:o.length=l.length:=hp.length_eq;rcases zy k l.length with h1 | h1
  .left;obtain⟨o',e1,e2,e3⟩:=inner k o h1 hp λa b x1 x2 x3=>hk a b x1 (by omega);refine⟨(((k+1:Nat):Int),o'),?_,⟨k+1,rfl,by omega,by omega,e2,λa b x1 x2=>e3 a b x1 (by omega)⟩,by show l.length+1-((k+1:Nat):Int).toNat<l.length+1-(k:Int).toNat;omega⟩;rw[zb (by simp;omega),e1,XB,k8 (by omega)]
  .right;refine⟨o,by rw[za (by simp;omega)],hp,?_⟩;rw[List.pairwise_iff_getElem];intro i j hi hj hij;have:=hk i j hij (by omega);simpa[K,List.getD,zc hi,zc hj] using this
 obtain⟨m,e1,e2,e3⟩:=outer;exact⟨m,by rw[show lp _ _=_ from e1];rfl,e2,e3⟩
theorem mA{s:a7}(hR:rH (sO s)):T7 (sO s)=some (lv s):=by
 have hlen:=cI hR;unfold T7;simp only[jn];have hloop:lp (S:=Int × (List Int)) (E:=(List Int)) (λ((s18,s19):Int × (List Int))=>
   if (decide (s18<((sO s).a8.length:Int))) then
     (ix (sO s).a8 s18).bind λv27=>
     if (v27.State==1) then
      (gj s18 v27.Gen).bind λv28=>
      (app 8 s19 [v28]).bind λv29=>
      some (.inl (u4 (s18+1),v29))
     else
     some (.inl (u4 (s18+1),s19))
   else
   some (.inr s19)) (0,[])=some (X4 0 s.S.a8):=by
  refine fD (dj (T:=List Int) s.S.a8.length (λk l=>l=X4 0 (s.S.a8.take k)) (λe=>e=X4 0 s.S.a8) (by omega) (by simp[X4]) (λk l hk hP=>?_) (λl hP=>?_))
  .subst hP;left;have hc:=(Br hR).gen k hk;have hl:=je 0 (s.S.a8.take k);have et:s.S.a8.take (k+1)=s.S.a8.take k ++ [s.S.a8[k]]:=by rw[List.take_add_one,zc hk];rfl
   have el:(s.S.a8.take k).length=k:=by simp;omega
   refine⟨_,?_,rfl⟩;simp only[A8,zB,hk,zD,zH,HS,o0 hk,zM,XB,cO];rw[et,nA,el,t7];by_cases q:s.S.a8[k].State=1
   .rw[zb (by simpa using q),zb q,mD,XB,zb (by omega),y4 (by omega) (by simp;omega),XB,k8]
   .rw[za (by simpa using q),za q,k8,mt]
  .subst hP;refine⟨_,by simp only[A8,ms,or,zi,zV];rfl,by simp⟩
 rw[show lp _ _=_ from hloop,XB];obtain⟨m,h1,h2,h3⟩:=MW hR (l:=X4 0 s.S.a8) (λx hx=>(sf hR).2 hx) (by have:=je 0 s.S.a8;omega);rw[h1,XB];congr 1;obtain⟨_,l2,l3⟩:=gX hR;exact lf (key:=sk s.S.a8) (h2.trans l2.symm) h3 (l3.imp λh=>by omega) λa ha b hb e=>Bz hR (h2.mem_iff.1 ha) (h2.mem_iff.1 hb) e
theorem CZ(v:List Int)(h:v.length<=1000000):fP v=some (nz v):=by
 unfold fP nY;simp only[jn,XB];rw[E7 v (λb x=>if x != 0 then b ++ [x] else b) id (λk b=>b.length<=k) (by omega) (by simp) (λk hk b hb=>?_) (λb _=>?_)]
 .simp only[XB,id];rw[foldl_filter];rfl
 .simp only[zB,hk,zD,zH,o0 hk,XB];by_cases q:(v[k] != 0)=true
  .rw[zb (by simpa using q),zb q,y4 (by omega) (by simp;omega),XB,k8];exact⟨rfl,by simp;omega⟩
  .rw[za (by simpa using q),za q,k8];exact⟨rfl,by omega⟩
 .simp only[ms,or,zi,zV];rfl
theorem vM(v:List Int)(h:v.length<=1000000):fL v=some (nz v):=by
 unfold fL;simp only[jn];rw[E7 v (λb x=>if x != 0 then b ++ [x] else b) id (λk b=>b.length<=k) (by omega) (by simp) (λk hk b hb=>?_) (λb _=>?_)]
 .simp only[XB,id];rw[foldl_filter];rfl
 .simp only[zB,hk,zD,zH,o0 hk,XB];by_cases q:(v[k] != 0)=true
  .rw[zb q,zb q,y4 (by omega) (by simp;omega),XB,k8];exact⟨rfl,by simp;omega⟩
  .rw[za q,za q,k8];exact⟨rfl,by omega⟩
 .simp only[ms,or,zi,zV];rfl
theorem pH(l:List Int)(h:Int)(hl:l.length<=1000000):dt l h=some (X6 l h:Int):=by
 unfold dt;simp only[jn];rw[yh l (λ(b:Int) x=>if (x==h&&h != 0) then b+1 else b) id (λk b=>0<=b/\b<=k) (by omega) (by simp) (λk hk b hb=>?_) (λb _=>?_)]
 .simp only[XB,id];rw[tj];simp
 .simp only[zB,hk,zD,zH,o0 hk,XB];by_cases q:(l[k]==h&&h != 0)=true
  .rw[zb q,zb q,k8,D1 (n:=b+1) (by omega) (by omega)];exact⟨rfl,by omega⟩
  .rw[za q,za q,k8];exact⟨rfl,by omega⟩
 .simp only[ms,or,zi,zV];rfl
noncomputable def gU(s:a7)(h:Int):Nat:=((lv s).map λx=>X6 (outs s x) h).sum
theorem Hi{s:a7}(hR:rH (sO s)){k:Nat}(hk:k<(lv s).length):(lv s)[k]<=9223372036854775807:=by
 have:=iI hR (zh hk);omega
section
variable{s:a7}(hR:rH (sO s))
include hR
theorem Mg{h:Int}(hh:h<=9223372036854775807):jt s h=some (outs s h):=by
 obtain⟨e,h1,_⟩:=Q2 hR hh;unfold jt;rw[h1,XB,CZ _ (by have:=AP hR h hh;simp only;omega)];rfl
theorem Dc{h:Int}(hh:h<=9223372036854775807):uE (sO s) h=some (outs s h):=by
 unfold uE;rw[ja s (by have:=cI hR;omega) hh];obtain⟨e,h1,h2⟩:=Q2 hR hh;rw[h1];simp only[zM,XB];by_cases q:e=0
 .subst q;rw[za (by simp),vM _ (by have:=AP hR h hh;simp only[oo];omega)];rfl
 .rw[zb (by simpa using q),Ht hR hh (λq'=>q (h2.2 q'))]
theorem EW(h:Int):gU s h<=96:=by
 have:=BE (λx=>X6 (outs s x) h) 4 (lv s) λx hx=>wd (FZ _ _) (ji hR x (by have:=iI hR hx;omega));have:=E2 hR;unfold gU;omega
theorem Vi(h:Int):uI s h=some (gU s h:Int):=by
 unfold uI kU;simp only[jn,XB];rw[show C8 s=_ from cq hR,XB];have hl:=E2 hR;rw[E7 (lv s) (λ(b:Int) x=>b+(X6 (outs s x) h:Int)) id (λk b=>0<=b/\b<=4*k) (by omega) (by simp) (λk hk b hb=>?_) (λb _=>?_)]
 .simp only[XB,id];have:=pq (λx=>X6 (outs s x) h) (lv s) 0;rw[show ((0:Nat):Int)=0 from rfl] at this;rw[this,t7];rfl
 .have ho:=Mg hR (Hi hR hk);have hol:=ji hR _ (Hi hR hk);have ht:=FZ (outs s (lv s)[k]) h;simp only[zB,hk,zD,zH,o0 hk,XB,ho];rw[E7 (outs s (lv s)[k]) (λ(b:Int) x=>if (x==h&&h != 0) then b+1 else b) id (λj c=>b<=c/\c<=b+j) (by omega) (by simp) (λj hj c hc=>?_) (λc _=>?_)]
  .simp only[XB,id];rw[tj,k8];exact⟨rfl,by omega⟩
  .simp only[zB,hj,zD,zH,o0 hj,XB];have hne:=PC (zh hj);by_cases q:(outs s (lv s)[k])[j]=h
   .have e2:((outs s (lv s)[k])[j]==h&&h != 0)=true:=by simp only[zp,q9,bne_iff_ne];omega
    rw[e2,zb (by simpa using q),zb rfl,k8,D1 (n:=c+1) (by omega) (by omega)];exact⟨rfl,by omega⟩
   .have e2:((outs s (lv s)[k])[j]==h&&h != 0)=false:=by rw[za9];simp only[ne_eq,zp,q9,bne_iff_ne];omega
    rw[e2,za (by simpa using q),k8];exact⟨rfl,by simp;omega⟩
  .simp only[ms,or,zi,zV];rfl
 .simp only[ms,or,zi,zV];rfl
theorem OR(h:Int):FE (sO s) h=some (gU s h:Int):=by
 unfold FE;simp only[jn,mA hR,XB];have hl:=E2 hR;rw[yh (lv s) (λ(b:Int) x=>b+(X6 (outs s x) h:Int)) id (λk b=>0<=b/\b<=4*k) (by omega) (by simp) (λk hk b hb=>?_) (λb _=>?_)]
 .simp only[XB,id];have:=pq (λx=>X6 (outs s x) h) (lv s) 0;rw[show ((0:Nat):Int)=0 from rfl] at this;rw[this,t7];rfl
 .have hol:=ji hR _ (Hi hR hk);have ht:=FZ (outs s (lv s)[k]) h;simp only[zB,hk,zD,zH,o0 hk,XB,Dc hR (Hi hR hk)];rw[pH _ _ (by omega),XB,k8,D1 (by omega) (by omega)];exact⟨rfl,by omega⟩
 .simp only[ms,or,zi,zV];rfl
end
section
variable{s:a7}(hR:rH (sO s))(hF:FB s)
include hR hF
end
theorem qh{α:Type}(p:α->Bool):∀l:List α,l.length=(l.filter p).length+(l.filter λx => !p x).length
 | []=>rfl
 | x::l=>by
  have:=qh p l;by_cases h:p x
  .simp[h];omega
  .simp[h];omega
theorem Vk{s:a7}(hR:rH (sO s)){l:List Int}(hp:l.Perm (X4 0 s.S.a8))(hs:l.Pairwise (λa b=>sk s.S.a8 a<sk s.S.a8 b)):lv s=l:=by
 obtain⟨_,l2,l3⟩:=gX hR;exact lf (key:=sk s.S.a8) (l2.trans hp.symm) (l3.imp λh=>by omega) (hs.imp λh=>by omega) λa ha b hb e=>Bz hR (l2.mem_iff.1 ha) (l2.mem_iff.1 hb) e
inductive oC (s:a7) (l:List Int):Int->Prop
 | base {h:Int}:h∈l->h∈lv s->oC s l h
 | step {a b:Int}:oC s l a->b∈outs s a->b∈lv s->oC s l b
open Classical in
noncomputable def BY (s:a7) (l:List Int):List Int:=(lv s).filter λh=>decide (oC s l h)
open Classical in
noncomputable def lst (s:a7) (l:List Int):List Int:=(lv s).filter λh=>decide (¬oC s l h)
def Cl(s:a7)(l:List Int):Prop:=∀a∈l,∀b∈outs s a,b∈lv s->b∈l
def LB(l:List Int):Prop:=∀x∈l,x<=9223372036854775807
theorem oC.live{s:a7}{l:List Int}{h:Int}(q:oC s l h):h∈lv s:=by cases q <;> assumption
open Classical in
theorem Y3 {s:a7} {l:List Int} {h:Int}:h∈BY s l↔oC s l h:=by
 unfold BY;rw[zm];exact⟨λq=>za8 q.2,λq=>⟨q.live,zu q⟩⟩
theorem HC{s:a7}(hR:rH (sO s))(l:List Int):(BY s l).length<=24:=wd (zO ..) (E2 hR)
theorem TJ(s:a7)(l:List Int):Cl s (BY s l):=λa ha b hb hl=>Y3.2 (.step (Y3.1 ha) hb hl)
theorem oC.least{s:a7}{l m:List Int}(hc:Cl s m)(hl:∀x∈l,x∈lv s->x∈m){h:Int}(q:oC s l h):h∈m:=by
 induction q with
 | base h1 h2=>exact hl _ h1 h2
 | step _ h1 h2 ih=>exact hc _ ih _ h1 h2
theorem oC.mono{s:a7}{l m:List Int}(hl:∀x∈l,x∈lv s->oC s m x){h:Int}(q:oC s l h):oC s m h:=by
 induction q with
 | base h1 h2=>exact hl _ h1 h2
 | step _ h1 h2 ih=>exact .step ih h1 h2
theorem yx{s:a7}{l m:List Int}(h:∀x,oC s l x↔oC s m x):BY s l=BY s m:=by
 unfold BY;exact zar λx _=>zay.2 (h x)
theorem filter_lt{α:Type}{p q:α->Bool}:∀ {l:List α},(∀x∈l,p x=true->q x=true)->∀x∈l,q x=true->p x=false->(l.filter p).length<(l.filter q).length
 | [],_,x,hx,_,_=>by cases hx
 | y::l,h,x,hx,h1,h2=>by
  have hle:(l.filter p).length<=(l.filter q).length:=by
   have h':∀x∈l,p x=true->q x=true:=λx hx=>h x (zq _ hx);clear h hx;induction l with
   | nil=>simp
   | cons z l ih=>
    have:=ih λx hx=>h' x (zq _ hx);have hz:=h' z (zk ..);simp only[rx];by_cases a:p z=true
    .rw[zb a,zb (hz a)];simp only[zA];omega
    .rw[za a];split <;> (try simp only[zA]) <;> omega
  rcases zR.1 hx with rfl | hx'
  .simp only[rx,h1,h2,zH,zi,zV,zA];omega
  .have:=filter_lt (λx hx=>h x (zq _ hx)) x hx' h1 h2;have hy:=h y (zk ..);simp only[rx];by_cases a:p y=true
   .rw[zb a,zb (hy a)];simp only[zA];omega
   .rw[za a];split <;> (try simp only[zA]) <;> omega
theorem gi{l m:List Int}(hn:l.Nodup)(h:∀x∈l,x∈m):l.length<=m.length:=by
 induction l generalizing m with
 | nil=>simp
 | cons x l ih=>
  rw[zak] at hn;have hx:=h x (zk ..);have:=ih (m:=m.erase x) hn.2 λy hy=>(List.mem_erase_of_ne (λe=>hn.1 (by subst e;exact hy))).2 (h y (zq _ hy));rw[List.length_erase_of_mem hx] at this;have:0<m.length:=List.length_pos_of_mem hx;simp only[zA];omega
section
variable{s:a7}(hR:rH (sO s))
include hR
theorem IN{h:Int}(hh:h<=9223372036854775807):ax s h=some (decide (h∈lv s)):=by
 obtain⟨e,h1,h2⟩:=Q2 hR hh;unfold ax;rw[h1,XB];congr 1;rw[za2,q9,zx];exact h2
abbrev Mk(m:List (Int × Bool))(x:Int):Prop:=(A6 m x).getD false=true
noncomputable def Ie(s:a7)(m:List (Int × Bool)):Nat:=((lv s).filter λx => !(A6 m x).getD false).length
omit hR in
theorem sp (m:List (Int × Bool)) (x y:Int):Mk (o8 m x true) y↔y=x\/Mk m y:=by
 unfold Mk;rw[nB];by_cases q:y=x
 .simp[q]
 .simp[q]
omit hR in
theorem Qs {m:List (Int × Bool)} {x:Int} (hx:x∈lv s) (hm:¬Mk m x):Ie s (o8 m x true)<Ie s m:=by
 unfold Ie;refine filter_lt (λy _ h=>?_) x hx (by simpa[Mk] using hm) ?_
 .by_cases q:Mk m y
  .have:=(sp m x y).2 (.inr q);unfold Mk at this;rw[this] at h;cases h
  .simpa[Mk] using q
 .have:=(sp m x x).2 (.inl rfl);unfold Mk at this;rw[this];rfl
structure Ek (s:a7) (l:List Int) (q:k7) (m:List (Int × Bool)):Prop where
 nd:q.L.Nodup
 cap:q.Cap=((lv s).length:Int)
 jg:∀x∈q.L,Mk m x
 rc:∀x,Mk m x->oC s l x
omit hR in
theorem Ek.room {l:List Int} {q:k7} {m:List (Int × Bool)} (h:Ek s l q m) {x:Int} (hx:x∈lv s) (hm:¬Mk m x):q.L.length<(lv s).length:=by
 have:(x::q.L).length<=(lv s).length:=gi (zak.2 ⟨λk=>hm (h.jg x k),h.nd⟩) λy hy=>by
  rcases zR.1 hy with rfl | k
  .exact hx
  .exact (h.rc y (h.jg y k)).live
 simp only[zA] at this;omega
omit hR in
theorem PH {q:k7} {x:Int} (h:(q.L.length:Int)<q.Cap) (h2:q.L.length<=1000):N9 q x=some (⟨q.L ++ [x],q.Cap⟩,0):=by
 unfold N9 J5 O0;rw[XB,za (by simp;omega)];have:=pk (xs:=q.L) (i:=0) (j:=q.L.length) (by omega) (zF _);rw[show ((0:Nat):Int)=0 from rfl] at this;rw[this];simp only[zL,List.drop_zero,XB];rw[y4 (by omega) (by simp;omega)];rfl
omit hR in
theorem Tu {x:Int} {r:List Int} {c:Int} (h2:r.length<=1000):aV ⟨x::r,c⟩=some (⟨r,c⟩,x,0):=by
 unfold aV eV J5 O0;simp only[XB,zA];have e:(if (if (((r.length+1:Nat):Int))<1 then (((r.length+1:Nat):Int)) else 1) > 0 then (if (((r.length+1:Nat):Int))<1 then (((r.length+1:Nat):Int)) else 1) else 0:Int)=((1:Nat):Int):=by
  rw[za (show ¬(((r.length+1:Nat):Int)<1) by omega)];rfl
 rw[e];have h1:=pk (xs:=x::r) (i:=0) (j:=1) (by omega) (by simp);have h3:=pk (xs:=x::r) (i:=1) (j:=r.length+1) (by omega) (by simp);rw[show ((0:Nat):Int)=0 from rfl] at h1;rw[h1,h3];simp only[XB];have e1:List.drop 0 (List.take 1 (x::r)) = [x]:=by simp
 have e2:List.drop 1 (List.take (r.length+1) (x::r))=r:=by simp
 rw[e1,e2];rfl
abbrev Dj(s:a7)(xs:List Int):Int × k7 × (List (Int × Bool))->Option ((Int × k7 × (List (Int × Bool))) ⊕ (k7 × (List (Int × Bool)))):=
 λ(s114,s115,s116)=>
   if (decide (s114<(xs.length:Int))) then
     (ix xs s114).bind λv126=>
     (ax s v126).bind λv127=>
     if (v127==true) then
      if (!((A6 s116 v126).getD (false:Bool))) then
       (N9 s115 v126).bind λv128=>
       some (.inl (u4 (s114+1),v128.1,(o8 s116 v126 true)))
      else
      some (.inl (u4 (s114+1),s115,s116))
     else
     some (.inl (u4 (s114+1),s115,s116))
   else
   some (.inr (s115,s116))
theorem yr{l xs:List Int}{q:k7}{m:List (Int × Bool)}(hxs:LB xs)(hlen:xs.length<=1000000)(h0:Ek s l q m)(hr:∀x∈xs,x∈lv s->oC s l x) :
  ∃q' m',lp (Dj s xs) (0,q,m)=some (q',m')/\Ek s l q' m'/\(∀x,Mk m' x↔Mk m x\/x∈xs/\x∈lv s)/\(∀x,Mk m' x->Mk m x\/x∈q'.L)/\(∀x∈q.L,x∈q'.L)/\2*Ie s m'+q'.L.length<=2*Ie s m+q.L.length:=by
 have:=dj (f:=Dj s xs) (t0:=(q,m)) xs.length (λk t=>Ek s l t.1 t.2/\(∀x,Mk t.2 x↔Mk m x\/x∈xs.take k/\x∈lv s)/\(∀x,Mk t.2 x->Mk m x\/x∈t.1.L)/\(∀x∈q.L,x∈t.1.L)/\2*Ie s t.2+t.1.L.length<=2*Ie s m+q.L.length)
  (λt=>Ek s l t.1 t.2/\(∀x,Mk t.2 x↔Mk m x\/x∈xs/\x∈lv s)/\(∀x,Mk t.2 x->Mk m x\/x∈t.1.L)/\(∀x∈q.L,x∈t.1.L)/\2*Ie s t.2+t.1.L.length<=2*Ie s m+q.L.length) (by omega)
  ⟨h0,λx=>by simp,λx h=>.inl h,λx h=>h,zF _⟩ (λk t hk hP=>?_) (λt hP=>?_)
 .obtain⟨⟨q',m'⟩,h1,h2⟩:=this;exact⟨q',m',h1,h2⟩
 .obtain⟨q1,m1⟩:=t;obtain⟨p1,p2,p3,p4,p5⟩:=hP;simp only at p1 p2 p3 p4 p5;left;have hle:=hxs _ (zh hk);have ht:∀x,x∈xs.take (k+1)↔x∈xs.take k\/x=xs[k]:=λx=>by rw[zw hk,zt,zJ]
  simp only[Dj,zB,hk,zD,zH,o0 hk,XB,IN hR hle];by_cases hv:xs[k]∈lv s
  .rw[zb (by simpa using hv)];by_cases hm:Mk m1 xs[k]
   .rw[za (by rw[show (A6 m1 xs[k]).getD false=true from hm];decide),k8];refine⟨(q1,m1),rfl,p1,λx=>?_,p3,p4,p5⟩;rw[p2,ht];constructor
    .rintro (a | ⟨a,b⟩);·exact .inl a
     .exact .inr ⟨.inl a,b⟩
    .rintro (a | ⟨a | rfl,b⟩);·exact .inl a
     .exact .inr ⟨a,b⟩
     .exact (p2 _).1 hm
   .have hm':(A6 m1 xs[k]).getD false=false:=by simpa[Mk] using hm
    have hroom:=p1.room hv hm;have hl24:=E2 hR;rw[zb (by rw[hm'];decide),PH (by rw[p1.cap];omega) (by omega),XB,k8];refine⟨(⟨q1.L ++ [xs[k]],q1.Cap⟩,o8 m1 xs[k] true),rfl,⟨?_,p1.cap,λx hx=>?_,λx hx=>?_⟩,λx=>?_,λx hx=>?_,λx hx=>?_,?_⟩
    .simp only;rw[zbv];refine⟨p1.nd,by simp,λa ha b hb e=>?_⟩;rw[zJ] at hb;subst hb;subst e;exact hm (p1.jg _ ha)
    .simp only[zt,zJ] at hx;rw[sp];rcases hx with a | a
     .exact .inr (p1.jg x a)
     .exact .inl a
    .rcases (sp m1 xs[k] x).1 hx with rfl | a
     .exact hr _ (zh hk) hv
     .exact p1.rc x a
    .simp only;rw[sp,p2,ht];constructor
     .rintro (rfl | a | ⟨a,b⟩);·exact .inr ⟨.inr rfl,hv⟩
      .exact .inl a
      .exact .inr ⟨.inl a,b⟩
     .rintro (a | ⟨a | a,b⟩);·exact .inr (.inl a)
      .exact .inr (.inr ⟨a,b⟩)
      .exact .inl a
    .simp only[zt,zJ];rcases (sp m1 xs[k] x).1 hx with a | a
     .exact .inr (.inr a)
     .rcases p3 x a with b | b
      .exact .inl b
      .exact .inr (.inl b)
    .simp only[zt];exact .inl (p4 x hx)
    .have:=Qs hv hm;simp only[zY,List.length_singleton];omega
  .rw[za (by simpa using hv),k8];refine⟨(q1,m1),rfl,p1,λx=>?_,p3,p4,p5⟩;rw[p2,ht];constructor
   .rintro (a | ⟨a,b⟩);·exact .inl a
    .exact .inr ⟨.inl a,b⟩
   .rintro (a | ⟨a | rfl,b⟩);·exact .inl a
    .exact .inr ⟨a,b⟩
    .exact absurd b hv
 .obtain⟨q1,m1⟩:=t;refine⟨(q1,m1),?_,?_⟩;·simp only[Dj,ms,or,zi,zV]
  .simpa using hP
theorem yG(hF:FB s){l:List Int}(hl:LB l)(hlen:l.length<=1000000):∃m,cG s l=some m/\∀x,Mk m x↔oC s l x:=by
 unfold cG dP;simp only[jn,cq hR,XB];have h24:=E2 hR;obtain⟨q0,m0,e0,i0,i1,i2,i3,i4⟩:=yr hR (l:=l) (xs:=l) (q:=⟨[],((lv s).length:Int)⟩) (m:=[]) hl hlen ⟨List.nodup_nil,rfl,(λx hx=>by cases hx),(λx hx=>by simp[Mk,A6] at hx)⟩ (λx h1 h2=>.base h1 h2);rw[show lp _ _=_ from e0,XB];simp only;have hu:Ie s []<=24:=wd (zO ..) h24;obtain⟨m,h1,h2⟩:=px (s0:=(q0,m0)) (f:=λ((s70,s71):k7 × (List (Int × Bool)))=>
    (J5 s70).bind λv74=>
    if (decide (v74 > 0)) then
     (aV s70).bind λv75=>
     (jt s v75.2.1).bind λv76=>
      (lp (Dj s v76) (0,v75.1,s71)).bind λe97=>
      (some (.inl (e97.1,e97.2)):Option ((k7 × List (Int × Bool)) ⊕ List (Int × Bool)))
    else
    some (.inr s71)) (λt=>Ek s l t.1 t.2/\(∀x∈l,x∈lv s->Mk t.2 x)/\∀a,Mk t.2 a->a∈t.1.L\/∀b∈outs s a,b∈lv s->Mk t.2 b) (λm=>∀x,Mk m x↔oC s l x) (λt=>2*Ie s t.2+t.1.L.length)
   ⟨i0,λx h1 h2=>(i1 x).2 (.inr ⟨h1,h2⟩),λa ha=>.inl ((i2 a ha).resolve_left (by simp[Mk,A6]))⟩ (by show 2*Ie s m0+q0.L.length<_;simp only[wp] at i4;omega) (by
   rintro⟨q,m⟩ ⟨p1,p2,p3⟩;simp only at p1 p2 p3 |-;have hq:=gi p1.nd λx hx=>(p1.rc x (p1.jg x hx)).live;unfold J5;rw[XB];cases hqL:q.L with
   | nil=>
    right;refine⟨m,by rw[za (by simp)],λx=>⟨p1.rc x,λh=>?_⟩⟩;induction h with
    | base a b=>exact p2 _ a b
    | step _ a b ih=>
     rcases p3 _ ih with c | c
     .rw[hqL] at c;cases c
     .exact c _ a b
   | cons a r=>
    left;have hqe:q=⟨a::r,q.Cap⟩:=by rw[<-hqL]
    have hal:a∈lv s:=(p1.rc a (p1.jg a (by rw[hqL];exact zk ..))).live;have ha:a<=9223372036854775807:=by have:=iI hR hal;omega
    have hnd:=p1.nd;rw[hqL] at hnd hq;simp only[zA] at hq;obtain⟨q',m',e1,j0,j1,j2,j3,j4⟩:=yr hR (l:=l) (xs:=outs s a) (q:=⟨r,q.Cap⟩) (m:=m) (λx hx=>PB hR hF ha hx) (by have:=ji hR a ha;omega) ⟨(zak.1 hnd).2,p1.cap,λx hx=>p1.jg x (by rw[hqL];exact zq _ hx),p1.rc⟩ (λx h1 h2=>.step (p1.rc a (p1.jg a (by rw[hqL];exact zk ..))) h1 h2);refine⟨(q',m'),?_,⟨j0,λx h1 h2=>(j1 x).2 (.inl (p2 x h1 h2)),λb hb=>?_⟩,?_⟩
    .rw[zb (by simp),hqe,Tu (by omega),XB];simp only;rw[Mg hR ha,XB,e1,XB]
    .simp only at hb |-;rcases j2 b hb with c | c
     .rcases p3 b c with d | d
      .rw[hqL] at d;rcases zR.1 d with rfl | d
       .exact .inr λy h1 h2=>(j1 y).2 (.inr ⟨h1,h2⟩)
       .exact .inl (j3 b d)
      .exact .inr λy h1 h2=>(j1 y).2 (.inl (d y h1 h2))
     .exact .inl c
    .show 2*Ie s m'+q'.L.length<2*Ie s m+(a::r).length;simp only[zA] at j4 |-;omega)
 refine⟨m,?_,h2⟩;rw[show lp _ _=_ from h1];rfl
end
theorem Ll(l:List Int)(x:Int)(hl:l.length<=1000000):∃r:Int,P4 l x=some r/\(0<=r↔x∈l):=by
 unfold P4;simp only[jn];by_cases h:x∈l
 .obtain⟨i,hi,e⟩:=List.mem_iff_getElem.1 h;obtain⟨j,⟨hj,ej⟩,hmin⟩:=bk (p:=λi=>∃hi:i<l.length,l[i]=x) ⟨i,hi,e⟩;refine⟨(j:Int),?_,by simp[h]⟩;refine T1 l.length (λk=>k<=j) (by omega) (un _) (λk hk hP=>?_) (λhP=>by omega);simp only[zB,hk,zD,zH,o0 hk,XB];rcases zy k j with q | q
  .refine .inl ⟨?_,q⟩;rw[za (by
    rw[q9];intro e;have:=hmin k ⟨hk,e.symm⟩;omega),k8]
  .have:k=j:=by omega
   subst this;exact .inr ⟨_,by rw[zb (by simpa using ej.symm)],rfl⟩
 .refine⟨-1,?_,by simp[h]⟩;refine T1 l.length (λk=>True) (by omega) trivial (λk hk hP=>.inl ⟨?_,trivial⟩) (λhP=>⟨.inr (),by simp,rfl⟩);simp only[zB,hk,zD,zH,o0 hk,XB];rw[za (by
   rw[q9];intro e;exact h (e▸zh hk)),k8]
theorem contains_eq(l:List Int)(x:Int)(hl:l.length<=1000000):D6 l x=some (decide (x∈l)):=by
 obtain⟨r,h1,h2⟩:=Ll l x hl;unfold D6;rw[h1,XB];congr 1;exact zay.2 h2
theorem qq(l:List Int)(x:Int)(hl:l.length<=1000000):nE l x=some (decide (x≠0/\x∈l)):=by
 unfold nE;rw[pH l x hl,XB];congr 1;rw[zay,<-cM];omega
open Classical in
theorem DP (all l:List Int) (b:Bool) (ha:all.length<=1000000) (hl:l.length<=1000000) (h0:∀x∈all,x≠0):nF all l b=some (all.filter λx=>decide (x∈l)==b):=by
 unfold nF;simp only[jn];rw[E7 all (λacc x=>if decide (x∈l)==b then acc ++ [x] else acc) id (λk acc=>acc.length<=k) (by omega) (by simp) (λk hk acc hb=>?_) (λb _=>?_)]
 .simp only[XB,id];rw[foldl_filter];rfl
 .simp only[zB,hk,zD,zH,o0 hk,XB,qq _ _ hl];have e:decide (all[k]≠0/\all[k]∈l)=decide (all[k]∈l):=zay.2 ⟨λq=>q.2,λq=>⟨h0 _ (zh hk),q⟩⟩;rw[e];by_cases q:(decide (all[k]∈l)==b)=true
  .rw[zb q,zb q,y4 (by omega) (by simp;omega),XB,k8];exact⟨rfl,by simp;omega⟩
  .rw[za q,za q,k8];exact⟨rfl,by omega⟩
 .simp only[ms,or,zi,zV];rfl
section
variable{s:a7}(hR:rH (sO s))
include hR
theorem Hj:∀x∈lv s,x≠0:=λx hx=>by have:=iI hR hx;omega
open Classical in
theorem GV (hF:FB s) {l:List Int} (hl:LB l) (hlen:l.length<=1000000):gm s l=some (BY s l):=by
 obtain⟨m,h1,h2⟩:=yG hR hF hl hlen;unfold gm Q4 fz;rw[h1,XB];simp only[jn,cq hR,XB];have h24:=E2 hR;rw[E7 (lv s) (λacc x=>if decide (oC s l x) then acc ++ [x] else acc) id (λk acc=>acc.length<=k) (by omega) (by simp) (λk hk acc hb=>?_) (λb _=>?_)]
 .simp only[XB,id];rw[foldl_filter];rfl
 .simp only[zB,hk,zD,zH,o0 hk,XB];by_cases q:oC s l (lv s)[k]
  .rw[zb ((h2 _).2 q),zb (by simpa using q),y4 (by omega) (by simp;omega),XB,k8];exact⟨rfl,by simp;omega⟩
  .rw[za (λk=>q ((h2 _).1 k)),za (by simpa using q),k8];exact⟨rfl,by omega⟩
 .simp only[ms,or,zi,zV];rfl
open Classical in
theorem OZ (hF:FB s) {l:List Int} (hl:LB l) (hlen:l.length<=1000000):kS s l=some (lst s l):=by
 obtain⟨m,h1,h2⟩:=yG hR hF hl hlen;unfold kS Q5 fA;rw[h1,XB];simp only[jn,cq hR,XB];have h24:=E2 hR;rw[E7 (lv s) (λacc x=>if decide (¬oC s l x) then acc ++ [x] else acc) id (λk acc=>acc.length<=k) (by omega) (by simp) (λk hk acc hb=>?_) (λb _=>?_)]
 .simp only[XB,id];rw[foldl_filter];rfl
 .simp only[zB,hk,zD,zH,o0 hk,XB];by_cases q:oC s l (lv s)[k]
  .have e:(A6 m (lv s)[k]).getD false=true:=(h2 _).2 q;rw[za (by rw[e];decide),za (by simpa using q),k8];exact⟨rfl,by omega⟩
  .have e:(A6 m (lv s)[k]).getD false=false:=by
    have:¬Mk m (lv s)[k]:=λk=>q ((h2 _).1 k);simpa[Mk] using this
   rw[zb (by rw[e];decide),zb (by simpa using q),y4 (by omega) (by simp;omega),XB,k8];exact⟨rfl,by simp;omega⟩
 .simp only[ms,or,zi,zV];rfl
def grow(s:a7)(all seen:List Int):List Int:=all.filter λx=>decide (x∈seen++seen.flatMap (outs s))
def Y8(s:a7)(all seen:List Int):Nat->List Int
 | 0=>seen
 | k+1=>grow s all (Y8 s all seen k)
omit hR in
theorem pv (all seen:List Int) (k:Nat):Y8 s all seen (k+1)=grow s all (Y8 s all seen k):=rfl
omit hR in
theorem qp {all seen:List Int} {x:Int}:x∈grow s all seen↔x∈all/\(x∈seen\/∃a∈seen,x∈outs s a):=by
 unfold grow;rw[zm,zx,zt,rg]
open Classical in
omit hR in
theorem Lg (l:List Int):Y8 s (lv s) ((lv s).filter λx=>decide (x∈l)==true) (lv s).length=BY s l:=by
 have hsub:∀k x,x∈Y8 s (lv s) ((lv s).filter λx=>decide (x∈l)==true) k->oC s l x:=by
  intro k;induction k with
  | zero=>
   intro x hx;have:=zm.1 (show x∈(lv s).filter λx=>decide (x∈l)==true from hx);exact .base (by simpa using this.2) this.1
  | succ k ih=>
   intro x hx;rw[pv,qp] at hx;rcases hx.2 with q | ⟨a,q1,q2⟩
   .exact ih x q
   .exact .step (ih a q1) q2 hx.1
 have hall:∀k x,x∈Y8 s (lv s) ((lv s).filter λx=>decide (x∈l)==true) k->x∈lv s:=λk x hx=>(hsub k x hx).live;have hfil:∀k,∃p:Int->Bool,Y8 s (lv s) ((lv s).filter λx=>decide (x∈l)==true) k=(lv s).filter p:=by
  intro k;cases k with
  | zero=>exact⟨_,rfl⟩
  | succ k=>exact⟨_,rfl⟩
 have hinc:∀k x,x∈Y8 s (lv s) ((lv s).filter λx=>decide (x∈l)==true) k->x∈Y8 s (lv s) ((lv s).filter λx=>decide (x∈l)==true) (k+1):=λk x hx=>qp.2 ⟨hall k x hx,.inl hx⟩;have key:∀k,Cl s (Y8 s (lv s) ((lv s).filter λx=>decide (x∈l)==true) k)\/k<=(Y8 s (lv s) ((lv s).filter λx=>decide (x∈l)==true) k).length:=by
  intro k;induction k with
  | zero=>exact .inr (un _)
  | succ k ih=>
   by_cases hc:Cl s (Y8 s (lv s) ((lv s).filter λx=>decide (x∈l)==true) k)
   .left;have:∀x,x∈Y8 s (lv s) ((lv s).filter λx=>decide (x∈l)==true) (k+1)↔x∈Y8 s (lv s) ((lv s).filter λx=>decide (x∈l)==true) k:=λx=>⟨λhx=>by
     rw[pv,qp] at hx;rcases hx.2 with q | ⟨a,q1,q2⟩
     .exact q
     .exact hc a q1 x q2 hx.1,hinc k x⟩
    intro a ha b hb hbl;exact (this b).2 (hc a ((this a).1 ha) b hb hbl)
   .right;have hk:=ih.resolve_left hc;obtain⟨b,hb1,hb2,hb3⟩:∃b,b∈lv s/\b∈Y8 s (lv s) ((lv s).filter λx=>decide (x∈l)==true) (k+1)/\b∉Y8 s (lv s) ((lv s).filter λx=>decide (x∈l)==true) k:=by
     refine we λq=>hc λa ha b hb hbl=>we λq2=>q ⟨b,hbl,qp.2 ⟨hbl,.inr ⟨a,ha,hb⟩⟩,q2⟩
    obtain⟨p,hp⟩:=hfil k;obtain⟨p',hp'⟩:=hfil (k+1);have hi:=hinc k;rw[hp] at hi hb3 hk;rw[hp'] at hi hb2 |-;have:=filter_lt (p:=p) (q:=p') (l:=lv s) (λx hx h=>(zm.1 (hi x (zm.2 ⟨hx,h⟩))).2) b hb1 (zm.1 hb2).2 (by
     cases h:p b;·rfl
     .exact absurd (zm.2 ⟨hb1,h⟩) hb3)
    omega
 have hcl:Cl s (Y8 s (lv s) ((lv s).filter λx=>decide (x∈l)==true) (lv s).length):=by
  rcases key (lv s).length with q | q
  .exact q
  .obtain⟨p,hp⟩:=hfil (lv s).length;rw[hp] at q |-;have:(lv s).filter p=lv s:=zan.2 λx hx=>by
    cases h:p x
    .have:=filter_lt (p:=p) (q:=λ_=>true) (l:=lv s) (λ_ _ _=>rfl) x hx rfl h;rw[zan.2 (λ_ _=>rfl)] at this;omega
    .rfl
   rw[this];exact λ_ _ _ _ h=>h
 have hbase:∀k x,x∈l->x∈lv s->x∈Y8 s (lv s) ((lv s).filter λx=>decide (x∈l)==true) k:=by
  intro k;induction k with
  | zero=>intro x h1 h2;exact zm.2 ⟨h2,by simpa using h1⟩
  | succ k ih=>intro x h1 h2;exact hinc k x (ih x h1 h2)
 have hiff:∀x,x∈Y8 s (lv s) ((lv s).filter λx=>decide (x∈l)==true) (lv s).length↔oC s l x:=λx=>⟨hsub _ x,λq=>oC.least hcl (hbase _) q⟩;obtain⟨p,hp⟩:=hfil (lv s).length;rw[hp];unfold BY;refine zar λx hx=>?_;have:=hiff x;rw[hp,zm] at this;rw[za2,zx,<-this];exact⟨λh=>⟨hx,h⟩,λh=>h.2⟩
open Classical in
theorem xW {l:List Int} (hlen:l.length<=1000000):mH (sO s) l=some (BY s l):=by
 unfold mH;have h24:=E2 hR;rw[mA hR,XB,DP _ _ _ (by omega) hlen (Hj hR),XB];simp only[jn];have hg:∀k,(Y8 s (lv s) ((lv s).filter λx=>decide (x∈l)==true) k).length<=24/\∀x∈Y8 s (lv s) ((lv s).filter λx=>decide (x∈l)==true) k,x∈lv s:=by
  intro k;cases k with
  | zero=>exact⟨wd (zO ..) h24,λx hx=>(zm.1 (show x∈(lv s).filter λx=>decide (x∈l)==true from hx)).1⟩
  | succ k=>exact⟨wd (zO ..) h24,λx hx=>(zm.1 (show x∈(lv s).filter _ from hx)).1⟩
 refine cp (p:=λk=>(Y8 s (lv s) ((lv s).filter λx=>decide (x∈l)==true) k,(k:Int))) rfl (lv s).length (λ_=>True) (by omega) trivial (λk hk _=>.inl ⟨?_,trivial⟩) (λ_=>⟨_,by simp only[ms,or,zi,zV];rfl,by rw[Lg l]⟩);obtain⟨g1,g2⟩:=hg k;simp only[zB,hk,zD,zH];rw[I9 (by omega) (by omega),XB];generalize hS:Y8 s (lv s) ((lv s).filter λx=>decide (x∈l)==true) k=S at g1 g2;have hSle:∀x∈S,x<=9223372036854775807:=λx hx=>by have:=iI hR (g2 x hx);omega
 have hflat:∀T:List Int,T.length<=24->(∀x∈T,x<=9223372036854775807)->(T.flatMap (outs s)).length<=96:=λT h1 h2=>by
  rw[List.length_flatMap];have:=BE (λx=>(outs s x).length) 4 T λx hx=>ji hR x (h2 x hx);omega
 rw[E7 S (λacc x=>acc++outs s x) id (λj acc=>acc.length<=S.length+4*j) (by omega) (by simp) (λj hj acc hb=>?_) (λb _=>?_)]
 .simp only[XB,id];rw[de,DP _ _ _ (by omega) (by
   have:=hflat S g1 hSle;simp only[zY];omega) (Hj hR),XB,k8,pv,hS]
  unfold grow;congr 3;refine zar λx _=>?_;rw[za2];simp
 .have ho:=ji hR _ (hSle _ (zh hj));simp only[zB,hj,zD,zH,o0 hj,XB,Dc hR (hSle _ (zh hj))];rw[y4 (by omega) (by omega),XB,k8];exact⟨rfl,by simp;omega⟩
 .simp only[ms,or,zi,zV];rfl
end
abbrev Tb:=List b8
abbrev K1(p:b8):l6:=⟨p.State,p.Key,p.Val⟩
def pt(t:Tb)(j:Nat):b8:=t.getD j ⟨0,0,0⟩
theorem tp{t:Tb}{j:Nat}(h:j<t.length):pt t j=t[j]:=by unfold pt;rw[zd,zc h];rfl
theorem yb{t:Tb}{j:Nat}(h:j<t.length):ix t (j:Int)=some (pt t j):=by rw[o0 h,tp h]
theorem vP{t:Tb}{i:Nat}(h:i<t.length)(p:b8)(j:Nat):pt (t.set i p) j=if j=i then p else pt t j:=by
 unfold pt;rw[zd,zd,List.getElem?_set];by_cases e:i=j
 .subst e;simp[h]
 .rw[za e,za (zal e)]
def hm(n:Nat)(k:Int):Nat:=(u4 ((u4 (5*k))+1) % (n:Int)).toNat
theorem Lj{n:Nat}(h:1<=n)(k:Int):hm n k<n:=by
 unfold hm;have h1:=Int.emod_nonneg (u4 ((u4 (5*k))+1)) (show (n:Int)≠0 by omega);have h2:=Int.emod_lt_of_pos (u4 ((u4 (5*k))+1)) (show (0:Int)<n by omega);omega
theorem ur{n:Nat}(h:1<=n)(h2:n<=1000)(k:Int):ak n k=some (hm n k:Int):=by
 unfold ak hm;rw[za (by simp;omega)];generalize u4 ((u4 (5*k))+1)=a;have hp:=Int.emod_nonneg a (show (n:Int)≠0 by omega);have hl:=Int.emod_lt_of_pos a (show (0:Int)<n by omega);unfold rem;rw[za (by omega),XB,Int.toNat_of_nonneg hp];rw[Int.tmod_eq_emod];split;·rw[show a % (n:Int)-((0:Nat):Int)=a % n by simp,za (by simp;omega)]
 .have:((n:Int).natAbs:Int)=n:=by simp
  rw[this];rw[zb (by simp;omega),D1 (by omega) (by omega)];congr 1;omega
def pos(n:Nat)(k:Int)(d:Nat):Nat:=(hm n k+d) % n
theorem eU{n:Nat}(h:1<=n)(k:Int)(d:Nat):pos n k d<n:=Nat.mod_lt _ h
theorem Rr{n:Nat}(h:1<=n)(h8:n<=8):n=1\/n=2\/n=3\/n=4\/n=5\/n=6\/n=7\/n=8:=by omega
theorem LI{n m i:Nat}(h:1<=n)(h8:n<=8)(hm:m<n)(hi:i<n):∃d,d<n/\(m+d) % n=i:=by
 refine⟨(i+n-m) % n,Nat.mod_lt _ h,?_⟩;rcases Rr h h8 with rfl | rfl | rfl | rfl | rfl | rfl | rfl | rfl <;> omega
theorem Pg{n m d d':Nat}(h:1<=n)(h8:n<=8)(hd:d<n)(hd':d'<n)(e:(m+d) % n=(m+d') % n):d=d':=by
 rcases Rr h h8 with rfl | rfl | rfl | rfl | rfl | rfl | rfl | rfl <;> omega
theorem Dh{n:Nat}(h:1<=n)(h8:n<=8)(k:Int){i:Nat}(hi:i<n):∃d,d<n/\pos n k d=i:=LI h h8 (Lj h k) hi
theorem PF{n:Nat}(h:1<=n)(h8:n<=8){k:Int}{d d':Nat}(hd:d<n)(hd':d'<n)(e:pos n k d=pos n k d'):d=d':=Pg h h8 hd hd' e
structure HR (t:Tb):Prop where
 l1:1<=t.length
 l8:t.length<=8
 st:∀i,i<t.length->((pt t i).State=0\/(pt t i).State=1\/(pt t i).State=2)/\((pt t i).State≠1->(pt t i).Key=0/\(pt t i).Val=0)
 uq:∀i j,i<t.length->j<t.length->(pt t i).State=1->(pt t j).State=1->(pt t i).Key=(pt t j).Key->i=j
 rd:∀i,i<t.length->(pt t i).State=1->∀d,d<t.length->(∀d',d'<=d->pos t.length (pt t i).Key d'≠i)->(pt t (pos t.length (pt t i).Key d)).State≠0
def Fk(t:Tb)(k:Int)(i:Nat):Prop:=i<t.length/\(pt t i).State=1/\(pt t i).Key=k
instance(t:Tb)(k:Int)(i:Nat):Decidable (Fk t k i):=by unfold Fk;infer_instance
theorem step_eq{n:Nat}(h:1<=n)(h2:n<=1000)(k:Int){d:Nat}(hd:d<n):rem (u4 ((hm n k:Int)+d)) n=some ((pos n k d:Nat):Int):=by
 have:=Lj h k;rw[D1 (by omega) (by omega),nN (by omega) (by omega)];unfold pos;simp[Int.natCast_emod]
theorem xS{t:Tb}(h1:1<=t.length)(h8:t.length<=8)(k:Int) :
  (∃d,d<t.length/\(∀j,j<d->(pt t (pos t.length k j)).State≠0/\¬Fk t k (pos t.length k j))/\Fk t k (pos t.length k d)/\W0 t k=some ((pos t.length k d:Nat):Int)) \/
  (∃d,d<=t.length/\(∀j,j<d->(pt t (pos t.length k j)).State≠0/\¬Fk t k (pos t.length k j))/\(d=t.length\/(pt t (pos t.length k d)).State=0)/\W0 t k=some (-1)):=by
 unfold W0;simp only[jn,fH,XB];generalize hq:(lp (S:=Int) (E:=Int ⊕ Unit) _ 0)=q;have body:∀d:Nat,d<t.length->(if (decide ((d:Int)<(t.length:Int))) then
    (ak (t.length:Int) k).bind λv14=>
    (rem (u4 (v14+d)) (t.length:Int)).bind λv15=>
    (ix t v15).bind λv16=>
    if (v16.State==0) then
     some (.inr (.inr ()))
    else
    if ((v16.State==1)&&(v16.Key==k)) then
     some (.inr (.inl v15))
    else
    some (.inl (u4 ((d:Int)+1)))
   else
   some (.inr (.inr ())):Option (Int ⊕ (Int ⊕ Unit)))=if (pt t (pos t.length k d)).State=0 then some (.inr (.inr ())) else if Fk t k (pos t.length k d) then some (.inr (.inl ((pos t.length k d:Nat):Int))) else some (.inl ((d+1:Nat):Int)):=λd hd=>by
  have hp:=eU h1 k d;rw[zb (by simpa using hd),ur h1 (by omega),XB,step_eq h1 (by omega) k hd,XB,yb hp,XB,k8 (by omega)];by_cases a:(pt t (pos t.length k d)).State=0
  .rw[zb (by simpa using a),zb a]
  .rw[za (by simpa using a),za a];by_cases b:Fk t k (pos t.length k d)
   .rw[zb (by simp[b.2.1,b.2.2]),zb b]
   .rw[za (by simp;exact λh1 h2=>b ⟨hp,h1,h2⟩),za b]
 have key:=yi (f:=λ(s12:Int)=>if (decide (s12<(t.length:Int))) then
    (ak (t.length:Int) k).bind λv14=>
    (rem (u4 (v14+s12)) (t.length:Int)).bind λv15=>
    (ix t v15).bind λv16=>
    if (v16.State==0) then
     some (.inr (.inr ()))
    else
    if ((v16.State==1)&&(v16.Key==k)) then
     some (.inr (.inl v15))
    else
    some (.inl (u4 (s12+1)))
   else
   some (.inr (.inr ()))) t.length (λd=>∀j,j<d->(pt t (pos t.length k j)).State≠0/\¬Fk t k (pos t.length k j))
   (λ(e:Int ⊕ Unit)=>(∃d,d<t.length/\(∀j,j<d->(pt t (pos t.length k j)).State≠0/\¬Fk t k (pos t.length k j))/\Fk t k (pos t.length k d)/\e = .inl ((pos t.length k d:Nat):Int)) \/
    (∃d,d<=t.length/\(∀j,j<d->(pt t (pos t.length k j)).State≠0/\¬Fk t k (pos t.length k j))/\(d=t.length\/(pt t (pos t.length k d)).State=0)/\e = .inr ())) (by omega) (λj hj=>by omega)
   (λd hd hP=>by
    rw[body d hd];by_cases a:(pt t (pos t.length k d)).State=0
    .rw[zb a];exact .inr ⟨_,rfl,.inr ⟨d,by omega,hP,.inr a,rfl⟩⟩
    .rw[za a];by_cases b:Fk t k (pos t.length k d)
     .rw[zb b];exact .inr ⟨_,rfl,.inl ⟨d,hd,hP,b,rfl⟩⟩
     .rw[za b];refine .inl ⟨rfl,λj hj=>?_⟩;rcases zy j d with q | q
      .exact hP j q
      .have:j=d:=by omega
       subst this;exact⟨a,b⟩)
   (λhP=>⟨.inr (),by simp,.inr ⟨t.length,zF _,hP,.inl rfl,rfl⟩⟩)
 obtain⟨e,he,hQ⟩:=key;rw[he] at hq;subst hq;rcases hQ with ⟨d,a1,a2,a3,rfl⟩ | ⟨d,a1,a2,a3,rfl⟩;·exact .inl ⟨d,a1,a2,a3,rfl⟩
 .exact .inr ⟨d,a1,a2,a3,rfl⟩
theorem kh{t:Tb}(hR:HR t){k:Int}{i:Nat}(hi:Fk t k i):W0 t k=some (i:Int):=by
 obtain⟨di,hdi,hpi⟩:=Dh hR.l1 hR.l8 k hi.1;have road:∀d,d<di->(pt t (pos t.length k d)).State≠0:=λd hd=>by
  have:=hR.rd i hi.1 hi.2.1 d (by omega) (λd' hd' e=>by
   rw[hi.2.2] at e;have:=PF hR.l1 hR.l8 (by omega) hdi (e.trans hpi.symm);omega)
  rwa [hi.2.2] at this
 rcases xS hR.l1 hR.l8 k with ⟨d,a1,a2,a3,a4⟩ | ⟨d,a1,a2,a3,a4⟩;·rw[a4,hR.uq _ i (eU hR.l1 k d) hi.1 a3.2.1 hi.2.1 (by rw[a3.2.2,hi.2.2])]
 .exfalso;rcases zy di d with q | q
  .exact (a2 di q).2 (by rw[hpi];exact hi)
  .rcases a3 with rfl | a3
   .omega
   .rcases zy d di with q' | q'
    .exact road d q' a3
    .have:d=di:=by omega
     subst this;rw[hpi,hi.2.1] at a3;cases a3
theorem gR{t:Tb}(h1:1<=t.length)(h8:t.length<=8){k:Int}(hi:∀i,¬Fk t k i):W0 t k=some (-1):=by
 rcases xS h1 h8 k with ⟨d,a1,a2,a3,a4⟩ | ⟨d,a1,a2,a3,a4⟩;·exact absurd a3 (hi _)
 .exact a4
theorem th(t:Tb)(k:Int):(∃i,Fk t k i)\/∀i,¬Fk t k i:=by
 by_cases h:∃i,Fk t k i
 .exact .inl h
 .exact .inr λi hi=>h ⟨i,hi⟩
theorem wW{t:Tb}{i:Nat}(h8:t.length<=1000)(hi:i<t.length)(p:b8):bG t (i:Int) p=some (t.set i p):=by
 unfold bG C7;rw[I9 (by omega) (by omega),XB,o0 hi,XB,zQ]
inductive tG (t:Tb) (k v:Int):Tb × Int->Prop
 | old (i:Nat) (hi:Fk t k i):tG t k v (t.set i ⟨1,k,v⟩,0)
 | new (d:Nat) (hn:∀i,¬Fk t k i) (hd:d<t.length) (hb:∀j,j<d->(pt t (pos t.length k j)).State=1) (hf:(pt t (pos t.length k d)).State≠1):tG t k v (t.set (pos t.length k d) ⟨1,k,v⟩,0)
 | full (hn:∀i,¬Fk t k i) (ha:∀i,i<t.length->(pt t i).State=1):tG t k v (t,8)
theorem Fy{t:Tb}(hR:HR t)(k v:Int):∃r,mq t k v=some r/\tG t k v r:=by
 have h1:=hR.l1;have h8:=hR.l8;unfold mq;rcases th t k with ⟨i,hi⟩ | hn
 .rw[kh hR hi,XB,zb (by simp),wW (by omega) hi.1];exact⟨_,rfl,.old i hi⟩
 .rw[gR h1 h8 hn,XB,za (by decide)];simp only[jn,fH,XB];have key:=yi (f:=λ(s15:Int)=>
   if (decide (s15<(t.length:Int))) then
    (ak (t.length:Int) k).bind λv17=>
    (rem (u4 (v17+s15)) (t.length:Int)).bind λv18=>
    (ix t v18).bind λv19=>
    if (v19.State != 1) then
     (bG t v18 (⟨1,k,v⟩:b8)).bind λv20=>
     some (Sum.inr (.inl (v20,(0:Int))))
    else
    some (.inl (u4 (s15+1)))
   else
   some (.inr (.inr ()))) t.length (λd=>∀j,j<d->(pt t (pos t.length k j)).State=1)
   (λ(e:(Tb × Int) ⊕ Unit)=>(∃r,e = .inl r/\tG t k v r)\/(e = .inr ()/\tG t k v (t,8))) (by omega) (λj hj=>by omega)
   (λd hd hP=>by
    have hp:=eU h1 k d;rw[zb (by simpa using hd),ur h1 (by omega),XB,step_eq h1 (by omega) k hd,XB,yb hp,XB];by_cases a:(pt t (pos t.length k d)).State=1
    .rw[za (by simpa using a),k8 (by omega)];refine .inl ⟨rfl,λj hj=>?_⟩;rcases zy j d with q | q
     .exact hP j q
     .have:j=d:=by omega
      subst this;exact a
    .rw[zb (by simpa using a),wW (by omega) hp,XB];exact .inr ⟨_,rfl,.inl ⟨_,rfl,.new d hn hd hP a⟩⟩)
   (λhP=>⟨.inr (),by simp,.inr ⟨rfl,.full hn λi hi=>by
    obtain⟨d,hd,rfl⟩:=Dh h1 h8 k hi;exact hP d hd⟩⟩)
  obtain⟨e,he,hQ⟩:=key;rw[he,XB];rcases hQ with ⟨r,rfl,hr⟩ | ⟨rfl,hr⟩;·exact⟨r,rfl,hr⟩
  .exact⟨_,rfl,hr⟩
theorem EU{t:Tb}(hR:HR t){k:Int}{i:Nat}(hi:Fk t k i):K0 t k=some ((pt t i).Val,0):=by
 unfold K0;rw[kh hR hi,XB,za (by simp),yb hi.1,XB]
theorem ET{t:Tb}(hR:HR t){k:Int}(hi:∀i,¬Fk t k i):K0 t k=some (0,9):=by
 unfold K0;rw[gR hR.l1 hR.l8 hi,XB,zb (by decide)]
theorem nt{t:Tb}(hR:HR t){k:Int}{i:Nat}(hi:Fk t k i):V9 t k=some (t.set i ⟨2,0,0⟩,(pt t i).Val,0):=by
 have:=hR.l8;unfold V9;rw[kh hR hi,XB,za (by simp),wW (by omega) hi.1,XB,yb hi.1,XB]
theorem ns{t:Tb}(hR:HR t){k:Int}(hi:∀i,¬Fk t k i):V9 t k=some (t,0,9):=by
 unfold V9;rw[gR hR.l1 hR.l8 hi,XB,zb (by decide)]
theorem HR.set{t:Tb}(hR:HR t){i:Nat}(hi:i<t.length){p:b8}(h0:p.State=1\/p=⟨2,0,0⟩)
  (hu:p.State=1->∀j,j≠i->¬Fk t p.Key j)(hr:p.State=1->∀d,d<t.length->(∀d',d'<=d->pos t.length p.Key d'≠i)->(pt t (pos t.length p.Key d)).State≠0):HR (t.set i p):=by
 have hnz:p.State≠0:=by
  rcases h0 with h | rfl
  .omega
  .simp
 refine⟨by simpa using hR.l1,by simpa using hR.l8,λj hj=>?_,λj j' hj hj' s1 s2 hk=>?_,λj hj s1 d hd hne=>?_⟩ <;> simp only[zbh] at *
 .rw[vP hi];split
  .rcases h0 with h | rfl
   .exact⟨.inr (.inl h),λq=>absurd h q⟩
   .exact⟨.inr (.inr rfl),λ_=>⟨rfl,rfl⟩⟩
  .exact hR.st j hj
 .rw[vP hi] at s1 s2 hk;rw[vP hi] at hk;by_cases e1:j=i <;> by_cases e2:j'=i
  .rw[e1,e2]
  .rw[zb e1] at s1 hk;rw[za e2] at s2 hk;exact absurd ⟨hj',s2,hk.symm⟩ (hu s1 j' e2)
  .rw[za e1] at s1 hk;rw[zb e2] at s2 hk;exact absurd ⟨hj,s1,hk⟩ (hu s2 j e1)
  .rw[za e1] at s1 hk;rw[za e2] at s2 hk;exact hR.uq j j' hj hj' s1 s2 hk
 .simp only[vP hi] at s1 hne |-;by_cases e1:j=i
  .simp only[zb e1] at s1 hne |-;split;·exact hnz
   .exact hr s1 d hd (by rw[<-e1];exact hne)
  .simp only[za e1] at s1 hne |-;split;·exact hnz
   .exact hR.rd j hj s1 d hd hne
theorem pB{t:Tb}(hR:HR t){k v:Int}{r:Tb × Int}(h:tG t k v r):HR r.1:=by
 cases h with
 | old i hi=>
  refine hR.set hi.1 (.inl rfl) (λ_ j hj q=>hj (hR.uq j i q.1 hi.1 q.2.1 hi.2.1 (q.2.2.trans hi.2.2.symm))) λ_ d hd hne=>?_;have:=hR.rd i hi.1 hi.2.1 d hd (by rw[hi.2.2];exact hne);rwa [hi.2.2] at this
 | new d hn hd hb hf=>
  refine hR.set (eU hR.l1 k d) (.inl rfl) (λ_ j _=>hn j) λ_ d' hd' hne=>?_;rcases zy d' d with q | q
  .have:=hb d' q;simp only;omega
  .exact absurd rfl (hne d q)
 | full hn ha=>exact hR
theorem gO{t:Tb}(hR:HR t){i:Nat}(hi:i<t.length):HR (t.set i ⟨2,0,0⟩):=hR.set hi (.inr rfl) (λq=>by cases q) λq=>by cases q
theorem QV{t:Tb}{j:Nat}(h:j<t.length):ix (t.map K1) (j:Int)=some (K1 (pt t j)):=by rw[bc,yb h];rfl
theorem MC{t:Tb}(h8:t.length<=1000){k:Int}{i:Nat}(hi:Fk t k i)(hf:∀j,j<i->¬Fk t k j):cE (t.map K1) k=some (i:Int):=by
 unfold cE;simp only[jn];refine T1 t.length (λj=>j<=i) (by omega) (un _) (λj hj hP=>?_) (λhP=>by have:=hi.1;omega);rw[zb (by simpa using hj),QV hj,XB];by_cases e:j=i
 .subst e;exact .inr ⟨.inl (j:Int),by rw[zb (by simp[K1,hi.2.1,hi.2.2])],rfl⟩
 .have:=hf j (by omega);refine .inl ⟨by rw[za (by simp[K1];exact λh1 h2=>this ⟨hj,h1,h2⟩),k8 (by omega)],by omega⟩
theorem MA{t:Tb}(h8:t.length<=1000){k:Int}(hf:∀j,¬Fk t k j):cE (t.map K1) k=some (-1):=by
 unfold cE;simp only[jn];refine T1 t.length (λj=>True) (by omega) trivial (λj hj hP=>?_) (λhP=>⟨.inr (),by simp,rfl⟩);rw[zb (by simpa using hj),QV hj,XB];refine .inl ⟨by rw[za (by simp[K1];exact λh1 h2=>hf j ⟨hj,h1,h2⟩),k8 (by omega)],trivial⟩
theorem KX{t:Tb}{k:Int}(h:∃i,Fk t k i):∃i,Fk t k i/\∀j,j<i->¬Fk t k j:=by
 obtain⟨i,h1,h2⟩:=bk h;exact⟨i,h1,λj hj q=>by have:=h2 j q;omega⟩
theorem yE{t:Tb}{i:Nat}(h8:t.length<=1000)(hi:i<t.length)(p:b8):ez (t.map K1) (i:Int) (K1 p)=some ((t.set i p).map K1):=by
 unfold ez;rw[I9 (by omega) (by simp;omega),XB,QV hi,XB,zQ,zcc]
theorem Dz:vY=ak:=rfl
theorem Rm{n:Nat}(h1:1<=n)(h8:n<=8)(k:Int)(d:Nat):rem (u4 (((pos n k d:Nat):Int)+1)) n=some ((pos n k (d+1):Nat):Int):=by
 have:=eU h1 k d;rw[D1 (by omega) (by omega),nN (by omega) (by omega)];unfold pos;congr 1;have:((hm n k+d) % n+1) % n=(hm n k+(d+1)) % n:=by rw[Nat.mod_add_mod];rfl
 rw[<-this];simp[Int.natCast_emod]
theorem Di{n:Nat}(h1:1<=n)(k:Int):pos n k 0=hm n k:=by
 unfold pos;rw[zax,Nat.mod_eq_of_lt (Lj h1 k)]
def Has(t:Tb)(k v:Int):Prop:=∃i,Fk t k i/\(pt t i).Val=v
theorem SG{t:Tb}{k:Int}:(∀v,¬Has t k v)↔∀i,¬Fk t k i:=by
 constructor;·intro h i hi;exact h _ ⟨i,hi,rfl⟩
 .rintro h v ⟨i,hi,_⟩;exact h i hi
theorem SH(t:Tb)(k:Int):(∃v,Has t k v)\/∀v,¬Has t k v:=by
 by_cases h:∃v,Has t k v
 .exact .inl h
 .exact .inr λv hv=>h ⟨v,hv⟩
theorem Has.fn{t:Tb}(hR:HR t){k v v':Int}(h:Has t k v)(h':Has t k v'):v=v':=by
 obtain⟨i,a,rfl⟩:=h;obtain⟨j,b,rfl⟩:=h';rw[hR.uq i j a.1 b.1 a.2.1 b.2.1 (a.2.2.trans b.2.2.symm)]
theorem GX{t:Tb}(hR:HR t){k v:Int}(h:Has t k v):K0 t k=some (v,0):=by
 obtain⟨i,a,rfl⟩:=h;exact EU hR a
theorem IJ{t:Tb}(hR:HR t){k:Int}(h:∀v,¬Has t k v):K0 t k=some (0,9):=ET hR (SG.1 h)
theorem AD{t:Tb}{i:Nat}(hi:i<t.length){k v:Int}(p:b8)(h:∀j,j≠i->Fk t p.Key j->p.State≠1)(k' v':Int) :
  Has (t.set i p) k' v'↔(p.State=1/\p.Key=k'/\p.Val=v')\/∃j,j≠i/\Fk t k' j/\(pt t j).Val=v':=by
 unfold Has Fk;simp only[zbh,vP hi];constructor
 .rintro⟨j,⟨h1,h2,h3⟩,h4⟩;by_cases e:j=i
  .rw[zb e] at h2 h3 h4;exact .inl ⟨h2,h3,h4⟩
  .rw[za e] at h2 h3 h4;exact .inr ⟨j,e,⟨h1,h2,h3⟩,h4⟩
 .rintro (⟨h1,h2,h3⟩ | ⟨j,e,⟨h1,h2,h3⟩,h4⟩);·exact⟨i,by simp[hi,h1,h2,h3]⟩
  .exact⟨j,by simp[e,h1,h2,h3,h4]⟩
theorem AX{t:Tb}(hR:HR t){k v:Int}{r:Tb × Int}(h:tG t k v r)(h0:r.2=0)(k' v':Int):Has r.1 k' v'↔(k'=k/\v'=v)\/(k'≠k/\Has t k' v'):=by
 cases h with
 | old i hi=>
  rw[AD (k:=k) (v:=v) hi.1 _ (λj hj q=>absurd (hR.uq j i q.1 hi.1 q.2.1 hi.2.1 (q.2.2.trans hi.2.2.symm)) hj)];constructor
  .rintro (⟨_,rfl,rfl⟩ | ⟨j,e,h1,h2⟩);·exact .inl ⟨rfl,rfl⟩
   .refine .inr ⟨λq=>?_,j,h1,h2⟩;subst q;exact e (hR.uq j i h1.1 hi.1 h1.2.1 hi.2.1 (h1.2.2.trans hi.2.2.symm))
  .rintro (⟨rfl,rfl⟩ | ⟨e,j,h1,h2⟩);·exact .inl ⟨rfl,rfl,rfl⟩
   .refine .inr ⟨j,λq=>?_,h1,h2⟩;subst q;exact e (h1.2.2.symm.trans hi.2.2)
 | new d hn hd hb hf=>
  rw[AD (k:=k) (v:=v) (eU hR.l1 k d) _ (λj hj q=>absurd q (hn j))];constructor
  .rintro (⟨_,rfl,rfl⟩ | ⟨j,e,h1,h2⟩);·exact .inl ⟨rfl,rfl⟩
   .refine .inr ⟨λq=>?_,j,h1,h2⟩;subst q;exact hn j h1
  .rintro (⟨rfl,rfl⟩ | ⟨e,j,h1,h2⟩);·exact .inl ⟨rfl,rfl,rfl⟩
   .refine .inr ⟨j,λq=>?_,h1,h2⟩;subst q;exact hf h1.2.1
 | full hn ha=>cases h0
theorem vg{t:Tb}(hR:HR t){k:Int}{i:Nat}(hi:Fk t k i)(k' v':Int):Has (t.set i ⟨2,0,0⟩) k' v'↔k'≠k/\Has t k' v':=by
 rw[AD (k:=k) (v:=0) hi.1 _ (λj hj q=>by simp)];constructor
 .rintro (⟨h,_⟩ | ⟨j,e,h1,h2⟩);·cases h
  .refine⟨λq=>?_,j,h1,h2⟩;subst q;exact e (hR.uq j i h1.1 hi.1 h1.2.1 hi.2.1 (h1.2.2.trans hi.2.2.symm))
 .rintro⟨e,j,h1,h2⟩;refine .inr ⟨j,λq=>?_,h1,h2⟩;subst q;exact e (h1.2.2.symm.trans hi.2.2)
theorem Jt{l:List l6}(h:l.length<=100000):qU l l=some true:=by
 unfold qU;rw[za (by simp)];simp only[jn];refine T1 l.length (λ_=>True) (by omega) trivial (λk hk _=>.inl ⟨?_,trivial⟩) (λ_=>⟨.inr (),by simp,rfl⟩);rw[zb (by simpa using hk),o0 hk,XB,XB,za (by simp),k8 (by omega)]
theorem EZ{l:List Int}(h:l.length<=100000):eh l l=some true:=by
 unfold eh;rw[za (by simp)];simp only[jn];refine T1 l.length (λ_=>True) (by omega) trivial (λk hk _=>.inl ⟨?_,trivial⟩) (λ_=>⟨.inr (),by simp,rfl⟩);rw[zb (by simpa using hk),o0 hk,XB,XB,za (by simp),k8 (by omega)]
def keys(t:Tb):List Int:=(t.filter (·.State==1)).map (·.Key)
theorem vn{α β:Type}(p:α->Bool)(f:α->β)(l:List α)(k:Nat)(h:k<l.length):((l.take (k+1)).filter p).map f=((l.take k).filter p).map f++(if p l[k] then [f l[k]] else []):=by
 rw[zw h,zaw,my];congr 1;simp only[rx,zca];split <;> rfl
theorem keys_eq{t:Tb}(h:t.length<=1000):jc t=some (keys t):=by
 unfold jc keys;simp only[jn];refine M2 t.length (λk l=>l=((t.take k).filter (·.State==1)).map (·.Key)) (by omega) (by simp) ?_ (λl hl=>⟨_,by simp;rfl,by rw[hl,zL]⟩);rintro k l hk rfl;left;rw[vn _ _ _ _ hk];rw[zb (by simpa using hk),o0 hk,XB,k8 (by omega)];have hle:(List.map (·.Key) (List.filter (·.State==1) (List.take k t))).length<=1000:=by
  rw[wt];exact wd (zO ..) (by simp;omega)
 by_cases c:(t[k].State==1)=true
 .rw[zb c,zb c,y4 (by omega) (by simp only[zA,wp];omega),XB];exact⟨_,rfl,rfl⟩
 .rw[za c,za c];exact⟨_,rfl,by simp⟩
theorem ME{t:Tb}(h:t.length<=1000):vZ (t.map K1)=some (keys t):=by
 unfold vZ keys;simp only[jn];refine M2 t.length (λk l=>l=((t.take k).filter (·.State==1)).map (·.Key)) (by omega) (by simp) ?_ (λl hl=>⟨_,by simp;rfl,by rw[hl,zL]⟩);rintro k l hk rfl;left;rw[vn _ _ _ _ hk];rw[zb (by simpa using hk),bc,o0 hk,zM,XB,k8 (by omega)];have hle:(List.map (·.Key) (List.filter (·.State==1) (List.take k t))).length<=1000:=by
  rw[wt];exact wd (zO ..) (by simp;omega)
 by_cases c:(t[k].State==1)=true
 .rw[zb (by simpa[K1] using c),zb c,y4 (by omega) (by simp only[zA,wp];omega),XB];exact⟨_,rfl,rfl⟩
 .rw[za (by simpa[K1] using c),za c];exact⟨_,rfl,by simp⟩
theorem Bm{t:Tb}(hR:HR t)(k:Int):cE (t.map K1) k=W0 t k:=by
 have h8:=hR.l8;rcases th t k with ⟨i,hi⟩ | hn
 .rw[kh hR hi];obtain⟨f,hf1,hf2⟩:=KX ⟨i,hi⟩;rw[MC (by omega) hf1 hf2,hR.uq f i hf1.1 hi.1 hf1.2.1 hi.2.1 (hf1.2.2.trans hi.2.2.symm)]
 .rw[gR hR.l1 hR.l8 hn,MA (by omega) hn]
theorem MD{t:Tb}(hR:HR t)(k:Int):qT (t.map K1) k=K0 t k:=by
 unfold qT K0;rw[Bm hR];rcases th t k with ⟨i,hi⟩ | hn;·rw[kh hR hi,XB,XB,za (by simp),za (by simp),QV hi.1,yb hi.1];rfl
 .rw[gR hR.l1 hR.l8 hn];rfl
theorem Mz{t:Tb}(hR:HR t)(k:Int):mJ (t.map K1) k=(V9 t k).map λr=>(r.1.map K1,r.2):=by
 have h8:=hR.l8;rcases th t k with ⟨i,hi⟩ | hn
 .rw[nt hR hi];unfold mJ;rw[Bm hR,kh hR hi,XB,za (by simp)];have:=yE (t:=t) (by omega) hi.1 ⟨2,0,0⟩;dsimp only[K1] at this;rw[this,XB,QV hi.1];rfl
 .rw[ns hR hn];unfold mJ;rw[Bm hR,gR hR.l1 hR.l8 hn];rfl
theorem VP{t:Tb}(hR:HR t)(k v:Int){r:Tb × Int}(h:tG t k v r):Bf (t.map K1) k v=some (r.1.map K1,r.2):=by
 have h1:=hR.l1;have h8:=hR.l8;unfold Bf;rw[Bm hR];have hw:∀i,i<t.length->ez (t.map K1) (i:Int) ⟨1,k,v⟩=some ((t.set i ⟨1,k,v⟩).map K1):=λi hi=>yE (t:=t) (by omega) hi ⟨1,k,v⟩;cases h with
 | old i hi=>
  rw[kh hR hi,XB,zb (by simp),hw i hi.1];rfl
 | new d hn hd hb hf=>
  rw[gR h1 h8 hn,XB,za (by decide),wt,Dz,ur h1 (by omega),XB];simp only[jn];rw[<-Di h1 k];obtain⟨e,he,hQ⟩:=AK (f:=λ((s15,s16):Int × Int)=>
   if (decide (s16<(t.length:Int))) then
    (ix (t.map K1) s15).bind λv19=>
    if (v19.State != 1) then
     (ez (t.map K1) s15 (⟨1,k,v⟩:l6)).bind λv20=>
     some (Sum.inr (Sum.inl (β:=Unit) (v20,(0:Int))))
    else
    (rem (u4 (s15+1)) (t.length:Int)).bind λv21=>
    some (Sum.inl (v21,u4 (s16+1)))
   else
   some (Sum.inr (Sum.inr ()))) (λd=>(((pos t.length k d:Nat):Int),(d:Int))) d (λ_=>True) (λe=>e = .inl ((t.set (pos t.length k d) ⟨1,k,v⟩).map K1,0)) (by omega) trivial (λj hj _=>by
    have hp:=eU h1 k j;dsimp only;rw[zb (by simp;omega),QV hp,XB,za (by simpa[K1] using hb j hj),Rm h1 h8,XB,k8 (by omega)];exact .inl ⟨rfl,trivial⟩) (λ_=>by
    have hp:=eU h1 k d;dsimp only;rw[zb (by simpa using hd),QV hp,XB,zb (by simpa[K1] using hf),hw _ hp];exact⟨_,rfl,rfl⟩)
  have he':lp _ (((pos t.length k 0:Nat):Int),(0:Int))=some e:=he;rw[he',hQ];rfl
 | full hn ha=>
  rw[gR h1 h8 hn,XB,za (by decide),wt,Dz,ur h1 (by omega),XB];simp only[jn];rw[<-Di h1 k];obtain⟨e,he,hQ⟩:=AK (f:=λ((s15,s16):Int × Int)=>
   if (decide (s16<(t.length:Int))) then
    (ix (t.map K1) s15).bind λv19=>
    if (v19.State != 1) then
     (ez (t.map K1) s15 (⟨1,k,v⟩:l6)).bind λv20=>
     some (Sum.inr (Sum.inl (β:=Unit) (v20,(0:Int))))
    else
    (rem (u4 (s15+1)) (t.length:Int)).bind λv21=>
    some (Sum.inl (v21,u4 (s16+1)))
   else
   some (Sum.inr (Sum.inr ()))) (λd=>(((pos t.length k d:Nat):Int),(d:Int))) t.length (λ_=>True) (λe=>e = .inr ()) (by omega) trivial (λj hj _=>by
    have hp:=eU h1 k j;dsimp only;rw[zb (by simp;omega),QV hp,XB,za (by simpa[K1] using ha _ hp),Rm h1 h8,XB,k8 (by omega)];exact .inl ⟨rfl,trivial⟩) (λ_=>⟨.inr (),by simp,rfl⟩)
  have he':lp _ (((pos t.length k 0:Nat):Int),(0:Int))=some e:=he;rw[he',hQ];rfl
theorem vQ{t:Tb}{k v:Int}{r:Tb × Int}(h:tG t k v r):r.1.length=t.length:=by cases h <;> simp
theorem gg(t:Tb):(keys t).length=t.countP (·.State==1):=by
 unfold keys;rw[wt,zbi]
theorem qB{t:Tb}{i:Nat}(h:i<t.length)(p:b8):(keys (t.set i p)).length+(if (pt t i).State=1 then 1 else 0)=(keys t).length+if p.State=1 then 1 else 0:=by
 rw[gg,gg,List.countP_set h,tp h];simp only[q9];have:(if t[i].State=1 then 1 else 0)<=t.countP λc=>c.State==1:=by
  split
  .rename_i e;exact zbj.2 ⟨t[i],zh h,by simpa using e⟩
  .exact un _
 omega
theorem IP{t:Tb}(h:∀i,i<t.length->(pt t i).State=1):(keys t).length=t.length:=by
 rw[gg,List.countP_eq_length];intro a ha;obtain⟨i,hi,rfl⟩:=zaz ha;have:=h i hi;rw[tp hi] at this;simpa using this
theorem OV{t:Tb}{i:Nat}(hi:i<t.length)(h:(pt t i).State≠1):(keys t).length<t.length:=by
 have h1:(keys t).length<=t.length:=by rw[gg];exact zba
 rcases zy (keys t).length t.length with q | q
 .exact q
 .exfalso;have e:(keys t).length=t.length:=by omega
  rw[gg,List.countP_eq_length] at e;have:=e t[i] (zh hi);rw[tp hi] at h;exact h (by simpa using this)
structure TM {V:Type} (φ:V->Int->Prop) (t:Tb) (m:List (Int × V)):Prop where
 R:HR t
 nd:(m.map (·.1)).Nodup
 len:(keys t).length=m.length
 has:∀k,(∀v,Has t k v->∃u,A6 m k=some u/\φ u v)/\((A6 m k).isSome=true->∃v,Has t k v)
theorem TM.some{V:Type}{φ:V->Int->Prop}{t:Tb}{m:List (Int × V)}(h:TM φ t m)(k:Int):(∃v u,Has t k v/\A6 m k=some u/\φ u v)\/(A6 m k=none/\∀v,¬Has t k v):=by
 rcases SH t k with ⟨v,hv⟩ | hn
 .obtain⟨u,h1,h2⟩:=(h.has k).1 v hv;exact .inl ⟨v,u,hv,h1,h2⟩
 .refine .inr ⟨?_,hn⟩;cases hq:A6 m k with
  | none=>rfl
  | some u=>
   obtain⟨v,hv⟩:=(h.has k).2 (by rw[hq];rfl);exact absurd hv (hn v)
theorem TM.put{V:Type}{φ:V->Int->Prop}{t:Tb}{m:List (Int × V)}(h:TM φ t m)(k v:Int)(u:V)(hφ:φ u v):∃r,mq t k v = .some r/\r.1.length=t.length/\((r.2=0/\TM φ r.1 (o8 m k u)/\((A6 m k).isSome=true\/m.length<t.length))\/(r=(t,8)/\(A6 m k)=none/\m.length=t.length)):=by
 obtain⟨r,hr,hp⟩:=Fy h.R k v;refine⟨r,hr,vQ hp,?_⟩;have hRr:=pB h.R hp;by_cases h0:r.2=0
 .left;have hh:=AX h.R hp h0;have hmem:∀k',(∀w,Has r.1 k' w->∃x,A6 (o8 m k u) k' = .some x/\φ x w)/\((A6 (o8 m k u) k').isSome=true->∃w,Has r.1 k' w):=λk'=>by
   rw[nB];by_cases e:k'=k
   .subst e;rw[zb rfl];refine⟨λw hw=>?_,λ_=>⟨v,(hh _ _).2 (.inl ⟨rfl,rfl⟩)⟩⟩;rcases (hh _ _).1 hw with ⟨_,rfl⟩ | ⟨q,_⟩;·exact⟨u,rfl,hφ⟩
    .exact absurd rfl q
   .rw[za e];refine⟨λw hw=>?_,λq=>?_⟩
    .rcases (hh _ _).1 hw with ⟨q,_⟩ | ⟨_,q⟩;·exact absurd q e
     .exact (h.has k').1 w q
    .obtain⟨w,hw⟩:=(h.has k').2 q;exact⟨w,(hh _ _).2 (.inr ⟨e,hw⟩)⟩
  have hlen:(keys r.1).length=(o8 m k u).length/\((A6 m k).isSome=true\/m.length<t.length):=by
   rw[LJ];cases hp with
   | old i hi=>
    have h1:(A6 m k).isSome=true:=by
     obtain⟨x,h1,_⟩:=(h.has k).1 _ ⟨i,hi,rfl⟩;rw[h1];rfl
    have:=qB hi.1 ⟨1,k,v⟩;rw[zb hi.2.1,zb rfl,h.len] at this;rw[zb h1];exact⟨by simp only;omega,.inl h1⟩
   | new d hn hd hb hf=>
    have h1:(A6 m k)=none:=by
     rcases h.some k with ⟨w,x,hw,_⟩ | ⟨q,_⟩
     .obtain⟨i,hi,_⟩:=hw;exact absurd hi (hn i)
     .exact q
    have hlt:=eU h.R.l1 k d;have:=qB hlt ⟨1,k,v⟩;rw[za hf,zb rfl,h.len] at this;rw[h1];have h2:=OV hlt hf;rw[h.len] at h2;exact⟨by simpa using this,.inr h2⟩
   | full hn ha=>cases h0
  exact⟨h0,⟨hRr,Fe h.nd k u,hlen.1,hmem⟩,hlen.2⟩
 .right;cases hp with
  | old i hi=>exact absurd rfl h0
  | new d hn hd hb hf=>exact absurd rfl h0
  | full hn ha=>
   refine⟨rfl,?_,?_⟩
   .rcases h.some k with ⟨w,x,hw,_⟩ | ⟨q,_⟩
    .obtain⟨i,hi,_⟩:=hw;exact absurd hi (hn i)
    .exact q
   .rw[<-h.len,IP ha]
theorem TM.drop{V:Type}{φ:V->Int->Prop}{t:Tb}{m:List (Int × V)}(h:TM φ t m)(k:Int):(∃r v u,V9 t k = .some (r,v,0)/\r.length=t.length/\A6 m k = .some u/\φ u v/\TM φ r (sj m k))\/(V9 t k = .some (t,0,9)/\A6 m k=none/\sj m k=m):=by
 rcases th t k with ⟨i,hi⟩ | hn
 .left;obtain⟨u,h1,h2⟩:=(h.has k).1 _ ⟨i,hi,rfl⟩;refine⟨_,_,u,nt h.R hi,by simp,h1,h2,gO h.R hi.1,(LC m k).nodup h.nd,?_,λk'=>?_⟩
  .have:=qB hi.1 ⟨2,0,0⟩;rw[zb hi.2.1,za (by decide),h.len] at this;rw[LA,h1];simp only[Option.isSome_some,zH];omega
  .have hh:=vg h.R hi;rw[IU h.nd];by_cases e:k'=k
   .subst e;rw[zb rfl];exact⟨λw hw=>absurd rfl ((hh _ _).1 hw).1,λq=>by cases q⟩
   .rw[za e];refine⟨λw hw=>(h.has k').1 w ((hh _ _).1 hw).2,λq=>?_⟩;obtain⟨w,hw⟩:=(h.has k').2 q;exact⟨w,(hh _ _).2 ⟨e,hw⟩⟩
 .right;have h1:A6 m k=none:=by
   rcases h.some k with ⟨w,x,hw,_⟩ | ⟨q,_⟩
   .obtain⟨i,hi,_⟩:=hw;exact absurd hi (hn i)
   .exact q
  refine⟨ns h.R hn,h1,?_⟩;have:∀(l:List (Int × V)),A6 l k=none->sj l k=l:=by
   intro l;induction l with
   | nil=>intro _;rfl
   | cons p l ih=>
    intro q;unfold A6 at q;unfold sj;by_cases e:k=p.1
    .rw[zb (by simpa using e)] at q;cases q
    .rw[za (by simpa using e)] at q;rw[za (by simpa using e),ih q]
  exact this m h1
theorem LL{n:Nat}(h1:1<=n)(h8:n<=8):qv (n:Int)=some (List.replicate n ⟨0,0,0⟩):=by
 unfold qv;rw[za (by simp;omega),lF (by omega) (by omega)];rfl
theorem sx{n j:Nat}:pt (List.replicate n ⟨0,0,0⟩) j=⟨0,0,0⟩:=by
 unfold pt;rw[zd,List.getElem?_replicate];split <;> rfl
theorem Nc{V:Type}(φ:V->Int->Prop){n:Nat}(h1:1<=n)(h8:n<=8):TM φ (List.replicate n ⟨0,0,0⟩) []:=by
 refine⟨⟨by simpa using h1,by simpa using h8,λi hi=>?_,λi j hi hj s=>?_,λi hi s=>?_⟩,by simp,?_,λk=>⟨λv hv=>?_,λq=>by cases q⟩⟩;·rw[sx];exact⟨.inl rfl,λ_=>⟨rfl,rfl⟩⟩
 .rw[sx] at s;cases s
 .rw[sx] at s;cases s
 .rw[gg,List.countP_replicate];rfl
 .obtain⟨i,hi,_⟩:=hv;have:=hi.2.1;rw[sx] at this;cases this
abbrev pp(p:m9):Z1:=⟨p.Key,p.Val⟩
def aU(t:Tb):List m9:=(t.filter (·.State==1)).map λp=>⟨p.Key,p.Val⟩
theorem qA(t:Tb):keys t=(aU t).map (·.Key):=by
 unfold keys aU;rw[zb0];rfl
theorem ar(t:Tb):(aU t).length=(keys t).length:=by rw[qA,wt]
theorem iM{t:Tb}(h:t.length<=8):(aU t).length<=8:=by
 rw[ar,gg];exact wd zba h
theorem fy{t:Tb}{p:m9}:p∈aU t↔Has t p.Key p.Val:=by
 unfold aU Has;rw[zX];constructor
 .rintro⟨q,hq,rfl⟩;obtain⟨h1,h2⟩:=zm.1 hq;obtain⟨i,hi,rfl⟩:=zaz h1;refine⟨i,⟨hi,?_,?_⟩,?_⟩ <;> rw[tp hi]
  simpa using h2
 .rintro⟨i,⟨hi,h1,h2⟩,h3⟩;rw[tp hi] at h1 h2 h3;refine⟨t[i],zm.2 ⟨zh hi,by simpa using h1⟩,?_⟩;cases p;simp at h2 h3 |-;exact⟨h2,h3⟩
theorem AW{t:Tb}(hR:HR t){j:Nat}(h:j<(aU t).length):K0 t (aU t)[j].Key=some ((aU t)[j].Val,0):=GX hR (fy.1 (zh h))
theorem QI{E R:Type}{x:Option E}{r:E}{κ:E->Option R}{y:Option R}(h:x=some r)(hy:κ r=y):((x.bind λe=>some e).bind κ)=y:=by rw[h];exact hy
theorem Mm{t:Tb}(hR:HR t):gQ t=some (aU t):=by
 have h8:=hR.l8;have hp:=iM h8;unfold gQ z8 bD dK;simp only[jn,XB];rw[keys_eq (by omega),XB];refine QI (fD (dj (aU t).length (λk l=>l=(aU t).take k) (λe=>e=aU t) (by omega) (by simp) ?_ ?_)) rfl
 .rintro k l hk rfl;refine .inl ⟨_,?_,rfl⟩;dsimp only;rw[zb (by rw[<-ar];simpa using hk),o0 (by rw[<-ar];exact hk),XB];have e:(keys t)[k]'(by rw[<-ar];exact hk)=(aU t)[k].Key:=by simp[qA]
  rw[e,AW hR hk,XB,zb (by trivial),y4 (by omega) (by simp;omega),XB,k8 (by omega),zw hk]
 .rintro l rfl;exact⟨_,by rw[<-ar];simp;rfl,by simp⟩
theorem yz{t:Tb}(hR:HR t):jm (t.map K1)=some ((aU t).map pp):=by
 have h8:=hR.l8;have hp:=iM h8;unfold jm;simp only[jn];rw[ME (by omega),XB];refine M2 (aU t).length (λk l=>l=((aU t).take k).map pp) (by omega) (by simp) ?_ (λl hl=>⟨_,by rw[<-ar];simp;rfl,by rw[hl,zL]⟩);rintro k l hk rfl;refine .inl ⟨_,?_,rfl⟩;rw[zb (by rw[<-ar];simpa using hk),o0 (by rw[<-ar];exact hk),XB];have e:(keys t)[k]'(by rw[<-ar];exact hk)=(aU t)[k].Key:=by simp[qA]
 rw[e,MD hR,AW hR hk,XB,y4 (by omega) (by simp;omega),XB,k8 (by omega),zw hk,my];rfl
def own(t:Tb)(h:Int):Nat:=(aU t).countP λp=>(h != 0)&&(p.Val==h)
theorem Mh{t:Tb}(hR:HR t)(h:Int):gP t h=some (own t h:Int):=by
 have h8:=hR.l8;have hp:=iM h8;unfold gP z7 bD dJ;simp only[jn,XB];rw[keys_eq (by omega),XB];refine QI (r:=(aU t).filter λp=>(h != 0)&&(p.Val==h)) (fD (dj (aU t).length (λk l=>l=((aU t).take k).filter λp=>(h != 0)&&(p.Val==h)) (λe=>e=(aU t).filter λp=>(h != 0)&&(p.Val==h)) (by omega) (by simp) ?_ ?_)) (by unfold own;rw[zbi])
 .rintro k l hk rfl;refine .inl ⟨((aU t).take (k+1)).filter λp=>(h != 0)&&(p.Val==h),?_,rfl⟩;dsimp only;rw[zb (by rw[<-ar];simpa using hk),o0 (by rw[<-ar];exact hk),XB];have e:(keys t)[k]'(by rw[<-ar];exact hk)=(aU t)[k].Key:=by simp[qA]
  have hle:(((aU t).take k).filter λp=>(h != 0)&&(p.Val==h)).length<=8:=wd (zO ..) (by simp;omega);rw[e,AW hR hk,XB,k8 (by omega),zw hk,zaw,rx,zca];by_cases c:((h != 0)&&((aU t)[k].Val==h))=true
  .rw[zb c,zb c,y4 (by omega) (by simp only[zA,wp];omega),XB]
  .rw[za c,za c,mt]
 .rintro l rfl;exact⟨_,by rw[<-ar];simp;rfl,by simp⟩
theorem Js{t:Tb}(hR:HR t)(h:Int):sD (t.map K1) h=some (own t h:Int):=by
 have h8:=hR.l8;have hp:=iM h8;unfold sD;simp only[jn];rw[yz hR,XB,wt];refine Pb (λs=>∃k:Nat,k<=(aU t).length/\s.2=(k:Int)/\s.1=((((aU t).take k).countP λp=>(h != 0)&&(p.Val==h):Nat):Int)) (λs=>(aU t).length+1-s.2.toNat) ⟨0,by omega,rfl,by simp⟩ (by simp;omega) ?_;rintro⟨_,_⟩ ⟨k,hk,rfl,rfl⟩;dsimp only;by_cases hlt:k<(aU t).length
 .left;rw[zb (by simpa using hlt),bc,o0 hlt,zM,XB,k8 (n:=k) (by omega)];have hle:(((aU t).take k).countP λp=>(h != 0)&&(p.Val==h))<=8:=wd zba (by simp;omega);have hstep:(((aU t).take (k+1)).countP λp=>(h != 0)&&(p.Val==h))=(((aU t).take k).countP λp=>(h != 0)&&(p.Val==h))+if ((h != 0)&&((aU t)[k].Val==h))=true then 1 else 0:=by
   rw[zw hlt,List.countP_append,List.countP_cons,List.countP_nil,t7]
  by_cases c:((h != 0)&&((aU t)[k].Val==h))=true
  .rw[zb (by simp only[zp] at c |-;exact⟨c.2,c.1⟩),k8 (by omega)];rw[zb c] at hstep;exact⟨_,rfl,⟨k+1,by omega,rfl,by rw[hstep]⟩,by simp;omega⟩
  .rw[za (by simp only[zp] at c |-;exact λq=>c ⟨q.2,q.1⟩)];rw[za c] at hstep;exact⟨_,rfl,⟨k+1,by omega,rfl,by rw[hstep];rfl⟩,by simp;omega⟩
 .right;have:k=(aU t).length:=by omega
  subst this;exact⟨_,by rw[za (by simp)],by rw[zL];rfl⟩
theorem FT{t:Tb}(hR:HR t)(k v:Int):∃r,R8 t k v=some r/\HR r.1/\r.1.length=t.length /\
  ((k=0/\r=(t,0,2))\/(k≠0/\v=0/\((∃i,Fk t k i/\r=(t.set i ⟨2,0,0⟩,(pt t i).Val,0))\/((∀i,¬Fk t k i)/\r=(t,0,0)))) \/
   (k≠0/\v≠0/\((∃i,Fk t k i/\r=(t.set i ⟨1,k,v⟩,(pt t i).Val,0))\/(∃d,(∀i,¬Fk t k i)/\d<t.length/\(pt t d).State≠1/\tG t k v (t.set d ⟨1,k,v⟩,0)/\r=(t.set d ⟨1,k,v⟩,0,0))\/((∀i,¬Fk t k i)/\(∀i,i<t.length->(pt t i).State=1)/\r=(t,0,8))))):=by
 unfold R8;by_cases hk:k=0
 .rw[zb (by simpa using hk)];exact⟨_,rfl,hR,rfl,.inl ⟨hk,rfl⟩⟩
 .rw[za (by simpa using hk)];obtain⟨g,hg,hgv⟩:∃g,K0 t k=some g/\((∃i,Fk t k i/\g=((pt t i).Val,0))\/((∀i,¬Fk t k i)/\g=(0,9))):=by
   rcases th t k with ⟨i,hi⟩ | hn;·exact⟨_,EU hR hi,.inl ⟨i,hi,rfl⟩⟩
   .exact⟨_,ET hR hn,.inr ⟨hn,rfl⟩⟩
  rw[hg,XB];by_cases hv:v=0
  .rw[zb (by simpa using hv)];rcases hgv with ⟨i,hi,rfl⟩ | ⟨hn,rfl⟩
   .rw[nt hR hi,XB];exact⟨_,rfl,gO hR hi.1,by simp,.inr (.inl ⟨hk,hv,.inl ⟨i,hi,rfl⟩⟩)⟩
   .rw[ns hR hn,XB];exact⟨_,rfl,hR,rfl,.inr (.inl ⟨hk,hv,.inr ⟨hn,rfl⟩⟩)⟩
  .rw[za (by simpa using hv)];obtain⟨r,hr,hp⟩:=Fy hR k v;rw[hr,XB];have hRr:=pB hR hp;have hl:=vQ hp;have hp':=hp;cases hp with
   | old i hi=>
    rcases hgv with ⟨j,hj,rfl⟩ | ⟨hn,rfl⟩
    .rw[hR.uq j i hj.1 hi.1 hj.2.1 hi.2.1 (hj.2.2.trans hi.2.2.symm)];exact⟨_,rfl,hRr,hl,.inr (.inr ⟨hk,hv,.inl ⟨i,hi,rfl⟩⟩)⟩
    .exact absurd hi (hn i)
   | new d hn hd hb hf=>
    rcases hgv with ⟨j,hj,rfl⟩ | ⟨_,rfl⟩;·exact absurd hj (hn j)
    .exact⟨_,rfl,hRr,hl,.inr (.inr ⟨hk,hv,.inr (.inl ⟨_,hn,eU hR.l1 k d,hf,hp',rfl⟩)⟩)⟩
   | full hn ha=>exact⟨_,rfl,hR,rfl,.inr (.inr ⟨hk,hv,.inr (.inr ⟨hn,ha,rfl⟩)⟩)⟩
theorem Ju{t:Tb}(hR:HR t)(k v:Int):∃r,R8 t k v=some r/\HR r.1/\r.1.length=t.length/\Bg (t.map K1) k v=some (r.1.map K1,r.2) /\
  ((k=0/\r=(t,0,2))\/(k≠0/\v=0/\((∃i,Fk t k i/\r=(t.set i ⟨2,0,0⟩,(pt t i).Val,0))\/((∀i,¬Fk t k i)/\r=(t,0,0)))) \/
   (k≠0/\v≠0/\((∃i,Fk t k i/\r=(t.set i ⟨1,k,v⟩,(pt t i).Val,0))\/(∃d,(∀i,¬Fk t k i)/\d<t.length/\(pt t d).State≠1/\tG t k v (t.set d ⟨1,k,v⟩,0)/\r=(t.set d ⟨1,k,v⟩,0,0))\/((∀i,¬Fk t k i)/\(∀i,i<t.length->(pt t i).State=1)/\r=(t,0,8))))):=by
 unfold R8 Bg;by_cases hk:k=0
 .rw[zb (by simpa using hk),zb (by simpa using hk)];exact⟨_,rfl,hR,rfl,rfl,.inl ⟨hk,rfl⟩⟩
 .rw[za (by simpa using hk),za (by simpa using hk),MD hR];obtain⟨g,hg,hgv⟩:∃g,K0 t k=some g/\((∃i,Fk t k i/\g=((pt t i).Val,0))\/((∀i,¬Fk t k i)/\g=(0,9))):=by
   rcases th t k with ⟨i,hi⟩ | hn;·exact⟨_,EU hR hi,.inl ⟨i,hi,rfl⟩⟩
   .exact⟨_,ET hR hn,.inr ⟨hn,rfl⟩⟩
  rw[hg,XB,XB];by_cases hv:v=0
  .rw[zb (by simpa using hv),zb (by simpa using hv),Mz hR];rcases hgv with ⟨i,hi,rfl⟩ | ⟨hn,rfl⟩
   .rw[nt hR hi,XB];exact⟨_,rfl,gO hR hi.1,by simp,rfl,.inr (.inl ⟨hk,hv,.inl ⟨i,hi,rfl⟩⟩)⟩
   .rw[ns hR hn,XB];exact⟨_,rfl,hR,rfl,rfl,.inr (.inl ⟨hk,hv,.inr ⟨hn,rfl⟩⟩)⟩
  .rw[za (by simpa using hv),za (by simpa using hv)];obtain⟨r,hr,hp⟩:=Fy hR k v;rw[hr,XB,VP hR k v hp,XB];have hRr:=pB hR hp;have hl:=vQ hp;have hp':=hp;cases hp with
   | old i hi=>
    rcases hgv with ⟨j,hj,rfl⟩ | ⟨hn,rfl⟩
    .rw[hR.uq j i hj.1 hi.1 hj.2.1 hi.2.1 (hj.2.2.trans hi.2.2.symm)];exact⟨_,rfl,hRr,hl,rfl,.inr (.inr ⟨hk,hv,.inl ⟨i,hi,rfl⟩⟩)⟩
    .exact absurd hi (hn i)
   | new d hn hd hb hf=>
    rcases hgv with ⟨j,hj,rfl⟩ | ⟨_,rfl⟩;·exact absurd hj (hn j)
    .exact⟨_,rfl,hRr,hl,rfl,.inr (.inr ⟨hk,hv,.inr (.inl ⟨_,hn,eU hR.l1 k d,hf,hp',rfl⟩)⟩)⟩
   | full hn ha=>exact⟨_,rfl,hR,rfl,rfl,.inr (.inr ⟨hk,hv,.inr (.inr ⟨hn,ha,rfl⟩)⟩)⟩
theorem yq(t:Tb)(h:Int):own t h=t.countP λp=>(p.State==1)&&((h != 0)&&(p.Val==h)):=by
 unfold own aU;rw[List.countP_map,List.countP_filter];congr 1;funext p
 simp[Bool.and_comm]
theorem Hx{t:Tb}{i:Nat}(hi:i<t.length)(p:b8)(h:Int):own (t.set i p) h+(if (((pt t i).State==1)&&((h != 0)&&((pt t i).Val==h)))=true then 1 else 0)=own t h+if ((p.State==1)&&((h != 0)&&(p.Val==h)))=true then 1 else 0:=by
 rw[yq,yq,List.countP_set hi,tp hi];have:(if ((t[i].State==1)&&((h != 0)&&(t[i].Val==h)))=true then 1 else 0)<=t.countP λp=>(p.State==1)&&((h != 0)&&(p.Val==h)):=by
  split
  .rename_i e;exact zbj.2 ⟨t[i],zh hi,e⟩
  .exact un _
 omega
theorem Fo{t:Tb}(h8:t.length<=8)(h:Int):own t h<=8:=wd zba (iM h8)
theorem Ec{t:Tb}(hR:HR t)(ks:List Int)(hks:ks.length<=1000):∃a had,V7 t ks=some (a,had)/\HR a/\a.length=t.length/\had.length<=ks.length/\il (t.map K1) ks=some (a.map K1,had) /\
  (∀k v,Has a k v↔k∉ks/\Has t k v)/\(keys a).length+had.length=(keys t).length/\(∀k v,k∈ks->Has t k v->v∈had)/\∀y,own a y+X6 had y=own t y:=by
 have key:∀n,n<=ks.length->∃a had,HR a/\a.length=t.length/\had.length<=n/\(∀k v,Has a k v↔k∉ks.take n/\Has t k v)/\(keys a).length+had.length=(keys t).length/\(∀k v,k∈ks.take n->Has t k v->v∈had)/\(∀y,own a y+X6 had y=own t y) /\
   ∃f:Nat->Tb × List Int,f 0=(t,[])/\f n=(a,had)/\∀j,(hj:j<n)->HR (f j).1/\(f j).2.length<=j/\((∃i,∃hjk:j<ks.length,Fk (f j).1 ks[j] i/\f (j+1)=((f j).1.set i ⟨2,0,0⟩,(f j).2 ++ [(pt (f j).1 i).Val]))\/((∀i,∀hjk:j<ks.length,¬Fk (f j).1 ks[j] i)/\f (j+1)=f j)):=by
  intro n;induction n with
  | zero=>exact λ_=>⟨t,[],hR,rfl,by simp,by simp,by simp,by simp,λy=>by unfold X6;split <;> simp,λ_=>(t,[]),rfl,rfl,λj hj=>by omega⟩
  | succ n ih=>
   intro hn;obtain⟨a,had,h1,h2,h3,h4,h5,h6,h7,f,f0,fn,fs⟩:=ih (by omega);have hlt:n<ks.length:=by omega
   have htk:∀k,k∈ks.take (n+1)↔k∈ks.take n\/k=ks[n]:=λk=>by
    rw[zw hlt,zt,zJ]
   rcases th a ks[n] with ⟨i,hi⟩ | hno
   .have hd:=vg h1 hi;refine⟨a.set i ⟨2,0,0⟩,had ++ [(pt a i).Val],gO h1 hi.1,by simpa using h2,by simp;omega,λk v=>?_,?_,λk v hk hv=>?_,λy=>?_,λj=>if j=n+1 then (a.set i ⟨2,0,0⟩,had ++ [(pt a i).Val]) else f j,by simp[f0],by simp,λj hj=>?_⟩
    .rw[hd,h4,htk];constructor;·rintro⟨q1,q2,q3⟩;exact⟨λq=>q.elim q2 q1,q3⟩
     .rintro⟨q1,q2⟩;exact⟨λq=>q1 (.inr q),λq=>q1 (.inl q),q2⟩
    .have:=qB hi.1 ⟨2,0,0⟩;rw[zb hi.2.1,za (by decide)] at this;simp only[zY,zA,wp];omega
    .rw[zt];rcases (htk k).1 hk with q | q
     .exact .inl (h6 k v q hv)
     .subst q;by_cases q':ks[n]∈ks.take n
      .exact .inl (h6 _ v q' hv)
      .have:=(h4 _ _).2 ⟨q',hv⟩;rw[this.fn h1 ⟨i,hi,rfl⟩];exact .inr (by simp)
    .have:=Hx hi.1 ⟨2,0,0⟩ y;have h7':=h7 y;rw[I6];have e:X6 [(pt a i).Val] y=if (((pt a i).State==1)&&((y != 0)&&((pt a i).Val==y)))=true then 1 else 0:=by
      rw[hi.2.1];unfold X6;by_cases y0:y=0
      .simp[y0]
      .by_cases e:(pt a i).Val=y
       .simp[y0,e]
       .simp[y0,e]
     rw[e];rw[za (show ¬((((2:Int)==1)&&((y != 0)&&((0:Int)==y)))=true) by simp)] at this;omega
    .rcases zy j n with q | q
     .have:=fs j q;dsimp only;rw[za (by omega),za (by omega)];exact this
     .have:j=n:=by omega
      subst this;dsimp only;rw[za (by omega),zb rfl,fn];exact⟨h1,h3,.inl ⟨i,hlt,hi,rfl⟩⟩
   .refine⟨a,had,h1,h2,by omega,λk v=>?_,h5,λk v hk hv=>?_,h7,λj=>if j=n+1 then (a,had) else f j,by simp[f0],by simp,λj hj=>?_⟩
    .rw[h4,htk];constructor
     .rintro⟨q1,q2⟩;refine⟨λq=>q.elim q1 λq=>?_,q2⟩;subst q;obtain⟨i,hi,_⟩:=(h4 _ _).2 ⟨q1,q2⟩;exact hno i hi
     .rintro⟨q1,q2⟩;exact⟨λq=>q1 (.inl q),q2⟩
    .rcases (htk k).1 hk with q | q
     .exact h6 k v q hv
     .subst q;by_cases q':ks[n]∈ks.take n
      .exact h6 _ v q' hv
      .obtain⟨i,hi,_⟩:=(h4 _ _).2 ⟨q',hv⟩;exact absurd hi (hno i)
    .rcases zy j n with q | q
     .have:=fs j q;dsimp only;rw[za (by omega),za (by omega)];exact this
     .have:j=n:=by omega
      subst this;dsimp only;rw[za (by omega),zb rfl,fn];exact⟨h1,h3,.inr ⟨λi _=>hno i,rfl⟩⟩
 obtain⟨a,had,h1,h2,h3,h4,h5,h6,h7,f,f0,fn,fs⟩:=key ks.length (zF _);rw[zL] at h4 h6;refine⟨a,had,?_,h1,h2,h3,?_,h4,h5,h6,h7⟩
 .unfold V7;simp only[jn];refine cp (λj=>((f j).1,(j:Int),(f j).2)) (by rw[f0];rfl) ks.length (λ_=>True) (by omega) trivial (λj hj _=>?_) (λ_=>⟨(a,had),by dsimp only;rw[za (by simp),fn],rfl⟩);obtain⟨g1,g2,g3⟩:=fs j hj;left;refine⟨?_,trivial⟩;dsimp only;rw[zb (by simpa using hj),o0 hj,XB,k8 (by omega)];rcases g3 with ⟨i,_,hi,e⟩ | ⟨hno,e⟩
  .rw[nt g1 hi,XB,e];dsimp only;rw[zb (by decide),y4 (by omega) (by simp;omega),XB]
  .rw[ns g1 (λi=>hno i hj),XB,e];dsimp only;rw[za (by decide)]
 .unfold il;simp only[jn];refine cp (λj=>((f j).1.map K1,(j:Int),(f j).2)) (by rw[f0];rfl) ks.length (λ_=>True) (by omega) trivial (λj hj _=>?_) (λ_=>⟨(a.map K1,had),by dsimp only;rw[za (by simp),fn],rfl⟩);obtain⟨g1,g2,g3⟩:=fs j hj;left;refine⟨?_,trivial⟩;dsimp only;rw[zb (by simpa using hj),o0 hj,XB,k8 (by omega),Mz g1];rcases g3 with ⟨i,_,hi,e⟩ | ⟨hno,e⟩
  .rw[nt g1 hi,zM,XB,e];dsimp only;rw[zb (by decide),y4 (by omega) (by simp;omega),XB]
  .rw[ns g1 (λi=>hno i hj),zM,XB,e];dsimp only;rw[za (by decide)]
inductive aN (s:a7) (t:Tb) (l:List Int):Int->Prop
 | base {h:Int}:h∈l->h∈lv s->aN s t l h
 | step {a b:Int}:aN s t l a->b∈outs s a->b∈lv s->aN s t l b
 | pair {k v:Int}:Has t k v->aN s t l k->v∈lv s->aN s t l v
open Classical in
noncomputable def BU (s:a7) (t:Tb) (l:List Int):List Int:=(lv s).filter λh=>decide (aN s t l h)
open Classical in
noncomputable def So (s:a7) (t:Tb) (l:List Int):List Int:=(lv s).filter λh=>decide (¬aN s t l h)
noncomputable def vO(s:a7)(t:Tb)(l:List Int):List Int:=((aU t).filter λp=>decide (p.Key∈l/\p.Key∈lv s/\p.Val∈lv s)).map (·.Val)
def TB(t:Tb):Prop:=∀p∈t,p.Key<=9223372036854775807/\p.Val<=9223372036854775807
def Gl(s:a7)(t:Tb)(l:List Int):Prop:=∀k v,Has t k v->k∈l->k∈lv s->v∈lv s->v∈l
theorem TB.has{t:Tb}(h:TB t){k v:Int}(q:Has t k v):k<=9223372036854775807/\v<=9223372036854775807:=by
 obtain⟨i,⟨h1,_,h2⟩,h3⟩:=q;rw[tp h1] at h2 h3;have:=h _ (zh h1);rw[h2,h3] at this;exact this
theorem aN.live{s:a7}{t:Tb}{l:List Int}{h:Int}(q:aN s t l h):h∈lv s:=by cases q <;> assumption
open Classical in
theorem ki {s:a7} {t:Tb} {l:List Int} {h:Int}:h∈BU s t l↔aN s t l h:=by
 unfold BU;rw[zm];exact⟨λq=>za8 q.2,λq=>⟨q.live,zu q⟩⟩
theorem Av{s:a7}(hR:rH (sO s))(t:Tb)(l:List Int):(BU s t l).length<=24:=wd (zO ..) (E2 hR)
theorem Sr{s:a7}(hR:rH (sO s))(t:Tb)(l:List Int):LB (BU s t l):=λx hx=>by have:=iI hR (ki.1 hx).live;omega
theorem TK{s:a7}(hR:rH (sO s))(l:List Int):LB (BY s l):=λx hx=>by have:=iI hR (Y3.1 hx).live;omega
theorem Sp(s:a7)(t:Tb)(l:List Int):Cl s (BU s t l):=λa ha b hb hl=>ki.2 (.step (ki.1 ha) hb hl)
theorem aN.least{s:a7}{t:Tb}{l m:List Int}(hc:Cl s m)(hp:Gl s t m)(hl:∀x∈l,x∈lv s->x∈m){h:Int}(q:aN s t l h):h∈m:=by
 induction q with
 | base h1 h2=>exact hl _ h1 h2
 | step _ h1 h2 ih=>exact hc _ ih _ h1 h2
 | pair h1 h2 h3 ih=>exact hp _ _ h1 ih h2.live h3
theorem aN.mono{s:a7}{t u:Tb}{l m:List Int}(ht:∀k v,Has t k v->Has u k v)(hl:∀x∈l,x∈lv s->aN s u m x){h:Int}(q:aN s t l h):aN s u m h:=by
 induction q with
 | base h1 h2=>exact hl _ h1 h2
 | step _ h1 h2 ih=>exact .step ih h1 h2
 | pair h1 _ h3 ih=>exact .pair (ht _ _ h1) ih h3
theorem oC.WR{s:a7}(t:Tb){l:List Int}{h:Int}(q:oC s l h):aN s t l h:=by
 induction q with
 | base h1 h2=>exact .base h1 h2
 | step _ h1 h2 ih=>exact .step ih h1 h2
theorem qN{s:a7}{t:Tb}{l:List Int}{v:Int}:v∈vO s t l↔∃k,Has t k v/\k∈l/\k∈lv s/\v∈lv s:=by
 unfold vO;rw[zX];constructor
 .rintro⟨p,hp,rfl⟩;obtain⟨h1,h2⟩:=zm.1 hp;exact⟨p.Key,fy.1 h1,za8 h2⟩
 .rintro⟨k,h1,h2⟩;exact⟨⟨k,v⟩,zm.2 ⟨fy.2 h1,zu h2⟩,rfl⟩
theorem AS{s:a7}{t:Tb}{l:List Int}:(∀v∈vO s t l,v∈l)↔Gl s t l:=by
 constructor;·exact λh k v h1 h2 h3 h4=>h v (qN.2 ⟨k,h1,h2,h3,h4⟩)
 .intro h v hv;obtain⟨k,h1,h2,h3,h4⟩:=qN.1 hv;exact h k v h1 h2 h3 h4
theorem AT{s:a7}{t:Tb}(hT:HR t)(l:List Int):(vO s t l).length<=8:=by
 unfold vO;rw[wt];exact wd (zO ..) (iM hT.l8)
theorem Tq{s:a7}(hR:rH (sO s))(t:Tb)(l:List Int):LB (vO s t l):=λx hx=>by
 obtain⟨_,_,_,_,h⟩:=qN.1 hx;have:=iI hR h;omega
noncomputable def F7(s:a7)(t:Tb)(l:List Int):Nat->List Int
 | 0=>BY s l
 | k+1=>BY s (F7 s t l k++vO s t (F7 s t l k))
section
variable{s:a7}{t:Tb}{l:List Int}
theorem sL(k:Nat):F7 s t l (k+1)=BY s (F7 s t l k++vO s t (F7 s t l k)):=rfl
theorem jv(k:Nat):∃m,F7 s t l k=BY s m:=by
 cases k with
 | zero=>exact⟨_,rfl⟩
 | succ k=>exact⟨_,rfl⟩
theorem PT(k:Nat):Cl s (F7 s t l k):=by
 obtain⟨m,e⟩:=jv (s:=s) (t:=t) (l:=l) k;rw[e];exact TJ s m
theorem Jp(k:Nat){x:Int}(h:x∈F7 s t l k):x∈lv s:=by
 obtain⟨m,e⟩:=jv (s:=s) (t:=t) (l:=l) k;rw[e] at h;exact (Y3.1 h).live
theorem DB(k:Nat){x:Int}(h:x∈F7 s t l k):x∈F7 s t l (k+1):=Y3.2 (.base (zt.2 (.inl h)) (Jp k h))
theorem Jo(k:Nat):∀x∈l,x∈lv s->x∈F7 s t l k:=by
 induction k with
 | zero=>exact λx h1 h2=>Y3.2 (.base h1 h2)
 | succ k ih=>exact λx h1 h2=>DB k (ih x h1 h2)
theorem MH(k:Nat):∀x∈F7 s t l k,aN s t l x:=by
 induction k with
 | zero=>exact λx h=>(Y3.1 h).WR t
 | succ k ih=>
  intro x h;have:=Y3.1 h;induction this with
  | base h1 h2=>
   rcases zt.1 h1 with q | q
   .exact ih _ q
   .obtain⟨k',q1,q2,q3,q4⟩:=qN.1 q;exact .pair q1 (ih _ q2) q4
  | step h0 h1 h2 ih2=>exact .step (ih2 (Y3.2 h0)) h1 h2
theorem yy{k:Nat}(h:Gl s t (F7 s t l k)):F7 s t l k=BU s t l:=by
 obtain⟨m,e⟩:=jv (s:=s) (t:=t) (l:=l) k;have hm:∀x,oC s m x↔aN s t l x:=λx=>by
  rw[<-Y3,<-e];exact⟨MH k x,λq=>q.least (PT k) h (Jo k)⟩
 rw[e];unfold BY BU;exact zar λx _=>zay.2 (hm x)
theorem FK{k:Nat}(h:Gl s t (F7 s t l k)):F7 s t l (k+1)=F7 s t l k:=by
 obtain⟨m,e⟩:=jv (s:=s) (t:=t) (l:=l) k;rw[sL];have h':=AS.2 h;rw[e] at h' |-;refine yx λx=>⟨λq=>?_,λq=>.base (zt.2 (.inl (Y3.2 q))) q.live⟩;refine q.mono λy hy _=>?_;rcases zt.1 hy with c | c
 .exact Y3.1 c
 .exact Y3.1 (h' y c)
theorem sK{k:Nat}(h:¬Gl s t (F7 s t l k)):((aU t).filter λp=>decide (p.Val∈F7 s t l k)).length<((aU t).filter λp=>decide (p.Val∈F7 s t l (k+1))).length:=by
 obtain⟨v,hv,hn⟩:∃v,v∈vO s t (F7 s t l k)/\v∉F7 s t l k:=we λq=>h (AS.1 λv hv=>we λq2=>q ⟨v,hv,q2⟩);obtain⟨k',h1,h2,h3,h4⟩:=qN.1 hv;refine filter_lt (λp _ hp=>?_) ⟨k',v⟩ (fy.2 h1) ?_ ?_
 .rw[zx] at hp |-;exact DB k hp
 .rw[zx];exact Y3.2 (.base (zt.2 (.inr hv)) h4)
 .exact zI hn
theorem rk(s:a7)(t:Tb)(l:List Int):∃n,n<=(aU t).length/\Gl s t (F7 s t l n)/\∀j,j<n->¬Gl s t (F7 s t l j):=by
 have key:∀k,(∃j,j<=k/\Gl s t (F7 s t l j))\/k<((aU t).filter λp=>decide (p.Val∈F7 s t l (k+1))).length:=by
  intro k;induction k with
  | zero=>
   by_cases h:Gl s t (F7 s t l 0)
   .exact .inl ⟨0,zF _,h⟩
   .have:=sK h;exact .inr (by omega)
  | succ k ih=>
   rcases ih with ⟨j,h1,h2⟩ | ih;·exact .inl ⟨j,by omega,h2⟩
   .by_cases h:Gl s t (F7 s t l (k+1))
    .exact .inl ⟨k+1,zF _,h⟩
    .have:=sK h;exact .inr (by omega)
 obtain⟨j,h1,h2⟩:∃j,j<=(aU t).length/\Gl s t (F7 s t l j):=by
  rcases key (aU t).length with q | q
  .exact q
  .have:=zO (λp:m9=>decide (p.Val∈F7 s t l ((aU t).length+1))) (aU t);omega
 obtain⟨n,hn,hmin⟩:=bk (p:=λj=>Gl s t (F7 s t l j)) ⟨j,h2⟩;exact⟨n,wd (hmin j h2) h1,hn,λi hi q=>by have:=hmin i q;omega⟩
end
noncomputable def MF(s:a7)(t:Tb)(l:List Int):Nat:=Classical.choose (rk s t l)
theorem MG(s:a7)(t:Tb)(l:List Int):MF s t l<=(aU t).length:=(zap (rk s t l)).1
theorem DA(s:a7)(t:Tb)(l:List Int):Gl s t (F7 s t l (MF s t l)):=(zap (rk s t l)).2.1
theorem HM(s:a7)(t:Tb)(l:List Int){j:Nat}(h:j<MF s t l):¬Gl s t (F7 s t l j):=(zap (rk s t l)).2.2 j h
section
variable{s:a7}(hR:rH (sO s)){t:Tb}(hT:HR t)(hTB:TB t)
include hR hT hTB
omit hT hTB in
theorem yg {h:Int} (hh:h<=9223372036854775807):fX h s=some (decide (h∈lv s)):=by
 obtain⟨e,h1,h2⟩:=Q2 hR hh;unfold fX;rw[h1,XB];congr 1;rw[za2,q9,zx];exact h2
omit hT hTB in
theorem vH {h:Int} (hh:h<=9223372036854775807):nG (sO s) h=some (decide (h∈lv s)):=by
 obtain⟨e,h1,h2⟩:=Q2 hR hh;unfold nG;rw[ja s (by have:=cI hR;omega) hh,h1];simp only[zM,XB];congr 1;rw[za2,q9,zx];exact h2
theorem Hv{l:List Int}(hl:l.length<=1000000):qj s t l=some (vO s t l):=by
 unfold qj;simp only[jn,Mm hT,XB];have h8:=iM hT.l8;rw[E7 ((aU t)) (λb p=>b++(if decide (p.Key∈l/\p.Key∈lv s/\p.Val∈lv s) then [p.Val] else [])) id (λk b=>b.length<=k) (by omega) (by simp) (λk hk b hb=>?_) (λb _=>?_)]
 .simp only[XB,id];rw[de];congr 1;unfold vO;rw[zb2];generalize aU t=P;induction P with
  | nil=>rfl
  | cons p P ih=>
   rw[za0,rx,ih];by_cases q:p.Key∈l/\p.Key∈lv s/\p.Val∈lv s
   .simp[q]
   .simp[q]
 .have hb':=hTB.has (fy.1 (zh hk));simp only[zB,hk,zD,zH,o0 hk,XB,contains_eq _ _ hl];rw[yg hR hb'.1,yg hR hb'.2];by_cases q1:(aU t)[k].Key∈l
  .rw[zu q1];simp only[zW,aF,XB,ut];by_cases q2:(aU t)[k].Key∈lv s
   .rw[zu q2];simp only[zW,aF,XB,ut];by_cases q3:(aU t)[k].Val∈lv s
    .rw[zb (by simpa using q3),y4 (by omega) (by simp;omega),XB,k8,zb (by simp[q1,q2,q3])];exact⟨rfl,by simp;omega⟩
    .rw[za (by simpa using q3),k8,za (by simp[q3]),mt];exact⟨rfl,by omega⟩
   .rw[zI q2];simp only[show ((false==true):Bool)=false from rfl,yo,XB,zbe,zi,zV];rw[k8,za (by simp[q2]),mt];exact⟨rfl,by omega⟩
  .rw[zI q1];simp only[show ((false==true):Bool)=false from rfl,yo,XB,zbe,zi,zV];rw[k8,za (by simp[q1]),mt];exact⟨rfl,by omega⟩
 .simp only[ms,or,zi,zV];rfl
theorem IK{l:List Int}(hl:l.length<=1000000):qV (sO s) (t.map K1) l=some (vO s t l):=by
 unfold qV;simp only[jn,yz hT,XB];have h8:=iM hT.l8;rw[E7 ((aU t)) (λb p=>b++(if decide (p.Key∈l/\p.Key∈lv s/\p.Val∈lv s) then [p.Val] else [])) id (λk b=>b.length<=k) (by omega) (by simp) (λk hk b hb=>?_) (λb _=>?_)]
 .simp only[XB,id];rw[de];congr 1;unfold vO;rw[zb2];generalize aU t=P;induction P with
  | nil=>rfl
  | cons p P ih=>
   rw[za0,rx,ih];by_cases q:p.Key∈l/\p.Key∈lv s/\p.Val∈lv s
   .simp[q]
   .simp[q]
 .have hb':=hTB.has (fy.1 (zh hk));have hk':k<((aU t).map pp).length:=by simpa using hk
  have eix:ix ((aU t).map pp) (k:Int)=some (pp (aU t)[k]):=by rw[bc,o0 hk];rfl
  simp only[wt,zB,hk,zD,zH,eix,XB,qq _ _ hl,pp];rw[vH hR hb'.1,vH hR hb'.2];simp only[XB];by_cases q1:(aU t)[k].Key∈lv s
  .rw[zu q1];simp only[zW,aF,XB,ut];have h0:=Hj hR _ q1;by_cases q2:(aU t)[k].Key∈l
   .rw[zu (show (aU t)[k].Key≠0/\(aU t)[k].Key∈l from ⟨h0,q2⟩)];simp only[zW,aF,XB,ut];by_cases q3:(aU t)[k].Val∈lv s
    .rw[zb (by simpa using q3),y4 (by omega) (by simp;omega),XB,k8,zb (by simp[q1,q2,q3])];exact⟨rfl,by simp;omega⟩
    .rw[za (by simpa using q3),k8,za (by simp[q3]),mt];exact⟨rfl,by omega⟩
   .rw[zI (show ¬((aU t)[k].Key≠0/\(aU t)[k].Key∈l) from λq=>q2 q.2)];simp only[show ((false==true):Bool)=false from rfl,yo,XB,zbe,zi,zV];rw[k8,za (by simp[q2]),mt];exact⟨rfl,by omega⟩
  .rw[zI q1];simp only[show ((false==true):Bool)=false from rfl,yo,XB,zbe,zi,zV];rw[k8,za (by simp[q1]),mt];exact⟨rfl,by omega⟩
 .simp only[wt,ms,or,zi,zV];rfl
theorem Lf(hF:FB s){l:List Int}(hl:LB l)(hlen:l.length<=1000000):nw s t l=some (BU s t l,(MF s t l:Int)):=by
 unfold nw;rw[GV hR hF hl hlen,XB];simp only[jn];have hn:=MG s t l;have h8:=iM hT.l8;have hstep:∀k,∃m,F7 s t l k=BY s m:=jv;refine cp (p:=λk=>(F7 s t l k,(k:Int))) rfl (MF s t l) (λ_=>True) (by omega) trivial (λk hk _=>.inl ⟨?_,trivial⟩) (λ_=>?_)
 .obtain⟨m,hm⟩:=hstep k;have hlk:(F7 s t l k).length<=24:=by rw[hm];exact HC hR m
  have hlb:LB (F7 s t l k):=by rw[hm];exact TK hR m
  have hno:=HM s t l hk;simp only;rw[Hv hR hT hTB (by omega),XB];have ho:=AT (s:=s) hT (F7 s t l k);obtain⟨j,⟨hj,hjn⟩,hmin⟩:=bk (p:=λj=>∃hj:j<(vO s t (F7 s t l k)).length,(vO s t (F7 s t l k))[j]∉F7 s t l k) (by
   refine we λq=>hno (AS.1 λv hv=>we λq2=>?_);obtain⟨j,hj,e⟩:=List.mem_iff_getElem.1 hv;exact q ⟨j,hj,by rw[e];exact q2⟩)
  refine T1 (vO s t (F7 s t l k)).length (λi=>i<=j) (by omega) (un _) (λi hi hP=>?_) (λhP=>by omega);simp only[zB,hi,zD,zH,o0 hi,XB];rw[contains_eq _ _ (by omega),XB];rcases zy i j with q | q
  .refine .inl ⟨?_,q⟩;have:(vO s t (F7 s t l k))[i]∈F7 s t l k:=we λq2=>by have:=hmin i ⟨hi,q2⟩;omega
   rw[za (by simp[this]),k8]
  .have:i=j:=by omega
   subst this;refine .inr ⟨.inl (F7 s t l (k+1),((k+1:Nat):Int)),?_,rfl⟩;rw[zb (by simp[hjn]),y4 (by omega) (by omega),XB,GV hR hF (λx hx=>by
    rcases zt.1 hx with q | q
    .exact Tq hR t _ x q
    .exact hlb x q) (by simp;omega),XB,k8,sL]
   rw[yx (l:=vO s t (F7 s t l k)++F7 s t l k) (m:=F7 s t l k++vO s t (F7 s t l k)) λx=>⟨λq=>q.mono λy hy hyl=>.base (zt.2 (zt.1 hy).symm) hyl,λq=>q.mono λy hy hyl=>.base (zt.2 (zt.1 hy).symm) hyl⟩]
 .have hst:=DA s t l;have hfr:=yy hst;refine⟨(BU s t l,(MF s t l:Int)),?_,rfl⟩;simp only;rw[hfr] at hst |-;have hfl:=Av hR t l;rw[Hv hR hT hTB (by omega),XB];have ho:=AT (s:=s) hT (BU s t l);refine T1 (vO s t (BU s t l)).length (λ_=>True) (by omega) trivial (λi hi _=>.inl ⟨?_,trivial⟩) (λ_=>⟨.inr (),by simp,rfl⟩);have:=AS.2 hst _ (zh hi);simp only[zB,hi,zD,zH,o0 hi,XB];rw[contains_eq _ _ (by omega),XB,za (by simp[this]),k8]
theorem DD{l:List Int}(hlen:l.length<=1000000):pE (sO s) (t.map K1) l=some (BU s t l,(MF s t l:Int)):=by
 unfold pE;rw[xW hR hlen,XB];simp only[jn];have hn:=MG s t l;have h8:=iM hT.l8;have hone:∀k,mH (sO s) (F7 s t l k++vO s t (F7 s t l k))=some (F7 s t l (k+1))/\(F7 s t l k).length<=24/\(vO s t (F7 s t l k)).length<=8/\qV (sO s) (t.map K1) (F7 s t l k)=some (vO s t (F7 s t l k)):=λk=>by
  obtain⟨m,hm⟩:=jv (s:=s) (t:=t) (l:=l) k;have hlk:(F7 s t l k).length<=24:=by rw[hm];exact HC hR m
  have ho:=AT (s:=s) hT (F7 s t l k);exact⟨by rw[xW hR (by simp;omega),sL],hlk,ho,IK hR hT hTB (by omega)⟩
 refine cp (p:=λk=>(F7 s t l k,(k:Int))) rfl (MF s t l) (λ_=>True) (by omega) trivial (λk hk _=>.inl ⟨?_,trivial⟩) (λ_=>?_)
 .obtain⟨h1,h2,h3,h4⟩:=hone k;obtain⟨_,h2',_,_⟩:=hone (k+1);have hne:F7 s t l (k+1)≠F7 s t l k:=λe=>by
   have:=sK (HM s t l hk);rw[e] at this;omega
  simp only;rw[zb (by simp;omega),I9 (by omega) (by omega),XB,h4,XB,y4 (by omega) (by omega),XB,h1,XB,yL _ _ (by omega),XB,za (by simpa using hne),k8]
 .obtain⟨h1,h2,h3,h4⟩:=hone (MF s t l);obtain⟨_,h2',_,_⟩:=hone (MF s t l+1);have hst:=DA s t l;refine⟨.inl (BU s t l,(MF s t l:Int)),?_,rfl⟩;simp only;rw[zb (by simp;omega),I9 (by omega) (by omega),XB,h4,XB,y4 (by omega) (by omega),XB,h1,XB,yL _ _ (by omega),XB,zb (by simpa using FK hst),yy hst]
theorem KU(hF:FB s){l:List Int}(hl:LB l)(hlen:l.length<=1000000):qi s t l=some (BU s t l):=by
 unfold qi;rw[Lf hR hT hTB hF hl hlen];rfl
theorem EJ{l:List Int}(hlen:l.length<=1000000):wa (sO s) (t.map K1) l=some (BU s t l):=by
 unfold wa;rw[DD hR hT hTB hlen];rfl
omit hT hTB hR in
theorem PR {l:List Int} {x:Int}:oC s (BU s t l) x↔aN s t l x:=by
 constructor
 .intro q;exact ki.1 (oC.least (Sp s t l) (λx h _=>h) q)
 .exact λq=>.base (ki.2 q) q.live
theorem KY(hF:FB s){l:List Int}(hl:LB l)(hlen:l.length<=1000000):mi s t l=some (So s t l):=by
 unfold mi;rw[KU hR hT hTB hF hl hlen,XB,OZ hR hF (Sr hR t l) (by have:=Av hR t l;omega),XB];congr 1;unfold lst So;exact zar λx _=>zay.2 (not_congr PR)
open Classical in
theorem EN {l:List Int} (hlen:l.length<=1000000):wb (sO s) (t.map K1) l=some (So s t l):=by
 unfold wb;have h24:=E2 hR;have hfl:=Av hR t l;rw[EJ hR hT hTB hlen,XB,mA hR,XB];simp only[jn];rw[E7 (lv s) (λacc x=>if decide (¬aN s t l x) then acc ++ [x] else acc) id (λk acc=>acc.length<=k) (by omega) (by simp) (λk hk acc hb=>?_) (λb _=>?_)]
 .simp only[XB,id];rw[foldl_filter];rfl
 .simp only[zB,hk,zD,zH,o0 hk,XB];rw[qq _ _ (by omega),XB];have h0:=Hj hR _ (zh hk);by_cases q:aN s t l (lv s)[k]
  .have e:(lv s)[k]∈BU s t l:=ki.2 q;rw[za (by simp[e,h0]),za (by simpa using q),k8];exact⟨rfl,by omega⟩
  .have e:(lv s)[k]∉BU s t l:=λh=>q (ki.1 h);rw[zb (by simp[e]),zb (by simpa using q),y4 (by omega) (by simp;omega),XB,k8];exact⟨rfl,by simp;omega⟩
 .simp only[ms,or,zi,zV];rfl
end
section
variable(s:a7)(hF:FB s)(t:Tb)(hTB:TB t)
include hF hTB
end
def ce(s:a7)(i:Nat):b7:=s.S.a8.getD i ⟨0,0,z0⟩
theorem D3{s:a7}{i:Nat}(h:i<s.S.a8.length):ce s i=s.S.a8[i]:=by
 unfold ce;rw[zd,zc h];rfl
theorem CP{s:a7}{i:Nat}(h:i<s.S.a8.length):ix s.S.a8 (i:Int)=some (ce s i):=by rw[o0 h,D3 h]
def Th(c:b7):Prop:=c.State=1\/c.State=2
instance(c:b7):Decidable (Th c):=by unfold Th;infer_instance
structure xi (s:a7) (o:k9):Prop where
 s1:1<=o.Serial
 s2:o.Serial<=s.Serial
 st:0<=o.Strong
 wk:0<=o.Weak
 p1 : -1<=o.Prog
 p2:o.Prog<=5
 fl:o.Fields.length<=4
structure SR (s:a7):Prop where
 len:s.S.a8.length<=24
 l0:0<=s.S.Last
 l9:s.S.Last<=9
 Z4:0<=s.Serial
 cell:∀i,i<s.S.a8.length->0<=(ce s i).State/\(ce s i).State<=3/\0<=(ce s i).Gen/\(ce s i).Gen<=s.S.Last
 no:∀i,i<s.S.a8.length->¬Th (ce s i)->Ej (oo (ce s i).Val)
 ok:∀i,i<s.S.a8.length->Th (ce s i)->xi s (ce s i).Val
 dif:∀i j,i<s.S.a8.length->j<s.S.a8.length->Th (ce s i)->Th (ce s j)->(ce s i).Val.Serial=(ce s j).Val.Serial->i=j
theorem r9{s:a7}:rH (sO s)↔SR s:=by
 constructor
 .intro h;refine⟨cI h,h.l0,h.l9,h.Z4,λi hi=>?_,λi hi hn=>?_,λi hi ht=>?_,λi j hi hj a b e=>?_⟩;·rw[D3 hi];exact Bq h i hi
  .rw[D3 hi] at hn |-;have:=h.no i (by rw[A8];exact hi);simp only[sO,wl] at this;exact this hn
  .rw[D3 hi] at ht |-;obtain⟨a,b,c,d,e,f,g⟩:=MM h i hi ht;exact⟨a,b,c,d,e,f,g⟩
  .rw[D3 hi] at a e;rw[D3 hj] at b e;exact ML h hi hj a b e
 .intro h;refine⟨by rw[A8];exact h.len,h.l0,h.l9,h.Z4,λi hi=>?_,λi hi hn=>?_,λi hi ht=>?_,λi hi k hk a b=>?_⟩
  .rw[A8] at hi;have:=h.cell i hi;rw[D3 hi] at this;simpa[sO,cO] using this
  .rw[A8] at hi;have:=h.no i hi;rw[D3 hi] at this;simp only[sO,wl] at hn |-;exact this hn
  .rw[A8] at hi;have:=h.ok i hi;rw[D3 hi] at this;simp only[sO,wl] at ht |-;obtain⟨a,b,c,d,e,f,g⟩:=this ht;exact⟨a,b,c,d,e,f,g⟩
  .rw[A8] at hi;have hk':k<s.S.a8.length:=by omega
   have:=h.dif i k hi hk';rw[D3 hi,D3 hk'] at this;simp only[sO,wl,cO,oo] at a b |-;intro e;have:=this a b e.symm;omega
def At(s:a7)(h:Int)(i:Nat):Prop:=i<s.S.a8.length/\(ce s i).State=1/\h=1+(i:Int)+32*(ce s i).Gen
def V6(s:a7)(h:Int)(i:Nat):Prop:=i<s.S.a8.length/\Th (ce s i)/\h=1+(i:Int)+32*(ce s i).Gen
theorem At.d{s:a7}{h:Int}{i:Nat}(q:At s h i):V6 s h i:=⟨q.1,.inl q.2.1,q.2.2⟩
theorem V6.one{s:a7}(hR:SR s){h:Int}{i j:Nat}(q:V6 s h i)(q':V6 s h j):i=j:=by
 obtain⟨a1,_,a2⟩:=q;obtain⟨b1,_,b2⟩:=q';have:=hR.len;omega
theorem V6.MI{s:a7}(hR:SR s){h:Int}{i:Nat}(q:V6 s h i):1<=h/\h<=320:=by
 obtain⟨a1,_,a2⟩:=q;have:=hR.len;have:=hR.cell i a1;have:=hR.l9;omega
theorem CW{s:a7}{h:Int}:h∈X4 0 s.S.a8↔∃i,At s h i:=by
 rw[mr];constructor
 .rintro⟨i,hi,h1,h2⟩;refine⟨i,hi,by rw[D3 hi];exact h1,?_⟩;rw[D3 hi,h2,t7]
 .rintro⟨i,hi,h1,h2⟩;rw[D3 hi] at h1 h2;exact⟨i,hi,h1,by rw[h2,t7]⟩
theorem dX{s:a7}(hR:SR s){h:Int}:h∈lv s↔∃i,At s h i:=by rw[sf (r9.2 hR),CW]
theorem po{s:a7}(hR:SR s){h:Int}{i:Nat}:rI s.S h i↔V6 s h i:=by
 constructor
 .rintro⟨hi,h1,h2,h3,h4⟩;unfold oA at h1;refine⟨hi,by rw[D3 hi];exact h4,?_⟩;rw[D3 hi];omega
 .rintro⟨hi,h1,h2⟩;have l:=hR.len;have l9:=hR.l9;have c:=hR.cell i hi;rw[D3 hi] at h1 h2 c;exact⟨hi,by unfold oA;omega,by omega,by omega,h1⟩
theorem N5{s:a7}(hR:SR s){h:Int}{i:Nat}(q:At s h i):ob s h=(ce s i).Val:=by
 obtain⟨j,hj,h1,h2,_,e⟩:=AL (r9.2 hR) ((dX hR).2 ⟨i,q⟩);have:j=i:=V6.one hR ⟨hj,by rw[D3 hj];exact .inl h1,by rw[D3 hj];exact h2⟩ q.d;subst this;rw[e,D3 hj]
theorem RW{s:a7}(hR:SR s){h:Int}{i:Nat}(q:At s h i):u9 s h=some ((ce s i).Val,0):=by
 rw[vI (r9.2 hR) ((dX hR).2 ⟨i,q⟩),N5 hR q]
theorem Kg{s:a7}(hR:SR s){h:Int}{i:Nat}(q:At s h i):sk s.S.a8 h=(ce s i).Val.Serial:=by
 have:=hR.len;have hi:=q.1;rw[q.2.2,DK hi (by omega),D3 hi]
theorem jU{s:a7}(hR:SR s){h:Int}{i:Nat}(q:V6 s h i):u6 s.S h=some ((i:Int),0):=nv ((po hR).2 q)
theorem pb{s:a7}(hR:SR s){h:Int}(hh:h<=9223372036854775807)(q:∀i,¬V6 s h i):u6 s.S h=some (-1,if h=0 then 2 else 3):=rY hh λi hi=>q i ((po hR).1 hi)
theorem Lx{s s':a7}(hR:SR s)(hR':SR s')(P:Int->Bool)(hm:∀h,(∃i,At s' h i)↔(∃i,At s h i)/\P h=true)(hk:∀h i j,At s' h i->At s h j->(ce s' i).Val.Serial=(ce s j).Val.Serial):lv s'=(lv s).filter P:=by
 have hk':∀h∈lv s,P h=true->sk s'.S.a8 h=sk s.S.a8 h:=λh hh hp=>by
  obtain⟨j,hj⟩:=(dX hR).1 hh;obtain⟨i,hi⟩:=(hm h).2 ⟨⟨j,hj⟩,hp⟩;rw[Kg hR' hi,Kg hR hj,hk h i j hi hj]
 refine Vk (r9.2 hR') ?_ ?_
 .rw[List.perm_ext_iff_of_nodup ((qF (r9.2 hR)).filter _) (kq 0 _ (by have:=hR'.len;omega))];intro h;rw[zm,dX hR,CW,hm h]
 .refine ((gX (r9.2 hR)).2.2.filter P).imp_of_mem λ{a b} ha hb hab=>?_;rw[zm] at ha hb;rw[hk' a ha.1 ha.2,hk' b hb.1 hb.2];exact hab
theorem Pd{s s':a7}(hR:SR s)(hR':SR s')(hl:s'.S.a8.length=s.S.a8.length)(h1:∀i,i<s.S.a8.length->((ce s' i).State=1↔(ce s i).State=1)/\(ce s' i).Gen=(ce s i).Gen/\(ce s' i).Val.Serial=(ce s i).Val.Serial):lv s'=lv s:=by
 have ha:∀h i,At s' h i↔At s h i:=λh i=>by
  unfold At;rw[hl];constructor
  .rintro⟨a,b,c⟩;obtain⟨x,y,z⟩:=h1 i a;exact⟨a,x.1 b,by rw[<-y];exact c⟩
  .rintro⟨a,b,c⟩;obtain⟨x,y,z⟩:=h1 i a;exact⟨a,x.2 b,by rw[y];exact c⟩
 rw[Lx hR hR' (λ_=>true) (λh=>by simp only[and_true];exact⟨λ⟨i,q⟩=>⟨i,(ha h i).1 q⟩,λ⟨i,q⟩=>⟨i,(ha h i).2 q⟩⟩) (λh i j q q'=>by
  have:=V6.one hR ((ha h i).1 q).d q'.d;subst this;exact (h1 i q'.1).2.2)]
 simp
def cy(s:a7)(i:Nat)(o:k9):a7:=⟨⟨s.S.a8.set i ⟨(ce s i).State,(ce s i).Gen,o⟩,s.S.Last⟩,s.Serial⟩
theorem K8(s:a7)(i:Nat)(o:k9):(cy s i o).S.a8.length=s.S.a8.length:=by simp[cy]
theorem jb{α:Type}{l:List α}{i:Nat}(hi:i<l.length)(c d:α)(j:Nat):(l.set i c).getD j d=if j=i then c else l.getD j d:=by
 rw[zd,zd,List.getElem?_set];by_cases h:j=i
 .subst h;rw[zb rfl,zb hi,zb rfl];rfl
 .rw[za (zal h),za h]
theorem jX{s:a7}{i:Nat}(hi:i<s.S.a8.length)(o:k9)(j:Nat):ce (cy s i o) j=if j=i then ⟨(ce s i).State,(ce s i).Gen,o⟩ else ce s j:=jb hi _ _ j
theorem wI{s:a7}{i:Nat}(hi:i<s.S.a8.length)(o:k9)(j:Nat):(ce (cy s i o) j).State=(ce s j).State/\(ce (cy s i o) j).Gen=(ce s j).Gen:=by
 rw[jX hi];split;·rename_i q;subst q;exact⟨rfl,rfl⟩
 .exact⟨rfl,rfl⟩
theorem ug{s:a7}{i:Nat}(hi:i<s.S.a8.length)(o:k9){h:Int}{j:Nat}:V6 (cy s i o) h j↔V6 s h j:=by
 unfold V6 Th;rw[K8,(wI hi o j).1,(wI hi o j).2]
theorem va{s:a7}{i:Nat}(hi:i<s.S.a8.length)(o:k9){h:Int}{j:Nat}:At (cy s i o) h j↔At s h j:=by
 unfold At;rw[K8,(wI hi o j).1,(wI hi o j).2]
theorem Bw{s:a7}(hR:SR s){h:Int}{i:Nat}(q:V6 s h i)(o:k9):I5 s h o=some (cy s i o,0):=by
 obtain⟨hi,e⟩:=DI (v:=o) hR.len ((po hR).2 q);unfold I5;rw[e];simp[cy,D3 hi]
theorem SR.put{s:a7}(hR:SR s){i:Nat}(hi:i<s.S.a8.length)(ht:Th (ce s i)){o:k9}(hs:o.Serial=(ce s i).Val.Serial)(ho:xi s o):SR (cy s i o):=by
 have hst:=wI hi o;have hse:∀j,(ce (cy s i o) j).Val.Serial=(ce s j).Val.Serial:=λj=>by
  rw[jX hi];split;·rename_i q;subst q;exact hs
  .rfl
 refine⟨by rw[K8];exact hR.len,hR.l0,hR.l9,hR.Z4,λj hj=>?_,λj hj hn=>?_,λj hj hn=>?_,λj k hj hk a b e=>?_⟩
 .rw[K8] at hj;rw[(hst j).1,(hst j).2];exact hR.cell j hj
 .rw[K8] at hj;unfold Th at hn;rw[(hst j).1] at hn;rw[jX hi];split;·rename_i q;subst q;exact absurd ht hn
  .exact hR.no j hj hn
 .rw[K8] at hj;unfold Th at hn;rw[(hst j).1] at hn;rw[jX hi];split;·exact⟨ho.s1,ho.s2,ho.st,ho.wk,ho.p1,ho.p2,ho.fl⟩
  .have:=hR.ok j hj hn;exact⟨this.s1,this.s2,this.st,this.wk,this.p1,this.p2,this.fl⟩
 .rw[K8] at hj hk;unfold Th at a b;rw[(hst j).1] at a;rw[(hst k).1] at b;rw[hse,hse] at e;exact hR.dif j k hj hk a b e
theorem Lv{s:a7}(hR:SR s){i:Nat}(hi:i<s.S.a8.length){o:k9}(hs:o.Serial=(ce s i).Val.Serial)(hR':SR (cy s i o)):lv (cy s i o)=lv s:=by
 refine Pd hR hR' (K8 ..) λj hj=>?_;rw[jX hi];split;·rename_i q;subst q;exact⟨Iff.rfl,rfl,hs⟩
 .exact⟨Iff.rfl,rfl,rfl⟩
theorem Tk{s:a7}(hR:SR s){h:Int}{i:Nat}(q:At s h i){o:k9}(hR':SR (cy s i o)){k:Int}(hk:k<=9223372036854775807):ob (cy s i o) k=if k=h then o else ob s k:=by
 by_cases e:k=h
 .subst e;rw[zb rfl,N5 hR' ((va q.1 o).2 q),jX q.1,zb rfl]
 .rw[za e];by_cases hl:∃j,At s k j
  .obtain⟨j,hj⟩:=hl;rw[N5 hR' ((va q.1 o).2 hj),N5 hR hj,jX q.1,za];intro e2;subst e2;exact e (hj.2.2.trans q.2.2.symm)
  .rw[oT (r9.2 hR) hk (λq2=>hl ((dX hR).1 q2)),oT (r9.2 hR') hk λq2=>hl (by
    obtain⟨j,hj⟩:=(dX hR').1 q2;exact⟨j,(va q.1 o).1 hj⟩)]
def C0(h:Int):Nat:=((h-1) % 32).toNat
theorem V6.C0{s:a7}(hR:SR s){h:Int}{i:Nat}(q:V6 s h i):C0 h=i:=by
 obtain⟨a,_,c⟩:=q;have:=hR.len;unfold Sh.C0;omega
def bR(s:a7)(h:Int)(o:k9):a7:=cy s (C0 h) o
theorem y5{s:a7}(hR:SR s){h:Int}(hh:h∈lv s):At s h (C0 h):=by
 obtain⟨i,hi⟩:=(dX hR).1 hh;rw[hi.d.C0 hR];exact hi
theorem I3{s:a7}(hR:SR s){h:Int}(hh:h∈lv s):xi s (ob s h):=by
 have q:=y5 hR hh;rw[N5 hR q];exact hR.ok _ q.1 (.inl q.2.1)
theorem F6{s:a7}(hR:SR s){h:Int}(hh:h∈lv s):1<=h/\h<=320:=(y5 hR hh).d.MI hR
theorem ou{s:a7}(hR:SR s):(0:Int)∉lv s:=λh=>by have:=F6 hR h;omega
section
variable{s:a7}(hR:SR s){h:Int}(hh:h∈lv s){o:k9}(hs:o.Serial=(ob s h).Serial)(ho:xi s o)
include hR hh hs ho
theorem aL:SR (bR s h o):=by
 have q:=y5 hR hh;exact hR.put q.1 (.inl q.2.1) (by rw[hs,N5 hR q]) ho
theorem eX:lv (bR s h o)=lv s:=by
 have q:=y5 hR hh;exact Lv hR q.1 (by rw[hs,N5 hR q]) (aL hR hh hs ho)
theorem dz{k:Int}(hk:k<=9223372036854775807):ob (bR s h o) k=if k=h then o else ob s k:=Tk hR (y5 hR hh) (aL hR hh hs ho) hk
theorem rn:I5 s h o=some (bR s h o,0):=Bw hR (y5 hR hh).d o
theorem FR{k:Int}{i:Nat}:V6 (bR s h o) k i↔V6 s k i:=ug (y5 hR hh).1 o
theorem Bv(i:Nat):ce (bR s h o) i=if i=C0 h then ⟨(ce s i).State,(ce s i).Gen,o⟩ else ce s i:=by
 unfold bR;rw[jX (y5 hR hh).1];split;·rename_i q;rw[q]
 .rfl
end
abbrev yH(o:k9)(n:Int):k9:=⟨o.Serial,n,o.Weak,o.Prog,o.Started,o.Fields⟩
structure tF (s s':a7):Prop where
 sr:SR s'
 len:s'.S.a8.length=s.S.a8.length
 last:s'.S.Last=s.S.Last
 Z4:s'.Serial=s.Serial
 lv:lv s'=lv s
 ad:∀k i,V6 s' k i↔V6 s k i
 ob:∀k,k<=9223372036854775807->∃n,ob s' k=(yH (ob s k) (n))
 ce:∀i,i<s.S.a8.length->(ce s' i).State=(ce s i).State/\(ce s' i).Gen=(ce s i).Gen/\(ce s' i).Val.Weak=(ce s i).Val.Weak/\(ce s' i).Val.Fields=(ce s i).Val.Fields/\((ce s i).State≠1->ce s' i=ce s i)
theorem tF.refl{s:a7}(hR:SR s):tF s s:=⟨hR,rfl,rfl,rfl,rfl,λ_ _=>Iff.rfl,λk _=>⟨_,rfl⟩,λi _=>⟨rfl,rfl,rfl,rfl,λ_=>rfl⟩⟩
theorem tF.trans{a b c:a7}(h:tF a b)(q:tF b c):tF a c:=by
 refine⟨q.sr,q.len.trans h.len,q.last.trans h.last,q.Z4.trans h.Z4,q.lv.trans h.lv,λk i=>(q.ad k i).trans (h.ad k i),λk hk=>?_,λi hi=>?_⟩
 .obtain⟨n,e⟩:=h.ob k hk;obtain⟨m,f⟩:=q.ob k hk;exact⟨m,by rw[f,e]⟩
 .obtain⟨a1,a2,a3,a4,a5⟩:=h.ce i hi;obtain⟨b1,b2,b3,b4,b5⟩:=q.ce i (by rw[h.len];exact hi);refine⟨b1.trans a1,b2.trans a2,b3.trans a3,b4.trans a4,λhn=>?_⟩;rw[b5 (by rw[a1];exact hn),a5 hn]
theorem tF.outs{s s':a7}(k:tF s s'){h:Int}(hh:h<=9223372036854775807):outs s' h=outs s h:=by
 obtain⟨n,e⟩:=k.ob h hh;unfold Sh.outs;rw[e]
theorem tF.gU{s s':a7}(hR:SR s)(k:tF s s')(h:Int):gU s' h=gU s h:=by
 unfold Sh.gU;rw[k.lv];congr 1;refine zC λx hx=>?_;rw[k.outs (by have:=F6 hR hx;omega)]
theorem OX{s:a7}(hR:SR s){h:Int}(hh:h∈lv s){n:Int}(hn:0<=n):tF s (bR s h (yH (ob s h) (n))):=by
 have ho:xi s (yH (ob s h) (n)):=by
  have:=I3 hR hh;exact⟨this.s1,this.s2,hn,this.wk,this.p1,this.p2,this.fl⟩
 have q:=y5 hR hh;refine⟨aL hR hh rfl ho,K8 ..,rfl,rfl,eX hR hh rfl ho,λk i=>FR (o:=(yH (ob s h) (n))) hR hh rfl ho,λk hk=>?_,λi hi=>?_⟩
 .rw[dz (o:=(yH (ob s h) (n))) hR hh rfl ho hk];split;·rename_i e;subst e;exact⟨n,rfl⟩
  .exact⟨_,rfl⟩
 .rw[Bv (o:=(yH (ob s h) (n))) hR hh rfl ho];split
  .rename_i e;subst e;rw[N5 hR q];exact⟨rfl,rfl,rfl,rfl,λhn=>absurd q.2.1 hn⟩
  .exact⟨rfl,rfl,rfl,rfl,λ_=>rfl⟩
def SB(s:a7):Prop:=∀c∈s.S.a8,c.Val.Strong<=9223372036854775807
theorem Vc{s:a7}:FB s↔∀i,i<s.S.a8.length->∀x∈(ce s i).Val.Fields,x<=9223372036854775807:=by
 constructor
 .intro h i hi x hx;rw[D3 hi] at hx;exact h _ (zh hi) x hx
 .intro h c hc x hx;obtain⟨i,hi,rfl⟩:=zaz hc;exact h i hi x (by rw[D3 hi];exact hx)
theorem VQ{s:a7}:SB s↔∀i,i<s.S.a8.length->(ce s i).Val.Strong<=9223372036854775807:=by
 constructor
 .intro h i hi;rw[D3 hi];exact h _ (zh hi)
 .intro h c hc;obtain⟨i,hi,rfl⟩:=zaz hc;have:=h i hi;rwa [D3 hi] at this
noncomputable def inr(s:a7)(t:Tb)(h:Int):Nat:=gU s h+own t h
noncomputable def yB(s:a7)(t:Tb)(h:Int):Int:=if h∈lv s then (ob s h).Strong-(inr s t h:Int) else 0
noncomputable def OQ(s:a7)(t:Tb):List Int:=(lv s).filter λh=>decide (0<yB s t h\/12<=(ob s h).Strong)
def QD(s:a7)(t:Tb)(l:List Int):Prop:=∀h∈lv s,(ob s h).Strong<12->yB s t h=(X6 l h:Int)
noncomputable instance(s:a7)(t:Tb)(l:List Int):Decidable (QD s t l):=Classical.propDecidable _
section
variable{s:a7}(hR:rH (sO s)){t:Tb}(hT:HR t)
include hR hT
theorem Lm(h:Int):iv s t h=some (inr s t h:Int):=by
 unfold iv;have h1:=EW hR h;have h2:=Fo hT.l8 h;rw[Vi hR,XB,Mh hT,XB,D1 (by omega) (by omega)];unfold inr;simp
theorem EX(h:Int):sF (sO s) (t.map K1) h=some (inr s t h:Int):=by
 unfold sF;have h1:=EW hR h;have h2:=Fo hT.l8 h;rw[OR hR,XB,Js hT,XB,D1 (by omega) (by omega)];unfold inr;simp
theorem Ln(h:Int):inr s t h<=104:=by
 have h1:=EW hR h;have h2:=Fo hT.l8 h;unfold inr;omega
omit hT in
theorem sW (hB:SB s) {h:Int} (hh:h∈lv s):0<=(ob s h).Strong/\(ob s h).Strong<=9223372036854775807:=by
 obtain⟨i,hi⟩:=(dX (r9.1 hR)).1 hh;rw[N5 (r9.1 hR) hi];refine⟨((r9.1 hR).ok i hi.1 (.inl hi.2.1)).st,?_⟩;rw[D3 hi.1];exact hB _ (zh _)
theorem PS(hB:SB s){h:Int}(hh:h<=9223372036854775807):ll s t h=some (yB s t h):=by
 unfold ll;obtain⟨e,h1,h2⟩:=Q2 hR hh;rw[h1,XB];by_cases q:h∈lv s
 .have:=h2.2 q;subst this;have h3:=Ln hR hT h;have h4:=sW hR hB q;rw[za (by simp),Lm hR hT,XB,D1 (by dsimp only;omega) (by dsimp only;omega)];unfold yB;rw[zb q]
 .rw[zb (by simpa using λq2=>q (h2.1 q2))];unfold yB;rw[za q]
theorem Jm(hB:SB s){h:Int}(hh:h<=9223372036854775807):qW (sO s) (t.map K1) h=some (yB s t h):=by
 unfold qW;obtain⟨e,h1,h2⟩:=Q2 hR hh;rw[ja s (by have:=cI hR;omega) hh,h1,zM,XB];by_cases q:h∈lv s
 .have:=h2.2 q;subst this;have h3:=Ln hR hT h;have h4:=sW hR hB q;rw[za (by simp),EX hR hT,XB];simp only[oo];rw[D1 (by omega) (by omega)];unfold yB;rw[zb q]
 .rw[zb (by simpa using λq2=>q (h2.1 q2))];unfold yB;rw[za q]
omit hT in
theorem FV {h:Int} (hh:h<=9223372036854775807):nH (sO s) h=some (decide (12<=(ob s h).Strong)):=by
 unfold nH dq;obtain⟨e,h1,h2⟩:=Q2 hR hh;rw[ja s (by have:=cI hR;omega) hh,h1,zM,XB,XB];rfl
omit hT in
theorem Rb {k:Nat} (hk:k<(lv s).length):(lv s)[k]<=9223372036854775807:=by
 have:=iI hR (zh hk);omega
theorem OP(hB:SB s):lj s t=some (OQ s t):=by
 unfold lj;simp only[jn];have h24:=E2 hR;rw[cq hR,XB,E7 (lv s) (λb x=>if decide (0<yB s t x\/12<=(ob s x).Strong) then b ++ [x] else b) id (λk b=>b.length<=k) (by omega) (by simp) (λk hk b hI=>?_) (λb _=>by simp),XB]
 .rw[foldl_filter];rfl
 .have hm:=zh hk;have hle:=Rb hR hk;simp only[zB,hk,zD,zH,o0 hk,XB];rw[vI hR hm,XB];unfold lk md E3;rw[PS hR hT hB hle,XB,XB];by_cases q:0<yB s t (lv s)[k]
  .rw[zu (show yB s t (lv s)[k] > 0 from q)];simp only[show ((true==false):Bool)=false from rfl,yo,XB,Bool.true_or,zH];rw[y4 (by omega) (by simp;omega),XB,k8,zb (zu (.inl q))];exact⟨rfl,by simp;omega⟩
  .rw[zI (show ¬yB s t (lv s)[k] > 0 from q)];simp only[zW,aF,XB,zbw];by_cases q2:12<=(ob s (lv s)[k]).Strong
   .rw[zb (zu q2),y4 (by omega) (by simp;omega),XB,k8,zb (zu (.inr q2))];exact⟨rfl,by simp;omega⟩
   .rw[za (by simpa using q2),k8,za (by simp only[zb3];exact λc=>c.elim q q2)];exact⟨rfl,by omega⟩
theorem IL(hB:SB s):wc (sO s) (t.map K1)=some (OQ s t):=by
 unfold wc;simp only[jn];have h24:=E2 hR;rw[mA hR,XB,E7 (lv s) (λb x=>if decide (0<yB s t x\/12<=(ob s x).Strong) then b ++ [x] else b) id (λk b=>b.length<=k) (by omega) (by simp) (λk hk b hI=>?_) (λb _=>by simp),XB]
 .rw[foldl_filter];rfl
 .have hle:=Rb hR hk;simp only[zB,hk,zD,zH,o0 hk,XB];rw[Jm hR hT hB hle,XB];by_cases q:0<yB s t (lv s)[k]
  .rw[zu (show yB s t (lv s)[k] > 0 from q)];simp only[show ((true==false):Bool)=false from rfl,yo,XB,Bool.true_or,zH];rw[y4 (by omega) (by simp;omega),XB,k8,zb (zu (.inl q))];exact⟨rfl,by simp;omega⟩
  .rw[zI (show ¬yB s t (lv s)[k] > 0 from q)];simp only[zW,aF,XB,zbw];rw[FV hR hle,XB];by_cases q2:12<=(ob s (lv s)[k]).Strong
   .rw[zb (zu q2),y4 (by omega) (by simp;omega),XB,k8,zb (zu (.inr q2))];exact⟨rfl,by simp;omega⟩
   .rw[za (by simpa using q2),k8,za (by simp only[zb3];exact λc=>c.elim q q2)];exact⟨rfl,by omega⟩
omit hT in
theorem Ha:(OQ s t).length<=24:=wd (zO ..) (E2 hR)
omit hR hT in
theorem uo {h:Int}:h∈OQ s t↔h∈lv s/\(0<yB s t h\/12<=(ob s h).Strong):=by
 unfold OQ;rw[zm,zb3]
omit hT in
theorem SJ:LB (OQ s t):=λx hx=>by have:=iI hR (uo.1 hx).1;omega
theorem ES(hTB:TB t)(hF:FB s)(hB:SB s):aZ s t=some (So s t (OQ s t)):=by
 unfold aZ;have:=Ha hR (t:=t);rw[OP hR hT hB,XB,KY hR hT hTB hF (SJ hR) (by omega)];rfl
theorem Aw(hTB:TB t)(hB:SB s):mK (sO s) (t.map K1)=some (So s t (OQ s t)):=by
 unfold mK;have:=Ha hR (t:=t);rw[IL hR hT hB,XB,EN hR hT hTB (by omega)];rfl
end
abbrev TQ:=c5
def MY(q:TQ)(t:g9):TQ × Int:=if q.Cap<=q.L.length then (q,4) else (⟨q.L ++ [t],q.Cap⟩,0)
def Ga(q:TQ):TQ × g9 × Int:=match q.L with
 | []=>(q,⟨0,0,0⟩,10)
 | t::l=>(⟨l,q.Cap⟩,t,0)
theorem Rp{q:TQ}(t:g9)(h:q.L.length<=1000):nh q t=some (MY q t):=by
 unfold MY;unfold nh P2 H3 D8;simp only[XB];by_cases c:q.Cap<=q.L.length
 .rw[zb (by simpa using c),zb c,XB]
 .rw[za (by simpa using c),za c];have e:cut q.L 0 (q.L.length:Int)=some q.L:=by
   have:=pk (xs:=q.L) (i:=0) (j:=q.L.length) (un _) (zF _);simpa using this
  rw[e,XB,XB,y4 (by omega) (by simp;omega),XB,XB]
theorem BF{q:TQ}:bQ q=some (Ga q):=by
 unfold Ga;unfold bQ aK X5 H3 D8;simp only[XB];cases hl:q.L with
 | nil=>
  have e:cut ([]:List g9) 0 0=some []:=rfl;simp[e]
 | cons t l=>
  have hm:(if (if (((t::l).length:Nat):Int)<1 then (((t::l).length:Nat):Int) else 1) > 0 then (if (((t::l).length:Nat):Int)<1 then (((t::l).length:Nat):Int) else 1) else 0)=1:=by
   rw[za (show ¬(((t::l).length:Nat):Int)<1 by simp;omega)];simp
  rw[hm];have e1:cut (t::l) 0 1=some [t]:=by
   have:=pk (xs:=t::l) (i:=0) (j:=1) (un _) (by simp);simpa using this
  have e2:cut (t::l) 1 (((t::l).length:Nat):Int)=some l:=by
   have:=pk (xs:=t::l) (i:=1) (j:=(t::l).length) (by simp) (zF _);simpa using this
  rw[e1,e2];simp[ix]
theorem Qn{q:TQ}{w:Int}(h:q.L.length<=1000):gy q w=some (q.L.any λt=>t.Kind==2&&t.At==w):=by
 unfold gy uK;simp only[jn,XB];refine T1 q.L.length (λk=>(q.L.take k).any (λt=>t.Kind==2&&t.At==w)=false) (by omega) (by simp) ?_ (λhl=>⟨.inr (),by simp,by rw[zL] at hl;rw[hl]⟩);intro k hk hP;simp only[zB,hk,zD,zH,o0 hk,XB];rw[zw hk,List.any_append,hP,zbw];by_cases c:(q.L[k].Kind==2)=true
 .rw[c,zb (by decide)];by_cases d:(q.L[k].At==w)=true
  .right;rw[d,zb rfl];refine⟨.inl true,rfl,?_⟩;simp only[zZ];symm
   rw[List.any_eq_true];exact⟨_,zh hk,by rw[c,d];rfl⟩
  .have d:(q.L[k].At==w)=false:=by simpa using d
   left;rw[d,za (by decide),k8];exact⟨rfl,by simp[d]⟩
 .have c:(q.L[k].Kind==2)=false:=by simpa using c
  left;rw[c,za (by decide),k8];exact⟨rfl,by simp[c]⟩
def tU(t:g9):u5:=⟨t.Kind,t.At,t.Prog⟩
def jD(q:TQ):u7:=⟨q.L.map tU,q.Cap⟩
theorem Rk{q:TQ}(t:g9)(h:q.L.length<=1000):kQ (jD q) (tU t)=some (jD (MY q t).1,(MY q t).2):=by
 unfold kQ MY;have hl:(jD q).L.length=q.L.length:=by simp[jD]
 by_cases c:q.Cap<=q.L.length
 .rw[zb (by simp[hl];exact c),zb c]
 .rw[za (by simp[hl];exact Int.not_le.1 c),za c,I9 (by omega) (by rw[hl];omega),XB,y4 (by omega) (by simp[hl];omega),XB];simp[jD]
theorem TG{q:TQ}:wg (jD q)=some (jD (Ga q).1,tU (Ga q).2.1,(Ga q).2.2):=by
 unfold wg Ga;obtain⟨L,C⟩:=q;cases L with
 | nil=>simp[jD,tU]
 | cons t l=>
  rw[za (by simp[jD];omega)];have e:cut (jD ⟨t::l,C⟩).L 1 (((jD ⟨t::l,C⟩).L.length:Nat):Int)=some (l.map tU):=by
   have:=pk (xs:=(jD ⟨t::l,C⟩).L) (i:=1) (j:=(jD ⟨t::l,C⟩).L.length) (by simp[jD]) (zF _);rw[show (1:Int)=((1:Nat):Int) from rfl,this,zL];simp[jD]
  rw[e];simp[ix,jD]
theorem TD{q:TQ}(h:q.L.length<=1000):qX (jD q) (jD q)=some true:=by
 unfold qX;have hl:(jD q).L.length=q.L.length:=by simp[jD]
 rw[za (by simp)];simp only[jn];refine T1 (jD q).L.length (λ_=>True) (by omega) trivial (λk hk _=>.inl ⟨?_,trivial⟩) (λ_=>⟨.inr (),by simp,rfl⟩);simp only[zB,hk,zD,zH,o0 hk,XB];rw[za (by simp),k8 (n:=k) (by omega)]
theorem PN{q:TQ}{w:Int}(h:q.L.length<=1000):jo (jD q) w=some (q.L.any λt=>t.Kind==2&&t.At==w):=by
 unfold jo;have hl:(jD q).L.length=q.L.length:=by simp[jD]
 simp only[jn,hl];refine T1 q.L.length (λk=>(q.L.take k).any (λt=>t.Kind==2&&t.At==w)=false) (by omega) (by simp) ?_ (λhl=>⟨.inr (),by simp,by rw[zL] at hl;rw[hl]⟩);intro k hk hP;have e:ix (jD q).L (k:Int)=some (tU q.L[k]):=by rw[show (jD q).L=q.L.map tU from rfl,bc,o0 hk];rfl
 simp only[zB,hk,zD,zH,e,XB];rw[zw hk,List.any_append,hP,zbw];by_cases c:(q.L[k].Kind==2&&q.L[k].At==w)=true
 .right;rw[show ((tU q.L[k]).Kind==2&&(tU q.L[k]).At==w)=true from c,zb rfl];refine⟨.inl true,rfl,?_⟩;simp only[zZ];symm
  rw[List.any_eq_true];exact⟨_,zh hk,c⟩
 .have c:(q.L[k].Kind==2&&q.L[k].At==w)=false:=by simpa using c
  left;rw[show ((tU q.L[k]).Kind==2&&(tU q.L[k]).At==w)=false from c,za (by decide),k8];exact⟨rfl,by simp[c]⟩
abbrev Hp:=b6
abbrev wS(x:Hp)(s:a7):Hp:=⟨s,x.Roots,x.a8,x.T,x.Q⟩
abbrev wR(x:Hp)(l:List Int):Hp:=⟨x.S,l,x.a8,x.T,x.Q⟩
abbrev wC(x:Hp)(l:List c7):Hp:=⟨x.S,x.Roots,l,x.T,x.Q⟩
abbrev wT(x:Hp)(t:Tb):Hp:=⟨x.S,x.Roots,x.a8,t,x.Q⟩
abbrev wQ(x:Hp)(q:TQ):Hp:=⟨x.S,x.Roots,x.a8,x.T,q⟩
def BW(l:List c7)(h:Int):Nat:=l.countP λc=>(h != 0)&&(c.Target==h)
def xq(q:TQ):List Int:=(q.L.filter (·.Kind==1)).map (·.At)
def JF(q:TQ)(w:Int):Bool:=q.L.any λt=>t.Kind==2&&t.At==w
def ow(x:Hp):List Int:=nz x.Roots++xq x.Q
noncomputable def ov(x:Hp)(h:Int):Nat:=gU x.S h+own x.T h+X6 (ow x) h
def F3(s:a7)(i:Nat)(c:b7):a7:=⟨⟨s.S.a8.set i c,s.S.Last⟩,s.Serial⟩
theorem V5(s:a7)(i:Nat)(c:b7):(F3 s i c).S.a8.length=s.S.a8.length:=by simp[F3]
theorem J0{s:a7}{i:Nat}(hi:i<s.S.a8.length)(c:b7)(j:Nat):ce (F3 s i c) j=if j=i then c else ce s j:=jb hi _ _ j
theorem SR.F3{s:a7}(hR:SR s){i:Nat}(hi:i<s.S.a8.length){c:b7}(h1:0<=c.State/\c.State<=3/\0<=c.Gen/\c.Gen<=s.S.Last)(h2:¬Th c->Ej (oo c.Val))(h3:Th c->xi s c.Val/\Th (ce s i)/\c.Val.Serial=(ce s i).Val.Serial):SR (F3 s i c):=by
 have key:∀j,Th (ce (Sh.F3 s i c) j)->Th (ce s j)/\(ce (Sh.F3 s i c) j).Val.Serial=(ce s j).Val.Serial:=λj hj=>by
  rw[J0 hi] at hj |-;split at hj
  .rename_i e;subst e;rw[zb rfl];exact (h3 hj).2
  .rename_i e;rw[za e];exact⟨hj,rfl⟩
 refine⟨by rw[V5];exact hR.len,hR.l0,hR.l9,hR.Z4,λj hj=>?_,λj hj hn=>?_,λj hj hn=>?_,λj k hj hk a b e=>?_⟩
 .rw[V5] at hj;rw[J0 hi];split;·exact h1
  .exact hR.cell j hj
 .rw[V5] at hj;rw[J0 hi] at hn |-;split at hn
  .rename_i e;rw[zb e];exact h2 hn
  .rename_i e;rw[za e];exact hR.no j hj hn
 .rw[V5] at hj;rw[J0 hi] at hn |-;split at hn
  .rename_i e;rw[zb e];have:=(h3 hn).1;exact⟨this.s1,this.s2,this.st,this.wk,this.p1,this.p2,this.fl⟩
  .rename_i e;rw[za e];have:=hR.ok j hj hn;exact⟨this.s1,this.s2,this.st,this.wk,this.p1,this.p2,this.fl⟩
 .rw[V5] at hj hk;obtain⟨a1,a2⟩:=key j a;obtain⟨b1,b2⟩:=key k b;rw[a2,b2] at e;exact hR.dif j k hj hk a1 b1 e
theorem Kf{s:a7}{i:Nat}(hi:i<s.S.a8.length)(c:b7){h:Int}{j:Nat}(hj:j≠i):V6 (F3 s i c) h j↔V6 s h j:=by
 unfold V6;rw[V5,J0 hi,za hj]
theorem uh{s:a7}{i:Nat}(hi:i<s.S.a8.length)(c:b7){h:Int}{j:Nat}(hj:j≠i):At (F3 s i c) h j↔At s h j:=by
 unfold At;rw[V5,J0 hi,za hj]
theorem Hk{s:a7}(hR:SR s){i:Nat}(hi:i<s.S.a8.length){c:b7}(hc:c.State≠1)(hR':SR (F3 s i c)):lv (F3 s i c)=(lv s).filter λh=>decide (C0 h≠i):=by
 have hno:∀h,¬At (F3 s i c) h i:=λh q=>by
  have:=q.2.1;rw[J0 hi,zb rfl] at this;exact hc this
 refine Lx hR hR' _ (λh=>?_) (λh j k q q'=>?_)
 .rw[zx];constructor
  .rintro⟨j,hj⟩;have hne:j≠i:=λe=>hno h (e▸hj);have:=(uh hi c hne).1 hj;exact⟨⟨j,this⟩,by rw[this.d.C0 hR];exact hne⟩
  .rintro⟨⟨j,hj⟩,hp⟩;rw[hj.d.C0 hR] at hp;exact⟨j,(uh hi c hp).2 hj⟩
 .have hne:j≠i:=λe=>hno h (e▸q);have q2:=(uh hi c hne).1 q;have:=V6.one hR q2.d q'.d;subst this;rw[J0 hi,za hne]
theorem Hr{s:a7}(hR:SR s){i:Nat}(hi:i<s.S.a8.length){c:b7}(hR':SR (F3 s i c)){k:Int}(hk:k∈lv s)(hp:C0 k≠i):ob (F3 s i c) k=ob s k:=by
 have q:=y5 hR hk;rw[N5 hR' ((uh hi c hp).2 q),N5 hR q,J0 hi,za hp]
structure Kn (s s':a7):Prop where
 sr:SR s'
 len:s'.S.a8.length=s.S.a8.length
 lv:lv s'=lv s
 ad:∀k i,V6 s' k i↔V6 s k i
 ob:∀k,k∈Sh.lv s->∃n m,ob s' k=⟨(ob s k).Serial,n,m,(ob s k).Prog,(ob s k).Started,(ob s k).Fields⟩
theorem tF.kn{s s':a7}(hR:SR s)(k:tF s s'):Kn s s':=⟨k.sr,k.len,k.lv,k.ad,λh hh=>by
 obtain⟨n,e⟩:=k.ob h (by have:=F6 hR hh;omega);exact⟨n,_,e⟩⟩
theorem Kn.gU{s s':a7}(k:Kn s s')(h:Int):gU s' h=gU s h:=by
 unfold Sh.gU;rw[k.lv];congr 1;refine zC λx hx=>?_;obtain⟨n,m,e⟩:=k.ob x hx;unfold Sh.outs;rw[e]
structure iR (x:Hp):Prop where
 sr:SR x.S
 hr:HR x.T
 r6:x.Roots.length=6
 c6:x.a8.length=6
 cap:x.Q.Cap=30
 q30:x.Q.L.length<=30
 tk:∀t∈x.Q.L,0<=t.Prog/\t.Prog<=5/\((t.Kind=1/\t.At∈lv x.S/\(ob x.S t.At).Started=true)\/(t.Kind=2/\0<=t.At/\t.At<=5))
 td:x.Q.L.Pairwise λa b=>¬(a.Kind=b.Kind/\a.At=b.At)
 rt:∀h∈x.Roots,h=0\/h∈lv x.S
 fl:∀h∈lv x.S,∀v∈(ob x.S h).Fields,v=0\/v∈lv x.S
 pr:∀k v,Has x.T k v->k∈lv x.S/\v∈lv x.S
 cl:∀i (hi:i<x.a8.length),-1<=x.a8[i].Call/\x.a8[i].Call<=5/\(x.a8[i].Target=0->x.a8[i].Intact=false)/\(x.a8[i].Target≠0->∃p,V6 x.S x.a8[i].Target p)/\(x.a8[i].Intact=true->x.a8[i].Target∈lv x.S/\JF x.Q i=false)
def Wk(x:Hp):Prop:=∀i,i<x.S.S.a8.length->Th (ce x.S i)->(ce x.S i).Val.Weak=(BW x.a8 (1+(i:Int)+32*(ce x.S i).Gen):Int)/\((ce x.S i).State=2->1<=(ce x.S i).Val.Weak/\(ce x.S i).Val.Fields = []/\(ce x.S i).Val.Strong=0)
def bA(x:Hp)(L:List Int):Prop:=∀h∈lv x.S,(ob x.S h).Strong<12->(ob x.S h).Strong=((ov x h+X6 L h:Nat):Int)
structure L5 (x:Hp):Prop where
 sh:iR x
 wk:Wk x
 fair:bA x []
theorem iR.of{x:Hp}(h:iR x){s':a7}(hS:SR s')(hl:lv s'=lv x.S)(hd:∀k i,V6 x.S k i->V6 s' k i)(hst:∀k∈lv x.S,(ob x.S k).Started=true->(ob s' k).Started=true)(hfl:∀k∈lv x.S,∀v∈(ob s' k).Fields,v=0\/v∈lv x.S):iR (wS x s'):=by
 refine⟨hS,h.hr,h.r6,h.c6,h.cap,h.q30,λt ht=>?_,h.td,λk hk=>?_,λk hk=>?_,λk v hkv=>?_,λi hi=>?_⟩
 .obtain⟨a,b,c⟩:=h.tk t ht;refine⟨a,b,?_⟩;rcases c with ⟨c1,c2,c3⟩ | c;·exact .inl ⟨c1,by rw[hl];exact c2,hst _ c2 c3⟩
  .exact .inr c
 .dsimp only;rw[hl];exact h.rt k hk
 .dsimp only at hk |-;rw[hl] at hk |-;exact hfl k hk
 .dsimp only;rw[hl];exact h.pr k v hkv
 .obtain⟨a,b,c,d,e⟩:=h.cl i hi;refine⟨a,b,c,λq=>?_,λq=>?_⟩
  .obtain⟨p,hp⟩:=d q;exact⟨p,hd _ _ hp⟩
  .dsimp only;rw[hl];exact e q
theorem iR.kn{x:Hp}(h:iR x){s':a7}(k:Kn x.S s'):iR (wS x s'):=by
 refine h.of k.sr k.lv (λj i q=>(k.ad j i).2 q) (λj hj q=>?_) (λj hj=>?_)
 .obtain⟨n,m,e⟩:=k.ob j hj;rw[e];exact q
 .obtain⟨n,m,e⟩:=k.ob j hj;rw[e];exact h.fl j hj
theorem iR.xt{x:Hp}(h:iR x){s':a7}(k:tF x.S s'):iR (wS x s'):=h.kn (k.kn h.sr)
theorem Wk.xt{x:Hp}(h:Wk x){s':a7}(k:tF x.S s'):Wk (wS x s'):=by
 intro i hi ht;dsimp only at hi ht |-;rw[k.len] at hi;obtain⟨a,b,c,d,e⟩:=k.ce i hi;unfold Th at ht;rw[a] at ht;obtain⟨f,g⟩:=h i hi ht;rw[a,b,c];refine⟨f,λq=>?_⟩;have e':=e (by omega);rw[<-c,e'];exact g q
theorem iR.roots{x:Hp}(h:iR x){l:List Int}(hl:l.length=6)(hr:∀v∈l,v=0\/v∈lv x.S):iR (wR x l):=⟨h.sr,h.hr,hl,h.c6,h.cap,h.q30,h.tk,h.td,hr,h.fl,h.pr,h.cl⟩
theorem iR.table{x:Hp}(h:iR x){t:Tb}(hr:HR t)(hp:∀k v,Has t k v->k∈lv x.S/\v∈lv x.S):iR (wT x t):=⟨h.sr,hr,h.r6,h.c6,h.cap,h.q30,h.tk,h.td,h.rt,h.fl,hp,h.cl⟩
def T0(c:Int):Int:=if 12<=c then 12 else if c<0 then 1 else c+1
def iY(c:Int):Int:=if 12<=c then 12 else if c<1 then c else c-1
theorem C5{c:Int}(h:0<=c):0<=T0 c:=by unfold T0;split <;> (try split) <;> omega
theorem M0{c:Int}(h:0<=c):0<=iY c:=by unfold iY;split <;> (try split) <;> omega
noncomputable def ru(x:Hp)(h:Int)(f:Int->Int):Hp:=if h∈lv x.S then wS x (bR x.S h (yH (ob x.S h) (f (ob x.S h).Strong))) else x
noncomputable def B2(x:Hp)(h:Int):Hp:=ru x h T0
noncomputable def O9(x:Hp)(h:Int):Hp:=ru x h iY
theorem wF(x:Hp)(h:Int)(f:Int->Int):ru x h f=wS x (ru x h f).S:=by
 unfold ru;split <;> rfl
theorem sM(x:Hp)(h:Int):B2 x h=wS x (B2 x h).S:=wF x h T0
theorem TT(x:Hp)(h:Int):O9 x h=wS x (O9 x h).S:=wF x h iY
section
variable{x:Hp}(hR:SR x.S)(h:Int){f:Int->Int}(hf:∀c,0<=c->0<=f c)
include hR hf
theorem E5:tF x.S (ru x h f).S:=by
 unfold ru;split
 .rename_i q;exact OX hR q (hf _ (I3 hR q).st)
 .exact tF.refl hR
theorem sU{k:Int}(hk:k∈lv x.S):(ob (ru x h f).S k).Strong=if k=h then f (ob x.S k).Strong else (ob x.S k).Strong:=by
 unfold ru;split
 .rename_i q;dsimp only;have ho:xi x.S (yH (ob x.S h) (f (ob x.S h).Strong)):=by
   have:=I3 hR q;exact⟨this.s1,this.s2,hf _ this.st,this.wk,this.p1,this.p2,this.fl⟩
  rw[dz (o:=yH (ob x.S h) (f (ob x.S h).Strong)) hR q rfl ho (by have:=F6 hR hk;omega)];split;·rename_i e;subst e;rfl
  .rfl
 .rename_i q;rw[za];intro e;subst e;exact q hk
theorem uJ(k:Int):ov (ru x h f) k=ov x k:=by
 rw[wF];unfold ov ow;dsimp only;rw[(E5 hR h hf).gU hR]
end
theorem iR.st{x:Hp}(h:iR x)(k:Int){f:Int->Int}(hf:∀c,0<=c->0<=f c):iR (ru x k f):=by
 rw[wF];exact h.xt (E5 h.sr k hf)
theorem Wk.st{x:Hp}(h:Wk x)(hR:SR x.S)(k:Int){f:Int->Int}(hf:∀c,0<=c->0<=f c):Wk (ru x k f):=by
 rw[wF];exact h.xt (E5 hR k hf)
theorem O7(h:Int):X6 [] h=0:=by unfold X6;split <;> rfl
theorem E9(v:Int)(L:List Int)(h:Int):X6 (v::L) h=X6 L h+if v=h/\h≠0 then 1 else 0:=by
 unfold X6;by_cases h0:h=0
 .simp[h0]
 .rw[za h0,za h0,List.count_cons];by_cases e:v=h
  .simp[e,h0]
  .simp[e]
theorem DE{x:Hp}(hR:SR x.S){L:List Int}(hf:bA x L)(v:Int):bA (B2 x v) (v::L):=by
 intro h hh hlt;unfold B2 at hh hlt |-;rw[(E5 hR v λc=>C5).lv] at hh;rw[sU hR v (λc=>C5) hh] at hlt |-;rw[uJ hR v λc=>C5,E9];have h0:h≠0:=λe=>ou hR (e▸hh);have hp:=(I3 hR hh).st;by_cases e:h=v
 .subst e;rw[zb rfl] at hlt |-;have:=hf h hh (by unfold T0 at hlt;split at hlt <;> omega);rw[zb ⟨rfl,h0⟩];unfold T0 at hlt |-;split at hlt;·omega
  .rename_i q;rw[za q,za (by omega)];omega
 .rw[za e] at hlt |-;rw[za (λq=>e q.1.symm)];exact hf h hh hlt
theorem rj{x:Hp}(hR:SR x.S){L:List Int}{v:Int}(hf:bA x (v::L)):bA (O9 x v) L:=by
 intro h hh hlt;unfold O9 at hh hlt |-;rw[(E5 hR v λc=>M0).lv] at hh;rw[sU hR v (λc=>M0) hh] at hlt |-;rw[uJ hR v λc=>M0];have h0:h≠0:=λe=>ou hR (e▸hh);have hp:=(I3 hR hh).st;by_cases e:h=v
 .subst e;rw[zb rfl] at hlt |-;have:=hf h hh (by unfold iY at hlt;split at hlt <;> omega);rw[E9,zb ⟨rfl,h0⟩] at this;unfold iY at hlt |-;split at hlt;·omega
  .rename_i q;rw[za q,za (by omega)];omega
 .rw[za e] at hlt |-;have:=hf h hh hlt;rw[E9,za (λq=>e q.1.symm)] at this;exact this
theorem bA.mv{x x':Hp}{L L':List Int}(hf:bA x L)(hl:lv x'.S=lv x.S)(hs:∀h∈lv x.S,(ob x'.S h).Strong=(ob x.S h).Strong)(hn:∀h∈lv x.S,ov x' h+X6 L' h=ov x h+X6 L h):bA x' L':=by
 intro h hh hlt;rw[hl] at hh;rw[hs h hh] at hlt |-;rw[hf h hh hlt,hn h hh]
theorem uL:∀ {l:List Int} {r:Nat} (hr:r<l.length) (h k:Int),X6 (l.set r h) k+X6 [l.getD r 0] k=X6 l k+X6 [h] k
 | [],_,hr,_,_=>by simp at hr
 | a::l,0,_,h,k=>by
  rw[List.set_cons_zero,List.getD_cons_zero,E9 h l,E9 a l,E9 a [],E9 h [],O7];omega
 | a::l,r+1,hr,h,k=>by
  rw[List.set_cons_succ,List.getD_cons_succ,E9 a,E9 a l];have:=uL (l:=l) (r:=r) (by simpa using hr) h k;omega
theorem pJ{x x1:Hp}(hx:L5 x){old new:Int}(h1:iR (B2 x new)->Wk (B2 x new)->iR x1/\Wk x1)
  (hl:lv x1.S=lv (B2 x new).S)(hs:∀h∈lv x.S,(ob x1.S h).Strong=(ob (B2 x new).S h).Strong)(hn:∀h∈lv x.S,ov x1 h+X6 [old] h=ov x h+X6 [new] h):L5 (O9 x1 old):=by
 have l1:lv (B2 x new).S=lv x.S:=(E5 hx.sh.sr new λc=>C5).lv;have f1:bA (B2 x new) [new]:=DE hx.sh.sr hx.fair new;obtain⟨h2,w2⟩:=h1 (hx.sh.st new λc=>C5) (hx.wk.st hx.sh.sr new λc=>C5);have f2:bA x1 [old]:=f1.mv hl (λh hh=>hs h (l1▸hh)) λh hh=>by
  rw[hn h (l1▸hh)];unfold B2;rw[uJ hx.sh.sr new λc=>C5]
 exact⟨h2.st _ λc=>M0,w2.st h2.sr _ λc=>M0,rj h2.sr f2⟩
noncomputable def E4(x:Hp)(r:Nat)(h:Int):Hp:=O9 (wR (B2 x h) (x.Roots.set r h)) (x.Roots.getD r 0)
theorem Z3{x:Hp}(hx:L5 x){r:Nat}(hr:r<6){h:Int}(hh:h=0\/h∈lv x.S):L5 (E4 x r h):=by
 have l1:lv (B2 x h).S=lv x.S:=(E5 hx.sh.sr h λc=>C5).lv;refine pJ hx (λa b=>⟨a.roots (by rw[zbh];exact hx.sh.r6) (λv hv=>?_),b⟩) rfl (λ_ _=>rfl) (λk hk=>?_)
 .rw[l1];rcases zbp hv with q | q
  .exact hx.sh.rt v q
  .exact q▸hh
 .have hi:=(E5 hx.sh.sr h λc=>C5).gU hx.sh.sr k;rw[sM];unfold ov ow;dsimp only;rw[show gU (B2 x h).S k=gU x.S k from hi,I6,I6,sX,sX];have:=uL (l:=x.Roots) (r:=r) (by rw[hx.sh.r6];exact hr) h k;omega
theorem Ia{α:Type}:∀ {l:List α} (hn:l.Nodup) {a:α} (ha:a∈l) (f g:α->Nat) (h:∀x∈l,x≠a->f x=g x),(l.map g).sum+f a=(l.map f).sum+g a
 | [],_,_,ha,_,_,_=>by cases ha
 | b::l,hn,a,ha,f,g,h=>by
  rw[zak] at hn;rw[ul,ul,zbm,zbm];rcases zR.1 ha with e | e
  .subst e;have:l.map g=l.map f:=zC λx hx=>(h x (zq _ hx) λe=>hn.1 (e▸hx)).symm;rw[this];omega
  .have:=Ia hn.2 e f g λx hx=>h x (zq _ hx);have:=h b (zk ..) λq=>hn.1 (q▸e);omega
abbrev ny(o:k9)(l:List Int):k9:=⟨o.Serial,o.Strong,o.Weak,o.Prog,o.Started,l⟩
theorem Hc{s:a7}(hR:SR s){h:Int}(hh:h∈lv s){o:k9}(hs:o.Serial=(ob s h).Serial)(ho:xi s o)(y:Int):gU (bR s h o) y+X6 (ob s h).Fields y=gU s y+X6 o.Fields y:=by
 have hle:=F6 hR hh;have:=Ia (qF (r9.2 hR)) hh (λx=>X6 (outs s x) y) (λx=>X6 (outs (bR s h o) x) y) λx hx hne=>by
  have:=F6 hR hx;unfold outs;rw[dz hR hh hs ho (by omega),za hne]
 have e:X6 (outs (bR s h o) h) y=X6 o.Fields y:=by
  unfold outs;rw[dz hR hh hs ho (by omega),zb rfl,sX]
 have e2:X6 (outs s h) y=X6 (ob s h).Fields y:=sX _ _;rw[e,e2] at this;unfold gU;rw[eX hR hh hs ho];exact this
noncomputable def bl(x:Hp)(h:Int)(k:Nat)(v:Int):Hp:=O9 (wS (B2 x v) (bR (B2 x v).S h (ny (ob (B2 x v).S h) ((ob x.S h).Fields.set k v)))) ((ob x.S h).Fields.getD k 0)
theorem Ap{x:Hp}(hx:L5 x){h:Int}(hh:h∈lv x.S){k:Nat}(hk:k<(ob x.S h).Fields.length){v:Int}(hv:v=0\/v∈lv x.S):L5 (bl x h k v):=by
 have xt:=E5 hx.sh.sr v (f:=T0) λc=>C5;have l1:lv (B2 x v).S=lv x.S:=xt.lv;have hR1:SR (B2 x v).S:=xt.sr;have hh1:h∈lv (B2 x v).S:=by rw[l1];exact hh
 have hle:=F6 hx.sh.sr hh;have hof:(ob (B2 x v).S h).Fields=(ob x.S h).Fields:=by
  obtain⟨n,e⟩:=xt.ob h (by omega);show (ob (ru x v T0).S h).Fields=_;rw[e]
 have ho:xi (B2 x v).S (ny (ob (B2 x v).S h) ((ob x.S h).Fields.set k v)):=by
  have:=I3 hR1 hh1;refine⟨this.s1,this.s2,this.st,this.wk,this.p1,this.p2,?_⟩;have h4:=this.fl;rw[hof] at h4;simpa using h4
 have hob:∀j,j∈lv x.S->ob (bR (B2 x v).S h (ny (ob (B2 x v).S h) ((ob x.S h).Fields.set k v))) j=if j=h then ny (ob (B2 x v).S h) ((ob x.S h).Fields.set k v) else ob (B2 x v).S j:=λj hj=>by
  have:=F6 hx.sh.sr hj;exact dz (o:=ny (ob (B2 x v).S h) ((ob x.S h).Fields.set k v)) hR1 hh1 rfl ho (by omega)
 refine pJ hx (λa b=>⟨?_,?_⟩) (eX (o:=ny (ob (B2 x v).S h) ((ob x.S h).Fields.set k v)) hR1 hh1 rfl ho) (λj hj=>?_) (λj hj=>?_)
 .refine a.of (aL (o:=ny (ob (B2 x v).S h) ((ob x.S h).Fields.set k v)) hR1 hh1 rfl ho) (eX (o:=ny (ob (B2 x v).S h) ((ob x.S h).Fields.set k v)) hR1 hh1 rfl ho) (λj i q=>(FR (o:=ny (ob (B2 x v).S h) ((ob x.S h).Fields.set k v)) hR1 hh1 rfl ho).2 q) (λj hj q=>?_) (λj hj u hu=>?_)
  .rw[hob j (l1▸hj)];split;·rename_i e;subst e;exact q
   .exact q
  .rw[hob j (l1▸hj)] at hu;split at hu
   .rename_i e;subst e;rcases zbp hu with q | q
    .exact a.fl j hj u (by rw[hof];exact q)
    .rw[l1,q];exact hv
   .exact a.fl j hj u hu
 .intro i hi ht;dsimp only at hi ht |-;have hp:=y5 hR1 hh1;unfold bR at hi;rw[K8] at hi;have hce:=Bv (o:=ny (ob (B2 x v).S h) ((ob x.S h).Fields.set k v)) hR1 hh1 rfl ho i;rw[hce] at ht |-;split at ht
  .rename_i e;subst e;rw[zb rfl];have:=b _ hp.1 (.inl hp.2.1);dsimp only;refine⟨?_,λq=>absurd q (by rw[hp.2.1];decide)⟩;rw[<-this.1,N5 hR1 hp]
  .rename_i e;rw[za e];exact b i hi ht
 .rw[hob j hj];split;·rename_i e;subst e;rfl
  .rfl
 .have hi:=Hc (o:=ny (ob (B2 x v).S h) ((ob x.S h).Fields.set k v)) hR1 hh1 rfl ho j;have hi2:=xt.gU hx.sh.sr j;have hi2:gU (B2 x v).S j=gU x.S j:=hi2;rw[hi2,hof] at hi;dsimp only at hi;have:=uL hk v j;have hrest:B2 x v=wS x (B2 x v).S:=sM x v;unfold ov ow;dsimp only;rw[show (B2 x v).T=x.T by rw[hrest],show (B2 x v).Roots=x.Roots by rw[hrest],show (B2 x v).Q=x.Q by rw[hrest]];omega
theorem Ml{t:Tb}(hT:HR t){k v:Int}{r:Tb × Int × Int}(h:R8 t k v=some r)(h0:r.2.2=0):HR r.1/\(∀y,own r.1 y+X6 [r.2.1] y=own t y+X6 [v] y)/\∀k' v',Has r.1 k' v'->Has t k' v'\/(k'=k/\v'=v/\v≠0):=by
 obtain⟨r',e1,e2,_,e3⟩:=FT hT k v;rw[h] at e1;cases e1;refine⟨e2,?_⟩;have hos:∀(i:Nat) (p:b8) (y:Int),i<t.length->own (t.set i p) y+(if (pt t i).State=1/\(pt t i).Val=y/\y≠0 then 1 else 0)=own t y+if p.State=1/\p.Val=y/\y≠0 then 1 else 0:=λi p y hi=>by
  have key:∀q:b8,(if ((q.State==1)&&((y != 0)&&(q.Val==y)))=true then 1 else 0:Nat)=if q.State=1/\q.Val=y/\y≠0 then 1 else 0:=λq=>by
   by_cases c:q.State=1/\q.Val=y/\y≠0
   .rw[zb c,zb (by simp[c.1,c.2.1,c.2.2])]
   .rw[za c,za (by simp only[zp,q9,bne_iff_ne,ne_eq];exact λq=>c ⟨q.1,q.2.2,q.2.1⟩)]
  have:=Hx hi p y;rw[key,key] at this;exact this
 rcases e3 with ⟨_,rfl⟩ | ⟨hk,hv,⟨i,hi,rfl⟩ | ⟨hn,rfl⟩⟩ | ⟨hk,hv,⟨i,hi,rfl⟩ | ⟨d,hn,hd,hf,hp,rfl⟩ | ⟨hn,ha,rfl⟩⟩;·simp at h0
 .refine⟨λy=>?_,λk' v' q=>.inl ((vg hT hi k' v').1 q).2⟩;have:=hos i ⟨2,0,0⟩ y hi.1;rw[E9,E9,O7];subst hv;dsimp only at this |-;rw[za (show ¬((2:Int)=1/\(0:Int)=y/\y≠0) by omega)] at this;rw[za (show ¬((0:Int)=y/\y≠0) by omega)];simp only[hi.2.1,true_and] at this;omega
 .refine⟨λy=>?_,λk' v' q=>.inl q⟩;rw[hv]
 .refine⟨λy=>?_,λk' v' q=>?_⟩
  .have:=hos i ⟨1,k,v⟩ y hi.1;rw[E9,E9,O7];simp only[hi.2.1,true_and] at this;dsimp only;omega
  .rcases (AX hT (.old i hi) rfl k' v').1 q with ⟨a,b⟩ | ⟨_,b⟩;·exact .inr ⟨a,b,hv⟩
   .exact .inl b
 .refine⟨λy=>?_,λk' v' q=>?_⟩
  .have:=hos d ⟨1,k,v⟩ y hd;rw[E9,E9,O7];dsimp only;rw[za (show ¬((0:Int)=y/\y≠0) by omega)];simp only[hf,false_and,true_and,zV] at this;omega
  .rcases (AX hT hp rfl k' v').1 q with ⟨a,b⟩ | ⟨_,b⟩;·exact .inr ⟨a,b,hv⟩
   .exact .inl b
 .simp at h0
noncomputable def jj(x:Hp)(v:Int)(t:Tb)(old:Int):Hp:=O9 (wT (B2 x v) t) old
theorem Df{x:Hp}(hx:L5 x){k v:Int}(hk:k∈lv x.S)(hv:v=0\/v∈lv x.S){r:Tb × Int × Int}(h:R8 x.T k v=some r)(h0:r.2.2=0):L5 (jj x v r.1 r.2.1):=by
 have xt:=E5 hx.sh.sr v (f:=T0) λc=>C5;have l1:lv (B2 x v).S=lv x.S:=xt.lv;obtain⟨p1,p2,p3⟩:=Ml hx.sh.hr h h0;refine pJ hx (λa b=>⟨a.table p1 λk' v' q=>?_,b⟩) rfl (λ_ _=>rfl) (λj hj=>?_)
 .rw[l1];rcases p3 k' v' q with q | ⟨rfl,rfl,hne⟩
  .exact hx.sh.pr k' v' q
  .exact⟨hk,hv.resolve_left hne⟩
 .have hi2:gU (B2 x v).S j=gU x.S j:=xt.gU hx.sh.sr j;have hrest:B2 x v=wS x (B2 x v).S:=sM x v;unfold ov ow;dsimp only;rw[show (B2 x v).Roots=x.Roots by rw[hrest],show (B2 x v).Q=x.Q by rw[hrest],hi2];have:=p2 j;omega
instance(s:a7)(h:Int)(i:Nat):Decidable (V6 s h i):=by unfold V6;infer_instance
abbrev UB(o:k9)(n:Int):k9:=⟨o.Serial,o.Strong,n,o.Prog,o.Started,o.Fields⟩
def nC(s:a7)(i:Nat)(d:Int):a7:=cy s i (UB (ce s i).Val ((ce s i).Val.Weak+d))
def xZ(s:a7)(i:Nat):a7:=F3 s i (if (ce s i).Gen=s.S.Last then ⟨3,(ce s i).Gen,z0⟩ else ⟨0,(ce s i).Gen+1,z0⟩)
def cS(s:a7)(i:Nat):Int:=1+(i:Int)+32*(ce s i).Gen
theorem GL{s:a7}{i:Nat}(hi:i<s.S.a8.length)(ht:Th (ce s i)):V6 s (cS s i) i:=⟨hi,ht,rfl⟩
theorem um{s:a7}(hR:SR s){i:Nat}(hi:i<s.S.a8.length):1<=cS s i:=by
 have:=hR.cell i hi;unfold cS;omega
section
variable{s:a7}(hR:SR s){i:Nat}(hi:i<s.S.a8.length)(ht:Th (ce s i))
include hR hi ht
theorem vK{d:Int}(hd:0<=(ce s i).Val.Weak+d):SR (nC s i d):=by
 have:=hR.ok i hi ht;exact hR.put hi ht rfl ⟨this.s1,this.s2,this.st,hd,this.p1,this.p2,this.fl⟩
theorem eR(d:Int)(j:Nat):ce (nC s i d) j=if j=i then ⟨(ce s i).State,(ce s i).Gen,UB (ce s i).Val ((ce s i).Val.Weak+d)⟩ else ce s j:=jX hi _ j
theorem kD{d:Int}(hd:0<=(ce s i).Val.Weak+d):Kn s (nC s i d):=by
 have hS:=vK hR hi ht hd;refine⟨hS,K8 ..,Lv hR hi rfl hS,λk j=>ug hi _,λk hk=>?_⟩;have q:=y5 hR hk;rw[N5 hS ((va hi _).2 q),N5 hR q,eR hR hi ht];split
 .rename_i e;rw[e];exact⟨_,_,rfl⟩
 .exact⟨_,_,rfl⟩
theorem kE{d:Int}(hd:0<=(ce s i).Val.Weak+d){k:Int}(hk:k∈lv s):(ob (nC s i d) k).Strong=(ob s k).Strong:=by
 have hS:=vK hR hi ht hd;have q:=y5 hR hk;rw[N5 hS ((va hi _).2 q),N5 hR q,eR hR hi ht];split
 .rename_i e;rw[e]
 .rfl
omit ht in
theorem AB:SR (xZ s i):=by
 have hc:=hR.cell i hi;have no:Ej (oo z0):=⟨rfl,rfl,rfl,rfl,rfl,rfl⟩;unfold xZ;split;·exact hR.F3 hi ⟨by simp,by simp,hc.2.2.1,hc.2.2.2⟩ (λ_=>no) (λq=>absurd q (by unfold Th;simp))
 .refine hR.F3 hi ⟨by simp,by simp,?_,?_⟩ (λ_=>no) (λq=>absurd q (by unfold Th;simp));·show 0<=(ce s i).Gen+1;omega
  .show (ce s i).Gen+1<=s.S.Last;omega
omit hR ht in
theorem Ay:∃c,(c.State=0\/c.State=3)/\xZ s i=F3 s i c/\∀j,ce (xZ s i) j=if j=i then c else ce s j:=by
 unfold xZ;split;·exact⟨_,.inr rfl,rfl,λj=>J0 hi _ j⟩
 .exact⟨_,.inl rfl,rfl,λj=>J0 hi _ j⟩
omit ht in
theorem Az (h2:(ce s i).State=2):lv (xZ s i)=lv s:=by
 obtain⟨c,c1,c2,_⟩:=Ay (s:=s) hi;have hS:=AB hR hi;rw[c2] at hS |-;rw[Hk hR hi (by omega) hS,zan];intro h hh;rw[zx];intro e;have:=(y5 hR hh).2.1;rw[e] at this;omega
omit ht in
theorem AA (h2:(ce s i).State=2) {k:Int} (hk:k∈lv s):ob (xZ s i) k=ob s k:=by
 obtain⟨c,c1,c2,_⟩:=Ay (s:=s) hi;have hS:=AB hR hi;rw[c2] at hS |-;refine Hr hR hi hS hk λe=>?_;have:=(y5 hR hk).2.1;rw[e] at this;omega
omit ht in
theorem SC {k:Int} {j:Nat}:V6 (xZ s i) k j↔V6 s k j/\j≠i:=by
 obtain⟨c,c1,c2,c3⟩:=Ay (s:=s) hi;by_cases e:j=i
 .subst e;constructor
  .rintro⟨_,h,_⟩;rw[c3,zb rfl] at h;unfold Th at h;omega
  .rintro⟨_,h⟩;exact absurd rfl h
 .rw[c2,Kf hi c e];simp[e]
theorem OM(h2:(ce s i).State=2)(y:Int):gU (xZ s i) y=gU s y:=by
 unfold gU;rw[Az hR hi h2];congr 1;refine zC λx hx=>?_;unfold outs;rw[AA hR hi h2 hx]
end
def jg(x:Hp)(h:Int)(d:Int):Hp:=if V6 x.S h (C0 h) then wS x (nC x.S (C0 h) d) else x
def ni(x:Hp)(h:Int):Hp:=
 if V6 x.S h (C0 h) then
  (if (ce x.S (C0 h)).State=2/\(ce x.S (C0 h)).Val.Weak=1 then wS x (xZ (nC x.S (C0 h) (-1)) (C0 h)) else wS x (nC x.S (C0 h) (-1)))
 else x
abbrev iw(h call:Int):c7:=⟨h,h != 0,call⟩
def rv(x:Hp)(w:Nat):Int:=(x.a8.getD w ⟨0,false,0⟩).Target
def da(x:Hp)(w:Nat)(h call:Int):Hp:=ni (jg (wC x (x.a8.set w (iw h call))) h 1) (rv x w)
theorem Pj{l:List c7}{w:Nat}(hw:w<l.length)(c:c7){k:Int}(hk:k≠0):BW (l.set w c) k+(if l[w].Target=k then 1 else 0)=BW l k+if c.Target=k then 1 else 0:=by
 unfold BW;rw[List.countP_set hw];have e:∀d:c7,(((k != 0)&&(d.Target==k))=true)=(d.Target=k):=λd=>by simp[hk]
 simp only[e];have:(if l[w].Target=k then 1 else 0)<=l.countP λc=>(k != 0)&&(c.Target==k):=by
  split
  .rename_i q;exact zbj.2 ⟨l[w],zh hw,by simp[q,hk]⟩
  .exact un _
 omega
theorem qJ{l:List c7}{i:Nat}(hi:i<l.length)(h0:l[i].Target≠0):0<BW l l[i].Target:=zbj.2 ⟨l[i],zh hi,by simp[h0]⟩
theorem DY{x:Hp}(hx:L5 x){w:Nat}(hw:w<6){h call:Int}(hh:h=0\/h∈lv x.S)(hc : -1<=call/\call<=5)(hq:JF x.Q w=false):L5 (da x w h call):=by
 have hR:=hx.sh.sr;have hwl:w<x.a8.length:=by rw[hx.sh.c6];exact hw
 have htg:rv x w=x.a8[w].Target:=by
  unfold rv;rw[zd,zc hwl];rfl
 have s1:iR (wC x (x.a8.set w (iw h call))):=by
  have:=hx.sh;refine⟨this.sr,this.hr,this.r6,by simpa using this.c6,this.cap,this.q30,this.tk,this.td,this.rt,this.fl,this.pr,λi hi=>?_⟩;dsimp only at hi |-;rw[zbx];rw[zbh] at hi;split
  .rename_i e;subst e;dsimp only;refine⟨hc.1,hc.2,λq=>by simp[q],λq=>?_,λq=>?_⟩;·exact⟨_,(y5 hR (hh.resolve_left q)).d⟩
   .have q:h≠0:=by simpa using q
    exact⟨hh.resolve_left q,hq⟩
  .exact this.cl i hi
 have k2:∃s2,jg (wC x (x.a8.set w (iw h call))) h 1=wS (wC x (x.a8.set w (iw h call))) s2/\Kn x.S s2/\(∀k∈lv x.S,(ob s2 k).Strong=(ob x.S k).Strong) /\
   ∀i,i<x.S.S.a8.length->(ce s2 i).State=(ce x.S i).State/\(ce s2 i).Gen=(ce x.S i).Gen/\(ce s2 i).Val.Fields=(ce x.S i).Val.Fields/\(ce s2 i).Val.Strong=(ce x.S i).Val.Strong/\(Th (ce x.S i)->(ce s2 i).Val.Weak=(ce x.S i).Val.Weak+if h=cS x.S i then 1 else 0):=by
  unfold jg;rcases hh with h0 | hh
  .have hno:¬V6 x.S h (C0 h):=λq=>by have:=q.MI hR;omega
   rw[za hno];refine⟨x.S,rfl,(tF.refl hR).kn hR,λ_ _=>rfl,λi hi=>⟨rfl,rfl,rfl,rfl,λht=>?_⟩⟩;have:=um hR hi;rw[za (by omega)];omega
  .have hp:=y5 hR hh;have hwk:=(hR.ok _ hp.1 (.inl hp.2.1)).wk;rw[zb hp.d];refine⟨_,rfl,kD hR hp.1 (.inl hp.2.1) (by omega),λk hk=>kE hR hp.1 (.inl hp.2.1) (by omega) hk,λi hi=>?_⟩;rw[eR hR hp.1 (.inl hp.2.1)];split
   .rename_i e;subst e;refine⟨rfl,rfl,rfl,rfl,λ_=>?_⟩;rw[zb (show h=cS x.S (C0 h) from hp.2.2)]
   .rename_i e;refine⟨rfl,rfl,rfl,rfl,λht=>?_⟩;rw[za];·omega
    .intro q;exact e (V6.one hR (q▸GL hi ht) hp.d)
 obtain⟨s2,e2,kn2,st2,ce2⟩:=k2;have hR2:=kn2.sr;have len2:=kn2.len;have hS2:iR (wS (wC x (x.a8.set w (iw h call))) s2):=s1.kn kn2;have hdl2:∀i,i<x.S.S.a8.length->cS s2 i=cS x.S i:=λi hi=>by unfold cS;rw[(ce2 i hi).2.1]
 have th2:∀i,i<x.S.S.a8.length->(Th (ce s2 i)↔Th (ce x.S i)):=λi hi=>by unfold Th;rw[(ce2 i hi).1]
 have wk2:∀i,i<x.S.S.a8.length->Th (ce x.S i)->(ce s2 i).Val.Weak=(BW (x.a8.set w (iw h call)) (cS x.S i):Int)+if rv x w=cS x.S i then 1 else 0:=λi hi ht=>by
  have h0:cS x.S i≠0:=by have:=um hR hi;omega
  have:=Pj hwl (iw h call) h0;rw[(ce2 i hi).2.2.2.2 ht,(hx.wk i hi ht).1,htg];dsimp only at this;unfold cS at this |-;by_cases a:h=1+(i:Int)+32*(ce x.S i).Gen <;> by_cases b:x.a8[w].Target=1+(i:Int)+32*(ce x.S i).Gen
  .rw[zb a,zb b] at *;omega
  .rw[zb a,za b] at *;omega
  .rw[za a,zb b] at *;omega
  .rw[za a,za b] at *;omega
 have dd2:∀i,i<x.S.S.a8.length->(ce s2 i).State=2->(ce s2 i).Val.Fields = []/\(ce s2 i).Val.Strong=0:=λi hi q=>by
  obtain⟨a,_,b,c,_⟩:=ce2 i hi;rw[a] at q;rw[b,c];exact ((hx.wk i hi (.inr q)).2 q).2
 have nms2:∀k,ov (wS (wC x (x.a8.set w (iw h call))) s2) k=ov x k:=λk=>by
  unfold ov ow;dsimp only;rw[kn2.gU]
 have fair2:bA (wS (wC x (x.a8.set w (iw h call))) s2) []:=hx.fair.mv kn2.lv st2 λk _=>by rw[nms2]
 unfold da;rw[e2];unfold ni;dsimp only;by_cases hold:rv x w=0
 .have hno:¬V6 s2 (rv x w) (C0 (rv x w)):=λq=>by have:=q.MI hR2;omega
  rw[za hno];refine⟨hS2,λi hi ht=>?_,fair2⟩;dsimp only at hi ht |-;rw[len2] at hi;have ht':=(th2 i hi).1 ht;have h0:=um hR hi;have hw2:=wk2 i hi ht';rw[za (by omega)] at hw2;rw[show (1+(i:Int)+32*(ce s2 i).Gen)=cS x.S i from hdl2 i hi];refine⟨by omega,λq=>⟨?_,dd2 i hi q⟩⟩;have q':(ce x.S i).State=2:=by rw[<-(ce2 i hi).1];exact q
  have:=((hx.wk i hi ht').2 q').1;rw[(ce2 i hi).2.2.2.2 ht'];split <;> omega
 .obtain⟨p,hp⟩:∃p,V6 x.S (rv x w) p:=by
   rw[htg] at hold |-;exact (hx.sh.cl w hwl).2.2.2.1 hold
  have hpp:=hp.C0 hR;have hp2:V6 s2 (rv x w) p:=(kn2.ad _ _).2 hp;have hth:rv x w=cS x.S p:=hp.2.2;rw[hpp,zb hp2];have hpl2:=hp2.1;have hw2:=wk2 p hp.1 hp.2.1;rw[zb hth] at hw2;have hd:0<=(ce s2 p).Val.Weak+(-1):=by omega
  have kn3:=kD hR2 hpl2 hp2.2.1 hd;have hR3:=kn3.sr;have ce3:=eR hR2 hpl2 hp2.2.1 (-1);have hS3:iR (wS (wC x (x.a8.set w (iw h call))) (nC s2 p (-1))):=hS2.kn kn3;have fair3:bA (wS (wC x (x.a8.set w (iw h call))) (nC s2 p (-1))) []:=fair2.mv kn3.lv (λk hk=>kE hR2 hpl2 hp2.2.1 hd hk) λk _=>by
   unfold ov ow;dsimp only;rw[kn3.gU]
  have wk3:∀i,i<x.S.S.a8.length->Th (ce x.S i)->(ce (nC s2 p (-1)) i).Val.Weak=(BW (x.a8.set w (iw h call)) (cS x.S i):Int):=λi hi ht=>by
   rw[ce3];by_cases e:i=p
   .subst e;rw[zb rfl];dsimp only;omega
   .rw[za e,wk2 i hi ht,za];·omega
    .intro q;exact e (V6.one hR (q▸GL hi ht) hp)
  have cs3:∀i,(ce (nC s2 p (-1)) i).State=(ce s2 i).State/\(ce (nC s2 p (-1)) i).Gen=(ce s2 i).Gen/\(ce (nC s2 p (-1)) i).Val.Fields=(ce s2 i).Val.Fields/\(ce (nC s2 p (-1)) i).Val.Strong=(ce s2 i).Val.Strong:=λi=>by
   rw[ce3];split
   .rename_i e;subst e;exact⟨rfl,rfl,rfl,rfl⟩
   .exact⟨rfl,rfl,rfl,rfl⟩
  by_cases hg:(ce s2 p).State=2/\(ce s2 p).Val.Weak=1
  .-- the slot is given back
   rw[zb hg];have hpl3:p<(nC s2 p (-1)).S.a8.length:=by rw[kn3.len];exact hpl2
   have h23:(ce (nC s2 p (-1)) p).State=2:=by rw[(cs3 p).1];exact hg.1
   have hn0:BW (x.a8.set w (iw h call)) (rv x w)=0:=by rw[hth];omega
   have hlv:=Az hR3 hpl3 h23;have hob:=λk hk=>AA (k:=k) hR3 hpl3 h23 hk;obtain⟨c,c1,c2,c3⟩:=Ay (s:=nC s2 p (-1)) hpl3;refine⟨⟨AB hR3 hpl3,hS3.hr,hS3.r6,hS3.c6,hS3.cap,hS3.q30,λt htt=>?_,hS3.td,λv hv=>?_,λv hv u hu=>?_,λk v hkv=>?_,λi hi=>?_⟩,λi hi ht=>?_,?_⟩
   .obtain⟨a,b,d⟩:=hS3.tk t htt;refine⟨a,b,?_⟩;dsimp only at d |-;rw[hlv];rcases d with ⟨d1,d2,d3⟩ | d;·exact .inl ⟨d1,d2,by rw[hob _ d2];exact d3⟩
    .exact .inr d
   .dsimp only;rw[hlv];exact hS3.rt v hv
   .dsimp only at hv hu |-;rw[hlv] at hv |-;rw[hob _ hv] at hu;exact hS3.fl v hv u hu
   .dsimp only;rw[hlv];exact hS3.pr k v hkv
   .obtain⟨a1,a2,a3,a4,a5⟩:=hS3.cl i hi;refine⟨a1,a2,a3,λq=>?_,λq=>?_⟩
    .obtain⟨j,hj⟩:=a4 q;refine⟨j,(SC hR3 hpl3).2 ⟨hj,λe=>?_⟩⟩;subst e;have e1:=(kn2.ad _ _).1 ((kn3.ad _ _).1 hj);have e2:(x.a8.set w (iw h call))[i].Target=rv x w:=e1.2.2.trans hp.2.2.symm;have:=qJ hi q;dsimp only at this;rw[e2] at this;omega
    .dsimp only;rw[hlv];exact a5 q
   .dsimp only at hi ht |-;rw[show (xZ (nC s2 p (-1)) p).S.a8.length=x.S.S.a8.length by rw[c2,V5,kn3.len,len2]] at hi;rw[c3] at ht |-;split at ht;·unfold Th at ht;omega
    .rename_i e;rw[za e];have ht':Th (ce x.S i):=(th2 i hi).1 (by unfold Th at ht |-;rw[(cs3 i).1] at ht;exact ht);have:=wk3 i hi ht';rw[show (1+(i:Int)+32*(ce (nC s2 p (-1)) i).Gen)=cS x.S i by rw[(cs3 i).2.1];exact hdl2 i hi];refine⟨this,λq=>?_⟩;rw[(cs3 i).1] at q;rw[(cs3 i).2.2.1,(cs3 i).2.2.2,ce3,za e];refine⟨?_,dd2 i hi q⟩;have q':(ce x.S i).State=2:=by rw[<-(ce2 i hi).1];exact q
     have:=((hx.wk i hi ht').2 q').1;rw[(ce2 i hi).2.2.2.2 ht'];split <;> omega
   .refine fair3.mv hlv (λk hk=>by rw[hob k hk]) λk _=>?_;unfold ov ow;dsimp only;rw[OM hR3 hpl3 (.inr h23) h23]
  .rw[za hg];refine⟨hS3,λi hi ht=>?_,fair3⟩;dsimp only at hi ht |-;rw[kn3.len,len2] at hi;have ht':Th (ce x.S i):=(th2 i hi).1 (by unfold Th at ht |-;rw[(cs3 i).1] at ht;exact ht);have:=wk3 i hi ht';rw[show (1+(i:Int)+32*(ce (nC s2 p (-1)) i).Gen)=cS x.S i by rw[(cs3 i).2.1];exact hdl2 i hi];refine⟨this,λq=>?_⟩;rw[(cs3 i).1] at q;rw[(cs3 i).2.2.1,(cs3 i).2.2.2];refine⟨?_,dd2 i hi q⟩;rw[ce3];split
   .rename_i e;subst e;dsimp only;have:(ce s2 i).Val.Weak≠1:=λq2=>hg ⟨q,q2⟩;omega
   .have q':(ce x.S i).State=2:=by rw[<-(ce2 i hi).1];exact q
    have:=((hx.wk i hi ht').2 q').1;rw[(ce2 i hi).2.2.2.2 ht'];split <;> omega
def og(c:c7):o7:=⟨c.Target,c.Intact,c.Call⟩
def hO(x:Hp):g6:=⟨sO x.S,x.Roots,x.a8.map og,x.T.map K1,jD x.Q⟩
structure HB (x:Hp):Prop where
 sb:SB x.S
 fb:FB x.S
 rb:LB x.Roots
 cb:∀c∈x.a8,c.Target<=9223372036854775807
 tb:TB x.T
 qb:∀t∈x.Q.L,t.At<=9223372036854775807
theorem Lt{β:Type}{b:Nat}{f:Int × List β->Option ((Int × List β) ⊕ List β)}(n:Nat)(g:Nat->β)(hb:0<b)(h:n*b<=140737488355328)
  (hs:∀(k:Nat) acc,k<n->f ((k:Int),acc)=(app b acc [g k]).bind λv=>some (.inl (u4 ((k:Int)+1),v)))(he:∀acc,f ((n:Int),acc)=some (.inr acc)):lp f (0,[])=some ((List.range n).map g):=by
 have hl:n*1<=n*b:=Nat.mul_le_mul_left _ hb;refine fD (dj n (λk l=>l=(List.range k).map g) (λe=>e=(List.range n).map g) (by omega) (by simp) ?_ ?_)
 .rintro k l hk rfl;have h3:(k+1)*b<=n*b:=zl _ hk;refine .inl ⟨(List.range (k+1)).map g,?_,rfl⟩;rw[hs k _ hk,y4 hb (by simp;omega),XB,k8,List.range_succ,my];rfl
 .rintro l rfl;exact⟨_,he _,rfl⟩
theorem UU{R:Type}{f:Int->Option (Int ⊕ (Bool ⊕ Unit))}{κ:Bool ⊕ Unit->Option R}{Q:R->Prop}(n:Nat)(p:Nat->Prop)(hn:n<4611686018427387904)
  (hs:∀k:Nat,k<n->∃z,f (k:Int)=some z/\((p k/\z = .inl ((k+1:Nat):Int))\/(¬p k/\z = .inr (.inl false))))(he:f (n:Int)=some (.inr (.inr ())))
  (h1:(∀k,k<n->p k)->∃r,κ (.inr ())=some r/\Q r)(h0:(¬∀k,k<n->p k)->∃r,κ (.inl false)=some r/\Q r):∃r,(lp f 0).bind κ=some r/\Q r:=by
 obtain⟨e,e1,e2⟩:=yi (f:=f) n (λk=>∀j,j<k->p j) (λe=>(e = .inr ()/\∀k,k<n->p k)\/(e = .inl false/\¬∀k,k<n->p k)) hn (λj hj=>by omega) (λk hk hP=>by
  obtain⟨z,z1,z2⟩:=hs k hk;rcases z2 with ⟨a,rfl⟩ | ⟨a,rfl⟩
  .refine .inl ⟨z1,λj hj=>?_⟩;rcases zy j k with q | q
   .exact hP j q
   .have:j=k:=by omega
    subst this;exact a
  .exact .inr ⟨_,z1,.inr ⟨rfl,λq=>a (q k hk)⟩⟩) (λhP=>⟨_,he,.inl ⟨rfl,hP⟩⟩)
 rw[e1];rcases e2 with ⟨rfl,h⟩ | ⟨rfl,h⟩;·exact h1 h
 .exact h0 h
theorem MQ{s:a7}(hR:SR s){h:Int}(hh:h∈lv s):bR s h (ob s h)=s:=by
 have q:=y5 hR hh;unfold bR cy;rw[N5 hR q];have e:s.S.a8.set (C0 h) ⟨(ce s (C0 h)).State,(ce s (C0 h)).Gen,(ce s (C0 h)).Val⟩=s.S.a8:=by
  rw[show (⟨(ce s (C0 h)).State,(ce s (C0 h)).Gen,(ce s (C0 h)).Val⟩:b7)=ce s (C0 h) from rfl,D3 q.1];exact List.set_getElem_self q.1
 rw[e]
section
variable{x:Hp}(hR:SR x.S)
include hR
theorem Lo{h:Int}(hh:h<=9223372036854775807):gT x h=some (decide (h∈lv x.S)):=by
 unfold gT;obtain⟨e,h1,h2⟩:=Q2 (r9.2 hR) hh;rw[h1,XB];congr 1;rw[za2,q9,zx,h2]
theorem uu{h:Int}(hh:h<=9223372036854775807):au (hO x) h=some (decide (h∈lv x.S)):=by
 unfold au;obtain⟨e,h1,h2⟩:=Q2 (r9.2 hR) hh;rw[show (hO x).S=sO x.S from rfl,ja x.S (by have:=hR.len;omega) hh,h1,zM,XB];congr 1;rw[za2,q9,zx,h2]
theorem dm{h:Int}(hh:h<=9223372036854775807):J2 x h=some (decide (h=0\/h∈lv x.S)):=by
 unfold J2;by_cases q:h=0
 .subst q;simp[p7]
 .have e:(h==0)=false:=by simpa using q
  rw[e];simp only[zW,aF,zbw];rw[Lo hR hh,XB];simp[q]
theorem qH{h:Int}(hh:h<=9223372036854775807):bK (hO x) h=some (decide (h=0\/h∈lv x.S)):=by
 unfold bK;by_cases q:h=0
 .subst q;simp[p7]
 .have e:(h==0)=false:=by simpa using q
  rw[e];simp only[zW,aF,zbw];rw[uu hR hh,XB];simp[q]
theorem SM{c:Int}(hc:c<=9223372036854775807):nr c=some (T0 c):=by
 unfold nr fS E3 T0;simp only[XB];by_cases q:12<=c
 .rw[zb (by simpa using q),zb q,XB]
 .rw[za (by simpa using q),za q,XB];by_cases q2:c<0
  .rw[zb (show 0 > c from q2),zb q2];rfl
  .rw[za (show ¬0 > c from q2),za q2,D1 (by omega) (by omega)]
theorem CO{c:Int}(hc:c<=9223372036854775807):uC c=some (T0 c):=by
 unfold uC dq T0;simp only[XB];by_cases q:12<=c
 .rw[zb (by simpa using q),zb q]
 .rw[za (by simpa using q),za q];by_cases q2:c<0
  .rw[zb (by simpa using q2),zb q2]
  .rw[za (by simpa using q2),za q2,D1 (by omega) (by omega)]
omit hR in
theorem Mt {s:a7} (hR:SR s) {h:Int} (hh:h∈lv s) {n:Int} (hn:0<=n):I5 s h (yH (ob s h) n)=some (bR s h (yH (ob s h) n),0):=by
 have:=I3 hR hh;exact rn (o:=yH (ob s h) n) hR hh rfl ⟨this.s1,this.s2,hn,this.wk,this.p1,this.p2,this.fl⟩
omit hR in
theorem rp {s:a7} (hR:SR s) {h:Int} (hh:h∈lv s) {o:k9} (hs:o.Serial=(ob s h).Serial) (ho:xi s o):M4 (sO s) h (oo o)=some (sO (bR s h o),0):=by
 have:=F6 hR hh;rw[MU s hR.len (by omega) o,rn hR hh hs ho];rfl
theorem ju{h:Int}(hh:h<=9223372036854775807)(hB:∀k∈lv x.S,(ob x.S k).Strong<=9223372036854775807):Y9 x h=some (B2 x h):=by
 unfold Y9 S0 B2 ru;obtain⟨e,h1,h2⟩:=Q2 (r9.2 hR) hh;rw[h1,XB];by_cases q:h∈lv x.S
 .have e0:=h2.2 q;subst e0;rw[zb q,SM hR (hB h q)];simp only[zW,zH,XB];have:=Mt hR q (C5 (I3 hR q).st);rw[this];rfl
 .have:(e==0)=false:=by simpa using λc=>q (h2.1 c)
  rw[this,za q];rfl
theorem mU{h:Int}(hh:h<=9223372036854775807)(hB:∀k∈lv x.S,(ob x.S k).Strong<=9223372036854775807):bt (hO x) h=some (hO (B2 x h)):=by
 unfold bt kR B2 ru;obtain⟨e,h1,h2⟩:=Q2 (r9.2 hR) hh;have hg:E1 (hO x).S h=some (oo (ob x.S h),e):=by
  rw[show (hO x).S=sO x.S from rfl,ja x.S (by have:=hR.len;omega) hh,h1];rfl
 rw[hg,XB];by_cases q:h∈lv x.S
 .have e0:=h2.2 q;subst e0;have hs:uC (oo (ob x.S h),(0:Int)).1.Strong=some (T0 (ob x.S h).Strong):=CO hR (hB h q);rw[zb q,hs,XB];simp only[XB,zas,zi,zV];have ok:=I3 hR q;have:=rp (o:=yH (ob x.S h) (T0 (ob x.S h).Strong)) hR q rfl ⟨ok.s1,ok.s2,C5 ok.st,ok.wk,ok.p1,ok.p2,ok.fl⟩;rw[show M4 (hO x).S h ⟨(oo (ob x.S h)).Serial,T0 (ob x.S h).Strong,(oo (ob x.S h)).Weak,(oo (ob x.S h)).Prog,(oo (ob x.S h)).Started,(oo (ob x.S h)).Fields⟩=_ from this];rfl
 .have he:(e != 0)=true:=by simpa using λc=>q (h2.1 c)
  have hb:(oo (ob x.S h)).Strong<=9223372036854775807:=by
   rw[oT (r9.2 hR) hh q];decide
  rw[CO hR hb,XB,XB];simp only[he,zH];rw[za q];rfl
omit hR in
theorem Sd (c:Int) (h1 : -1000000<=c):ck c=some (iY c):=by
 unfold ck rP dd E3 iY;simp only[XB];by_cases q:12<=c
 .rw[zb (by simpa using q),zb q];rfl
 .rw[za (by simpa using q),za q];by_cases q2:c<1
  .rw[zb (by simpa using q2),zb q2];rfl
  .rw[za (by simpa using q2),za q2,D1 (by omega) (by omega)];rfl
theorem dx{h:Int}(hh:h<=9223372036854775807):B6 x h=some (O9 x h):=by
 unfold B6 L3 O9 ru;obtain⟨e,h1,h2⟩:=Q2 (r9.2 hR) hh;rw[h1,XB];by_cases q:h∈lv x.S
 .have e0:=h2.2 q;subst e0;have ok:=I3 hR q;rw[zb q,Sd _ (by have:=ok.st;dsimp only;omega)];simp only[zW,zH,XB];have:=Mt hR q (M0 ok.st);rw[this];rfl
 .have:(e==0)=false:=by simpa using λc=>q (h2.1 c)
  rw[this,za q];rfl
theorem fN{h:Int}(hh:h<=9223372036854775807):D9 (hO x) h=some (hO (O9 x h)):=by
 unfold D9 kR O9 ru;obtain⟨e,h1,h2⟩:=Q2 (r9.2 hR) hh;have hg:E1 (hO x).S h=some (oo (ob x.S h),e):=by
  rw[show (hO x).S=sO x.S from rfl,ja x.S (by have:=hR.len;omega) hh,h1];rfl
 rw[hg,XB];by_cases q:h∈lv x.S
 .have e0:=h2.2 q;subst e0;have ok:=I3 hR q;have put:∀n,0<=n->M4 (hO x).S h ⟨(oo (ob x.S h)).Serial,n,(oo (ob x.S h)).Weak,(oo (ob x.S h)).Prog,(oo (ob x.S h)).Started,(oo (ob x.S h)).Fields⟩=some (sO (bR x.S h (yH (ob x.S h) n)),0):=λn hn=>
   rp (o:=yH (ob x.S h) n) hR q rfl ⟨ok.s1,ok.s2,hn,ok.wk,ok.p1,ok.p2,ok.fl⟩
  have hs:(oo (ob x.S h)).Strong=(ob x.S h).Strong:=rfl;rw[zb q];unfold Ba dq iY;simp only[XB,hs];by_cases q1:12<=(ob x.S h).Strong
  .rw[zb (by simpa using q1),zb q1];simp only[XB,zas,zi,zV];rw[put 12 (by decide)];rfl
  .rw[za (by simpa using q1),za q1];by_cases q2:(ob x.S h).Strong<1
   .rw[zb (by simpa using q2),zb q2];simp only[XB,show ((11:Int) != 0)=true from rfl,zH];rw[show yH (ob x.S h) (ob x.S h).Strong=ob x.S h from rfl,MQ hR q]
   .rw[za (by simpa using q2),za q2,D1 (by omega) (by have:=ok.st;omega)];simp only[XB,zas,zi,zV];rw[put _ (by omega)];rfl
 .have he:(e != 0)=true:=by simpa using λc=>q (h2.1 c)
  rw[za q,oT (r9.2 hR) hh q];unfold Ba dq;simp only[XB];rfl
end
theorem JA{x:Hp}(hR:SR x.S)(hB:SB x.S):∀k∈lv x.S,(ob x.S k).Strong<=9223372036854775807:=λk hk=>(sW (r9.2 hR) hB hk).2
end Go.Sh
