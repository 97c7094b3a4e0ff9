/- A part. -/
import Derived.Test.YtmgbbnfgfmfgaaaGreatQ22bSh
import Derived.Test.YtmgbbnfgfmfgaaaGreatQ22bSh1
set_option linter.unusedVariables false
set_option linter.unusedSimpArgs false
set_option linter.unusedSectionVars false
namespace Go.Sh
def sL(h:Int):Prop:=1<=h/\(h-1) % 32<24/\(h-1) / 32<=9
instance(h:Int):Decidable (sL h):=by unfold sL;infer_instance
theorem yL{h:Int}(q:sL h):1<=h/\h<=320:=by unfold sL at q;omega
theorem pv{i g:Int}(h1:0<=i)(h2:i<24)(h3:0<=g)(h4:g<=9):ee i g=some (1+i+32*g):=by
 unfold ee;rw[za (by simp;omega)];rw[show u4 (i*1)=i by rw[jx];omega,show u4 (1+i)=1+i by rw[jx];omega,show u4 (g*32)=32*g by rw[jx];omega,show u4 (1+i+32*g)=1+i+32*g by rw[jx];omega]
theorem wD{i g:Int}:mD i g=some (if 0<=i/\i<24/\0<=g/\g<=9 then 1+i+32*g else 0):=by
 unfold mD;split;·rename_i h;rw[za (by simp at h;omega)]
 .rename_i h;have h:0<=i/\i<24/\0<=g/\g<=9:=by simp at h;omega
  rw[zb h];rw[show u4 (1+i)=1+i by rw[jx];omega,show u4 (32*g)=32*g by rw[jx];omega,show u4 (1+i+32*g)=1+i+32*g by rw[jx];omega]
theorem ow{h:Int}(hh:h<=9223372036854775807):eU h=some (if sL h then ((h-1) % 32,(h-1) / 32,true) else (-1,-1,false)):=by
 unfold eU;split
 .rename_i q;rw[za (by unfold sL;simp at q;omega)]
 .rename_i q;have q:1<=h:=by simpa using q
  rw[O1 (n:=h-1),uC (by omega) (by omega),a0d,xH (by omega) (by omega) (by omega),a0d,xH (by omega) (by omega) (by omega),a0d,Int.ediv_one];split
  .rename_i q2;rw[za (by unfold sL;simp at q2;omega)]
  .rename_i q2;rw[zb (by unfold sL;simp at q2;omega)]
theorem jT{h:Int}(hh:h<=9223372036854775807):hU h=some (if sL h then (h-1) % 32 else -1):=by
 unfold hU;rw[ow hh,a0d];split <;> rfl
theorem lH{h:Int}(hh:h<=9223372036854775807):jS h=some (if sL h then (h-1) / 32 else -1):=by
 unfold jS;rw[ow hh,a0d];split <;> rfl
theorem ux{h:Int}:mE h=some (decide (sL h)):=by
 unfold mE;split
 .rename_i q;rw[zQ (by unfold sL;simp at q;omega)]
 .rename_i q;have q:1<=h/\h<=400:=by simp at q;omega
  rw[O1 (n:=h-1),uC (by omega) (by omega),a0d,xH (by omega) (by omega) (by omega),a0d,wD,a0d];congr 1;by_cases k:sL h
  .rw[zB k,zb (by unfold sL at k;omega)];simp;omega
  .rw[zQ k,za (by unfold sL at k;omega)];simp;omega
theorem FY{h:Int}:uw h=some (if sL h then (h-1) % 32 else -1):=by
 unfold uw;rw[ux,a0d];by_cases k:sL h
 .have:=yL k;rw[zB k,za (by simp),zb k,O1 (n:=h-1),uC (by omega) (by omega),a0d]
 .rw[zQ k,zb (by simp),za k]
theorem HS{h:Int}:xI h=some (if sL h then (h-1) / 32 else -1):=by
 unfold xI;rw[ux,a0d];by_cases k:sL h
 .have:=yL k;rw[zB k,za (by simp),zb k,O1 (n:=h-1),xH (by omega) (by omega) (by omega),a0d]
 .rw[zQ k,zb (by simp),za k]
abbrev z0:n0:=⟨0,0,0,0,false,[]⟩
structure ZJ (s:l4):Prop where
 len:s.b7.length<=24
 l0:0<=s.Last
 l9:s.Last<=9
 cell:∀i (h:i<s.b7.length),0<=s.b7[i].State/\s.b7[i].State<=3/\0<=s.b7[i].Gen/\s.b7[i].Gen<=s.Last
theorem mU{s:l4}{i:Int}{k:Nat}{c:c8}(hi:i=k)(hk:k<s.b7.length)(hl:s.b7.length<=24):E4 s i c=some ⟨s.b7.set k c,s.Last⟩:=by
 subst hi;unfold E4 y9;rw[cq (by omega) (by omega),a0d,r9 hk,a0d,zN]
theorem Eh{s:l4}(hR:ZJ s)(v:n0) :
  (∃i,∃h:i<s.b7.length,s.b7[i].State=0/\(∀j (hj:j<i),s.b7[j].State≠0)/\M3 s v=some (⟨s.b7.set i ⟨1,s.b7[i].Gen,v⟩,s.Last⟩,1+i+32*s.b7[i].Gen,0)) \/
  ((∀i (h:i<s.b7.length),s.b7[i].State≠0)/\M3 s v=some (s,0,4)):=by
 have hlen:=hR.len;by_cases q:∃i,∃h:i<s.b7.length,s.b7[i].State=0
 .obtain⟨i,⟨hi,h0⟩,hmin⟩:=dI (p:=λi=>∃h:i<s.b7.length,s.b7[i].State=0) q;left;refine⟨i,hi,h0,λj hj=>λe=>by have:=hmin j ⟨by omega,e⟩;omega,?_⟩;unfold M3;simp only[jn,R1,a0d];have hc:=hR.cell i hi;refine dO s.b7.length (λk=>k<=i) (by omega) (by omega) (λk hk hP=>?_) (λhP=>by omega);rcases zD k i with g | g
  .refine .inl ⟨?_,g⟩;have:s.b7[k].State≠0:=λe=>by have:=hmin k ⟨hk,e⟩;omega
   simp only[we,hk,ul,zY,r9 hk,a0d];rw[za (by simpa using this),n9]
  .have:k=i:=by omega
   subst this;refine .inr ⟨.inl _,?_,rfl⟩;simp only[we,hk,ul,zY,r9 hk,a0d,h0,mU rfl hk hlen];rw[pv (by omega) (by omega) hc.2.2.1 (by have:=hR.l9;omega)];simp
 .right;refine⟨λi h e=>q ⟨i,h,e⟩,?_⟩;unfold M3;simp only[jn,R1,a0d];refine dO s.b7.length (λk=>True) (by omega) trivial (λk hk _=>?_) (λhP=>⟨.inr (),by simp,rfl⟩);refine .inl ⟨?_,trivial⟩;have:s.b7[k].State≠0:=λe=>q ⟨k,hk,e⟩;simp only[we,hk,ul,zY,r9 hk,a0d];rw[za (by simpa using this),n9]
def wY(s:l4)(h:Int)(i:Nat):Prop:=∃hi:i<s.b7.length,sL h/\(h-1) % 32=i/\s.b7[i].Gen=(h-1) / 32/\(s.b7[i].State=1\/s.b7[i].State=2)
theorem jh(s:l4){h:Int}(hh:h<=9223372036854775807) :
  (∃i,wY s h i/\x4 s h=some ((i:Int),0))\/((∀i,¬wY s h i)/\x4 s h=some (-1,if h=0 then 2 else 3)):=by
 unfold x4;by_cases h0:h=0
 .right;subst h0;exact⟨λi ⟨_,h1,_⟩=>by unfold sL at h1;omega,by simp⟩
 .rw[za (by simpa using h0),jT hh,a0d,za h0];by_cases hd:sL h
  .rw[zb hd];have hd':=hd;unfold sL at hd';obtain⟨k,hk⟩:∃k:Nat,(h-1) % 32=k:=⟨((h-1) % 32).toNat,by omega⟩;rw[hk];by_cases hl:k<s.b7.length
   .rw[za (by simp;omega),r9 hl,a0d,lH hh,a0d,zb hd];by_cases g:s.b7[k].Gen=(h-1) / 32/\(s.b7[k].State=1\/s.b7[k].State=2)
    .left;refine⟨k,⟨hl,hd,hk,g⟩,?_⟩;rw[za];simp;omega
    .right;refine⟨λi ⟨hi,_,h2,h3⟩=>?_,?_⟩
     .have:i=k:=by omega
      subst this;exact g h3
     .rw[zb];simp;omega
   .right;refine⟨λi ⟨hi,_,h2,h3⟩=>by omega,?_⟩;rw[zb (by simp;omega)]
  .right;refine⟨λi ⟨hi,h1,_⟩=>hd h1,?_⟩;rw[za hd,zb (by simp)]
theorem qt{s:l4}{h:Int}{i:Nat}(hf:wY s h i):x4 s h=some ((i:Int),0):=by
 have hh:=yL hf.2.1;rcases jh s (h:=h) (by omega) with ⟨j,h1,h2⟩ | ⟨h1,_⟩
 .obtain⟨_,_,e1,_⟩:=hf;obtain⟨_,_,e2,_⟩:=h1;have:i=j:=by omega
  subst this;exact h2
 .exact absurd hf (h1 i)
theorem BS{s:l4}{h:Int}(hh:h<=9223372036854775807)(hf:∀i,¬wY s h i):x4 s h=some (-1,if h=0 then 2 else 3):=by
 rcases jh s hh with ⟨j,h1,_⟩ | ⟨_,h2⟩;·exact absurd h1 (hf j)
 .exact h2
theorem pk(h:Int):(if h=0 then 2 else 3:Int)≠0:=by split <;> omega
theorem Ff{s:l4}{h:Int}{i:Nat}(hf:wY s h i):∃hi:i<s.b7.length,F1 s h=some (if s.b7[i].State=2 then (z0,3) else (s.b7[i].Val,0)):=by
 refine⟨hf.1,?_⟩;unfold F1;rw[qt hf,a0d,za (by simp),r9 hf.1,a0d];split <;> rename_i q
 .rw[zb (by simpa using q)]
 .rw[za (by simpa using q)]
theorem yJ{s:l4}{h:Int}(hh:h<=9223372036854775807)(hf:∀i,¬wY s h i):F1 s h=some (z0,if h=0 then 2 else 3):=by
 unfold F1;rw[BS hh hf,a0d,zb (by simpa using pk h)]
theorem Pz{s:l4}{h:Int}{v:n0}{i:Nat}(hl:s.b7.length<=24)(hf:wY s h i):∃hi:i<s.b7.length,aM s h v=some (⟨s.b7.set i ⟨s.b7[i].State,s.b7[i].Gen,v⟩,s.Last⟩,0):=by
 refine⟨hf.1,?_⟩;unfold aM;rw[qt hf,a0d,za (by simp),r9 hf.1,a0d,mU rfl hf.1 hl,a0d]
def oo(o:n0):aJ:=⟨o.Serial,o.Strong,o.Weak,o.Prog,o.Started,o.Fields⟩
def cO(c:c8):y7:=⟨c.State,c.Gen,oo c.Val⟩
def sO(s:b6):x6:=⟨s.S.b7.map cO,s.S.Last,s.Serial⟩
def Sm(s:b6):Prop:=s.S.b7.length<=30/\∀i (h:i<s.S.b7.length),s.S.b7[i].Val.Fields.length<=10
instance(s:b6):Decidable (Sm s):=by unfold Sm;infer_instance
def Sy(i:Nat)(c:y7):G5:=⟨c.State,c.Gen,(i:Int)⟩
def pl(t:x6):U1:=⟨t.b7.mapIdx Sy,t.Last⟩
theorem JV(t:x6)(h:t.b7.length<=1000):gr t=some (pl t):=by
 unfold gr;simp only[jn];refine bD t.b7.length (λk acc=>acc=(t.b7.mapIdx Sy).take k) (by omega) (by simp) (λk acc hk hP=>?_) (λacc hP=>?_)
 .subst hP;refine .inl ⟨_,?_,rfl⟩;simp only[we,hk,ul,zY,r9 hk,a0d];rw[J0 (by omega) (by simp;omega),a0d,n9];have e:(t.b7.mapIdx Sy).take (k+1)=(t.b7.mapIdx Sy).take k ++ [Sy k t.b7[k]]:=by
   rw[List.take_add_one,zc (by simpa using hk)];simp
  rw[e];rfl
 .subst hP;rw[List.take_of_length_le (by simp)];exact⟨t.b7.mapIdx Sy,by simp only[za6,zbk,zA,un],rfl⟩
def PY(c:y7):Prop:=c.State=1\/c.State=2
instance(c:y7):Decidable (PY c):=by unfold PY;infer_instance
def Xl(t:x6)(o:aJ):Prop:=1<=o.Serial/\o.Serial<=t.Serial/\0<=o.Strong/\0<=o.Weak /\ -1<=o.Prog/\o.Prog<=5/\o.Fields.length<=4
def KA(o:aJ):Prop:=o.Serial=0/\o.Strong=0/\o.Weak=0/\o.Prog=0/\o.Started=false/\o.Fields.length=0
structure ve (t:x6):Prop where
 len:t.b7.length<=24
 l0:0<=t.Last
 l9:t.Last<=9
 bw:0<=t.Serial
 cell:∀i (h:i<t.b7.length),0<=t.b7[i].State/\t.b7[i].State<=3/\0<=t.b7[i].Gen/\t.b7[i].Gen<=t.Last
 no:∀i (h:i<t.b7.length),¬PY t.b7[i]->KA t.b7[i].Val
 ok:∀i (h:i<t.b7.length),PY t.b7[i]->Xl t t.b7[i].Val
 dif:∀i (h:i<t.b7.length) k (hk:k<i),PY t.b7[i]->PY t.b7[k]->t.b7[k].Val.Serial≠t.b7[i].Val.Serial
theorem Gq{c:Int->Int->Option Int}{xs:List Int}(key:Int->Int)(hc:∀x y,∃r,c x y=some r/\(r<0↔key x<key y))(hl:xs.length<4611686018427387904) :
  ∃ys,wb c xs=some ys/\ys.Perm xs/\ys.Pairwise (λa b=>key a<=key b):=by
 have hlt:∀x y,Go.Proofs.ltOf (λx y=>(c x y).getD 0) x y=decide (key x<key y):=λx y=>by
  obtain⟨r,h1,h2⟩:=hc x y;show decide ((c x y).getD 0<0)=_;rw[h1,ut];exact zbc.2 h2
 have hO:Go.Sort.SWO (Go.Proofs.ltOf λx y=>(c x y).getD 0):=by
  refine⟨λx=>?_,λx y z=>?_,λx y z=>?_⟩;·rw[hlt];simp
  .rw[hlt,hlt,hlt];simp;omega
  .rw[hlt,hlt,hlt];simp;omega
 have hcond:(∀x y,(c x y).isSome=true)/\Go.Sort.SWO (Go.Proofs.ltOf λx y=>(c x y).getD 0)/\xs.length<4611686018427387904:=⟨λx y=>by
  obtain⟨r,h1,_⟩:=hc x y;rw[h1];rfl,hO,hl⟩
 unfold wb;rw[zb hcond];refine⟨_,rfl,?_⟩;obtain⟨⟨p1,p2,p3⟩,p4⟩:=Go.Sort.pdq_sorts (Go.Proofs.ltOf λx y=>(c x y).getD 0) hO xs.toArray 0 xs.length (Go.Lib.bitLen xs.length) true true (zW _) (by simp) (Or.inl rfl);generalize Go.Sort.pdq (Go.Proofs.ltOf λx y=>(c x y).getD 0) xs.toArray 0 xs.length (Go.Lib.bitLen xs.length) true true=d at p1 p2 p3 p4 |-;have hs:d.size=xs.length:=by simpa using p1
 refine⟨?_,?_⟩
 .have e1:d.extract 0 xs.length=d:=by rw[<-hs];exact Array.extract_size
  have e2:xs.toArray.extract 0 xs.length=xs.toArray:=by
   simp
  rw[e1,e2] at p3;simpa using p3
 .rw[zav];intro i j hi hj hij;have hi':i<d.size:=by simpa using hi
  have hj':j<d.size:=by simpa using hj
  have:=p4 i j (zW _) hij (by omega);rw[hlt,getElem!_pos d j hj',getElem!_pos d i hi'] at this;have:=of_decide_eq_false this;simp only[Array.getElem_toList];omega
def bt:Nat->List c8->List Int
 | _,[]=>[]
 | k,c::r=>(if c.State=1 then [1+(k:Int)+32*c.Gen] else [])++bt (k+1) r
theorem qx(c:c8):∀(k:Nat) (xs:List c8),bt k (xs ++ [c])=bt k xs++(if c.State=1 then [1+((k+xs.length:Nat):Int)+32*c.Gen] else [])
 | k,[]=>by simp[bt]
 | k,x::r=>by
  simp only[List.cons_append,bt,qx c (k+1) r,zai,zH];rw[show k+1+r.length=k+(r.length+1) by omega]
theorem mb:∀(k:Nat) (xs:List c8),(bt k xs).length<=xs.length
 | _,[]=>by simp[bt]
 | k,c::r=>by
  have:=mb (k+1) r;simp only[bt,zL,zH];split <;> simp <;> omega
theorem pA{h:Int}:∀ {k:Nat} {xs:List c8},h∈bt k xs↔∃i,∃hi:i<xs.length,xs[i].State=1/\h=1+((k+i:Nat):Int)+32*xs[i].Gen
 | k,[]=>by simp[bt]
 | k,c::r=>by
  simp only[bt,zu,pA (k:=k+1) (xs:=r)];constructor
  .rintro (q | ⟨i,hi,q1,q2⟩)
   .by_cases hc:c.State=1
    .rw[zb hc] at q;exact⟨0,by simp,by simpa using hc,by simpa using q⟩
    .rw[za hc] at q;cases q
   .exact⟨i+1,by simpa using hi,by simpa using q1,by simp only[List.getElem_cons_succ];rw[q2,show k+1+i=k+(i+1) by omega]⟩
  .rintro⟨i,hi,q1,q2⟩;cases i with
   | zero=>
    left;simp only[List.getElem_cons_zero] at q1 q2;rw[zb q1];simp[q2]
   | succ i=>
    right;simp only[List.getElem_cons_succ] at q1 q2;exact⟨i,by simpa using hi,q1,by rw[q2,show k+1+i=k+(i+1) by omega]⟩
def sk(cs:List c8)(h:Int):Int:=match cs[((h-1) % 32).toNat]? with
 | some c=>c.Val.Serial
 | none=>0
theorem Gp{cs:List c8}{i:Nat}{g:Int}(h:i<cs.length)(h32:cs.length<=32):sk cs (1+(i:Int)+32*g)=cs[i].Val.Serial:=by
 unfold sk;have:((1+(i:Int)+32*g-1) % 32).toNat=i:=by omega
 rw[this,zc h]
structure Za (cs:List c8):Prop where
 len:cs.length<=24
 gen:∀i (h:i<cs.length),0<=cs[i].Gen/\cs[i].Gen<=9
theorem Cc{s:b6}(hR:Za s.S.b7):∃l,G0 s=some l/\l.Perm (bt 0 s.S.b7)/\l.Pairwise (λa b=>sk s.S.b7 a<=sk s.S.b7 b):=by
 have hlen:=hR.len;unfold G0;simp only[jn];have hh:=mb 0 s.S.b7;have hloop:∃e:List (Int × Int) × List Int,lp (S:=Int × (List (Int × Int)) × (List Int)) (E:=((List (Int × Int)) × (List Int))) (λ((s23,s24,s25):Int × (List (Int × Int)) × (List Int))=>
   if (decide (s23<(s.S.b7.length:Int))) then
    ((ix s.S.b7 s23).bind λv35=>
     if (v35.State==1) then
      (ee s23 v35.Gen).bind λv36=>
      (app 8 s25 [v36]).bind λv37=>
      some (.inl (u4 (s23+1),(p6 s24 v36 v35.Val.Serial),v37))
     else
     some (.inl (u4 (s23+1),s24,s25)))
   else
   some (.inr (s24,s25))) (0,[],[])=some e/\e.2=bt 0 s.S.b7/\∀h∈e.2,A1 e.1 h=some (sk s.S.b7 h):=by
  refine gi (T:=List (Int × Int) × List Int) s.S.b7.length (λk e=>e.2=bt 0 (s.S.b7.take k)/\∀h∈e.2,A1 e.1 h=some (sk s.S.b7 h)) (λe:List (Int × Int) × List Int=>e.2=bt 0 s.S.b7/\∀h∈e.2,A1 e.1 h=some (sk s.S.b7 h)) (by omega) ⟨by simp[bt],by simp⟩ (λk e hk hP=>?_) (λe hP=>?_)
  .obtain⟨h1,h2⟩:=hP;obtain⟨m,l⟩:=e;simp only at h1 h2;left;have hc:=hR.gen k hk;have hl:l.length<=24:=by rw[h1];have:=mb 0 (s.S.b7.take k);simp at this;omega
   have et:s.S.b7.take (k+1)=s.S.b7.take k ++ [s.S.b7[k]]:=by rw[List.take_add_one,zc hk];rfl
   have el:(s.S.b7.take k).length=k:=by simp;omega
   by_cases q:s.S.b7[k].State=1
   .refine⟨(p6 m (1+(k:Int)+32*s.S.b7[k].Gen) s.S.b7[k].Val.Serial,l ++ [1+(k:Int)+32*s.S.b7[k].Gen]),?_,?_,?_⟩
    .simp only[we,hk,ul,zY,r9 hk,a0d,q,q9];rw[pv (by omega) (by omega) hc.1 hc.2,a0d,J0 (by omega) (by simp;omega),a0d,n9]
    .simp only;rw[et,qx,zb q,el,h1,zab]
    .intro h hh;simp only[zu,zp] at hh |-;rw[qz];rcases hh with hh | rfl
     .split;·rename_i e;rw[e,Gp hk (by omega)]
      .exact h2 h hh
     .rw[zb rfl,Gp hk (by omega)]
   .refine⟨(m,l),?_,?_,h2⟩
    .simp only[we,hk,ul,zY,r9 hk,a0d];rw[za (by simpa using q),n9]
    .simp only;rw[et,qx,za q,h1,zap]
  .obtain⟨h1,h2⟩:=hP;obtain⟨m,l⟩:=e;refine⟨(m,l),by simp only[za6,zbk,zA,un],?_,h2⟩;simpa using h1
 obtain⟨⟨m,l⟩,e1,e2,e3⟩:=hloop;rw[show lp _ _=_ from e1,a0d];simp only at e2 e3 |-;subst e2;obtain⟨ys,q1,q2,q3⟩:=Gq (c:=λp q=>ju p q m) (xs:=bt 0 s.S.b7) (λh=>(A1 m h).getD 0) (λx y=>by
  unfold ju iG dh;simp only[a0d,zb8,zA,un];generalize (A1 m x).getD 0=a;generalize (A1 m y).getD 0=b;by_cases h1:a<b
  .rw[zB h1];exact⟨-1,rfl,by simp[h1]⟩
  .rw[zQ h1];by_cases h2:a > b
   .rw[zB h2];exact⟨1,rfl,by simp[h1]⟩
   .rw[zQ h2];exact⟨0,rfl,by simp[h1]⟩) (by omega)
 refine⟨ys,by rw[q1];rfl,q2,q3.imp_of_mem λ{a b} ha hb hab=>?_⟩;rw[e3 a (q2.mem_iff.1 ha),e3 b (q2.mem_iff.1 hb)] at hab;simpa using hab
theorem oc{key:Int->Int}:∀ {l m:List Int},l.Perm m->l.Pairwise (λa b=>key a<=key b)->m.Pairwise (λa b=>key a<=key b)->(∀a∈l,∀b∈l,key a=key b->a=b)->l=m
 | [],m,hp,_,_,_=>(List.nil_perm.1 hp).symm
 | a::l,[],hp,_,_,_=>by simp at hp
 | a::l,b::m,hp,h1,h2,hk=>by
  have ha:=zba.1 h1;have hb:=zba.1 h2;have e:a=b:=by
   have m1:b∈a::l:=hp.mem_iff.2 (zg ..);have m2:a∈b::m:=hp.mem_iff.1 (zg ..);rcases zM.1 m1 with q | q
   .exact q.symm
   .rcases zM.1 m2 with q' | q'
    .exact q'
    .exact hk a (zg ..) b m1 (Int.le_antisymm (ha.1 b q) (hb.1 a q'))
  subst e;rw[oc (List.perm_cons a |>.1 hp) ha.2 hb.2 λx hx y hy=>hk x (zn _ hx) y (zn _ hy)]
theorem bY(s:b6):(sO s).b7.length=s.S.b7.length:=by simp[sO]
theorem Pt(s:b6)(i:Int):ix (sO s).b7 i=(ix s.S.b7 i).map cO:=qy cO s.S.b7 i
theorem We(t:x6):(pl t).b7.length=t.b7.length:=by simp[pl]
theorem Ua{t:x6}{k:Nat}(h:k<t.b7.length):ix (pl t).b7 k=some (Sy k t.b7[k]):=by
 rw[r9 (by simpa[pl] using h)];simp[pl]
theorem Nu(s:b6){h:Int}(hh:h<=9223372036854775807):bV (pl (sO s)) h=x4 s.S h:=by
 unfold bV x4;rw[FY,jT hh,HS,lH hh];simp only[a0d,We,bY];generalize (if sL h then (h-1) % 32 else -1:Int)=v;generalize (if sL h then (h-1) / 32 else -1:Int)=g;split;·rfl
 .split;·rfl
  .rename_i q;have q:0<=v/\v<s.S.b7.length:=by simp at q;omega
   obtain⟨k,rfl⟩:∃k:Nat,v=k:=⟨v.toNat,by omega⟩;have hk:k<s.S.b7.length:=by omega
   rw[Ua (by rw[bY];exact hk),r9 hk];simp only[a0d,Sy,sO,t6,cO]
theorem lL{s:b6}(h:ve (sO s)):s.S.b7.length<=24:=by have:=h.len;rwa [bY] at this
theorem DV{s:b6}(h:ve (sO s))(i:Nat)(hi:i<s.S.b7.length):0<=s.S.b7[i].State/\s.S.b7[i].State<=3/\0<=s.S.b7[i].Gen/\s.S.b7[i].Gen<=s.S.Last:=by
 have:=h.cell i (by rw[bY];exact hi);simpa[sO,cO] using this
theorem DW{s:b6}(h:ve (sO s)):Za s.S.b7:=⟨lL h,λi hi=>by have:=DV h i hi;have h9:s.S.Last<=9:=h.l9;omega⟩
theorem Pq{s:b6}(h:ve (sO s))(i:Nat)(hi:i<s.S.b7.length)(ht:s.S.b7[i].State=1\/s.S.b7[i].State=2):Xl (sO s) (oo s.S.b7[i].Val):=by
 have:=h.ok i (by rw[bY];exact hi);simp only[sO,t6,cO,PY] at this;exact this ht
theorem Pp{s:b6}(h:ve (sO s)){i j:Nat}(hi:i<s.S.b7.length)(hj:j<s.S.b7.length)(a:s.S.b7[i].State=1\/s.S.b7[i].State=2)(b:s.S.b7[j].State=1\/s.S.b7[j].State=2)(e:s.S.b7[i].Val.Serial=s.S.b7[j].Val.Serial):i=j:=by
 have key:∀i (hi:i<s.S.b7.length) j (hj:j<i),(s.S.b7[i].State=1\/s.S.b7[i].State=2)->(s.S.b7[j].State=1\/s.S.b7[j].State=2)->s.S.b7[j].Val.Serial≠s.S.b7[i].Val.Serial:=λi hi j hj a b=>by
  have:=h.dif i (by rw[bY];exact hi) j hj;simp only[sO,t6,cO,PY,oo] at this;exact this a b
 rcases Nat.lt_trichotomy i j with q | q | q
 .exact absurd e (key j hj i q b a)
 .exact q
 .exact absurd e.symm (key i hi j q a b)
theorem ma{s:b6}(hR:ve (sO s)){x:Int}(hx:x∈bt 0 s.S.b7):∃i,∃hi:i<s.S.b7.length,s.S.b7[i].State=1/\x=1+(i:Int)+32*s.S.b7[i].Gen/\wY s.S x i/\sk s.S.b7 x=s.S.b7[i].Val.Serial/\w9 s x=some (s.S.b7[i].Val,0):=by
 obtain⟨i,hi,h1,h2⟩:=pA.1 hx;rw[zab] at h2;have hl:=(lL hR);have hc:=(DW hR).gen i hi;have hf:wY s.S x i:=⟨hi,by unfold sL;omega,by omega,by omega,.inl h1⟩;refine⟨i,hi,h1,h2,hf,by rw[h2];exact Gp hi (by omega),?_⟩;obtain⟨_,e⟩:=Ff hf;unfold w9;rw[e,za (by omega)];rfl
theorem Nz{s:b6}{x:Int}{i:Nat}(hf:wY s.S x i)(h1:∀hi:i<s.S.b7.length,s.S.b7[i].State=1):x∈bt 0 s.S.b7:=by
 obtain⟨hi,q1,q2,q3,_⟩:=hf;refine pA.2 ⟨i,hi,h1 hi,?_⟩;unfold sL at q1;rw[zab];omega
theorem Ed{s:b6}(hR:ve (sO s)){x y:Int}(hx:x∈bt 0 s.S.b7)(hy:y∈bt 0 s.S.b7)(e:sk s.S.b7 x=sk s.S.b7 y):x=y:=by
 obtain⟨i,hi,a1,a2,_,a4,_⟩:=ma hR hx;obtain⟨j,hj,b1,b2,_,b4,_⟩:=ma hR hy;have:=(Pp hR) hi hj (.inl a1) (.inl b1) (by rw[<-a4,<-b4];exact e);subst this;rw[a2,b2]
theorem nw:∀(k:Nat) (cs:List c8),k+cs.length<=32->(bt k cs).Nodup
 | _,[],_=>zb3
 | k,c::r,h=>by
  simp only[zH] at h;unfold bt;rw[zbs];refine⟨by split <;> simp,nw (k+1) r (by omega),λa ha b hb e=>?_⟩;split at ha
  .simp only[zp] at ha;subst ha;subst e;obtain⟨i,hi,h1,h2⟩:=pA.1 hb;have:((1+(k:Int)+32*c.Gen)-1) % 32=((1+((k+1+i:Nat):Int)+32*r[i].Gen)-1) % 32:=by rw[h2]
   omega
  .cases ha
theorem JB{s:b6}(hR:ve (sO s)):∃l,G0 s=some l/\l.Perm (bt 0 s.S.b7)/\l.Pairwise (λa b=>sk s.S.b7 a<sk s.S.b7 b):=by
 obtain⟨l,h1,h2,h3⟩:=Cc (DW hR);refine⟨l,h1,h2,?_⟩;have hn:l.Nodup:=h2.nodup_iff.2 (nw 0 _ (by have:=(lL hR);omega));have:=List.Pairwise.and h3 hn;refine this.imp_of_mem λ{a b} ha hb ⟨q1,q2⟩=>?_;rcases Int.lt_or_eq_of_le q1 with q | q
 .exact q
 .exact absurd (Ed hR (h2.mem_iff.1 ha) (h2.mem_iff.1 hb) q) q2
theorem tO:∀(k:Nat) (cs:List c8) (i:Nat) (c:c8) (hi:i<cs.length),cs[i].State≠1->c.State=1->(bt k (cs.set i c)).Perm ((1+((k+i:Nat):Int)+32*c.Gen)::bt k cs)
 | _,[],i,_,hi,_,_=>by simp at hi
 | k,d::r,0,c,hi,h1,h2=>by
  simp only[List.getElem_cons_zero] at h1;simp only[List.set_cons_zero,bt,zb h2,za h1,zcj,zbg];exact List.Perm.refl _
 | k,d::r,i+1,c,hi,h1,h2=>by
  simp only[List.getElem_cons_succ] at h1;simp only[List.set_cons_succ,bt];have:=tO (k+1) r i c (by simpa using hi) h1 h2;rw[show k+1+i=k+(i+1) by omega] at this;exact (List.Perm.append_left _ this).trans List.perm_middle
theorem WH{cs:List c8}{i:Nat}{c:c8}{x:Int}(h:((x-1) % 32).toNat≠i):sk (cs.set i c) x=sk cs x:=by
 unfold sk;rw[List.getElem?_set_ne (by omega)]
theorem HA{s:b6}(hR:ve (sO s)){i:Nat}(hi:i<s.S.b7.length)(h0:s.S.b7[i].State=0)(o:n0)(ho:o.Serial=s.Serial+1){l:List Int}(hl:G0 s=some l) :
  G0 ⟨⟨s.S.b7.set i ⟨1,s.S.b7[i].Gen,o⟩,s.S.Last⟩,s.Serial+1⟩=some (l ++ [1+(i:Int)+32*s.S.b7[i].Gen]):=by
 obtain⟨l',e,l1,l2⟩:=JB hR;rw[hl] at e;cases e;have hlen:=lL hR;have hsl:Za (s.S.b7.set i ⟨1,s.S.b7[i].Gen,o⟩):=⟨by simpa using hlen,λj hj=>by
  rw[zcq];have:=(DW hR).gen;split;·exact this i hi
  .exact this j (by simpa using hj)⟩
 obtain⟨m,m1,m2,m3⟩:=Cc (s:=⟨⟨s.S.b7.set i ⟨1,s.S.b7[i].Gen,o⟩,s.S.Last⟩,s.Serial+1⟩) hsl;have hp:=tO 0 s.S.b7 i ⟨1,s.S.b7[i].Gen,o⟩ hi (by omega) rfl;rw[zab] at hp;have hold:∀x∈l,sk (s.S.b7.set i ⟨1,s.S.b7[i].Gen,o⟩) x=sk s.S.b7 x/\sk s.S.b7 x<=s.Serial:=λx hx=>by
  obtain⟨j,hj,a1,a2,a3,a4,_⟩:=ma hR (l1.mem_iff.1 hx);refine⟨WH ?_,?_⟩
  .obtain⟨_,_,q,_⟩:=a3;intro e;have:j=i:=by omega
   subst this;omega
  .rw[a4];exact (Pq hR j hj (.inl a1)).2.1
 have hnew:sk (s.S.b7.set i ⟨1,s.S.b7[i].Gen,o⟩) (1+(i:Int)+32*s.S.b7[i].Gen)=s.Serial+1:=by
  rw[Gp (by simpa using hi) (by simp;omega)];simp[ho]
 rw[m1];congr 1;refine oc (key:=sk (s.S.b7.set i ⟨1,s.S.b7[i].Gen,o⟩)) ?_ m3 ?_ ?_
 .refine m2.trans (hp.trans ?_);refine List.Perm.trans (List.Perm.cons _ l1.symm) ?_;exact (List.perm_append_singleton _ _).symm
 .rw[zat];refine⟨l2.imp_of_mem λ{a b} ha hb hab=>?_,by simp,λa ha b hb=>?_⟩;·rw[(hold a ha).1,(hold b hb).1];omega
  .rw[zp] at hb;subst hb;rw[hnew,(hold a ha).1];have:=(hold a ha).2;omega
 .have hm:∀a∈m,a∈l\/a=1+(i:Int)+32*s.S.b7[i].Gen:=λa ha=>by
   have:=hp.mem_iff.1 (m2.mem_iff.1 ha);rcases zM.1 this with q | q
   .exact .inr q
   .exact .inl (l1.mem_iff.2 q)
  intro a ha b hb hab;rcases hm a ha with qa | rfl <;> rcases hm b hb with qb | rfl
  .rw[(hold a qa).1,(hold b qb).1] at hab;exact Ed hR (l1.mem_iff.1 qa) (l1.mem_iff.1 qb) hab
  .rw[(hold a qa).1,hnew] at hab;have:=(hold a qa).2;omega
  .rw[(hold b qb).1,hnew] at hab;have:=(hold b qb).2;omega
  .rfl
theorem Yf(n last:Int):∃a,jH n last=some a/\DM n last=some (sO a)/\ve (sO a)/\a.S.b7.length<=24/\∀i (h:i<a.S.b7.length),a.S.b7[i].Val.Fields.length<=4:=by
 unfold jH DM aL JZ;by_cases h:0<=n/\n<=24/\0<=last/\last<=9
 .obtain⟨h1,h2,h3,h4⟩:=h;obtain⟨k,rfl⟩:∃k:Nat,n=k:=⟨n.toNat,by omega⟩;rw[za (by simp;omega),za (by simp;omega),lf (by omega) (by omega),lf (by omega) (by omega)];simp only[a0d,List.length_replicate];rw[lf (by omega) (by omega)];refine⟨_,rfl,?_,?_,by simp;omega,λi h=>by simp⟩;·simp[sO,cO,oo]
  .refine⟨by simp[sO];omega,h3,h4,by simp[sO],λi h=>?_,λi h=>?_,λi h q=>?_,λi h k hk q=>?_⟩;·simp[sO,cO];omega
   .simp[sO,cO,oo,KA]
   .exfalso;simp[sO,cO,oo,PY] at q
   .exfalso;simp[sO,cO,oo,PY] at q
 .rw[zb (by simp;omega),zb (by simp;omega)];simp only[a0d,zah];rw[show mk 80 ((0:Nat):Int) (⟨0,0,⟨0,0,0,0,false,[]⟩⟩:y7)=some [] from rfl];refine⟨_,rfl,rfl,⟨by simp[sO],by simp[sO],by simp[sO],by simp[sO],?_,?_,?_,?_⟩,by simp,λi h=>by simp at h⟩ <;> (intro i h;simp[sO] at h)
noncomputable def lv(s:b6):List Int:=(G0 s).getD []
def ob(s:b6)(h:Int):n0:=((w9 s h).getD (z0,0)).1
def outs(s:b6)(h:Int):List Int:=nz (ob s h).Fields
def FB(s:b6):Prop:=∀c∈s.S.b7,∀x∈c.Val.Fields,x<=9223372036854775807
section
variable{s:b6}(hR:ve (sO s))
include hR
theorem kY:G0 s=some (lv s)/\(lv s).Perm (bt 0 s.S.b7)/\(lv s).Pairwise (λa b=>sk s.S.b7 a<sk s.S.b7 b):=by
 obtain⟨l,h1,h2,h3⟩:=JB hR;have:lv s=l:=by unfold lv;rw[h1];rfl
 rw[this];exact⟨h1,h2,h3⟩
theorem gK:G0 s=some (lv s):=(kY hR).1
theorem vz{h:Int}:h∈lv s↔h∈bt 0 s.S.b7:=(kY hR).2.1.mem_iff
theorem L4:(lv s).length<=24:=by
 rw[(kY hR).2.1.length_eq];exact zP (mb 0 s.S.b7) (lL hR)
theorem tX:(lv s).Nodup:=(kY hR).2.1.nodup_iff.2 (nw 0 _ (by have:=(lL hR);omega))
theorem sf{h:Int}(hh:h∈lv s):w9 s h=some (ob s h,0):=by
 obtain⟨i,hi,_,_,_,_,e⟩:=ma hR ((vz hR).1 hh);unfold ob;rw[e];rfl
theorem Dr{h:Int}(hh:h∈lv s):∃i,∃hi:i<s.S.b7.length,s.S.b7[i].State=1/\h=1+(i:Int)+32*s.S.b7[i].Gen/\wY s.S h i/\ob s h=s.S.b7[i].Val:=by
 obtain⟨i,hi,h1,h2,h3,_,e⟩:=ma hR ((vz hR).1 hh);refine⟨i,hi,h1,h2,h3,?_⟩;unfold ob;rw[e];rfl
theorem pG{h:Int}(hh:h∈lv s):1<=h/\h<=320:=by
 obtain⟨i,hi,_,_,hf,_⟩:=Dr hR hh;exact yL hf.2.1
theorem TT{h:Int}(hh:h<=9223372036854775807)(hn:h∉lv s):∃e,e≠0/\w9 s h=some (z0,e):=by
 rcases jh s.S hh with ⟨i,hf,_⟩ | ⟨hf,_⟩
 .obtain⟨hi,e⟩:=Ff hf;unfold w9;rw[e];by_cases h2:s.S.b7[i].State=2
  .rw[zb h2];exact⟨3,by decide,rfl⟩
  .exact absurd ((vz hR).2 (Nz hf λ_=>hf.2.2.2.2.resolve_right h2)) hn
 .unfold w9;rw[yJ hh hf];exact⟨_,pk h,rfl⟩
theorem wB{h:Int}(hh:h<=9223372036854775807)(hn:h∉lv s):ob s h=z0:=by
 obtain⟨e,_,h1⟩:=TT hR hh hn;unfold ob;rw[h1];rfl
theorem iJ{h:Int}(hh:h<=9223372036854775807):∃e,w9 s h=some (ob s h,e)/\(e=0↔h∈lv s):=by
 by_cases q:h∈lv s
 .exact⟨0,sf hR q,by simp[q]⟩
 .obtain⟨e,h0,h1⟩:=TT hR hh q;refine⟨e,?_,by simp[h0,q]⟩;rw[h1,wB hR hh q]
theorem Sr{h:Int}(hh:h<=9223372036854775807)(hn:h∉lv s):outs s h = []:=by
 unfold outs;rw[wB hR hh hn];rfl
theorem JN(h:Int)(hh:h<=9223372036854775807):(ob s h).Fields.length<=4:=by
 by_cases q:h∈lv s
 .obtain⟨i,hi,h1,_,_,e⟩:=Dr hR q;rw[e];exact (Pq hR i hi (.inl h1)).2.2.2.2.2.2
 .rw[wB hR hh q];exact zW _
theorem Ah(h:Int)(hh:h<=9223372036854775807):(outs s h).length<=4:=zP (Oy _) (JN hR h hh)
theorem Sp(hF:FB s){h x:Int}(hh:h<=9223372036854775807)(hx:x∈outs s h):x<=9223372036854775807:=by
 by_cases q:h∈lv s
 .obtain⟨i,hi,h1,_,_,e⟩:=Dr hR q;unfold outs at hx;rw[e] at hx;exact hF _ (zh hi) x (gp.1 hx).1
 .rw[Sr hR hh q] at hx;cases hx
end
theorem Ss{s:b6}{h x:Int}(hx:x∈outs s h):x≠0:=(gp.1 hx).2
theorem XE(s:b6)(hl:s.S.b7.length<=1000){h:Int}(hh:h<=9223372036854775807):xJ (sO s) h=(w9 s h).map λp=>(oo p.1,p.2):=by
 unfold xJ w9 F1 DK;rw[JV _ (by rw[bY];exact hl),a0d,Nu s hh];rcases jh s.S hh with ⟨i,hf,e⟩ | ⟨hf,e⟩
 .rw[e];have hi:=hf.1;simp only[a0d,zb8,zA,un];rw[Ua (by rw[bY];exact hi),r9 hi];simp only[a0d,Sy,sO,t6,cO];split;·rfl
  .simp only[a0d,zb8,zA,un];rw[r9 (by simpa using hi)];simp[cO,oo]
 .rw[e];simp only[a0d];have hne:((if h=0 then 2 else 3:Int) != 0)=true:=by simpa using pk h
  simp only[hne,zY,a0d];rfl
theorem PC{s:b6}(hR:ve (sO s)){l:List Int}(hl:∀x∈l,x∈lv s)(hn:l.length<=100) :
  ∃m,ke (sO s) l=some m/\m.Perm l/\m.Pairwise (λa b=>sk s.S.b7 a<=sk s.S.b7 b):=by
 have hfind:∀x∈l,∃i:Nat,∃hi:i<s.S.b7.length,bV (pl (sO s)) x=some ((i:Int),0)/\s.S.b7[i].Val.Serial=sk s.S.b7 x:=λx hx=>by
  obtain⟨i,hi,_,_,hf,h4,_⟩:=ma hR ((vz hR).1 (hl x hx));refine⟨i,hi,?_,h4.symm⟩;rw[Nu s (by have:=yL hf.2.1;omega),qt hf]
 unfold ke;rw[cq (by omega) (by omega),a0d];simp only[jn];let K:List Int->Nat->Int:=λo a=>sk s.S.b7 (o.getD a 0)
 have hplain:=JV (sO s) (by rw[bY];have:=lL hR;omega);have inner:∀(n:Nat) (o:List Int),n<l.length->o.Perm l->(∀a b,a<b->b<=n->b≠n->K o a<=K o b) ->
   ∃o',lp (S:=Int × (List Int)) (E:=(List Int)) (λ((s58,s59):Int × (List Int))=>
      if (decide (s58 > 0)) then
       (gr (sO s)).bind λv62=>
       (ix s59 (u4 (s58-1))).bind λv63=>
       (bV v62 v63).bind λv64=>
       (ix s59 s58).bind λv65=>
       (bV v62 v65).bind λv66=>
       (B9 (((decide (v64.1<0))||(decide (v66.1<0)))==false) (⟨0,0,⟨0,0,0,0,false,[]⟩⟩:y7) (ix (sO s).b7 v64.1)).bind λv67=>
       (B9 (((decide (v64.1<0))||(decide (v66.1<0)))==false) (⟨0,0,⟨0,0,0,0,false,[]⟩⟩:y7) (ix (sO s).b7 v66.1)).bind λv68=>
       if (((decide (v64.1<0))||(decide (v66.1<0)))||(decide (v67.Val.Serial<=v68.Val.Serial))) then
        some (.inr s59)
       else
       (ix (s59.set (s58).toNat v63) (u4 (s58-1))).bind λv69=>
       some (.inl (u4 (s58-1),((s59.set (s58).toNat v63).set (u4 (s58-1)).toNat v65)))
      else
      some (.inr s59)) ((n:Int),o)=some o'/\o'.Perm l/\∀a b,a<b->b<=n->K o' a<=K o' b:=by
  intro n o hn' hp hk;have hbn:(n:Int).toNat<4611686018427387904:=by rw[zN];omega
  refine pF (s0:=((n:Int),o)) (λq=>∃k:Nat,q.1=(k:Int)/\k<=n/\q.2.Perm l/\∀a b,a<b->b<=n->b≠k->K q.2 a<=K q.2 b) (λo'=>o'.Perm l/\∀a b,a<b->b<=n->K o' a<=K o' b) (λq=>q.1.toNat) ⟨n,rfl,zF _,hp,hk⟩ hbn ?_;rintro⟨_,o⟩ ⟨k,rfl,hkn,hp,hk⟩;simp only at hp hk |-;have hol:o.length=l.length:=hp.length_eq;rcases zaa k with rfl | hpos
  .right;refine⟨o,by rw[za (by simp)],hp,λa b h1 h2=>hk a b h1 h2 (by omega)⟩
  .obtain⟨j,rfl⟩:∃j,k=j+1:=⟨k-1,by omega⟩;have hj1:j+1<o.length:=by omega
   have hj:j<o.length:=by omega
   have ew:u4 (((j+1:Nat):Int)-1)=(j:Int):=by rw[O1 (by omega) (by omega)];omega
   obtain⟨ia,hia,fa,ka⟩:=hfind o[j] (hp.mem_iff.1 (zh hj));obtain⟨ib,hib,fb,kb⟩:=hfind o[j+1] (hp.mem_iff.1 (zh hj1));have ea:ix (sO s).b7 (ia:Int)=some (cO s.S.b7[ia]):=by rw[Pt,r9 hia];rfl
   have eb:ix (sO s).b7 (ib:Int)=some (cO s.S.b7[ib]):=by rw[Pt,r9 hib];rfl
   have hneg:((decide ((ia:Int)<0))||(decide ((ib:Int)<0)))=false:=by simp
   have hpos':decide (((j+1:Nat):Int) > 0)=true:=by simp
   simp only[hpos',zY,hplain,ew,r9 hj,r9 hj1,a0d,fa,fb,hneg,q9,iu,ea,eb,zb0,cO,oo,ka,kb,zN];have Kj:K o j=sk s.S.b7 o[j]:=by simp[K,List.getD,zc hj]
   have Kj1:K o (j+1)=sk s.S.b7 o[j+1]:=by simp[K,List.getD,zc hj1]
   by_cases hle:sk s.S.b7 o[j]<=sk s.S.b7 o[j+1]
   .right;refine⟨o,by rw[zb (by simpa using hle)],hp,λa b h1 h2=>?_⟩;by_cases e:b=j+1
    .subst e;rcases zD a j with q | q
     .have:=hk a j q (by omega) (by omega);omega
     .have:a=j:=by omega
      subst this;omega
    .exact hk a b h1 h2 e
   .left;refine⟨_,by rw[za (by simpa using hle),r9 (by simpa using hj)];rfl,⟨j,rfl,by omega,?_,λa b h1 h2 h3=>?_⟩,by show (j:Int).toNat<((j+1:Nat):Int).toNat;omega⟩;·exact (List.set_set_perm hj1 hj).trans hp
    .have hK:∀c,K ((o.set (j+1) o[j]).set j o[j+1]) c=if c=j then K o (j+1) else if c=j+1 then K o j else K o c:=λc=>by
      simp only[K,List.getD,List.getElem?_set,zal];by_cases c1:c=j
      .subst c1;simp[hj,zc hj1]
      .by_cases c2:c=j+1
       .subst c2;simp[hj1,zc hj]
       .rw[za (by omega),za (by omega),za c1,za c2]
     show K ((o.set (j+1) o[j]).set ((j:Nat):Int).toNat o[j+1]) a<=K ((o.set (j+1) o[j]).set ((j:Nat):Int).toNat o[j+1]) b;rw[zN,hK,hK];by_cases a1:a=j
     .subst a1;rw[zb rfl];by_cases b2:b=a+1
      .subst b2;rw[za (by omega),zb rfl];omega
      .rw[za (by omega),za b2];exact hk (a+1) b (by omega) h2 b2
     .rw[za a1];by_cases a2:a=j+1
      .subst a2;rw[zb rfl,za (by omega),za (by omega)];exact hk j b (by omega) h2 (by omega)
      .rw[za a2,za h3];by_cases b2:b=j+1
       .subst b2;rw[zb rfl];exact hk a j (by omega) (by omega) (by omega)
       .rw[za b2];exact hk a b h1 h2 b2
 have outer:∃m,(lp (S:=Int × (List Int)) (E:=(List Int)) (λ((s38,s39):Int × (List Int))=>
   if (decide (s38<(s39.length:Int))) then
     (lp (S:=Int × (List Int)) (E:=(List Int)) (λ((s58,s59):Int × (List Int))=>
      if (decide (s58 > 0)) then
       (gr (sO s)).bind λv62=>
       (ix s59 (u4 (s58-1))).bind λv63=>
       (bV v62 v63).bind λv64=>
       (ix s59 s58).bind λv65=>
       (bV v62 v65).bind λv66=>
       (B9 (((decide (v64.1<0))||(decide (v66.1<0)))==false) (⟨0,0,⟨0,0,0,0,false,[]⟩⟩:y7) (ix (sO s).b7 v64.1)).bind λv67=>
       (B9 (((decide (v64.1<0))||(decide (v66.1<0)))==false) (⟨0,0,⟨0,0,0,0,false,[]⟩⟩:y7) (ix (sO s).b7 v66.1)).bind λv68=>
       if (((decide (v64.1<0))||(decide (v66.1<0)))||(decide (v67.Val.Serial<=v68.Val.Serial))) then
        some (.inr s59)
       else
       (ix (s59.set (s58).toNat v63) (u4 (s58-1))).bind λv69=>
       some (.inl (u4 (s58-1),((s59.set (s58).toNat v63).set (u4 (s58-1)).toNat v65)))
      else
      some (.inr s59)) (s38,s39)).bind λe57=>
     some (.inl (u4 (s38+1),e57))
   else
   some (.inr s39)) (1,l))=some m/\m.Perm l/\m.Pairwise (λa b=>sk s.S.b7 a<=sk s.S.b7 b):=by
  have hb1:l.length+1-(1:Int).toNat<4611686018427387904:=by omega
  refine pF (s0:=((1:Int),l)) (λq=>∃k:Nat,q.1=(k:Int)/\(k<=l.length\/k=1)/\1<=k/\q.2.Perm l/\∀a b,a<b->b<k->K q.2 a<=K q.2 b) (λ(o':List Int)=>o'.Perm l/\o'.Pairwise (λa b=>sk s.S.b7 a<=sk s.S.b7 b)) (λq=>l.length+1-q.1.toNat) ⟨1,rfl,.inr rfl,by omega,List.Perm.refl _,λa b h1 h2=>by omega⟩ hb1 ?_;rintro⟨_,o⟩ ⟨k,rfl,hkl,hk1,hp,hk⟩;simp only at hp hk |-;have hol:o.length=l.length:=hp.length_eq;rcases zD k l.length with h1 | h1
  .left;obtain⟨o',e1,e2,e3⟩:=inner k o h1 hp λa b x1 x2 x3=>hk a b x1 (by omega);refine⟨(((k+1:Nat):Int),o'),?_,⟨k+1,rfl,by omega,by omega,e2,λa b x1 x2=>e3 a b x1 (by omega)⟩,by show l.length+1-((k+1:Nat):Int).toNat<l.length+1-(k:Int).toNat;omega⟩;rw[zb (by simp;omega),e1,a0d,n9 (by omega)]
  .right;refine⟨o,by rw[za (by simp;omega)],hp,?_⟩;rw[zav];intro i j hi hj hij;have:=hk i j hij (by omega);simpa[K,List.getD,zc hi,zc hj] using this
 obtain⟨m,e1,e2,e3⟩:=outer;exact⟨m,by rw[show lp _ _=_ from e1];rfl,e2,e3⟩
theorem Vx{s:b6}(hR:ve (sO s)):uz (sO s)=some (lv s):=by
 have hlen:=lL hR;unfold uz;simp only[jn];have hloop:lp (S:=Int × (List Int)) (E:=(List Int)) (λ((s18,s19):Int × (List Int))=>
   if (decide (s18<((sO s).b7.length:Int))) then
     (ix (sO s).b7 s18).bind λv27=>
     if (v27.State==1) then
      (mD s18 v27.Gen).bind λv28=>
      (app 8 s19 [v28]).bind λv29=>
      some (.inl (u4 (s18+1),v29))
     else
     some (.inl (u4 (s18+1),s19))
   else
   some (.inr s19)) (0,[])=some (bt 0 s.S.b7):=by
  refine oa (gi (T:=List Int) s.S.b7.length (λk l=>l=bt 0 (s.S.b7.take k)) (λe=>e=bt 0 s.S.b7) (by omega) (by simp[bt]) (λk l hk hP=>?_) (λl hP=>?_))
  .subst hP;left;have hc:=(DW hR).gen k hk;have hl:=mb 0 (s.S.b7.take k);have et:s.S.b7.take (k+1)=s.S.b7.take k ++ [s.S.b7[k]]:=by rw[List.take_add_one,zc hk];rfl
   have el:(s.S.b7.take k).length=k:=by simp;omega
   refine⟨_,?_,rfl⟩;simp only[bY,we,hk,ul,zY,Pt,r9 hk,ww,a0d,cO];rw[et,qx,el,zab];by_cases q:s.S.b7[k].State=1
   .rw[zb (by simpa using q),zb q,wD,a0d,zb (by omega),J0 (by omega) (by simp;omega),a0d,n9]
   .rw[za (by simpa using q),za q,n9,zap]
  .subst hP;refine⟨_,by simp only[bY,za6,zbk,zA,un];rfl,by simp⟩
 rw[show lp _ _=_ from hloop,a0d];obtain⟨m,h1,h2,h3⟩:=PC hR (l:=bt 0 s.S.b7) (λx hx=>(vz hR).2 hx) (by have:=mb 0 s.S.b7;omega);rw[h1,a0d];congr 1;obtain⟨_,l2,l3⟩:=kY hR;exact oc (key:=sk s.S.b7) (h2.trans l2.symm) h3 (l3.imp λh=>by omega) λa ha b hb e=>Ed hR (h2.mem_iff.1 ha) (h2.mem_iff.1 hb) e
theorem FJ(v:List Int)(h:v.length<=1000000):jI v=some (nz v):=by
 unfold jI qN;simp only[jn,a0d];rw[V5 v (λb x=>if x != 0 then b ++ [x] else b) id (λk b=>b.length<=k) (by omega) (by simp) (λk hk b hb=>?_) (λb _=>?_)]
 .simp only[a0d,id];rw[foldl_filter];rfl
 .simp only[we,hk,ul,zY,r9 hk,a0d];by_cases q:(v[k] != 0)=true
  .rw[zb (by simpa using q),zb q,J0 (by omega) (by simp;omega),a0d,n9];exact⟨rfl,by simp;omega⟩
  .rw[za (by simpa using q),za q,n9];exact⟨rfl,by omega⟩
 .simp only[za6,zbk,zA,un];rfl
noncomputable def kK(s:b6)(h:Int):Nat:=((lv s).map λx=>T3 (outs s x) h).sum
theorem TS{s:b6}(hR:ve (sO s)){k:Nat}(hk:k<(lv s).length):(lv s)[k]<=9223372036854775807:=by
 have:=pG hR (zh hk);omega
section
variable{s:b6}(hR:ve (sO s))
include hR
theorem OL{h:Int}(hh:h<=9223372036854775807):mH s h=some (outs s h):=by
 obtain⟨e,h1,_⟩:=iJ hR hh;unfold mH;rw[h1,a0d,FJ _ (by have:=JN hR h hh;simp only;omega)];rfl
theorem NP(h:Int):kK s h<=96:=by
 have:=Ij (λx=>T3 (outs s x) h) 4 (lv s) λx hx=>zP (Ik _ _) (Ah hR x (by have:=pG hR hx;omega));have:=L4 hR;unfold kK;omega
theorem XK(h:Int):xK s h=some (kK s h:Int):=by
 unfold xK nO;simp only[jn,a0d];rw[show G0 s=_ from gK hR,a0d];have hl:=L4 hR;rw[V5 (lv s) (λ(b:Int) x=>b+(T3 (outs s x) h:Int)) id (λk b=>0<=b/\b<=4*k) (by omega) (by simp) (λk hk b hb=>?_) (λb _=>?_)]
 .simp only[a0d,id];have:=yC (λx=>T3 (outs s x) h) (lv s) 0;rw[show ((0:Nat):Int)=0 from rfl] at this;rw[this,zab];rfl
 .have ho:=OL hR (TS hR hk);have hol:=Ah hR _ (TS hR hk);have ht:=Ik (outs s (lv s)[k]) h;simp only[we,hk,ul,zY,r9 hk,a0d,ho];rw[V5 (outs s (lv s)[k]) (λ(b:Int) x=>if (x==h&&h != 0) then b+1 else b) id (λj c=>b<=c/\c<=b+j) (by omega) (by simp) (λj hj c hc=>?_) (λc _=>?_)]
  .simp only[a0d,id];rw[Fa,n9];exact⟨rfl,by omega⟩
  .simp only[we,hj,ul,zY,r9 hj,a0d];have hne:=Ss (zh hj);by_cases q:(outs s (lv s)[k])[j]=h
   .have e2:((outs s (lv s)[k])[j]==h&&h != 0)=true:=by simp only[zy,pu,bne_iff_ne];omega
    rw[e2,zb (by simpa using q),zb rfl,n9,O1 (n:=c+1) (by omega) (by omega)];exact⟨rfl,by omega⟩
   .have e2:((outs s (lv s)[k])[j]==h&&h != 0)=false:=by rw[zbl];simp only[ne_eq,zy,pu,bne_iff_ne];omega
    rw[e2,za (by simpa using q),n9];exact⟨rfl,by simp;omega⟩
  .simp only[za6,zbk,zA,un];rfl
 .simp only[za6,zbk,zA,un];rfl
end
section
variable{s:b6}(hR:ve (sO s))(hF:FB s)
include hR hF
end
theorem tz{α:Type}(p:α->Bool):∀l:List α,l.length=(l.filter p).length+(l.filter λx => !p x).length
 | []=>rfl
 | x::l=>by
  have:=tz p l;by_cases h:p x
  .simp[h];omega
  .simp[h];omega
theorem XT{s:b6}(hR:ve (sO s)){l:List Int}(hp:l.Perm (bt 0 s.S.b7))(hs:l.Pairwise (λa b=>sk s.S.b7 a<sk s.S.b7 b)):lv s=l:=by
 obtain⟨_,l2,l3⟩:=kY hR;exact oc (key:=sk s.S.b7) (l2.trans hp.symm) (l3.imp λh=>by omega) (hs.imp λh=>by omega) λa ha b hb e=>Ed hR (l2.mem_iff.1 ha) (l2.mem_iff.1 hb) e
inductive sP (s:b6) (l:List Int):Int->Prop
 | base {h:Int}:h∈l->h∈lv s->sP s l h
 | step {a b:Int}:sP s l a->b∈outs s a->b∈lv s->sP s l b
open Classical in
noncomputable def HW (s:b6) (l:List Int):List Int:=(lv s).filter λh=>decide (sP s l h)
open Classical in
noncomputable def lst (s:b6) (l:List Int):List Int:=(lv s).filter λh=>decide (¬sP s l h)
def Cl(s:b6)(l:List Int):Prop:=∀a∈l,∀b∈outs s a,b∈lv s->b∈l
def LB(l:List Int):Prop:=∀x∈l,x<=9223372036854775807
theorem sP.live{s:b6}{l:List Int}{h:Int}(q:sP s l h):h∈lv s:=by cases q <;> assumption
open Classical in
theorem fF {s:b6} {l:List Int} {h:Int}:h∈HW s l↔sP s l h:=by
 unfold HW;rw[zj];exact⟨λq=>zbj q.2,λq=>⟨q.live,zB q⟩⟩
theorem SI{s:b6}(hR:ve (sO s))(l:List Int):(HW s l).length<=24:=zP (zE ..) (L4 hR)
theorem Wq(s:b6)(l:List Int):Cl s (HW s l):=λa ha b hb hl=>fF.2 (.step (fF.1 ha) hb hl)
theorem sP.least{s:b6}{l m:List Int}(hc:Cl s m)(hl:∀x∈l,x∈lv s->x∈m){h:Int}(q:sP s l h):h∈m:=by
 induction q with
 | base h1 h2=>exact hl _ h1 h2
 | step _ h1 h2 ih=>exact hc _ ih _ h1 h2
theorem sP.mono{s:b6}{l m:List Int}(hl:∀x∈l,x∈lv s->sP s m x){h:Int}(q:sP s l h):sP s m h:=by
 induction q with
 | base h1 h2=>exact hl _ h1 h2
 | step _ h1 h2 ih=>exact .step ih h1 h2
theorem LM{s:b6}{l m:List Int}(h:∀x,sP s l x↔sP s m x):HW s l=HW s m:=by
 unfold HW;exact pm λx _=>zbc.2 (h x)
theorem filter_lt{α:Type}{p q:α->Bool}:∀ {l:List α},(∀x∈l,p x=true->q x=true)->∀x∈l,q x=true->p x=false->(l.filter p).length<(l.filter q).length
 | [],_,x,hx,_,_=>by cases hx
 | y::l,h,x,hx,h1,h2=>by
  have hle:(l.filter p).length<=(l.filter q).length:=by
   have h':∀x∈l,p x=true->q x=true:=λx hx=>h x (zn _ hx);clear h hx;induction l with
   | nil=>simp
   | cons z l ih=>
    have:=ih λx hx=>h' x (zn _ hx);have hz:=h' z (zg ..);simp only[or];by_cases a:p z=true
    .rw[zb a,zb (hz a)];simp only[zH];omega
    .rw[za a];split <;> (try simp only[zH]) <;> omega
  rcases zM.1 hx with rfl | hx'
  .simp only[or,h1,h2,zY,zA,un,zH];omega
  .have:=filter_lt (λx hx=>h x (zn _ hx)) x hx' h1 h2;have hy:=h y (zg ..);simp only[or];by_cases a:p y=true
   .rw[zb a,zb (hy a)];simp only[zH];omega
   .rw[za a];split <;> (try simp only[zH]) <;> omega
theorem ab{l m:List Int}(hn:l.Nodup)(h:∀x∈l,x∈m):l.length<=m.length:=by
 induction l generalizing m with
 | nil=>simp
 | cons x l ih=>
  rw[me] at hn;have hx:=h x (zg ..);have:=ih (m:=m.erase x) hn.2 λy hy=>(List.mem_erase_of_ne (λe=>hn.1 (by subst e;exact hy))).2 (h y (zn _ hy));rw[List.length_erase_of_mem hx] at this;have:0<m.length:=List.length_pos_of_mem hx;simp only[zH];omega
section
variable{s:b6}(hR:ve (sO s))
include hR
theorem Lq{h:Int}(hh:h<=9223372036854775807):cK s h=some (decide (h∈lv s)):=by
 obtain⟨e,h1,h2⟩:=iJ hR hh;unfold cK;rw[h1,a0d];congr 1;rw[za8,pu,zG];exact h2
abbrev Mk(m:List (Int × Bool))(x:Int):Prop:=(A1 m x).getD false=true
noncomputable def Ku(s:b6)(m:List (Int × Bool)):Nat:=((lv s).filter λx => !(A1 m x).getD false).length
omit hR in
theorem dQ (m:List (Int × Bool)) (x y:Int):Mk (p6 m x true) y↔y=x\/Mk m y:=by
 unfold Mk;rw[qz];by_cases q:y=x
 .simp[q]
 .simp[q]
omit hR in
theorem Tl {m:List (Int × Bool)} {x:Int} (hx:x∈lv s) (hm:¬Mk m x):Ku s (p6 m x true)<Ku s m:=by
 unfold Ku;refine filter_lt (λy _ h=>?_) x hx (by simpa[Mk] using hm) ?_
 .by_cases q:Mk m y
  .have:=(dQ m x y).2 (.inr q);unfold Mk at this;rw[this] at h;cases h
  .simpa[Mk] using q
 .have:=(dQ m x x).2 (.inl rfl);unfold Mk at this;rw[this];rfl
structure GN (s:b6) (l:List Int) (q:c9) (m:List (Int × Bool)):Prop where
 nd:q.L.Nodup
 cap:q.Cap=((lv s).length:Int)
 iN:∀x∈q.L,Mk m x
 rc:∀x,Mk m x->sP s l x
omit hR in
theorem GN.room {l:List Int} {q:c9} {m:List (Int × Bool)} (h:GN s l q m) {x:Int} (hx:x∈lv s) (hm:¬Mk m x):q.L.length<(lv s).length:=by
 have:(x::q.L).length<=(lv s).length:=ab (me.2 ⟨λk=>hm (h.iN x k),h.nd⟩) λy hy=>by
  rcases zM.1 hy with rfl | k
  .exact hx
  .exact (h.rc y (h.iN y k)).live
 simp only[zH] at this;omega
omit hR in
theorem JX {q:c9} {x:Int} (h:(q.L.length:Int)<q.Cap) (h2:q.L.length<=1000):D8 q x=some (⟨q.L ++ [x],q.Cap⟩,0):=by
 unfold D8 H7 U0;rw[a0d,za (by simp;omega)];have:=vm (xs:=q.L) (i:=0) (j:=q.L.length) (by omega) (zF _);rw[show ((0:Nat):Int)=0 from rfl] at this;rw[this];simp only[zV,List.drop_zero,a0d];rw[J0 (by omega) (by simp;omega)];rfl
omit hR in
theorem OW {x:Int} {r:List Int} {c:Int} (h2:r.length<=1000):X4 ⟨x::r,c⟩=some (⟨r,c⟩,x,0):=by
 unfold X4 iU H7 U0;simp only[a0d,zH];have e:(if (if (((r.length+1:Nat):Int))<1 then (((r.length+1:Nat):Int)) else 1) > 0 then (if (((r.length+1:Nat):Int))<1 then (((r.length+1:Nat):Int)) else 1) else 0:Int)=((1:Nat):Int):=by
  rw[za (show ¬(((r.length+1:Nat):Int)<1) by omega)];rfl
 rw[e];have h1:=vm (xs:=x::r) (i:=0) (j:=1) (by omega) (by simp);have h3:=vm (xs:=x::r) (i:=1) (j:=r.length+1) (by omega) (by simp);rw[show ((0:Nat):Int)=0 from rfl] at h1;rw[h1,h3];simp only[a0d];have e1:List.drop 0 (List.take 1 (x::r)) = [x]:=by simp
 have e2:List.drop 1 (List.take (r.length+1) (x::r))=r:=by simp
 rw[e1,e2];rfl
abbrev FT(s:b6)(xs:List Int):Int × c9 × (List (Int × Bool))->Option ((Int × c9 × (List (Int × Bool))) ⊕ (c9 × (List (Int × Bool)))):=
 λ(s114,s115,s116)=>
   if (decide (s114<(xs.length:Int))) then
     (ix xs s114).bind λv126=>
     (cK s v126).bind λv127=>
     if (v127==true) then
      if (!((A1 s116 v126).getD (false:Bool))) then
       (D8 s115 v126).bind λv128=>
       some (.inl (u4 (s114+1),v128.1,(p6 s116 v126 true)))
      else
      some (.inl (u4 (s114+1),s115,s116))
     else
     some (.inl (u4 (s114+1),s115,s116))
   else
   some (.inr (s115,s116))
theorem Co{l xs:List Int}{q:c9}{m:List (Int × Bool)}(hxs:LB xs)(hlen:xs.length<=1000000)(h0:GN s l q m)(hr:∀x∈xs,x∈lv s->sP s l x) :
  ∃q' m',lp (FT s xs) (0,q,m)=some (q',m')/\GN s l q' m'/\(∀x,Mk m' x↔Mk m x\/x∈xs/\x∈lv s)/\(∀x,Mk m' x->Mk m x\/x∈q'.L)/\(∀x∈q.L,x∈q'.L)/\2*Ku s m'+q'.L.length<=2*Ku s m+q.L.length:=by
 have:=gi (f:=FT s xs) (t0:=(q,m)) xs.length (λk t=>GN s l t.1 t.2/\(∀x,Mk t.2 x↔Mk m x\/x∈xs.take k/\x∈lv s)/\(∀x,Mk t.2 x->Mk m x\/x∈t.1.L)/\(∀x∈q.L,x∈t.1.L)/\2*Ku s t.2+t.1.L.length<=2*Ku s m+q.L.length)
  (λt=>GN s l t.1 t.2/\(∀x,Mk t.2 x↔Mk m x\/x∈xs/\x∈lv s)/\(∀x,Mk t.2 x->Mk m x\/x∈t.1.L)/\(∀x∈q.L,x∈t.1.L)/\2*Ku s t.2+t.1.L.length<=2*Ku s m+q.L.length) (by omega)
  ⟨h0,λx=>by simp,λx h=>.inl h,λx h=>h,zF _⟩ (λk t hk hP=>?_) (λt hP=>?_)
 .obtain⟨⟨q',m'⟩,h1,h2⟩:=this;exact⟨q',m',h1,h2⟩
 .obtain⟨q1,m1⟩:=t;obtain⟨p1,p2,p3,p4,p5⟩:=hP;simp only at p1 p2 p3 p4 p5;left;have hle:=hxs _ (zh hk);have ht:∀x,x∈xs.take (k+1)↔x∈xs.take k\/x=xs[k]:=λx=>by rw[zx hk,zu,zp]
  simp only[FT,we,hk,ul,zY,r9 hk,a0d,Lq hR hle];by_cases hv:xs[k]∈lv s
  .rw[zb (by simpa using hv)];by_cases hm:Mk m1 xs[k]
   .rw[za (by rw[show (A1 m1 xs[k]).getD false=true from hm];decide),n9];refine⟨(q1,m1),rfl,p1,λx=>?_,p3,p4,p5⟩;rw[p2,ht];constructor
    .rintro (a | ⟨a,b⟩);·exact .inl a
     .exact .inr ⟨.inl a,b⟩
    .rintro (a | ⟨a | rfl,b⟩);·exact .inl a
     .exact .inr ⟨a,b⟩
     .exact (p2 _).1 hm
   .have hm':(A1 m1 xs[k]).getD false=false:=by simpa[Mk] using hm
    have hroom:=p1.room hv hm;have hl24:=L4 hR;rw[zb (by rw[hm'];decide),JX (by rw[p1.cap];omega) (by omega),a0d,n9];refine⟨(⟨q1.L ++ [xs[k]],q1.Cap⟩,p6 m1 xs[k] true),rfl,⟨?_,p1.cap,λx hx=>?_,λx hx=>?_⟩,λx=>?_,λx hx=>?_,λx hx=>?_,?_⟩
    .simp only;rw[zbs];refine⟨p1.nd,by simp,λa ha b hb e=>?_⟩;rw[zp] at hb;subst hb;subst e;exact hm (p1.iN _ ha)
    .simp only[zu,zp] at hx;rw[dQ];rcases hx with a | a
     .exact .inr (p1.iN x a)
     .exact .inl a
    .rcases (dQ m1 xs[k] x).1 hx with rfl | a
     .exact hr _ (zh hk) hv
     .exact p1.rc x a
    .simp only;rw[dQ,p2,ht];constructor
     .rintro (rfl | a | ⟨a,b⟩);·exact .inr ⟨.inr rfl,hv⟩
      .exact .inl a
      .exact .inr ⟨.inl a,b⟩
     .rintro (a | ⟨a | a,b⟩);·exact .inr (.inl a)
      .exact .inr (.inr ⟨a,b⟩)
      .exact .inl a
    .simp only[zu,zp];rcases (dQ m1 xs[k] x).1 hx with a | a
     .exact .inr (.inr a)
     .rcases p3 x a with b | b
      .exact .inl b
      .exact .inr (.inl b)
    .simp only[zu];exact .inl (p4 x hx)
    .have:=Tl hv hm;simp only[zL,List.length_singleton];omega
  .rw[za (by simpa using hv),n9];refine⟨(q1,m1),rfl,p1,λx=>?_,p3,p4,p5⟩;rw[p2,ht];constructor
   .rintro (a | ⟨a,b⟩);·exact .inl a
    .exact .inr ⟨.inl a,b⟩
   .rintro (a | ⟨a | rfl,b⟩);·exact .inl a
    .exact .inr ⟨a,b⟩
    .exact absurd b hv
 .obtain⟨q1,m1⟩:=t;refine⟨(q1,m1),?_,?_⟩;·simp only[FT,za6,zbk,zA,un]
  .simpa using hP
theorem Cv(hF:FB s){l:List Int}(hl:LB l)(hlen:l.length<=1000000):∃m,fG s l=some m/\∀x,Mk m x↔sP s l x:=by
 unfold fG bc;simp only[jn,gK hR,a0d];have h24:=L4 hR;obtain⟨q0,m0,e0,i0,i1,i2,i3,i4⟩:=Co hR (l:=l) (xs:=l) (q:=⟨[],((lv s).length:Int)⟩) (m:=[]) hl hlen ⟨zb3,rfl,(λx hx=>by cases hx),(λx hx=>by simp[Mk,A1] at hx)⟩ (λx h1 h2=>.base h1 h2);rw[show lp _ _=_ from e0,a0d];simp only;have hu:Ku s []<=24:=zP (zE ..) h24;obtain⟨m,h1,h2⟩:=pF (s0:=(q0,m0)) (f:=λ((s70,s71):c9 × (List (Int × Bool)))=>
    (H7 s70).bind λv74=>
    if (decide (v74 > 0)) then
     (X4 s70).bind λv75=>
     (mH s v75.2.1).bind λv76=>
      (lp (FT s v76) (0,v75.1,s71)).bind λe97=>
      (some (.inl (e97.1,e97.2)):Option ((c9 × List (Int × Bool)) ⊕ List (Int × Bool)))
    else
    some (.inr s71)) (λt=>GN s l t.1 t.2/\(∀x∈l,x∈lv s->Mk t.2 x)/\∀a,Mk t.2 a->a∈t.1.L\/∀b∈outs s a,b∈lv s->Mk t.2 b) (λm=>∀x,Mk m x↔sP s l x) (λt=>2*Ku s t.2+t.1.L.length)
   ⟨i0,λx h1 h2=>(i1 x).2 (.inr ⟨h1,h2⟩),λa ha=>.inl ((i2 a ha).resolve_left (by simp[Mk,A1]))⟩ (by show 2*Ku s m0+q0.L.length<_;simp only[zah] at i4;omega) (by
   rintro⟨q,m⟩ ⟨p1,p2,p3⟩;simp only at p1 p2 p3 |-;have hq:=ab p1.nd λx hx=>(p1.rc x (p1.iN x hx)).live;unfold H7;rw[a0d];cases hqL:q.L with
   | nil=>
    right;refine⟨m,by rw[za (by simp)],λx=>⟨p1.rc x,λh=>?_⟩⟩;induction h with
    | base a b=>exact p2 _ a b
    | step _ a b ih=>
     rcases p3 _ ih with c | c
     .rw[hqL] at c;cases c
     .exact c _ a b
   | cons a r=>
    left;have hqe:q=⟨a::r,q.Cap⟩:=by rw[<-hqL]
    have hal:a∈lv s:=(p1.rc a (p1.iN a (by rw[hqL];exact zg ..))).live;have ha:a<=9223372036854775807:=by have:=pG hR hal;omega
    have hnd:=p1.nd;rw[hqL] at hnd hq;simp only[zH] at hq;obtain⟨q',m',e1,j0,j1,j2,j3,j4⟩:=Co hR (l:=l) (xs:=outs s a) (q:=⟨r,q.Cap⟩) (m:=m) (λx hx=>Sp hR hF ha hx) (by have:=Ah hR a ha;omega) ⟨(me.1 hnd).2,p1.cap,λx hx=>p1.iN x (by rw[hqL];exact zn _ hx),p1.rc⟩ (λx h1 h2=>.step (p1.rc a (p1.iN a (by rw[hqL];exact zg ..))) h1 h2);refine⟨(q',m'),?_,⟨j0,λx h1 h2=>(j1 x).2 (.inl (p2 x h1 h2)),λb hb=>?_⟩,?_⟩
    .rw[zb (by simp),hqe,OW (by omega),a0d];simp only;rw[OL hR ha,a0d,e1,a0d]
    .simp only at hb |-;rcases j2 b hb with c | c
     .rcases p3 b c with d | d
      .rw[hqL] at d;rcases zM.1 d with rfl | d
       .exact .inr λy h1 h2=>(j1 y).2 (.inr ⟨h1,h2⟩)
       .exact .inl (j3 b d)
      .exact .inr λy h1 h2=>(j1 y).2 (.inl (d y h1 h2))
     .exact .inl c
    .show 2*Ku s m'+q'.L.length<2*Ku s m+(a::r).length;simp only[zH] at j4 |-;omega)
 refine⟨m,?_,h2⟩;rw[show lp _ _=_ from h1];rfl
end
theorem NO(l:List Int)(x:Int)(hl:l.length<=1000000):∃r:Int,H4 l x=some r/\(0<=r↔x∈l):=by
 unfold H4;simp only[jn];by_cases h:x∈l
 .obtain⟨i,hi,e⟩:=List.mem_iff_getElem.1 h;obtain⟨j,⟨hj,ej⟩,hmin⟩:=dI (p:=λi=>∃hi:i<l.length,l[i]=x) ⟨i,hi,e⟩;refine⟨(j:Int),?_,by simp[h]⟩;refine dO l.length (λk=>k<=j) (by omega) (zW _) (λk hk hP=>?_) (λhP=>by omega);simp only[we,hk,ul,zY,r9 hk,a0d];rcases zD k j with q | q
  .refine .inl ⟨?_,q⟩;rw[za (by
    rw[pu];intro e;have:=hmin k ⟨hk,e.symm⟩;omega),n9]
  .have:k=j:=by omega
   subst this;exact .inr ⟨_,by rw[zb (by simpa using ej.symm)],rfl⟩
 .refine⟨-1,?_,by simp[h]⟩;refine dO l.length (λk=>True) (by omega) trivial (λk hk hP=>.inl ⟨?_,trivial⟩) (λhP=>⟨.inr (),by simp,rfl⟩);simp only[we,hk,ul,zY,r9 hk,a0d];rw[za (by
   rw[pu];intro e;exact h (e▸zh hk)),n9]
theorem contains_eq(l:List Int)(x:Int)(hl:l.length<=1000000):E5 l x=some (decide (x∈l)):=by
 obtain⟨r,h1,h2⟩:=NO l x hl;unfold E5;rw[h1,a0d];congr 1;exact zbc.2 h2
section
variable{s:b6}(hR:ve (sO s))
include hR
open Classical in
theorem Jo (hF:FB s) {l:List Int} (hl:LB l) (hlen:l.length<=1000000):kg s l=some (HW s l):=by
 obtain⟨m,h1,h2⟩:=Cv hR hF hl hlen;unfold kg X5 jo;rw[h1,a0d];simp only[jn,gK hR,a0d];have h24:=L4 hR;rw[V5 (lv s) (λacc x=>if decide (sP s l x) then acc ++ [x] else acc) id (λk acc=>acc.length<=k) (by omega) (by simp) (λk hk acc hb=>?_) (λb _=>?_)]
 .simp only[a0d,id];rw[foldl_filter];rfl
 .simp only[we,hk,ul,zY,r9 hk,a0d];by_cases q:sP s l (lv s)[k]
  .rw[zb ((h2 _).2 q),zb (by simpa using q),J0 (by omega) (by simp;omega),a0d,n9];exact⟨rfl,by simp;omega⟩
  .rw[za (λk=>q ((h2 _).1 k)),za (by simpa using q),n9];exact⟨rfl,by omega⟩
 .simp only[za6,zbk,zA,un];rfl
open Classical in
theorem RO (hF:FB s) {l:List Int} (hl:LB l) (hlen:l.length<=1000000):nN s l=some (lst s l):=by
 obtain⟨m,h1,h2⟩:=Cv hR hF hl hlen;unfold nN X6 jr;rw[h1,a0d];simp only[jn,gK hR,a0d];have h24:=L4 hR;rw[V5 (lv s) (λacc x=>if decide (¬sP s l x) then acc ++ [x] else acc) id (λk acc=>acc.length<=k) (by omega) (by simp) (λk hk acc hb=>?_) (λb _=>?_)]
 .simp only[a0d,id];rw[foldl_filter];rfl
 .simp only[we,hk,ul,zY,r9 hk,a0d];by_cases q:sP s l (lv s)[k]
  .have e:(A1 m (lv s)[k]).getD false=true:=(h2 _).2 q;rw[za (by rw[e];decide),za (by simpa using q),n9];exact⟨rfl,by omega⟩
  .have e:(A1 m (lv s)[k]).getD false=false:=by
    have:¬Mk m (lv s)[k]:=λk=>q ((h2 _).1 k);simpa[Mk] using this
   rw[zb (by rw[e];decide),zb (by simpa using q),J0 (by omega) (by simp;omega),a0d,n9];exact⟨rfl,by simp;omega⟩
 .simp only[za6,zbk,zA,un];rfl
end
abbrev Tb:=List g5
abbrev eX(p:g5):I8:=⟨p.State,p.Key,p.Val⟩
def pt(t:Tb)(j:Nat):g5:=t.getD j ⟨0,0,0⟩
theorem mw{t:Tb}{j:Nat}(h:j<t.length):pt t j=t[j]:=by unfold pt;rw[zd,zc h];rfl
theorem Fo{t:Tb}{j:Nat}(h:j<t.length):ix t (j:Int)=some (pt t j):=by rw[r9 h,mw h]
theorem Ai{t:Tb}{i:Nat}(h:i<t.length)(p:g5)(j:Nat):pt (t.set i p) j=if j=i then p else pt t j:=by
 unfold pt;rw[zd,zd,List.getElem?_set];by_cases e:i=j
 .subst e;simp[h]
 .rw[za e,za (za1 e)]
def hm(n:Nat)(k:Int):Nat:=(u4 ((u4 (5*k))+1) % (n:Int)).toNat
theorem TN{n:Nat}(h:1<=n)(k:Int):hm n k<n:=by
 unfold hm;have h1:=Int.emod_nonneg (u4 ((u4 (5*k))+1)) (show (n:Int)≠0 by omega);have h2:=Int.emod_lt_of_pos (u4 ((u4 (5*k))+1)) (show (0:Int)<n by omega);omega
theorem Ju{n:Nat}(h:1<=n)(h2:n<=1000)(k:Int):ef n k=some (hm n k:Int):=by
 unfold ef hm;rw[za (by simp;omega)];generalize u4 ((u4 (5*k))+1)=a;have hp:=Int.emod_nonneg a (show (n:Int)≠0 by omega);have hl:=Int.emod_lt_of_pos a (show (0:Int)<n by omega);unfold rem;rw[za (by omega),a0d,Int.toNat_of_nonneg hp];rw[Int.tmod_eq_emod];split;·rw[show a % (n:Int)-((0:Nat):Int)=a % n by simp,za (by simp;omega)]
 .have:((n:Int).natAbs:Int)=n:=by simp
  rw[this];rw[zb (by simp;omega),O1 (by omega) (by omega)];congr 1;omega
def pos(n:Nat)(k:Int)(d:Nat):Nat:=(hm n k+d) % n
theorem sz{n:Nat}(h:1<=n)(k:Int)(d:Nat):pos n k d<n:=Nat.mod_lt _ h
theorem Uf{n:Nat}(h:1<=n)(h8:n<=8):n=1\/n=2\/n=3\/n=4\/n=5\/n=6\/n=7\/n=8:=by omega
theorem Ot{n m i:Nat}(h:1<=n)(h8:n<=8)(hm:m<n)(hi:i<n):∃d,d<n/\(m+d) % n=i:=by
 refine⟨(i+n-m) % n,Nat.mod_lt _ h,?_⟩;rcases Uf h h8 with rfl | rfl | rfl | rfl | rfl | rfl | rfl | rfl <;> omega
theorem RX{n m d d':Nat}(h:1<=n)(h8:n<=8)(hd:d<n)(hd':d'<n)(e:(m+d) % n=(m+d') % n):d=d':=by
 rcases Uf h h8 with rfl | rfl | rfl | rfl | rfl | rfl | rfl | rfl <;> omega
theorem FP{n:Nat}(h:1<=n)(h8:n<=8)(k:Int){i:Nat}(hi:i<n):∃d,d<n/\pos n k d=i:=Ot h h8 (TN h k) hi
theorem Sz{n:Nat}(h:1<=n)(h8:n<=8){k:Int}{d d':Nat}(hd:d<n)(hd':d'<n)(e:pos n k d=pos n k d'):d=d':=RX h h8 hd hd' e
structure HR (t:Tb):Prop where
 l1:1<=t.length
 l8:t.length<=8
 st:∀i,i<t.length->((pt t i).State=0\/(pt t i).State=1\/(pt t i).State=2)/\((pt t i).State≠1->(pt t i).Key=0/\(pt t i).Val=0)
 uq:∀i j,i<t.length->j<t.length->(pt t i).State=1->(pt t j).State=1->(pt t i).Key=(pt t j).Key->i=j
 rd:∀i,i<t.length->(pt t i).State=1->∀d,d<t.length->(∀d',d'<=d->pos t.length (pt t i).Key d'≠i)->(pt t (pos t.length (pt t i).Key d)).State≠0
def Fk(t:Tb)(k:Int)(i:Nat):Prop:=i<t.length/\(pt t i).State=1/\(pt t i).Key=k
instance(t:Tb)(k:Int)(i:Nat):Decidable (Fk t k i):=by unfold Fk;infer_instance
theorem step_eq{n:Nat}(h:1<=n)(h2:n<=1000)(k:Int){d:Nat}(hd:d<n):rem (u4 ((hm n k:Int)+d)) n=some ((pos n k d:Nat):Int):=by
 have:=TN h k;rw[O1 (by omega) (by omega),uC (by omega) (by omega)];unfold pos;simp[Int.natCast_emod]
theorem BT{t:Tb}(h1:1<=t.length)(h8:t.length<=8)(k:Int) :
  (∃d,d<t.length/\(∀j,j<d->(pt t (pos t.length k j)).State≠0/\¬Fk t k (pos t.length k j))/\Fk t k (pos t.length k d)/\aX t k=some ((pos t.length k d:Nat):Int)) \/
  (∃d,d<=t.length/\(∀j,j<d->(pt t (pos t.length k j)).State≠0/\¬Fk t k (pos t.length k j))/\(d=t.length\/(pt t (pos t.length k d)).State=0)/\aX t k=some (-1)):=by
 unfold aX;simp only[jn,jA,a0d];generalize hq:(lp (S:=Int) (E:=Int ⊕ Unit) _ 0)=q;have body:∀d:Nat,d<t.length->(if (decide ((d:Int)<(t.length:Int))) then
    (ef (t.length:Int) k).bind λv14=>
    (rem (u4 (v14+d)) (t.length:Int)).bind λv15=>
    (ix t v15).bind λv16=>
    if (v16.State==0) then
     some (.inr (.inr ()))
    else
    if ((v16.State==1)&&(v16.Key==k)) then
     some (.inr (.inl v15))
    else
    some (.inl (u4 ((d:Int)+1)))
   else
   some (.inr (.inr ())):Option (Int ⊕ (Int ⊕ Unit)))=if (pt t (pos t.length k d)).State=0 then some (.inr (.inr ())) else if Fk t k (pos t.length k d) then some (.inr (.inl ((pos t.length k d:Nat):Int))) else some (.inl ((d+1:Nat):Int)):=λd hd=>by
  have hp:=sz h1 k d;rw[zb (by simpa using hd),Ju h1 (by omega),a0d,step_eq h1 (by omega) k hd,a0d,Fo hp,a0d,n9 (by omega)];by_cases a:(pt t (pos t.length k d)).State=0
  .rw[zb (by simpa using a),zb a]
  .rw[za (by simpa using a),za a];by_cases b:Fk t k (pos t.length k d)
   .rw[zb (by simp[b.2.1,b.2.2]),zb b]
   .rw[za (by simp;exact λh1 h2=>b ⟨hp,h1,h2⟩),za b]
 have key:=Ce (f:=λ(s12:Int)=>if (decide (s12<(t.length:Int))) then
    (ef (t.length:Int) k).bind λv14=>
    (rem (u4 (v14+s12)) (t.length:Int)).bind λv15=>
    (ix t v15).bind λv16=>
    if (v16.State==0) then
     some (.inr (.inr ()))
    else
    if ((v16.State==1)&&(v16.Key==k)) then
     some (.inr (.inl v15))
    else
    some (.inl (u4 (s12+1)))
   else
   some (.inr (.inr ()))) t.length (λd=>∀j,j<d->(pt t (pos t.length k j)).State≠0/\¬Fk t k (pos t.length k j))
   (λ(e:Int ⊕ Unit)=>(∃d,d<t.length/\(∀j,j<d->(pt t (pos t.length k j)).State≠0/\¬Fk t k (pos t.length k j))/\Fk t k (pos t.length k d)/\e = .inl ((pos t.length k d:Nat):Int)) \/
    (∃d,d<=t.length/\(∀j,j<d->(pt t (pos t.length k j)).State≠0/\¬Fk t k (pos t.length k j))/\(d=t.length\/(pt t (pos t.length k d)).State=0)/\e = .inr ())) (by omega) (λj hj=>by omega)
   (λd hd hP=>by
    rw[body d hd];by_cases a:(pt t (pos t.length k d)).State=0
    .rw[zb a];exact .inr ⟨_,rfl,.inr ⟨d,by omega,hP,.inr a,rfl⟩⟩
    .rw[za a];by_cases b:Fk t k (pos t.length k d)
     .rw[zb b];exact .inr ⟨_,rfl,.inl ⟨d,hd,hP,b,rfl⟩⟩
     .rw[za b];refine .inl ⟨rfl,λj hj=>?_⟩;rcases zD j d with q | q
      .exact hP j q
      .have:j=d:=by omega
       subst this;exact⟨a,b⟩)
   (λhP=>⟨.inr (),by simp,.inr ⟨t.length,zF _,hP,.inl rfl,rfl⟩⟩)
 obtain⟨e,he,hQ⟩:=key;rw[he] at hq;subst hq;rcases hQ with ⟨d,a1,a2,a3,rfl⟩ | ⟨d,a1,a2,a3,rfl⟩;·exact .inl ⟨d,a1,a2,a3,rfl⟩
 .exact .inr ⟨d,a1,a2,a3,rfl⟩
theorem tB{t:Tb}(hR:HR t){k:Int}{i:Nat}(hi:Fk t k i):aX t k=some (i:Int):=by
 obtain⟨di,hdi,hpi⟩:=FP hR.l1 hR.l8 k hi.1;have road:∀d,d<di->(pt t (pos t.length k d)).State≠0:=λd hd=>by
  have:=hR.rd i hi.1 hi.2.1 d (by omega) (λd' hd' e=>by
   rw[hi.2.2] at e;have:=Sz hR.l1 hR.l8 (by omega) hdi (e.trans hpi.symm);omega)
  rwa [hi.2.2] at this
 rcases BT hR.l1 hR.l8 k with ⟨d,a1,a2,a3,a4⟩ | ⟨d,a1,a2,a3,a4⟩;·rw[a4,hR.uq _ i (sz hR.l1 k d) hi.1 a3.2.1 hi.2.1 (by rw[a3.2.2,hi.2.2])]
 .exfalso;rcases zD di d with q | q
  .exact (a2 di q).2 (by rw[hpi];exact hi)
  .rcases a3 with rfl | a3
   .omega
   .rcases zD d di with q' | q'
    .exact road d q' a3
    .have:d=di:=by omega
     subst this;rw[hpi,hi.2.1] at a3;cases a3
theorem tA{t:Tb}(h1:1<=t.length)(h8:t.length<=8){k:Int}(hi:∀i,¬Fk t k i):aX t k=some (-1):=by
 rcases BT h1 h8 k with ⟨d,a1,a2,a3,a4⟩ | ⟨d,a1,a2,a3,a4⟩;·exact absurd a3 (hi _)
 .exact a4
theorem BU(t:Tb)(k:Int):(∃i,Fk t k i)\/∀i,¬Fk t k i:=by
 by_cases h:∃i,Fk t k i
 .exact .inl h
 .exact .inr λi hi=>h ⟨i,hi⟩
theorem AV{t:Tb}{i:Nat}(h8:t.length<=1000)(hi:i<t.length)(p:g5):eh t (i:Int) p=some (t.set i p):=by
 unfold eh F2;rw[cq (by omega) (by omega),a0d,r9 hi,a0d,zN]
inductive xZ (t:Tb) (k v:Int):Tb × Int->Prop
 | old (i:Nat) (hi:Fk t k i):xZ t k v (t.set i ⟨1,k,v⟩,0)
 | new (d:Nat) (hn:∀i,¬Fk t k i) (hd:d<t.length) (hb:∀j,j<d->(pt t (pos t.length k j)).State=1) (hf:(pt t (pos t.length k d)).State≠1):xZ t k v (t.set (pos t.length k d) ⟨1,k,v⟩,0)
 | full (hn:∀i,¬Fk t k i) (ha:∀i,i<t.length->(pt t i).State=1):xZ t k v (t,8)
theorem OZ{t:Tb}(hR:HR t)(k v:Int):∃r,py t k v=some r/\xZ t k v r:=by
 have h1:=hR.l1;have h8:=hR.l8;unfold py;rcases BU t k with ⟨i,hi⟩ | hn
 .rw[tB hR hi,a0d,zb (by simp),AV (by omega) hi.1];exact⟨_,rfl,.old i hi⟩
 .rw[tA h1 h8 hn,a0d,za (by decide)];simp only[jn,jA,a0d];have key:=Ce (f:=λ(s15:Int)=>
   if (decide (s15<(t.length:Int))) then
    (ef (t.length:Int) k).bind λv17=>
    (rem (u4 (v17+s15)) (t.length:Int)).bind λv18=>
    (ix t v18).bind λv19=>
    if (v19.State != 1) then
     (eh t v18 (⟨1,k,v⟩:g5)).bind λv20=>
     some (Sum.inr (.inl (v20,(0:Int))))
    else
    some (.inl (u4 (s15+1)))
   else
   some (.inr (.inr ()))) t.length (λd=>∀j,j<d->(pt t (pos t.length k j)).State=1)
   (λ(e:(Tb × Int) ⊕ Unit)=>(∃r,e = .inl r/\xZ t k v r)\/(e = .inr ()/\xZ t k v (t,8))) (by omega) (λj hj=>by omega)
   (λd hd hP=>by
    have hp:=sz h1 k d;rw[zb (by simpa using hd),Ju h1 (by omega),a0d,step_eq h1 (by omega) k hd,a0d,Fo hp,a0d];by_cases a:(pt t (pos t.length k d)).State=1
    .rw[za (by simpa using a),n9 (by omega)];refine .inl ⟨rfl,λj hj=>?_⟩;rcases zD j d with q | q
     .exact hP j q
     .have:j=d:=by omega
      subst this;exact a
    .rw[zb (by simpa using a),AV (by omega) hp,a0d];exact .inr ⟨_,rfl,.inl ⟨_,rfl,.new d hn hd hP a⟩⟩)
   (λhP=>⟨.inr (),by simp,.inr ⟨rfl,.full hn λi hi=>by
    obtain⟨d,hd,rfl⟩:=FP h1 h8 k hi;exact hP d hd⟩⟩)
  obtain⟨e,he,hQ⟩:=key;rw[he,a0d];rcases hQ with ⟨r,rfl,hr⟩ | ⟨rfl,hr⟩;·exact⟨r,rfl,hr⟩
  .exact⟨_,rfl,hr⟩
theorem ND{t:Tb}(hR:HR t){k:Int}{i:Nat}(hi:Fk t k i):Z4 t k=some ((pt t i).Val,0):=by
 unfold Z4;rw[tB hR hi,a0d,za (by simp),Fo hi.1,a0d]
theorem NC{t:Tb}(hR:HR t){k:Int}(hi:∀i,¬Fk t k i):Z4 t k=some (0,9):=by
 unfold Z4;rw[tA hR.l1 hR.l8 hi,a0d,zb (by decide)]
theorem tu{t:Tb}(hR:HR t){k:Int}{i:Nat}(hi:Fk t k i):aW t k=some (t.set i ⟨2,0,0⟩,(pt t i).Val,0):=by
 have:=hR.l8;unfold aW;rw[tB hR hi,a0d,za (by simp),AV (by omega) hi.1,a0d,Fo hi.1,a0d]
theorem tt{t:Tb}(hR:HR t){k:Int}(hi:∀i,¬Fk t k i):aW t k=some (t,0,9):=by
 unfold aW;rw[tA hR.l1 hR.l8 hi,a0d,zb (by decide)]
theorem HR.set{t:Tb}(hR:HR t){i:Nat}(hi:i<t.length){p:g5}(h0:p.State=1\/p=⟨2,0,0⟩)
  (hu:p.State=1->∀j,j≠i->¬Fk t p.Key j)(hr:p.State=1->∀d,d<t.length->(∀d',d'<=d->pos t.length p.Key d'≠i)->(pt t (pos t.length p.Key d)).State≠0):HR (t.set i p):=by
 have hnz:p.State≠0:=by
  rcases h0 with h | rfl
  .omega
  .simp
 refine⟨by simpa using hR.l1,by simpa using hR.l8,λj hj=>?_,λj j' hj hj' s1 s2 hk=>?_,λj hj s1 d hd hne=>?_⟩ <;> simp only[zal] at *
 .rw[Ai hi];split
  .rcases h0 with h | rfl
   .exact⟨.inr (.inl h),λq=>absurd h q⟩
   .exact⟨.inr (.inr rfl),λ_=>⟨rfl,rfl⟩⟩
  .exact hR.st j hj
 .rw[Ai hi] at s1 s2 hk;rw[Ai hi] at hk;by_cases e1:j=i <;> by_cases e2:j'=i
  .rw[e1,e2]
  .rw[zb e1] at s1 hk;rw[za e2] at s2 hk;exact absurd ⟨hj',s2,hk.symm⟩ (hu s1 j' e2)
  .rw[za e1] at s1 hk;rw[zb e2] at s2 hk;exact absurd ⟨hj,s1,hk⟩ (hu s2 j e1)
  .rw[za e1] at s1 hk;rw[za e2] at s2 hk;exact hR.uq j j' hj hj' s1 s2 hk
 .simp only[Ai hi] at s1 hne |-;by_cases e1:j=i
  .simp only[zb e1] at s1 hne |-;split;·exact hnz
   .exact hr s1 d hd (by rw[<-e1];exact hne)
  .simp only[za e1] at s1 hne |-;split;·exact hnz
   .exact hR.rd j hj s1 d hd hne
theorem Aj{t:Tb}(hR:HR t){k v:Int}{r:Tb × Int}(h:xZ t k v r):HR r.1:=by
 cases h with
 | old i hi=>
  refine hR.set hi.1 (.inl rfl) (λ_ j hj q=>hj (hR.uq j i q.1 hi.1 q.2.1 hi.2.1 (q.2.2.trans hi.2.2.symm))) λ_ d hd hne=>?_;have:=hR.rd i hi.1 hi.2.1 d hd (by rw[hi.2.2];exact hne);rwa [hi.2.2] at this
 | new d hn hd hb hf=>
  refine hR.set (sz hR.l1 k d) (.inl rfl) (λ_ j _=>hn j) λ_ d' hd' hne=>?_;rcases zD d' d with q | q
  .have:=hb d' q;simp only;omega
  .exact absurd rfl (hne d q)
 | full hn ha=>exact hR
theorem pg{t:Tb}(hR:HR t){i:Nat}(hi:i<t.length):HR (t.set i ⟨2,0,0⟩):=hR.set hi (.inr rfl) (λq=>by cases q) λq=>by cases q
theorem YP{t:Tb}{j:Nat}(h:j<t.length):ix (t.map eX) (j:Int)=some (eX (pt t j)):=by rw[qy,Fo h];rfl
theorem Pj{t:Tb}(h8:t.length<=1000){k:Int}{i:Nat}(hi:Fk t k i)(hf:∀j,j<i->¬Fk t k j):mF (t.map eX) k=some (i:Int):=by
 unfold mF;simp only[jn];refine dO t.length (λj=>j<=i) (by omega) (zW _) (λj hj hP=>?_) (λhP=>by have:=hi.1;omega);rw[zb (by simpa using hj),YP hj,a0d];by_cases e:j=i
 .subst e;exact .inr ⟨.inl (j:Int),by rw[zb (by simp[eX,hi.2.1,hi.2.2])],rfl⟩
 .have:=hf j (by omega);refine .inl ⟨by rw[za (by simp[eX];exact λh1 h2=>this ⟨hj,h1,h2⟩),n9 (by omega)],by omega⟩
theorem Ph{t:Tb}(h8:t.length<=1000){k:Int}(hf:∀j,¬Fk t k j):mF (t.map eX) k=some (-1):=by
 unfold mF;simp only[jn];refine dO t.length (λj=>True) (by omega) trivial (λj hj hP=>?_) (λhP=>⟨.inr (),by simp,rfl⟩);rw[zb (by simpa using hj),YP hj,a0d];refine .inl ⟨by rw[za (by simp[eX];exact λh1 h2=>hf j ⟨hj,h1,h2⟩),n9 (by omega)],trivial⟩
theorem Nw{t:Tb}{k:Int}(h:∃i,Fk t k i):∃i,Fk t k i/\∀j,j<i->¬Fk t k j:=by
 obtain⟨i,h1,h2⟩:=dI h;exact⟨i,h1,λj hj q=>by have:=h2 j q;omega⟩
theorem LX{t:Tb}{i:Nat}(h8:t.length<=1000)(hi:i<t.length)(p:g5):Am (t.map eX) (i:Int) (eX p)=some ((t.set i p).map eX):=by
 unfold Am;rw[cq (by omega) (by simp;omega),a0d,YP hi,a0d,zN,zcp]
def Has(t:Tb)(k v:Int):Prop:=∃i,Fk t k i/\(pt t i).Val=v
theorem Vk{t:Tb}{k:Int}:(∀v,¬Has t k v)↔∀i,¬Fk t k i:=by
 constructor;·intro h i hi;exact h _ ⟨i,hi,rfl⟩
 .rintro h v ⟨i,hi,_⟩;exact h i hi
theorem Vl(t:Tb)(k:Int):(∃v,Has t k v)\/∀v,¬Has t k v:=by
 by_cases h:∃v,Has t k v
 .exact .inl h
 .exact .inr λv hv=>h ⟨v,hv⟩
theorem Has.fn{t:Tb}(hR:HR t){k v v':Int}(h:Has t k v)(h':Has t k v'):v=v':=by
 obtain⟨i,a,rfl⟩:=h;obtain⟨j,b,rfl⟩:=h';rw[hR.uq i j a.1 b.1 a.2.1 b.2.1 (a.2.2.trans b.2.2.symm)]
theorem Jq{t:Tb}(hR:HR t){k v:Int}(h:Has t k v):Z4 t k=some (v,0):=by
 obtain⟨i,a,rfl⟩:=h;exact ND hR a
theorem Lo{t:Tb}(hR:HR t){k:Int}(h:∀v,¬Has t k v):Z4 t k=some (0,9):=NC hR (Vk.1 h)
theorem Di{t:Tb}{i:Nat}(hi:i<t.length){k v:Int}(p:g5)(h:∀j,j≠i->Fk t p.Key j->p.State≠1)(k' v':Int) :
  Has (t.set i p) k' v'↔(p.State=1/\p.Key=k'/\p.Val=v')\/∃j,j≠i/\Fk t k' j/\(pt t j).Val=v':=by
 unfold Has Fk;simp only[zal,Ai hi];constructor
 .rintro⟨j,⟨h1,h2,h3⟩,h4⟩;by_cases e:j=i
  .rw[zb e] at h2 h3 h4;exact .inl ⟨h2,h3,h4⟩
  .rw[za e] at h2 h3 h4;exact .inr ⟨j,e,⟨h1,h2,h3⟩,h4⟩
 .rintro (⟨h1,h2,h3⟩ | ⟨j,e,⟨h1,h2,h3⟩,h4⟩);·exact⟨i,by simp[hi,h1,h2,h3]⟩
  .exact⟨j,by simp[e,h1,h2,h3,h4]⟩
theorem xG{t:Tb}(hR:HR t){k v:Int}{r:Tb × Int}(h:xZ t k v r)(h0:r.2=0)(k' v':Int):Has r.1 k' v'↔(k'=k/\v'=v)\/(k'≠k/\Has t k' v'):=by
 cases h with
 | old i hi=>
  rw[Di (k:=k) (v:=v) hi.1 _ (λj hj q=>absurd (hR.uq j i q.1 hi.1 q.2.1 hi.2.1 (q.2.2.trans hi.2.2.symm)) hj)];constructor
  .rintro (⟨_,rfl,rfl⟩ | ⟨j,e,h1,h2⟩);·exact .inl ⟨rfl,rfl⟩
   .refine .inr ⟨λq=>?_,j,h1,h2⟩;subst q;exact e (hR.uq j i h1.1 hi.1 h1.2.1 hi.2.1 (h1.2.2.trans hi.2.2.symm))
  .rintro (⟨rfl,rfl⟩ | ⟨e,j,h1,h2⟩);·exact .inl ⟨rfl,rfl,rfl⟩
   .refine .inr ⟨j,λq=>?_,h1,h2⟩;subst q;exact e (h1.2.2.symm.trans hi.2.2)
 | new d hn hd hb hf=>
  rw[Di (k:=k) (v:=v) (sz hR.l1 k d) _ (λj hj q=>absurd q (hn j))];constructor
  .rintro (⟨_,rfl,rfl⟩ | ⟨j,e,h1,h2⟩);·exact .inl ⟨rfl,rfl⟩
   .refine .inr ⟨λq=>?_,j,h1,h2⟩;subst q;exact hn j h1
  .rintro (⟨rfl,rfl⟩ | ⟨e,j,h1,h2⟩);·exact .inl ⟨rfl,rfl,rfl⟩
   .refine .inr ⟨j,λq=>?_,h1,h2⟩;subst q;exact hf h1.2.1
 | full hn ha=>cases h0
theorem tq{t:Tb}(hR:HR t){k:Int}{i:Nat}(hi:Fk t k i)(k' v':Int):Has (t.set i ⟨2,0,0⟩) k' v'↔k'≠k/\Has t k' v':=by
 rw[Di (k:=k) (v:=0) hi.1 _ (λj hj q=>by simp)];constructor
 .rintro (⟨h,_⟩ | ⟨j,e,h1,h2⟩);·cases h
  .refine⟨λq=>?_,j,h1,h2⟩;subst q;exact e (hR.uq j i h1.1 hi.1 h1.2.1 hi.2.1 (h1.2.2.trans hi.2.2.symm))
 .rintro⟨e,j,h1,h2⟩;refine .inr ⟨j,λq=>?_,h1,h2⟩;subst q;exact e (h1.2.2.symm.trans hi.2.2)
def keys(t:Tb):List Int:=(t.filter (·.State==1)).map (·.Key)
theorem Ho{α β:Type}(p:α->Bool)(f:α->β)(l:List α)(k:Nat)(h:k<l.length):((l.take (k+1)).filter p).map f=((l.take k).filter p).map f++(if p l[k] then [f l[k]] else []):=by
 rw[zx h,zbb,ms];congr 1;simp only[or,List.filter_nil];split <;> rfl
theorem keys_eq{t:Tb}(h:t.length<=1000):lZ t=some (keys t):=by
 unfold lZ keys;simp only[jn];refine bD t.length (λk l=>l=((t.take k).filter (·.State==1)).map (·.Key)) (by omega) (by simp) ?_ (λl hl=>⟨_,by simp;rfl,by rw[hl,zV]⟩);rintro k l hk rfl;left;rw[Ho _ _ _ _ hk];rw[zb (by simpa using hk),r9 hk,a0d,n9 (by omega)];have hle:(List.map (·.Key) (List.filter (·.State==1) (List.take k t))).length<=1000:=by
  rw[zl];exact zP (zE ..) (by simp;omega)
 by_cases c:(t[k].State==1)=true
 .rw[zb c,zb c,J0 (by omega) (by simp only[zH,zah];omega),a0d];exact⟨_,rfl,rfl⟩
 .rw[za c,za c];exact⟨_,rfl,by simp⟩
theorem Pf{t:Tb}(hR:HR t)(k:Int):mF (t.map eX) k=aX t k:=by
 have h8:=hR.l8;rcases BU t k with ⟨i,hi⟩ | hn
 .rw[tB hR hi];obtain⟨f,hf1,hf2⟩:=Nw ⟨i,hi⟩;rw[Pj (by omega) hf1 hf2,hR.uq f i hf1.1 hi.1 hf1.2.1 hi.2.1 (hf1.2.2.trans hi.2.2.symm)]
 .rw[tA hR.l1 hR.l8 hn,Ph (by omega) hn]
theorem Wv{t:Tb}(hR:HR t)(k:Int):uA (t.map eX) k=(aW t k).map λr=>(r.1.map eX,r.2):=by
 have h8:=hR.l8;rcases BU t k with ⟨i,hi⟩ | hn
 .rw[tu hR hi];unfold uA;rw[Pf hR,tB hR hi,a0d,za (by simp)];have:=LX (t:=t) (by omega) hi.1 ⟨2,0,0⟩;dsimp only[eX] at this;rw[this,a0d,YP hi.1];rfl
 .rw[tt hR hn];unfold uA;rw[Pf hR,tA hR.l1 hR.l8 hn];rfl
theorem FU{t:Tb}{k v:Int}{r:Tb × Int}(h:xZ t k v r):r.1.length=t.length:=by cases h <;> simp
theorem jV(t:Tb):(keys t).length=t.countP (·.State==1):=by
 unfold keys;rw[zl,zbv]
theorem tS{t:Tb}{i:Nat}(h:i<t.length)(p:g5):(keys (t.set i p)).length+(if (pt t i).State=1 then 1 else 0)=(keys t).length+if p.State=1 then 1 else 0:=by
 rw[jV,jV,List.countP_set h,mw h];simp only[pu];have:(if t[i].State=1 then 1 else 0)<=t.countP λc=>c.State==1:=by
  split
  .rename_i e;exact zbw.2 ⟨t[i],zh h,by simpa using e⟩
  .exact zW _
 omega
theorem Lr{t:Tb}(h:∀i,i<t.length->(pt t i).State=1):(keys t).length=t.length:=by
 rw[jV,List.countP_eq_length];intro a ha;obtain⟨i,hi,rfl⟩:=wt ha;have:=h i hi;rw[mw hi] at this;simpa using this
theorem RJ{t:Tb}{i:Nat}(hi:i<t.length)(h:(pt t i).State≠1):(keys t).length<t.length:=by
 have h1:(keys t).length<=t.length:=by rw[jV];exact zck
 rcases zD (keys t).length t.length with q | q
 .exact q
 .exfalso;have e:(keys t).length=t.length:=by omega
  rw[jV,List.countP_eq_length] at e;have:=e t[i] (zh hi);rw[mw hi] at h;exact h (by simpa using this)
structure TM {V:Type} (φ:V->Int->Prop) (t:Tb) (m:List (Int × V)):Prop where
 R:HR t
 nd:(m.map (·.1)).Nodup
 len:(keys t).length=m.length
 has:∀k,(∀v,Has t k v->∃u,A1 m k=some u/\φ u v)/\((A1 m k).isSome=true->∃v,Has t k v)
theorem TM.some{V:Type}{φ:V->Int->Prop}{t:Tb}{m:List (Int × V)}(h:TM φ t m)(k:Int):(∃v u,Has t k v/\A1 m k=some u/\φ u v)\/(A1 m k=none/\∀v,¬Has t k v):=by
 rcases Vl t k with ⟨v,hv⟩ | hn
 .obtain⟨u,h1,h2⟩:=(h.has k).1 v hv;exact .inl ⟨v,u,hv,h1,h2⟩
 .refine .inr ⟨?_,hn⟩;cases hq:A1 m k with
  | none=>rfl
  | some u=>
   obtain⟨v,hv⟩:=(h.has k).2 (by rw[hq];rfl);exact absurd hv (hn v)
theorem TM.put{V:Type}{φ:V->Int->Prop}{t:Tb}{m:List (Int × V)}(h:TM φ t m)(k v:Int)(u:V)(hφ:φ u v):∃r,py t k v = .some r/\r.1.length=t.length/\((r.2=0/\TM φ r.1 (p6 m k u)/\((A1 m k).isSome=true\/m.length<t.length))\/(r=(t,8)/\(A1 m k)=none/\m.length=t.length)):=by
 obtain⟨r,hr,hp⟩:=OZ h.R k v;refine⟨r,hr,FU hp,?_⟩;have hRr:=Aj h.R hp;by_cases h0:r.2=0
 .left;have hh:=xG h.R hp h0;have hmem:∀k',(∀w,Has r.1 k' w->∃x,A1 (p6 m k u) k' = .some x/\φ x w)/\((A1 (p6 m k u) k').isSome=true->∃w,Has r.1 k' w):=λk'=>by
   rw[qz];by_cases e:k'=k
   .subst e;rw[zb rfl];refine⟨λw hw=>?_,λ_=>⟨v,(hh _ _).2 (.inl ⟨rfl,rfl⟩)⟩⟩;rcases (hh _ _).1 hw with ⟨_,rfl⟩ | ⟨q,_⟩;·exact⟨u,rfl,hφ⟩
    .exact absurd rfl q
   .rw[za e];refine⟨λw hw=>?_,λq=>?_⟩
    .rcases (hh _ _).1 hw with ⟨q,_⟩ | ⟨_,q⟩;·exact absurd q e
     .exact (h.has k').1 w q
    .obtain⟨w,hw⟩:=(h.has k').2 q;exact⟨w,(hh _ _).2 (.inr ⟨e,hw⟩)⟩
  have hlen:(keys r.1).length=(p6 m k u).length/\((A1 m k).isSome=true\/m.length<t.length):=by
   rw[Ou];cases hp with
   | old i hi=>
    have h1:(A1 m k).isSome=true:=by
     obtain⟨x,h1,_⟩:=(h.has k).1 _ ⟨i,hi,rfl⟩;rw[h1];rfl
    have:=tS hi.1 ⟨1,k,v⟩;rw[zb hi.2.1,zb rfl,h.len] at this;rw[zb h1];exact⟨by simp only;omega,.inl h1⟩
   | new d hn hd hb hf=>
    have h1:(A1 m k)=none:=by
     rcases h.some k with ⟨w,x,hw,_⟩ | ⟨q,_⟩
     .obtain⟨i,hi,_⟩:=hw;exact absurd hi (hn i)
     .exact q
    have hlt:=sz h.R.l1 k d;have:=tS hlt ⟨1,k,v⟩;rw[za hf,zb rfl,h.len] at this;rw[h1];have h2:=RJ hlt hf;rw[h.len] at h2;exact⟨by simpa using this,.inr h2⟩
   | full hn ha=>cases h0
  exact⟨h0,⟨hRr,HC h.nd k u,hlen.1,hmem⟩,hlen.2⟩
 .right;cases hp with
  | old i hi=>exact absurd rfl h0
  | new d hn hd hb hf=>exact absurd rfl h0
  | full hn ha=>
   refine⟨rfl,?_,?_⟩
   .rcases h.some k with ⟨w,x,hw,_⟩ | ⟨q,_⟩
    .obtain⟨i,hi,_⟩:=hw;exact absurd hi (hn i)
    .exact q
   .rw[<-h.len,Lr ha]
theorem TM.drop{V:Type}{φ:V->Int->Prop}{t:Tb}{m:List (Int × V)}(h:TM φ t m)(k:Int):(∃r v u,aW t k = .some (r,v,0)/\r.length=t.length/\A1 m k = .some u/\φ u v/\TM φ r (vC m k))\/(aW t k = .some (t,0,9)/\A1 m k=none/\vC m k=m):=by
 rcases BU t k with ⟨i,hi⟩ | hn
 .left;obtain⟨u,h1,h2⟩:=(h.has k).1 _ ⟨i,hi,rfl⟩;refine⟨_,_,u,tu h.R hi,by simp,h1,h2,pg h.R hi.1,(Ol m k).nodup h.nd,?_,λk'=>?_⟩
  .have:=tS hi.1 ⟨2,0,0⟩;rw[zb hi.2.1,za (by decide),h.len] at this;rw[Oj,h1];simp only[Option.isSome_some,zY];omega
  .have hh:=tq h.R hi;rw[Lz h.nd];by_cases e:k'=k
   .subst e;rw[zb rfl];exact⟨λw hw=>absurd rfl ((hh _ _).1 hw).1,λq=>by cases q⟩
   .rw[za e];refine⟨λw hw=>(h.has k').1 w ((hh _ _).1 hw).2,λq=>?_⟩;obtain⟨w,hw⟩:=(h.has k').2 q;exact⟨w,(hh _ _).2 ⟨e,hw⟩⟩
 .right;have h1:A1 m k=none:=by
   rcases h.some k with ⟨w,x,hw,_⟩ | ⟨q,_⟩
   .obtain⟨i,hi,_⟩:=hw;exact absurd hi (hn i)
   .exact q
  refine⟨tt h.R hn,h1,?_⟩;have:∀(l:List (Int × V)),A1 l k=none->vC l k=l:=by
   intro l;induction l with
   | nil=>intro _;rfl
   | cons p l ih=>
    intro q;unfold A1 at q;unfold vC;by_cases e:k=p.1
    .rw[zb (by simpa using e)] at q;cases q
    .rw[za (by simpa using e)] at q;rw[za (by simpa using e),ih q]
  exact this m h1
theorem VK{n:Nat}(h1:1<=n)(h8:n<=8):tL (n:Int)=some (List.replicate n ⟨0,0,0⟩):=by
 unfold tL;rw[za (by simp;omega),lf (by omega) (by omega)];rfl
theorem vQ{n j:Nat}:pt (List.replicate n ⟨0,0,0⟩) j=⟨0,0,0⟩:=by
 unfold pt;rw[zd,List.getElem?_replicate];split <;> rfl
theorem WR{V:Type}(φ:V->Int->Prop){n:Nat}(h1:1<=n)(h8:n<=8):TM φ (List.replicate n ⟨0,0,0⟩) []:=by
 refine⟨⟨by simpa using h1,by simpa using h8,λi hi=>?_,λi j hi hj s=>?_,λi hi s=>?_⟩,by simp,?_,λk=>⟨λv hv=>?_,λq=>by cases q⟩⟩;·rw[vQ];exact⟨.inl rfl,λ_=>⟨rfl,rfl⟩⟩
 .rw[vQ] at s;cases s
 .rw[vQ] at s;cases s
 .rw[jV,List.countP_replicate];rfl
 .obtain⟨i,hi,_⟩:=hv;have:=hi.2.1;rw[vQ] at this;cases this
def kc(t:Tb):List g8:=(t.filter (·.State==1)).map λp=>⟨p.Key,p.Val⟩
theorem yQ(t:Tb):keys t=(kc t).map (·.Key):=by
 unfold keys kc;rw[za3];rfl
theorem jm(t:Tb):(kc t).length=(keys t).length:=by rw[yQ,zl]
theorem sA{t:Tb}(h:t.length<=8):(kc t).length<=8:=by
 rw[jm,jV];exact zP zck h
theorem cD{t:Tb}{p:g8}:p∈kc t↔Has t p.Key p.Val:=by
 unfold kc Has;rw[zq];constructor
 .rintro⟨q,hq,rfl⟩;obtain⟨h1,h2⟩:=zj.1 hq;obtain⟨i,hi,rfl⟩:=wt h1;refine⟨i,⟨hi,?_,?_⟩,?_⟩ <;> rw[mw hi]
  simpa using h2
 .rintro⟨i,⟨hi,h1,h2⟩,h3⟩;rw[mw hi] at h1 h2 h3;refine⟨t[i],zj.2 ⟨zh hi,by simpa using h1⟩,?_⟩;cases p;simp at h2 h3 |-;exact⟨h2,h3⟩
theorem JW{t:Tb}(hR:HR t){j:Nat}(h:j<(kc t).length):Z4 t (kc t)[j].Key=some ((kc t)[j].Val,0):=Jq hR (cD.1 (zh h))
theorem TC{E R:Type}{x:Option E}{r:E}{κ:E->Option R}{y:Option R}(h:x=some r)(hy:κ r=y):((x.bind λe=>some e).bind κ)=y:=by rw[h];exact hy
theorem OU{t:Tb}(hR:HR t):kU t=some (kc t):=by
 have h8:=hR.l8;have hp:=sA h8;unfold kU B5 dY gJ;simp only[jn,a0d];rw[keys_eq (by omega),a0d];refine TC (oa (gi (kc t).length (λk l=>l=(kc t).take k) (λe=>e=kc t) (by omega) (by simp) ?_ ?_)) rfl
 .rintro k l hk rfl;refine .inl ⟨_,?_,rfl⟩;dsimp only;rw[zb (by rw[<-jm];simpa using hk),r9 (by rw[<-jm];exact hk),a0d];have e:(keys t)[k]'(by rw[<-jm];exact hk)=(kc t)[k].Key:=by simp[yQ]
  rw[e,JW hR hk,a0d,zb (by trivial),J0 (by omega) (by simp;omega),a0d,n9 (by omega),zx hk]
 .rintro l rfl;exact⟨_,by rw[<-jm];simp;rfl,by simp⟩
def own(t:Tb)(h:Int):Nat:=(kc t).countP λp=>(h != 0)&&(p.Val==h)
theorem OP{t:Tb}(hR:HR t)(h:Int):kS t h=some (own t h:Int):=by
 have h8:=hR.l8;have hp:=sA h8;unfold kS B4 dY gI;simp only[jn,a0d];rw[keys_eq (by omega),a0d];refine TC (r:=(kc t).filter λp=>(h != 0)&&(p.Val==h)) (oa (gi (kc t).length (λk l=>l=((kc t).take k).filter λp=>(h != 0)&&(p.Val==h)) (λe=>e=(kc t).filter λp=>(h != 0)&&(p.Val==h)) (by omega) (by simp) ?_ ?_)) (by unfold own;rw[zbv])
 .rintro k l hk rfl;refine .inl ⟨((kc t).take (k+1)).filter λp=>(h != 0)&&(p.Val==h),?_,rfl⟩;dsimp only;rw[zb (by rw[<-jm];simpa using hk),r9 (by rw[<-jm];exact hk),a0d];have e:(keys t)[k]'(by rw[<-jm];exact hk)=(kc t)[k].Key:=by simp[yQ]
  have hle:(((kc t).take k).filter λp=>(h != 0)&&(p.Val==h)).length<=8:=zP (zE ..) (by simp;omega);rw[e,JW hR hk,a0d,n9 (by omega),zx hk,zbb,or,List.filter_nil];by_cases c:((h != 0)&&((kc t)[k].Val==h))=true
  .rw[zb c,zb c,J0 (by omega) (by simp only[zH,zah];omega),a0d]
  .rw[za c,za c,zap]
 .rintro l rfl;exact⟨_,by rw[<-jm];simp;rfl,by simp⟩
theorem dU{t:Tb}(hR:HR t)(k v:Int):∃r,V1 t k v=some r/\HR r.1/\r.1.length=t.length /\
  ((k=0/\r=(t,0,2))\/(k≠0/\v=0/\((∃i,Fk t k i/\r=(t.set i ⟨2,0,0⟩,(pt t i).Val,0))\/((∀i,¬Fk t k i)/\r=(t,0,0)))) \/
   (k≠0/\v≠0/\((∃i,Fk t k i/\r=(t.set i ⟨1,k,v⟩,(pt t i).Val,0))\/(∃d,(∀i,¬Fk t k i)/\d<t.length/\(pt t d).State≠1/\xZ t k v (t.set d ⟨1,k,v⟩,0)/\r=(t.set d ⟨1,k,v⟩,0,0))\/((∀i,¬Fk t k i)/\(∀i,i<t.length->(pt t i).State=1)/\r=(t,0,8))))):=by
 unfold V1;by_cases hk:k=0
 .rw[zb (by simpa using hk)];exact⟨_,rfl,hR,rfl,.inl ⟨hk,rfl⟩⟩
 .rw[za (by simpa using hk)];obtain⟨g,hg,hgv⟩:∃g,Z4 t k=some g/\((∃i,Fk t k i/\g=((pt t i).Val,0))\/((∀i,¬Fk t k i)/\g=(0,9))):=by
   rcases BU t k with ⟨i,hi⟩ | hn;·exact⟨_,ND hR hi,.inl ⟨i,hi,rfl⟩⟩
   .exact⟨_,NC hR hn,.inr ⟨hn,rfl⟩⟩
  rw[hg,a0d];by_cases hv:v=0
  .rw[zb (by simpa using hv)];rcases hgv with ⟨i,hi,rfl⟩ | ⟨hn,rfl⟩
   .rw[tu hR hi,a0d];exact⟨_,rfl,pg hR hi.1,by simp,.inr (.inl ⟨hk,hv,.inl ⟨i,hi,rfl⟩⟩)⟩
   .rw[tt hR hn,a0d];exact⟨_,rfl,hR,rfl,.inr (.inl ⟨hk,hv,.inr ⟨hn,rfl⟩⟩)⟩
  .rw[za (by simpa using hv)];obtain⟨r,hr,hp⟩:=OZ hR k v;rw[hr,a0d];have hRr:=Aj hR hp;have hl:=FU hp;have hp':=hp;cases hp with
   | old i hi=>
    rcases hgv with ⟨j,hj,rfl⟩ | ⟨hn,rfl⟩
    .rw[hR.uq j i hj.1 hi.1 hj.2.1 hi.2.1 (hj.2.2.trans hi.2.2.symm)];exact⟨_,rfl,hRr,hl,.inr (.inr ⟨hk,hv,.inl ⟨i,hi,rfl⟩⟩)⟩
    .exact absurd hi (hn i)
   | new d hn hd hb hf=>
    rcases hgv with ⟨j,hj,rfl⟩ | ⟨_,rfl⟩;·exact absurd hj (hn j)
    .exact⟨_,rfl,hRr,hl,.inr (.inr ⟨hk,hv,.inr (.inl ⟨_,hn,sz hR.l1 k d,hf,hp',rfl⟩)⟩)⟩
   | full hn ha=>exact⟨_,rfl,hR,rfl,.inr (.inr ⟨hk,hv,.inr (.inr ⟨hn,ha,rfl⟩)⟩)⟩
theorem Cn(t:Tb)(h:Int):own t h=t.countP λp=>(p.State==1)&&((h != 0)&&(p.Val==h)):=by
 unfold own kc;rw[List.countP_map,List.countP_filter];congr 1;funext p
 simp[Bool.and_comm]
theorem JU{t:Tb}{i:Nat}(hi:i<t.length)(p:g5)(h:Int):own (t.set i p) h+(if (((pt t i).State==1)&&((h != 0)&&((pt t i).Val==h)))=true then 1 else 0)=own t h+if ((p.State==1)&&((h != 0)&&(p.Val==h)))=true then 1 else 0:=by
 rw[Cn,Cn,List.countP_set hi,mw hi];have:(if ((t[i].State==1)&&((h != 0)&&(t[i].Val==h)))=true then 1 else 0)<=t.countP λp=>(p.State==1)&&((h != 0)&&(p.Val==h)):=by
  split
  .rename_i e;exact zbw.2 ⟨t[i],zh hi,e⟩
  .exact zW _
 omega
theorem OO{t:Tb}(h8:t.length<=8)(h:Int):own t h<=8:=zP zck (sA h8)
theorem wW{t:Tb}(hR:HR t)(ks:List Int)(hks:ks.length<=1000):∃a had,aV t ks=some (a,had)/\HR a/\a.length=t.length/\had.length<=ks.length/\pN (t.map eX) ks=some (a.map eX,had) /\
  (∀k v,Has a k v↔k∉ks/\Has t k v)/\(keys a).length+had.length=(keys t).length/\(∀k v,k∈ks->Has t k v->v∈had)/\∀y,own a y+T3 had y=own t y:=by
 have key:∀n,n<=ks.length->∃a had,HR a/\a.length=t.length/\had.length<=n/\(∀k v,Has a k v↔k∉ks.take n/\Has t k v)/\(keys a).length+had.length=(keys t).length/\(∀k v,k∈ks.take n->Has t k v->v∈had)/\(∀y,own a y+T3 had y=own t y) /\
   ∃f:Nat->Tb × List Int,f 0=(t,[])/\f n=(a,had)/\∀j,(hj:j<n)->HR (f j).1/\(f j).2.length<=j/\((∃i,∃hjk:j<ks.length,Fk (f j).1 ks[j] i/\f (j+1)=((f j).1.set i ⟨2,0,0⟩,(f j).2 ++ [(pt (f j).1 i).Val]))\/((∀i,∀hjk:j<ks.length,¬Fk (f j).1 ks[j] i)/\f (j+1)=f j)):=by
  intro n;induction n with
  | zero=>exact λ_=>⟨t,[],hR,rfl,by simp,by simp,by simp,by simp,λy=>by unfold T3;split <;> simp,λ_=>(t,[]),rfl,rfl,λj hj=>by omega⟩
  | succ n ih=>
   intro hn;obtain⟨a,had,h1,h2,h3,h4,h5,h6,h7,f,f0,fn,fs⟩:=ih (by omega);have hlt:n<ks.length:=by omega
   have htk:∀k,k∈ks.take (n+1)↔k∈ks.take n\/k=ks[n]:=λk=>by
    rw[zx hlt,zu,zp]
   rcases BU a ks[n] with ⟨i,hi⟩ | hno
   .have hd:=tq h1 hi;refine⟨a.set i ⟨2,0,0⟩,had ++ [(pt a i).Val],pg h1 hi.1,by simpa using h2,by simp;omega,λk v=>?_,?_,λk v hk hv=>?_,λy=>?_,λj=>if j=n+1 then (a.set i ⟨2,0,0⟩,had ++ [(pt a i).Val]) else f j,by simp[f0],by simp,λj hj=>?_⟩
    .rw[hd,h4,htk];constructor;·rintro⟨q1,q2,q3⟩;exact⟨λq=>q.elim q2 q1,q3⟩
     .rintro⟨q1,q2⟩;exact⟨λq=>q1 (.inr q),λq=>q1 (.inl q),q2⟩
    .have:=tS hi.1 ⟨2,0,0⟩;rw[zb hi.2.1,za (by decide)] at this;simp only[zL,zH,zah];omega
    .rw[zu];rcases (htk k).1 hk with q | q
     .exact .inl (h6 k v q hv)
     .subst q;by_cases q':ks[n]∈ks.take n
      .exact .inl (h6 _ v q' hv)
      .have:=(h4 _ _).2 ⟨q',hv⟩;rw[this.fn h1 ⟨i,hi,rfl⟩];exact .inr (by simp)
    .have:=JU hi.1 ⟨2,0,0⟩ y;have h7':=h7 y;rw[G2];have e:T3 [(pt a i).Val] y=if (((pt a i).State==1)&&((y != 0)&&((pt a i).Val==y)))=true then 1 else 0:=by
      rw[hi.2.1];unfold T3;by_cases y0:y=0
      .simp[y0]
      .by_cases e:(pt a i).Val=y
       .simp[y0,e]
       .simp[y0,e]
     rw[e];rw[za (show ¬((((2:Int)==1)&&((y != 0)&&((0:Int)==y)))=true) by simp)] at this;omega
    .rcases zD j n with q | q
     .have:=fs j q;dsimp only;rw[za (by omega),za (by omega)];exact this
     .have:j=n:=by omega
      subst this;dsimp only;rw[za (by omega),zb rfl,fn];exact⟨h1,h3,.inl ⟨i,hlt,hi,rfl⟩⟩
   .refine⟨a,had,h1,h2,by omega,λk v=>?_,h5,λk v hk hv=>?_,h7,λj=>if j=n+1 then (a,had) else f j,by simp[f0],by simp,λj hj=>?_⟩
    .rw[h4,htk];constructor
     .rintro⟨q1,q2⟩;refine⟨λq=>q.elim q1 λq=>?_,q2⟩;subst q;obtain⟨i,hi,_⟩:=(h4 _ _).2 ⟨q1,q2⟩;exact hno i hi
     .rintro⟨q1,q2⟩;exact⟨λq=>q1 (.inl q),q2⟩
    .rcases (htk k).1 hk with q | q
     .exact h6 k v q hv
     .subst q;by_cases q':ks[n]∈ks.take n
      .exact h6 _ v q' hv
      .obtain⟨i,hi,_⟩:=(h4 _ _).2 ⟨q',hv⟩;exact absurd hi (hno i)
    .rcases zD j n with q | q
     .have:=fs j q;dsimp only;rw[za (by omega),za (by omega)];exact this
     .have:j=n:=by omega
      subst this;dsimp only;rw[za (by omega),zb rfl,fn];exact⟨h1,h3,.inr ⟨λi _=>hno i,rfl⟩⟩
 obtain⟨a,had,h1,h2,h3,h4,h5,h6,h7,f,f0,fn,fs⟩:=key ks.length (zF _);rw[zV] at h4 h6;refine⟨a,had,?_,h1,h2,h3,?_,h4,h5,h6,h7⟩
 .unfold aV;simp only[jn];refine mf (λj=>((f j).1,(j:Int),(f j).2)) (by rw[f0];rfl) ks.length (λ_=>True) (by omega) trivial (λj hj _=>?_) (λ_=>⟨(a,had),by dsimp only;rw[za (by simp),fn],rfl⟩);obtain⟨g1,g2,g3⟩:=fs j hj;left;refine⟨?_,trivial⟩;dsimp only;rw[zb (by simpa using hj),r9 hj,a0d,n9 (by omega)];rcases g3 with ⟨i,_,hi,e⟩ | ⟨hno,e⟩
  .rw[tu g1 hi,a0d,e];dsimp only;rw[zb (by decide),J0 (by omega) (by simp;omega),a0d]
  .rw[tt g1 (λi=>hno i hj),a0d,e];dsimp only;rw[za (by decide)]
 .unfold pN;simp only[jn];refine mf (λj=>((f j).1.map eX,(j:Int),(f j).2)) (by rw[f0];rfl) ks.length (λ_=>True) (by omega) trivial (λj hj _=>?_) (λ_=>⟨(a.map eX,had),by dsimp only;rw[za (by simp),fn],rfl⟩);obtain⟨g1,g2,g3⟩:=fs j hj;left;refine⟨?_,trivial⟩;dsimp only;rw[zb (by simpa using hj),r9 hj,a0d,n9 (by omega),Wv g1];rcases g3 with ⟨i,_,hi,e⟩ | ⟨hno,e⟩
  .rw[tu g1 hi,ww,a0d,e];dsimp only;rw[zb (by decide),J0 (by omega) (by simp;omega),a0d]
  .rw[tt g1 (λi=>hno i hj),ww,a0d,e];dsimp only;rw[za (by decide)]
inductive bh (s:b6) (t:Tb) (l:List Int):Int->Prop
 | base {h:Int}:h∈l->h∈lv s->bh s t l h
 | step {a b:Int}:bh s t l a->b∈outs s a->b∈lv s->bh s t l b
 | pair {k v:Int}:Has t k v->bh s t l k->v∈lv s->bh s t l v
open Classical in
noncomputable def Lk (s:b6) (t:Tb) (l:List Int):List Int:=(lv s).filter λh=>decide (bh s t l h)
open Classical in
noncomputable def Xb (s:b6) (t:Tb) (l:List Int):List Int:=(lv s).filter λh=>decide (¬bh s t l h)
noncomputable def Ez(s:b6)(t:Tb)(l:List Int):List Int:=((kc t).filter λp=>decide (p.Key∈l/\p.Key∈lv s/\p.Val∈lv s)).map (·.Val)
def TB(t:Tb):Prop:=∀p∈t,p.Key<=9223372036854775807/\p.Val<=9223372036854775807
def KB(s:b6)(t:Tb)(l:List Int):Prop:=∀k v,Has t k v->k∈l->k∈lv s->v∈lv s->v∈l
theorem TB.has{t:Tb}(h:TB t){k v:Int}(q:Has t k v):k<=9223372036854775807/\v<=9223372036854775807:=by
 obtain⟨i,⟨h1,_,h2⟩,h3⟩:=q;rw[mw h1] at h2 h3;have:=h _ (zh h1);rw[h2,h3] at this;exact this
theorem bh.live{s:b6}{t:Tb}{l:List Int}{h:Int}(q:bh s t l h):h∈lv s:=by cases q <;> assumption
open Classical in
theorem tE {s:b6} {t:Tb} {l:List Int} {h:Int}:h∈Lk s t l↔bh s t l h:=by
 unfold Lk;rw[zj];exact⟨λq=>zbj q.2,λq=>⟨q.live,zB q⟩⟩
theorem Jn{s:b6}(hR:ve (sO s))(t:Tb)(l:List Int):(Lk s t l).length<=24:=zP (zE ..) (L4 hR)
theorem Va{s:b6}(hR:ve (sO s))(t:Tb)(l:List Int):LB (Lk s t l):=λx hx=>by have:=pG hR (tE.1 hx).live;omega
theorem Wr{s:b6}(hR:ve (sO s))(l:List Int):LB (HW s l):=λx hx=>by have:=pG hR (fF.1 hx).live;omega
theorem UZ(s:b6)(t:Tb)(l:List Int):Cl s (Lk s t l):=λa ha b hb hl=>tE.2 (.step (tE.1 ha) hb hl)
theorem bh.least{s:b6}{t:Tb}{l m:List Int}(hc:Cl s m)(hp:KB s t m)(hl:∀x∈l,x∈lv s->x∈m){h:Int}(q:bh s t l h):h∈m:=by
 induction q with
 | base h1 h2=>exact hl _ h1 h2
 | step _ h1 h2 ih=>exact hc _ ih _ h1 h2
 | pair h1 h2 h3 ih=>exact hp _ _ h1 ih h2.live h3
theorem bh.mono{s:b6}{t u:Tb}{l m:List Int}(ht:∀k v,Has t k v->Has u k v)(hl:∀x∈l,x∈lv s->bh s u m x){h:Int}(q:bh s t l h):bh s u m h:=by
 induction q with
 | base h1 h2=>exact hl _ h1 h2
 | step _ h1 h2 ih=>exact .step ih h1 h2
 | pair h1 _ h3 ih=>exact .pair (ht _ _ h1) ih h3
theorem sP.Zq{s:b6}(t:Tb){l:List Int}{h:Int}(q:sP s l h):bh s t l h:=by
 induction q with
 | base h1 h2=>exact .base h1 h2
 | step _ h1 h2 ih=>exact .step ih h1 h2
theorem uu{s:b6}{t:Tb}{l:List Int}{v:Int}:v∈Ez s t l↔∃k,Has t k v/\k∈l/\k∈lv s/\v∈lv s:=by
 unfold Ez;rw[zq];constructor
 .rintro⟨p,hp,rfl⟩;obtain⟨h1,h2⟩:=zj.1 hp;exact⟨p.Key,cD.1 h1,zbj h2⟩
 .rintro⟨k,h1,h2⟩;exact⟨⟨k,v⟩,zj.2 ⟨cD.2 h1,zB h2⟩,rfl⟩
theorem HJ{s:b6}{t:Tb}{l:List Int}:(∀v∈Ez s t l,v∈l)↔KB s t l:=by
 constructor;·exact λh k v h1 h2 h3 h4=>h v (uu.2 ⟨k,h1,h2,h3,h4⟩)
 .intro h v hv;obtain⟨k,h1,h2,h3,h4⟩:=uu.1 hv;exact h k v h1 h2 h3 h4
theorem JR{s:b6}{t:Tb}(hT:HR t)(l:List Int):(Ez s t l).length<=8:=by
 unfold Ez;rw[zl];exact zP (zE ..) (sA hT.l8)
theorem Wb{s:b6}(hR:ve (sO s))(t:Tb)(l:List Int):LB (Ez s t l):=λx hx=>by
 obtain⟨_,_,_,_,h⟩:=uu.1 hx;have:=pG hR h;omega
noncomputable def U5(s:b6)(t:Tb)(l:List Int):Nat->List Int
 | 0=>HW s l
 | k+1=>HW s (U5 s t l k++Ez s t (U5 s t l k))
section
variable{s:b6}{t:Tb}{l:List Int}
theorem LQ(k:Nat):U5 s t l (k+1)=HW s (U5 s t l k++Ez s t (U5 s t l k)):=rfl
theorem uI(k:Nat):∃m,U5 s t l k=HW s m:=by
 cases k with
 | zero=>exact⟨_,rfl⟩
 | succ k=>exact⟨_,rfl⟩
theorem SP(k:Nat):Cl s (U5 s t l k):=by
 obtain⟨m,e⟩:=uI (s:=s) (t:=t) (l:=l) k;rw[e];exact Wq s m
theorem LO(k:Nat){x:Int}(h:x∈U5 s t l k):x∈lv s:=by
 obtain⟨m,e⟩:=uI (s:=s) (t:=t) (l:=l) k;rw[e] at h;exact (fF.1 h).live
theorem Gg(k:Nat){x:Int}(h:x∈U5 s t l k):x∈U5 s t l (k+1):=fF.2 (.base (zu.2 (.inl h)) (LO k h))
theorem LN(k:Nat):∀x∈l,x∈lv s->x∈U5 s t l k:=by
 induction k with
 | zero=>exact λx h1 h2=>fF.2 (.base h1 h2)
 | succ k ih=>exact λx h1 h2=>Gg k (ih x h1 h2)
theorem Pn(k:Nat):∀x∈U5 s t l k,bh s t l x:=by
 induction k with
 | zero=>exact λx h=>(fF.1 h).Zq t
 | succ k ih=>
  intro x h;have:=fF.1 h;induction this with
  | base h1 h2=>
   rcases zu.1 h1 with q | q
   .exact ih _ q
   .obtain⟨k',q1,q2,q3,q4⟩:=uu.1 q;exact .pair q1 (ih _ q2) q4
  | step h0 h1 h2 ih2=>exact .step (ih2 (fF.2 h0)) h1 h2
theorem LP{k:Nat}(h:KB s t (U5 s t l k)):U5 s t l k=Lk s t l:=by
 obtain⟨m,e⟩:=uI (s:=s) (t:=t) (l:=l) k;have hm:∀x,sP s m x↔bh s t l x:=λx=>by
  rw[<-fF,<-e];exact⟨Pn k x,λq=>q.least (SP k) h (LN k)⟩
 rw[e];unfold HW Lk;exact pm λx _=>zbc.2 (hm x)
theorem Cq{k:Nat}(h:¬KB s t (U5 s t l k)):((kc t).filter λp=>decide (p.Val∈U5 s t l k)).length<((kc t).filter λp=>decide (p.Val∈U5 s t l (k+1))).length:=by
 obtain⟨v,hv,hn⟩:∃v,v∈Ez s t (U5 s t l k)/\v∉U5 s t l k:=qr λq=>h (HJ.1 λv hv=>qr λq2=>q ⟨v,hv,q2⟩);obtain⟨k',h1,h2,h3,h4⟩:=uu.1 hv;refine filter_lt (λp _ hp=>?_) ⟨k',v⟩ (cD.2 h1) ?_ ?_
 .rw[zG] at hp |-;exact Gg k hp
 .rw[zG];exact fF.2 (.base (zu.2 (.inr hv)) h4)
 .exact zQ hn
theorem uH(s:b6)(t:Tb)(l:List Int):∃n,n<=(kc t).length/\KB s t (U5 s t l n)/\∀j,j<n->¬KB s t (U5 s t l j):=by
 have key:∀k,(∃j,j<=k/\KB s t (U5 s t l j))\/k<((kc t).filter λp=>decide (p.Val∈U5 s t l (k+1))).length:=by
  intro k;induction k with
  | zero=>
   by_cases h:KB s t (U5 s t l 0)
   .exact .inl ⟨0,zF _,h⟩
   .have:=Cq h;exact .inr (by omega)
  | succ k ih=>
   rcases ih with ⟨j,h1,h2⟩ | ih;·exact .inl ⟨j,by omega,h2⟩
   .by_cases h:KB s t (U5 s t l (k+1))
    .exact .inl ⟨k+1,zF _,h⟩
    .have:=Cq h;exact .inr (by omega)
 obtain⟨j,h1,h2⟩:∃j,j<=(kc t).length/\KB s t (U5 s t l j):=by
  rcases key (kc t).length with q | q
  .exact q
  .have:=zE (λp:g8=>decide (p.Val∈U5 s t l ((kc t).length+1))) (kc t);omega
 obtain⟨n,hn,hmin⟩:=dI (p:=λj=>KB s t (U5 s t l j)) ⟨j,h2⟩;exact⟨n,zP (hmin j h2) h1,hn,λi hi q=>by have:=hmin i q;omega⟩
end
noncomputable def Xf(s:b6)(t:Tb)(l:List Int):Nat:=Classical.choose (uH s t l)
theorem Wz(s:b6)(t:Tb)(l:List Int):Xf s t l<=(kc t).length:=(zay (uH s t l)).1
theorem Pm(s:b6)(t:Tb)(l:List Int):KB s t (U5 s t l (Xf s t l)):=(zay (uH s t l)).2.1
theorem SO(s:b6)(t:Tb)(l:List Int){j:Nat}(h:j<Xf s t l):¬KB s t (U5 s t l j):=(zay (uH s t l)).2.2 j h
section
variable{s:b6}(hR:ve (sO s)){t:Tb}(hT:HR t)(hTB:TB t)
include hR hT hTB
omit hT hTB in
theorem Cd {h:Int} (hh:h<=9223372036854775807):jR h s=some (decide (h∈lv s)):=by
 obtain⟨e,h1,h2⟩:=iJ hR hh;unfold jR;rw[h1,a0d];congr 1;rw[za8,pu,zG];exact h2
theorem JS{l:List Int}(hl:l.length<=1000000):tD s t l=some (Ez s t l):=by
 unfold tD;simp only[jn,OU hT,a0d];have h8:=sA hT.l8;rw[V5 ((kc t)) (λb p=>b++(if decide (p.Key∈l/\p.Key∈lv s/\p.Val∈lv s) then [p.Val] else [])) id (λk b=>b.length<=k) (by omega) (by simp) (λk hk b hb=>?_) (λb _=>?_)]
 .simp only[a0d,id];rw[rZ];congr 1;unfold Ez;rw[zcj];generalize kc t=P;induction P with
  | nil=>rfl
  | cons p P ih=>
   rw[zbh,or,ih];by_cases q:p.Key∈l/\p.Key∈lv s/\p.Val∈lv s
   .simp[q]
   .simp[q]
 .have hb':=hTB.has (cD.1 (zh hk));simp only[we,hk,ul,zY,r9 hk,a0d,contains_eq _ _ hl];rw[Cd hR hb'.1,Cd hR hb'.2];by_cases q1:(kc t)[k].Key∈l
  .rw[zB q1];simp only[q9,iu,a0d,zbd];by_cases q2:(kc t)[k].Key∈lv s
   .rw[zB q2];simp only[q9,iu,a0d,zbd];by_cases q3:(kc t)[k].Val∈lv s
    .rw[zb (by simpa using q3),J0 (by omega) (by simp;omega),a0d,n9,zb (by simp[q1,q2,q3])];exact⟨rfl,by simp;omega⟩
    .rw[za (by simpa using q3),n9,za (by simp[q3]),zap];exact⟨rfl,by omega⟩
   .rw[zQ q2];simp only[show ((false==true):Bool)=false from rfl,JP,a0d,Bool.false_and,zA,un];rw[n9,za (by simp[q2]),zap];exact⟨rfl,by omega⟩
  .rw[zQ q1];simp only[show ((false==true):Bool)=false from rfl,JP,a0d,Bool.false_and,zA,un];rw[n9,za (by simp[q1]),zap];exact⟨rfl,by omega⟩
 .simp only[za6,zbk,zA,un];rfl
theorem NL(hF:FB s){l:List Int}(hl:LB l)(hlen:l.length<=1000000):qu s t l=some (Lk s t l,(Xf s t l:Int)):=by
 unfold qu;rw[Jo hR hF hl hlen,a0d];simp only[jn];have hn:=Wz s t l;have h8:=sA hT.l8;have hstep:∀k,∃m,U5 s t l k=HW s m:=uI;refine mf (p:=λk=>(U5 s t l k,(k:Int))) rfl (Xf s t l) (λ_=>True) (by omega) trivial (λk hk _=>.inl ⟨?_,trivial⟩) (λ_=>?_)
 .obtain⟨m,hm⟩:=hstep k;have hlk:(U5 s t l k).length<=24:=by rw[hm];exact SI hR m
  have hlb:LB (U5 s t l k):=by rw[hm];exact Wr hR m
  have hno:=SO s t l hk;simp only;rw[JS hR hT hTB (by omega),a0d];have ho:=JR (s:=s) hT (U5 s t l k);obtain⟨j,⟨hj,hjn⟩,hmin⟩:=dI (p:=λj=>∃hj:j<(Ez s t (U5 s t l k)).length,(Ez s t (U5 s t l k))[j]∉U5 s t l k) (by
   refine qr λq=>hno (HJ.1 λv hv=>qr λq2=>?_);obtain⟨j,hj,e⟩:=List.mem_iff_getElem.1 hv;exact q ⟨j,hj,by rw[e];exact q2⟩)
  refine dO (Ez s t (U5 s t l k)).length (λi=>i<=j) (by omega) (zW _) (λi hi hP=>?_) (λhP=>by omega);simp only[we,hi,ul,zY,r9 hi,a0d];rw[contains_eq _ _ (by omega),a0d];rcases zD i j with q | q
  .refine .inl ⟨?_,q⟩;have:(Ez s t (U5 s t l k))[i]∈U5 s t l k:=qr λq2=>by have:=hmin i ⟨hi,q2⟩;omega
   rw[za (by simp[this]),n9]
  .have:i=j:=by omega
   subst this;refine .inr ⟨.inl (U5 s t l (k+1),((k+1:Nat):Int)),?_,rfl⟩;rw[zb (by simp[hjn]),J0 (by omega) (by omega),a0d,Jo hR hF (λx hx=>by
    rcases zu.1 hx with q | q
    .exact Wb hR t _ x q
    .exact hlb x q) (by simp;omega),a0d,n9,LQ]
   rw[LM (l:=Ez s t (U5 s t l k)++U5 s t l k) (m:=U5 s t l k++Ez s t (U5 s t l k)) λx=>⟨λq=>q.mono λy hy hyl=>.base (zu.2 (zu.1 hy).symm) hyl,λq=>q.mono λy hy hyl=>.base (zu.2 (zu.1 hy).symm) hyl⟩]
 .have hst:=Pm s t l;have hfr:=LP hst;refine⟨(Lk s t l,(Xf s t l:Int)),?_,rfl⟩;simp only;rw[hfr] at hst |-;have hfl:=Jn hR t l;rw[JS hR hT hTB (by omega),a0d];have ho:=JR (s:=s) hT (Lk s t l);refine dO (Ez s t (Lk s t l)).length (λ_=>True) (by omega) trivial (λi hi _=>.inl ⟨?_,trivial⟩) (λ_=>⟨.inr (),by simp,rfl⟩);have:=HJ.2 hst _ (zh hi);simp only[we,hi,ul,zY,r9 hi,a0d];rw[contains_eq _ _ (by omega),a0d,za (by simp[this]),n9]
theorem Nr(hF:FB s){l:List Int}(hl:LB l)(hlen:l.length<=1000000):tC s t l=some (Lk s t l):=by
 unfold tC;rw[NL hR hT hTB hF hl hlen];rfl
omit hT hTB hR in
theorem SJ {l:List Int} {x:Int}:sP s (Lk s t l) x↔bh s t l x:=by
 constructor
 .intro q;exact tE.1 (sP.least (UZ s t l) (λx h _=>h) q)
 .exact λq=>.base (tE.2 q) q.live
theorem Ny(hF:FB s){l:List Int}(hl:LB l)(hlen:l.length<=1000000):po s t l=some (Xb s t l):=by
 unfold po;rw[Nr hR hT hTB hF hl hlen,a0d,RO hR hF (Va hR t l) (by have:=Jn hR t l;omega),a0d];congr 1;unfold lst Xb;exact pm λx _=>zbc.2 (not_congr SJ)
end
section
variable(s:b6)(hF:FB s)(t:Tb)(hTB:TB t)
include hF hTB
end
def ce(s:b6)(i:Nat):c8:=s.S.b7.getD i ⟨0,0,z0⟩
theorem M9{s:b6}{i:Nat}(h:i<s.S.b7.length):ce s i=s.S.b7[i]:=by
 unfold ce;rw[zd,zc h];rfl
theorem Jx{s:b6}{i:Nat}(h:i<s.S.b7.length):ix s.S.b7 (i:Int)=some (ce s i):=by rw[r9 h,M9 h]
def Th(c:c8):Prop:=c.State=1\/c.State=2
instance(c:c8):Decidable (Th c):=by unfold Th;infer_instance
structure AZ (s:b6) (o:n0):Prop where
 s1:1<=o.Serial
 s2:o.Serial<=s.Serial
 st:0<=o.Strong
 wk:0<=o.Weak
 p1 : -1<=o.Prog
 p2:o.Prog<=5
 fl:o.Fields.length<=4
structure SR (s:b6):Prop where
 len:s.S.b7.length<=24
 l0:0<=s.S.Last
 l9:s.S.Last<=9
 bw:0<=s.Serial
 cell:∀i,i<s.S.b7.length->0<=(ce s i).State/\(ce s i).State<=3/\0<=(ce s i).Gen/\(ce s i).Gen<=s.S.Last
 no:∀i,i<s.S.b7.length->¬Th (ce s i)->KA (oo (ce s i).Val)
 ok:∀i,i<s.S.b7.length->Th (ce s i)->AZ s (ce s i).Val
 dif:∀i j,i<s.S.b7.length->j<s.S.b7.length->Th (ce s i)->Th (ce s j)->(ce s i).Val.Serial=(ce s j).Val.Serial->i=j
theorem z8{s:b6}:ve (sO s)↔SR s:=by
 constructor
 .intro h;refine⟨lL h,h.l0,h.l9,h.bw,λi hi=>?_,λi hi hn=>?_,λi hi ht=>?_,λi j hi hj a b e=>?_⟩;·rw[M9 hi];exact DV h i hi
  .rw[M9 hi] at hn |-;have:=h.no i (by rw[bY];exact hi);simp only[sO,t6] at this;exact this hn
  .rw[M9 hi] at ht |-;obtain⟨a,b,c,d,e,f,g⟩:=Pq h i hi ht;exact⟨a,b,c,d,e,f,g⟩
  .rw[M9 hi] at a e;rw[M9 hj] at b e;exact Pp h hi hj a b e
 .intro h;refine⟨by rw[bY];exact h.len,h.l0,h.l9,h.bw,λi hi=>?_,λi hi hn=>?_,λi hi ht=>?_,λi hi k hk a b=>?_⟩
  .rw[bY] at hi;have:=h.cell i hi;rw[M9 hi] at this;simpa[sO,cO] using this
  .rw[bY] at hi;have:=h.no i hi;rw[M9 hi] at this;simp only[sO,t6] at hn |-;exact this hn
  .rw[bY] at hi;have:=h.ok i hi;rw[M9 hi] at this;simp only[sO,t6] at ht |-;obtain⟨a,b,c,d,e,f,g⟩:=this ht;exact⟨a,b,c,d,e,f,g⟩
  .rw[bY] at hi;have hk':k<s.S.b7.length:=by omega
   have:=h.dif i k hi hk';rw[M9 hi,M9 hk'] at this;simp only[sO,t6,cO,oo] at a b |-;intro e;have:=this a b e.symm;omega
def At(s:b6)(h:Int)(i:Nat):Prop:=i<s.S.b7.length/\(ce s i).State=1/\h=1+(i:Int)+32*(ce s i).Gen
def U6(s:b6)(h:Int)(i:Nat):Prop:=i<s.S.b7.length/\Th (ce s i)/\h=1+(i:Int)+32*(ce s i).Gen
theorem At.d{s:b6}{h:Int}{i:Nat}(q:At s h i):U6 s h i:=⟨q.1,.inl q.2.1,q.2.2⟩
theorem U6.one{s:b6}(hR:SR s){h:Int}{i j:Nat}(q:U6 s h i)(q':U6 s h j):i=j:=by
 obtain⟨a1,_,a2⟩:=q;obtain⟨b1,_,b2⟩:=q';have:=hR.len;omega
theorem U6.LR{s:b6}(hR:SR s){h:Int}{i:Nat}(q:U6 s h i):1<=h/\h<=320:=by
 obtain⟨a1,_,a2⟩:=q;have:=hR.len;have:=hR.cell i a1;have:=hR.l9;omega
theorem FE{s:b6}{h:Int}:h∈bt 0 s.S.b7↔∃i,At s h i:=by
 rw[pA];constructor
 .rintro⟨i,hi,h1,h2⟩;refine⟨i,hi,by rw[M9 hi];exact h1,?_⟩;rw[M9 hi,h2,zab]
 .rintro⟨i,hi,h1,h2⟩;rw[M9 hi] at h1 h2;exact⟨i,hi,h1,by rw[h2,zab]⟩
theorem ic{s:b6}(hR:SR s){h:Int}:h∈lv s↔∃i,At s h i:=by rw[vz (z8.2 hR),FE]
theorem rY{s:b6}(hR:SR s){h:Int}{i:Nat}:wY s.S h i↔U6 s h i:=by
 constructor
 .rintro⟨hi,h1,h2,h3,h4⟩;unfold sL at h1;refine⟨hi,by rw[M9 hi];exact h4,?_⟩;rw[M9 hi];omega
 .rintro⟨hi,h1,h2⟩;have l:=hR.len;have l9:=hR.l9;have c:=hR.cell i hi;rw[M9 hi] at h1 h2 c;exact⟨hi,by unfold sL;omega,by omega,by omega,h1⟩
theorem E9{s:b6}(hR:SR s){h:Int}{i:Nat}(q:At s h i):ob s h=(ce s i).Val:=by
 obtain⟨j,hj,h1,h2,_,e⟩:=Dr (z8.2 hR) ((ic hR).2 ⟨i,q⟩);have:j=i:=U6.one hR ⟨hj,by rw[M9 hj];exact .inl h1,by rw[M9 hj];exact h2⟩ q.d;subst this;rw[e,M9 hj]
theorem IY{s:b6}(hR:SR s){h:Int}{i:Nat}(q:At s h i):sk s.S.b7 h=(ce s i).Val.Serial:=by
 have:=hR.len;have hi:=q.1;rw[q.2.2,Gp hi (by omega),M9 hi]
theorem xz{s:b6}(hR:SR s){h:Int}{i:Nat}(q:U6 s h i):x4 s.S h=some ((i:Int),0):=qt ((rY hR).2 q)
theorem yj{s:b6}(hR:SR s){h:Int}(hh:h<=9223372036854775807)(q:∀i,¬U6 s h i):x4 s.S h=some (-1,if h=0 then 2 else 3):=BS hh λi hi=>q i ((rY hR).1 hi)
theorem Ob{s s':b6}(hR:SR s)(hR':SR s')(P:Int->Bool)(hm:∀h,(∃i,At s' h i)↔(∃i,At s h i)/\P h=true)(hk:∀h i j,At s' h i->At s h j->(ce s' i).Val.Serial=(ce s j).Val.Serial):lv s'=(lv s).filter P:=by
 have hk':∀h∈lv s,P h=true->sk s'.S.b7 h=sk s.S.b7 h:=λh hh hp=>by
  obtain⟨j,hj⟩:=(ic hR).1 hh;obtain⟨i,hi⟩:=(hm h).2 ⟨⟨j,hj⟩,hp⟩;rw[IY hR' hi,IY hR hj,hk h i j hi hj]
 refine XT (z8.2 hR') ?_ ?_
 .rw[List.perm_ext_iff_of_nodup ((tX (z8.2 hR)).filter _) (nw 0 _ (by have:=hR'.len;omega))];intro h;rw[zj,ic hR,FE,hm h]
 .refine ((kY (z8.2 hR)).2.2.filter P).imp_of_mem λ{a b} ha hb hab=>?_;rw[zj] at ha hb;rw[hk' a ha.1 ha.2,hk' b hb.1 hb.2];exact hab
theorem RS{s s':b6}(hR:SR s)(hR':SR s')(hl:s'.S.b7.length=s.S.b7.length)(h1:∀i,i<s.S.b7.length->((ce s' i).State=1↔(ce s i).State=1)/\(ce s' i).Gen=(ce s i).Gen/\(ce s' i).Val.Serial=(ce s i).Val.Serial):lv s'=lv s:=by
 have ha:∀h i,At s' h i↔At s h i:=λh i=>by
  unfold At;rw[hl];constructor
  .rintro⟨a,b,c⟩;obtain⟨x,y,z⟩:=h1 i a;exact⟨a,x.1 b,by rw[<-y];exact c⟩
  .rintro⟨a,b,c⟩;obtain⟨x,y,z⟩:=h1 i a;exact⟨a,x.2 b,by rw[y];exact c⟩
 rw[Ob hR hR' (λ_=>true) (λh=>by simp only[and_true];exact⟨λ⟨i,q⟩=>⟨i,(ha h i).1 q⟩,λ⟨i,q⟩=>⟨i,(ha h i).2 q⟩⟩) (λh i j q q'=>by
  have:=U6.one hR ((ha h i).1 q).d q'.d;subst this;exact (h1 i q'.1).2.2)]
 simp
def fV(s:b6)(i:Nat)(o:n0):b6:=⟨⟨s.S.b7.set i ⟨(ce s i).State,(ce s i).Gen,o⟩,s.S.Last⟩,s.Serial⟩
theorem K0(s:b6)(i:Nat)(o:n0):(fV s i o).S.b7.length=s.S.b7.length:=by simp[fV]
theorem yG{α:Type}{l:List α}{i:Nat}(hi:i<l.length)(c d:α)(j:Nat):(l.set i c).getD j d=if j=i then c else l.getD j d:=by
 rw[zd,zd,List.getElem?_set];by_cases h:j=i
 .subst h;rw[zb rfl,zb hi,zb rfl];rfl
 .rw[za (za1 h),za h]
theorem ni{s:b6}{i:Nat}(hi:i<s.S.b7.length)(o:n0)(j:Nat):ce (fV s i o) j=if j=i then ⟨(ce s i).State,(ce s i).Gen,o⟩ else ce s j:=yG hi _ _ j
theorem AL{s:b6}{i:Nat}(hi:i<s.S.b7.length)(o:n0)(j:Nat):(ce (fV s i o) j).State=(ce s j).State/\(ce (fV s i o) j).Gen=(ce s j).Gen:=by
 rw[ni hi];split;·rename_i q;subst q;exact⟨rfl,rfl⟩
 .exact⟨rfl,rfl⟩
theorem xy{s:b6}{i:Nat}(hi:i<s.S.b7.length)(o:n0){h:Int}{j:Nat}:U6 (fV s i o) h j↔U6 s h j:=by
 unfold U6 Th;rw[K0,(AL hi o j).1,(AL hi o j).2]
theorem yk{s:b6}{i:Nat}(hi:i<s.S.b7.length)(o:n0){h:Int}{j:Nat}:At (fV s i o) h j↔At s h j:=by
 unfold At;rw[K0,(AL hi o j).1,(AL hi o j).2]
theorem Py{s:b6}(hR:SR s){h:Int}{i:Nat}(q:U6 s h i)(o:n0):T2 s h o=some (fV s i o,0):=by
 obtain⟨hi,e⟩:=Pz (v:=o) hR.len ((rY hR).2 q);unfold T2;rw[e];simp[fV,M9 hi]
theorem SR.put{s:b6}(hR:SR s){i:Nat}(hi:i<s.S.b7.length)(ht:Th (ce s i)){o:n0}(hs:o.Serial=(ce s i).Val.Serial)(ho:AZ s o):SR (fV s i o):=by
 have hst:=AL hi o;have hse:∀j,(ce (fV s i o) j).Val.Serial=(ce s j).Val.Serial:=λj=>by
  rw[ni hi];split;·rename_i q;subst q;exact hs
  .rfl
 refine⟨by rw[K0];exact hR.len,hR.l0,hR.l9,hR.bw,λj hj=>?_,λj hj hn=>?_,λj hj hn=>?_,λj k hj hk a b e=>?_⟩
 .rw[K0] at hj;rw[(hst j).1,(hst j).2];exact hR.cell j hj
 .rw[K0] at hj;unfold Th at hn;rw[(hst j).1] at hn;rw[ni hi];split;·rename_i q;subst q;exact absurd ht hn
  .exact hR.no j hj hn
 .rw[K0] at hj;unfold Th at hn;rw[(hst j).1] at hn;rw[ni hi];split;·exact⟨ho.s1,ho.s2,ho.st,ho.wk,ho.p1,ho.p2,ho.fl⟩
  .have:=hR.ok j hj hn;exact⟨this.s1,this.s2,this.st,this.wk,this.p1,this.p2,this.fl⟩
 .rw[K0] at hj hk;unfold Th at a b;rw[(hst j).1] at a;rw[(hst k).1] at b;rw[hse,hse] at e;exact hR.dif j k hj hk a b e
theorem Oa{s:b6}(hR:SR s){i:Nat}(hi:i<s.S.b7.length){o:n0}(hs:o.Serial=(ce s i).Val.Serial)(hR':SR (fV s i o)):lv (fV s i o)=lv s:=by
 refine RS hR hR' (K0 ..) λj hj=>?_;rw[ni hi];split;·rename_i q;subst q;exact⟨Iff.rfl,rfl,hs⟩
 .exact⟨Iff.rfl,rfl,rfl⟩
theorem VV{s:b6}(hR:SR s){h:Int}{i:Nat}(q:At s h i){o:n0}(hR':SR (fV s i o)){k:Int}(hk:k<=9223372036854775807):ob (fV s i o) k=if k=h then o else ob s k:=by
 by_cases e:k=h
 .subst e;rw[zb rfl,E9 hR' ((yk q.1 o).2 q),ni q.1,zb rfl]
 .rw[za e];by_cases hl:∃j,At s k j
  .obtain⟨j,hj⟩:=hl;rw[E9 hR' ((yk q.1 o).2 hj),E9 hR hj,ni q.1,za];intro e2;subst e2;exact e (hj.2.2.trans q.2.2.symm)
  .rw[wB (z8.2 hR) hk (λq2=>hl ((ic hR).1 q2)),wB (z8.2 hR') hk λq2=>hl (by
    obtain⟨j,hj⟩:=(ic hR').1 q2;exact⟨j,(yk q.1 o).1 hj⟩)]
def D7(h:Int):Nat:=((h-1) % 32).toNat
theorem U6.D7{s:b6}(hR:SR s){h:Int}{i:Nat}(q:U6 s h i):D7 h=i:=by
 obtain⟨a,_,c⟩:=q;have:=hR.len;unfold Sh.D7;omega
def df(s:b6)(h:Int)(o:n0):b6:=fV s (D7 h) o
theorem o6{s:b6}(hR:SR s){h:Int}(hh:h∈lv s):At s h (D7 h):=by
 obtain⟨i,hi⟩:=(ic hR).1 hh;rw[hi.d.D7 hR];exact hi
theorem K5{s:b6}(hR:SR s){h:Int}(hh:h∈lv s):AZ s (ob s h):=by
 have q:=o6 hR hh;rw[E9 hR q];exact hR.ok _ q.1 (.inl q.2.1)
theorem H2{s:b6}(hR:SR s){h:Int}(hh:h∈lv s):1<=h/\h<=320:=(o6 hR hh).d.LR hR
theorem eZ{s:b6}(hR:SR s):(0:Int)∉lv s:=λh=>by have:=H2 hR h;omega
section
variable{s:b6}(hR:SR s){h:Int}(hh:h∈lv s){o:n0}(hs:o.Serial=(ob s h).Serial)(ho:AZ s o)
include hR hh hs ho
theorem bZ:SR (df s h o):=by
 have q:=o6 hR hh;exact hR.put q.1 (.inl q.2.1) (by rw[hs,E9 hR q]) ho
theorem iV:lv (df s h o)=lv s:=by
 have q:=o6 hR hh;exact Oa hR q.1 (by rw[hs,E9 hR q]) (bZ hR hh hs ho)
theorem gw{k:Int}(hk:k<=9223372036854775807):ob (df s h o) k=if k=h then o else ob s k:=VV hR (o6 hR hh) (bZ hR hh hs ho) hk
theorem xM:T2 s h o=some (df s h o,0):=Py hR (o6 hR hh).d o
theorem Ea{k:Int}{i:Nat}:U6 (df s h o) k i↔U6 s k i:=xy (o6 hR hh).1 o
theorem AA(i:Nat):ce (df s h o) i=if i=D7 h then ⟨(ce s i).State,(ce s i).Gen,o⟩ else ce s i:=by
 unfold df;rw[ni (o6 hR hh).1];split;·rename_i q;rw[q]
 .rfl
end
abbrev Bz(o:n0)(n:Int):n0:=⟨o.Serial,n,o.Weak,o.Prog,o.Started,o.Fields⟩
structure wo (s s':b6):Prop where
 sr:SR s'
 len:s'.S.b7.length=s.S.b7.length
 last:s'.S.Last=s.S.Last
 bw:s'.Serial=s.Serial
 lv:lv s'=lv s
 ad:∀k i,U6 s' k i↔U6 s k i
 ob:∀k,k<=9223372036854775807->∃n,ob s' k=(Bz (ob s k) (n))
 ce:∀i,i<s.S.b7.length->(ce s' i).State=(ce s i).State/\(ce s' i).Gen=(ce s i).Gen/\(ce s' i).Val.Weak=(ce s i).Val.Weak/\(ce s' i).Val.Fields=(ce s i).Val.Fields/\((ce s i).State≠1->ce s' i=ce s i)
theorem wo.refl{s:b6}(hR:SR s):wo s s:=⟨hR,rfl,rfl,rfl,rfl,λ_ _=>Iff.rfl,λk _=>⟨_,rfl⟩,λi _=>⟨rfl,rfl,rfl,rfl,λ_=>rfl⟩⟩
theorem wo.trans{a b c:b6}(h:wo a b)(q:wo b c):wo a c:=by
 refine⟨q.sr,q.len.trans h.len,q.last.trans h.last,q.bw.trans h.bw,q.lv.trans h.lv,λk i=>(q.ad k i).trans (h.ad k i),λk hk=>?_,λi hi=>?_⟩
 .obtain⟨n,e⟩:=h.ob k hk;obtain⟨m,f⟩:=q.ob k hk;exact⟨m,by rw[f,e]⟩
 .obtain⟨a1,a2,a3,a4,a5⟩:=h.ce i hi;obtain⟨b1,b2,b3,b4,b5⟩:=q.ce i (by rw[h.len];exact hi);refine⟨b1.trans a1,b2.trans a2,b3.trans a3,b4.trans a4,λhn=>?_⟩;rw[b5 (by rw[a1];exact hn),a5 hn]
theorem wo.outs{s s':b6}(k:wo s s'){h:Int}(hh:h<=9223372036854775807):outs s' h=outs s h:=by
 obtain⟨n,e⟩:=k.ob h hh;unfold Sh.outs;rw[e]
theorem wo.kK{s s':b6}(hR:SR s)(k:wo s s')(h:Int):kK s' h=kK s h:=by
 unfold Sh.kK;rw[k.lv];congr 1;refine zt λx hx=>?_;rw[k.outs (by have:=H2 hR hx;omega)]
theorem RL{s:b6}(hR:SR s){h:Int}(hh:h∈lv s){n:Int}(hn:0<=n):wo s (df s h (Bz (ob s h) (n))):=by
 have ho:AZ s (Bz (ob s h) (n)):=by
  have:=K5 hR hh;exact⟨this.s1,this.s2,hn,this.wk,this.p1,this.p2,this.fl⟩
 have q:=o6 hR hh;refine⟨bZ hR hh rfl ho,K0 ..,rfl,rfl,iV hR hh rfl ho,λk i=>Ea (o:=(Bz (ob s h) (n))) hR hh rfl ho,λk hk=>?_,λi hi=>?_⟩
 .rw[gw (o:=(Bz (ob s h) (n))) hR hh rfl ho hk];split;·rename_i e;subst e;exact⟨n,rfl⟩
  .exact⟨_,rfl⟩
 .rw[AA (o:=(Bz (ob s h) (n))) hR hh rfl ho];split
  .rename_i e;subst e;rw[E9 hR q];exact⟨rfl,rfl,rfl,rfl,λhn=>absurd q.2.1 hn⟩
  .exact⟨rfl,rfl,rfl,rfl,λ_=>rfl⟩
def SB(s:b6):Prop:=∀c∈s.S.b7,c.Val.Strong<=9223372036854775807
theorem Xz{s:b6}:FB s↔∀i,i<s.S.b7.length->∀x∈(ce s i).Val.Fields,x<=9223372036854775807:=by
 constructor
 .intro h i hi x hx;rw[M9 hi] at hx;exact h _ (zh hi) x hx
 .intro h c hc x hx;obtain⟨i,hi,rfl⟩:=wt hc;exact h i hi x (by rw[M9 hi];exact hx)
theorem Yw{s:b6}:SB s↔∀i,i<s.S.b7.length->(ce s i).Val.Strong<=9223372036854775807:=by
 constructor
 .intro h i hi;rw[M9 hi];exact h _ (zh hi)
 .intro h c hc;obtain⟨i,hi,rfl⟩:=wt hc;have:=h i hi;rwa [M9 hi] at this
noncomputable def inr(s:b6)(t:Tb)(h:Int):Nat:=kK s h+own t h
noncomputable def LV(s:b6)(t:Tb)(h:Int):Int:=if h∈lv s then (ob s h).Strong-(inr s t h:Int) else 0
noncomputable def Lp(s:b6)(t:Tb):List Int:=(lv s).filter λh=>decide (0<LV s t h\/12<=(ob s h).Strong)
def Tz(s:b6)(t:Tb)(l:List Int):Prop:=∀h∈lv s,(ob s h).Strong<12->LV s t h=(T3 l h:Int)
noncomputable instance(s:b6)(t:Tb)(l:List Int):Decidable (Tz s t l):=Classical.propDecidable _
section
variable{s:b6}(hR:ve (sO s)){t:Tb}(hT:HR t)
include hR hT
theorem NQ(h:Int):lx s t h=some (inr s t h:Int):=by
 unfold lx;have h1:=NP hR h;have h2:=OO hT.l8 h;rw[XK hR,a0d,OP hT,a0d,O1 (by omega) (by omega)];unfold inr;simp
theorem Vs(h:Int):inr s t h<=104:=by
 have h1:=NP hR h;have h2:=OO hT.l8 h;unfold inr;omega
omit hT in
theorem Cy (hB:SB s) {h:Int} (hh:h∈lv s):0<=(ob s h).Strong/\(ob s h).Strong<=9223372036854775807:=by
 obtain⟨i,hi⟩:=(ic (z8.1 hR)).1 hh;rw[E9 (z8.1 hR) hi];refine⟨((z8.1 hR).ok i hi.1 (.inl hi.2.1)).st,?_⟩;rw[M9 hi.1];exact hB _ (zh _)
theorem SN(hB:SB s){h:Int}(hh:h<=9223372036854775807):ot s t h=some (LV s t h):=by
 unfold ot;obtain⟨e,h1,h2⟩:=iJ hR hh;rw[h1,a0d];by_cases q:h∈lv s
 .have:=h2.2 q;subst this;have h3:=Vs hR hT h;have h4:=Cy hR hB q;rw[za (by simp),NQ hR hT,a0d,O1 (by dsimp only;omega) (by dsimp only;omega)];unfold LV;rw[zb q]
 .rw[zb (by simpa using λq2=>q (h2.1 q2))];unfold LV;rw[za q]
omit hT in
theorem XS {k:Nat} (hk:k<(lv s).length):(lv s)[k]<=9223372036854775807:=by
 have:=pG hR (zh hk);omega
theorem RD(hB:SB s):og s t=some (Lp s t):=by
 unfold og;simp only[jn];have h24:=L4 hR;rw[gK hR,a0d,V5 (lv s) (λb x=>if decide (0<LV s t x\/12<=(ob s x).Strong) then b ++ [x] else b) id (λk b=>b.length<=k) (by omega) (by simp) (λk hk b hI=>?_) (λb _=>by simp),a0d]
 .rw[foldl_filter];rfl
 .have hm:=zh hk;have hle:=XS hR hk;simp only[we,hk,ul,zY,r9 hk,a0d];rw[sf hR hm,a0d];unfold oi pe I6;rw[SN hR hT hB hle,a0d,a0d];by_cases q:0<LV s t (lv s)[k]
  .rw[zB (show LV s t (lv s)[k] > 0 from q)];simp only[show ((true==false):Bool)=false from rfl,JP,a0d,Bool.true_or,zY];rw[J0 (by omega) (by simp;omega),a0d,n9,zb (zB (.inl q))];exact⟨rfl,by simp;omega⟩
  .rw[zQ (show ¬LV s t (lv s)[k] > 0 from q)];simp only[q9,iu,a0d,zb0];by_cases q2:12<=(ob s (lv s)[k]).Strong
   .rw[zb (zB q2),J0 (by omega) (by simp;omega),a0d,n9,zb (zB (.inr q2))];exact⟨rfl,by simp;omega⟩
   .rw[za (by simpa using q2),n9,za (by simp only[decide_eq_true_eq];exact λc=>c.elim q q2)];exact⟨rfl,by omega⟩
omit hT in
theorem RE:(Lp s t).length<=24:=zP (zE ..) (L4 hR)
omit hR hT in
theorem qw {h:Int}:h∈Lp s t↔h∈lv s/\(0<LV s t h\/12<=(ob s h).Strong):=by
 unfold Lp;rw[zj,decide_eq_true_eq]
omit hT in
theorem Vm:LB (Lp s t):=λx hx=>by have:=pG hR (qw.1 hx).1;omega
theorem Hu(hTB:TB t)(hF:FB s)(hB:SB s):dx s t=some (Xb s t (Lp s t)):=by
 unfold dx;have:=RE hR (t:=t);rw[RD hR hT hB,a0d,Ny hR hT hTB hF (Vm hR) (by omega)];rfl
end
abbrev TQ:=j5
def Xh(q:TQ)(t:g6):TQ × Int:=if q.Cap<=q.L.length then (q,4) else (⟨q.L ++ [t],q.Cap⟩,0)
def Ti(q:TQ):TQ × g6 × Int:=match q.L with
 | []=>(q,⟨0,0,0⟩,10)
 | t::l=>(⟨l,q.Cap⟩,t,0)
theorem Ud{q:TQ}(t:g6)(h:q.L.length<=1000):qf q t=some (Xh q t):=by
 unfold Xh;unfold qf W2 M2 H3;simp only[a0d];by_cases c:q.Cap<=q.L.length
 .rw[zb (by simpa using c),zb c,a0d]
 .rw[za (by simpa using c),za c];have e:cut q.L 0 (q.L.length:Int)=some q.L:=by
   have:=vm (xs:=q.L) (i:=0) (j:=q.L.length) (zW _) (zF _);simpa using this
  rw[e,a0d,a0d,J0 (by omega) (by simp;omega),a0d,a0d]
theorem AH{q:TQ}:bg q=some (Ti q):=by
 unfold Ti;unfold bg da bu M2 H3;simp only[a0d];cases hl:q.L with
 | nil=>
  have e:cut ([]:List g6) 0 0=some []:=rfl;simp[e]
 | cons t l=>
  have hm:(if (if (((t::l).length:Nat):Int)<1 then (((t::l).length:Nat):Int) else 1) > 0 then (if (((t::l).length:Nat):Int)<1 then (((t::l).length:Nat):Int) else 1) else 0)=1:=by
   rw[za (show ¬(((t::l).length:Nat):Int)<1 by simp;omega)];simp
  rw[hm];have e1:cut (t::l) 0 1=some [t]:=by
   have:=vm (xs:=t::l) (i:=0) (j:=1) (zW _) (by simp);simpa using this
  have e2:cut (t::l) 1 (((t::l).length:Nat):Int)=some l:=by
   have:=vm (xs:=t::l) (i:=1) (j:=(t::l).length) (by simp) (zF _);simpa using this
  rw[e1,e2];simp[ix]
theorem Lj{α β:Type}(p:α->Bool)(f:α->β)(l:List α)(k:Nat)(h:k<l.length):((l.take (k+1)).filter p).map f=((l.take k).filter p).map f++(if p l[k] then [f l[k]] else []):=by
 rw[zx h,zbb,ms];congr 1;simp only[or,List.filter_nil];split <;> rfl
theorem PE{q:TQ}(h:q.L.length<=1000):gy q=some ((q.L.filter (·.Kind==1)).map (·.At)):=by
 unfold gy qJ;simp only[jn,a0d];refine bD q.L.length (λk l=>l=((q.L.take k).filter (·.Kind==1)).map (·.At)) (by omega) (by simp) ?_ (λl hl=>⟨_,by simp;rfl,by rw[hl,zV]⟩);rintro k l hk rfl;left;rw[Lj _ _ _ _ hk];simp only[we,hk,ul,zY,r9 hk,a0d];have hle:(List.map (·.At) (List.filter (·.Kind==1) (List.take k q.L))).length<=1000:=by
  rw[zl];exact zP (zE ..) (by simp;omega)
 by_cases c:(q.L[k].Kind==1)=true
 .rw[c,zb (by decide),J0 (by omega) (by simp only[zH,zah];omega),a0d,n9];exact⟨_,rfl,rfl⟩
 .have c:(q.L[k].Kind==1)=false:=by simpa using c
  rw[c,za (by decide),n9];exact⟨_,rfl,by simp⟩
theorem xP{q:TQ}{w:Int}(h:q.L.length<=1000):aN q w=some (q.L.any λt=>t.Kind==2&&t.At==w):=by
 unfold aN qJ;simp only[jn,a0d];refine dO q.L.length (λk=>(q.L.take k).any (λt=>t.Kind==2&&t.At==w)=false) (by omega) (by simp) ?_ (λhl=>⟨.inr (),by simp,by rw[zV] at hl;rw[hl]⟩);intro k hk hP;simp only[we,hk,ul,zY,r9 hk,a0d];rw[zx hk,List.any_append,hP,zb0];by_cases c:(q.L[k].Kind==2)=true
 .rw[c,zb (by decide)];by_cases d:(q.L[k].At==w)=true
  .right;rw[d,zb rfl];refine⟨.inl true,rfl,?_⟩;simp only[zZ];symm
   rw[List.any_eq_true];exact⟨_,zh hk,by rw[c,d];rfl⟩
  .have d:(q.L[k].At==w)=false:=by simpa using d
   left;rw[d,za (by decide),n9];exact⟨rfl,by simp[d]⟩
 .have c:(q.L[k].Kind==2)=false:=by simpa using c
  left;rw[c,za (by decide),n9];exact⟨rfl,by simp[c]⟩
def ZZ(t:g6):Gb:=⟨t.Kind,t.At,t.Prog⟩
def tqR(q:TQ):qA:=⟨q.L.map ZZ,q.Cap⟩
abbrev Hp:=b9
abbrev wS(x:Hp)(s:b6):Hp:=⟨s,x.Roots,x.b7,x.T,x.Q⟩
abbrev wR(x:Hp)(l:List Int):Hp:=⟨x.S,l,x.b7,x.T,x.Q⟩
abbrev wC(x:Hp)(l:List k8):Hp:=⟨x.S,x.Roots,l,x.T,x.Q⟩
abbrev wT(x:Hp)(t:Tb):Hp:=⟨x.S,x.Roots,x.b7,t,x.Q⟩
abbrev wQ(x:Hp)(q:TQ):Hp:=⟨x.S,x.Roots,x.b7,x.T,q⟩
def jC(l:List k8)(h:Int):Nat:=l.countP λc=>(h != 0)&&(c.Target==h)
def pz(q:TQ):List Int:=(q.L.filter (·.Kind==1)).map (·.At)
def wX(q:TQ)(w:Int):Bool:=q.L.any λt=>t.Kind==2&&t.At==w
def oO(x:Hp):List Int:=nz x.Roots++pz x.Q
noncomputable def lk(x:Hp)(h:Int):Nat:=kK x.S h+own x.T h+T3 (oO x) h
def I0(s:b6)(i:Nat)(c:c8):b6:=⟨⟨s.S.b7.set i c,s.S.Last⟩,s.Serial⟩
theorem W3(s:b6)(i:Nat)(c:c8):(I0 s i c).S.b7.length=s.S.b7.length:=by simp[I0]
theorem L0{s:b6}{i:Nat}(hi:i<s.S.b7.length)(c:c8)(j:Nat):ce (I0 s i c) j=if j=i then c else ce s j:=yG hi _ _ j
theorem SR.I0{s:b6}(hR:SR s){i:Nat}(hi:i<s.S.b7.length){c:c8}(h1:0<=c.State/\c.State<=3/\0<=c.Gen/\c.Gen<=s.S.Last)(h2:¬Th c->KA (oo c.Val))(h3:Th c->AZ s c.Val/\Th (ce s i)/\c.Val.Serial=(ce s i).Val.Serial):SR (I0 s i c):=by
 have key:∀j,Th (ce (Sh.I0 s i c) j)->Th (ce s j)/\(ce (Sh.I0 s i c) j).Val.Serial=(ce s j).Val.Serial:=λj hj=>by
  rw[L0 hi] at hj |-;split at hj
  .rename_i e;subst e;rw[zb rfl];exact (h3 hj).2
  .rename_i e;rw[za e];exact⟨hj,rfl⟩
 refine⟨by rw[W3];exact hR.len,hR.l0,hR.l9,hR.bw,λj hj=>?_,λj hj hn=>?_,λj hj hn=>?_,λj k hj hk a b e=>?_⟩
 .rw[W3] at hj;rw[L0 hi];split;·exact h1
  .exact hR.cell j hj
 .rw[W3] at hj;rw[L0 hi] at hn |-;split at hn
  .rename_i e;rw[zb e];exact h2 hn
  .rename_i e;rw[za e];exact hR.no j hj hn
 .rw[W3] at hj;rw[L0 hi] at hn |-;split at hn
  .rename_i e;rw[zb e];have:=(h3 hn).1;exact⟨this.s1,this.s2,this.st,this.wk,this.p1,this.p2,this.fl⟩
  .rename_i e;rw[za e];have:=hR.ok j hj hn;exact⟨this.s1,this.s2,this.st,this.wk,this.p1,this.p2,this.fl⟩
 .rw[W3] at hj hk;obtain⟨a1,a2⟩:=key j a;obtain⟨b1,b2⟩:=key k b;rw[a2,b2] at e;exact hR.dif j k hj hk a1 b1 e
theorem EI{s:b6}{i:Nat}(hi:i<s.S.b7.length)(c:c8){h:Int}{j:Nat}(hj:j≠i):U6 (I0 s i c) h j↔U6 s h j:=by
 unfold U6;rw[W3,L0 hi,za hj]
theorem xA{s:b6}{i:Nat}(hi:i<s.S.b7.length)(c:c8){h:Int}{j:Nat}(hj:j≠i):At (I0 s i c) h j↔At s h j:=by
 unfold At;rw[W3,L0 hi,za hj]
theorem JF{s:b6}(hR:SR s){i:Nat}(hi:i<s.S.b7.length){c:c8}(hc:c.State≠1)(hR':SR (I0 s i c)):lv (I0 s i c)=(lv s).filter λh=>decide (D7 h≠i):=by
 have hno:∀h,¬At (I0 s i c) h i:=λh q=>by
  have:=q.2.1;rw[L0 hi,zb rfl] at this;exact hc this
 refine Ob hR hR' _ (λh=>?_) (λh j k q q'=>?_)
 .rw[zG];constructor
  .rintro⟨j,hj⟩;have hne:j≠i:=λe=>hno h (e▸hj);have:=(xA hi c hne).1 hj;exact⟨⟨j,this⟩,by rw[this.d.D7 hR];exact hne⟩
  .rintro⟨⟨j,hj⟩,hp⟩;rw[hj.d.D7 hR] at hp;exact⟨j,(xA hi c hp).2 hj⟩
 .have hne:j≠i:=λe=>hno h (e▸q);have q2:=(xA hi c hne).1 q;have:=U6.one hR q2.d q'.d;subst this;rw[L0 hi,za hne]
theorem JO{s:b6}(hR:SR s){i:Nat}(hi:i<s.S.b7.length){c:c8}(hR':SR (I0 s i c)){k:Int}(hk:k∈lv s)(hp:D7 k≠i):ob (I0 s i c) k=ob s k:=by
 have q:=o6 hR hk;rw[E9 hR' ((xA hi c hp).2 q),E9 hR q,L0 hi,za hp]
structure Kn (s s':b6):Prop where
 sr:SR s'
 len:s'.S.b7.length=s.S.b7.length
 lv:lv s'=lv s
 ad:∀k i,U6 s' k i↔U6 s k i
 ob:∀k,k∈Sh.lv s->∃n m,ob s' k=⟨(ob s k).Serial,n,m,(ob s k).Prog,(ob s k).Started,(ob s k).Fields⟩
theorem wo.kn{s s':b6}(hR:SR s)(k:wo s s'):Kn s s':=⟨k.sr,k.len,k.lv,k.ad,λh hh=>by
 obtain⟨n,e⟩:=k.ob h (by have:=H2 hR hh;omega);exact⟨n,_,e⟩⟩
theorem Kn.kK{s s':b6}(k:Kn s s')(h:Int):kK s' h=kK s h:=by
 unfold Sh.kK;rw[k.lv];congr 1;refine zt λx hx=>?_;obtain⟨n,m,e⟩:=k.ob x hx;unfold Sh.outs;rw[e]
structure jJ (x:Hp):Prop where
 sr:SR x.S
 hr:HR x.T
 r6:x.Roots.length=6
 c6:x.b7.length=6
 cap:x.Q.Cap=30
 q30:x.Q.L.length<=30
 tk:∀t∈x.Q.L,0<=t.Prog/\t.Prog<=5/\((t.Kind=1/\t.At∈lv x.S/\(ob x.S t.At).Started=true)\/(t.Kind=2/\0<=t.At/\t.At<=5))
 td:x.Q.L.Pairwise λa b=>¬(a.Kind=b.Kind/\a.At=b.At)
 rt:∀h∈x.Roots,h=0\/h∈lv x.S
 fl:∀h∈lv x.S,∀v∈(ob x.S h).Fields,v=0\/v∈lv x.S
 pr:∀k v,Has x.T k v->k∈lv x.S/\v∈lv x.S
 cl:∀i (hi:i<x.b7.length),-1<=x.b7[i].Call/\x.b7[i].Call<=5/\(x.b7[i].Target=0->x.b7[i].Intact=false)/\(x.b7[i].Target≠0->∃p,U6 x.S x.b7[i].Target p)/\(x.b7[i].Intact=true->x.b7[i].Target∈lv x.S/\wX x.Q i=false)
def Wk(x:Hp):Prop:=∀i,i<x.S.S.b7.length->Th (ce x.S i)->(ce x.S i).Val.Weak=(jC x.b7 (1+(i:Int)+32*(ce x.S i).Gen):Int)/\((ce x.S i).State=2->1<=(ce x.S i).Val.Weak/\(ce x.S i).Val.Fields = []/\(ce x.S i).Val.Strong=0)
def aO(x:Hp)(L:List Int):Prop:=∀h∈lv x.S,(ob x.S h).Strong<12->(ob x.S h).Strong=((lk x h+T3 L h:Nat):Int)
structure K6 (x:Hp):Prop where
 sh:jJ x
 wk:Wk x
 fair:aO x []
theorem jJ.of{x:Hp}(h:jJ x){s':b6}(hS:SR s')(hl:lv s'=lv x.S)(hd:∀k i,U6 x.S k i->U6 s' k i)(hst:∀k∈lv x.S,(ob x.S k).Started=true->(ob s' k).Started=true)(hfl:∀k∈lv x.S,∀v∈(ob s' k).Fields,v=0\/v∈lv x.S):jJ (wS x s'):=by
 refine⟨hS,h.hr,h.r6,h.c6,h.cap,h.q30,λt ht=>?_,h.td,λk hk=>?_,λk hk=>?_,λk v hkv=>?_,λi hi=>?_⟩
 .obtain⟨a,b,c⟩:=h.tk t ht;refine⟨a,b,?_⟩;rcases c with ⟨c1,c2,c3⟩ | c;·exact .inl ⟨c1,by rw[hl];exact c2,hst _ c2 c3⟩
  .exact .inr c
 .dsimp only;rw[hl];exact h.rt k hk
 .dsimp only at hk |-;rw[hl] at hk |-;exact hfl k hk
 .dsimp only;rw[hl];exact h.pr k v hkv
 .obtain⟨a,b,c,d,e⟩:=h.cl i hi;refine⟨a,b,c,λq=>?_,λq=>?_⟩
  .obtain⟨p,hp⟩:=d q;exact⟨p,hd _ _ hp⟩
  .dsimp only;rw[hl];exact e q
theorem jJ.kn{x:Hp}(h:jJ x){s':b6}(k:Kn x.S s'):jJ (wS x s'):=by
 refine h.of k.sr k.lv (λj i q=>(k.ad j i).2 q) (λj hj q=>?_) (λj hj=>?_)
 .obtain⟨n,m,e⟩:=k.ob j hj;rw[e];exact q
 .obtain⟨n,m,e⟩:=k.ob j hj;rw[e];exact h.fl j hj
theorem jJ.xe{x:Hp}(h:jJ x){s':b6}(k:wo x.S s'):jJ (wS x s'):=h.kn (k.kn h.sr)
theorem Wk.xe{x:Hp}(h:Wk x){s':b6}(k:wo x.S s'):Wk (wS x s'):=by
 intro i hi ht;dsimp only at hi ht |-;rw[k.len] at hi;obtain⟨a,b,c,d,e⟩:=k.ce i hi;unfold Th at ht;rw[a] at ht;obtain⟨f,g⟩:=h i hi ht;rw[a,b,c];refine⟨f,λq=>?_⟩;have e':=e (by omega);rw[<-c,e'];exact g q
theorem jJ.roots{x:Hp}(h:jJ x){l:List Int}(hl:l.length=6)(hr:∀v∈l,v=0\/v∈lv x.S):jJ (wR x l):=⟨h.sr,h.hr,hl,h.c6,h.cap,h.q30,h.tk,h.td,hr,h.fl,h.pr,h.cl⟩
theorem jJ.table{x:Hp}(h:jJ x){t:Tb}(hr:HR t)(hp:∀k v,Has t k v->k∈lv x.S/\v∈lv x.S):jJ (wT x t):=⟨h.sr,hr,h.r6,h.c6,h.cap,h.q30,h.tk,h.td,h.rt,h.fl,hp,h.cl⟩
def Z7(c:Int):Int:=if 12<=c then 12 else if c<0 then 1 else c+1
def lD(c:Int):Int:=if 12<=c then 12 else if c<1 then c else c-1
theorem E7{c:Int}(h:0<=c):0<=Z7 c:=by unfold Z7;split <;> (try split) <;> omega
theorem Q0{c:Int}(h:0<=c):0<=lD c:=by unfold lD;split <;> (try split) <;> omega
noncomputable def uO(x:Hp)(h:Int)(f:Int->Int):Hp:=if h∈lv x.S then wS x (df x.S h (Bz (ob x.S h) (f (ob x.S h).Strong))) else x
noncomputable def E8(x:Hp)(h:Int):Hp:=uO x h Z7
noncomputable def aK(x:Hp)(h:Int):Hp:=uO x h lD
theorem AE(x:Hp)(h:Int)(f:Int->Int):uO x h f=wS x (uO x h f).S:=by
 unfold uO;split <;> rfl
theorem pS(x:Hp)(h:Int):E8 x h=wS x (E8 x h).S:=AE x h Z7
theorem Wx(x:Hp)(h:Int):aK x h=wS x (aK x h).S:=AE x h lD
section
variable{x:Hp}(hR:SR x.S)(h:Int){f:Int->Int}(hf:∀c,0<=c->0<=f c)
include hR hf
theorem I1:wo x.S (uO x h f).S:=by
 unfold uO;split
 .rename_i q;exact RL hR q (hf _ (K5 hR q).st)
 .exact wo.refl hR
theorem wc{k:Int}(hk:k∈lv x.S):(ob (uO x h f).S k).Strong=if k=h then f (ob x.S k).Strong else (ob x.S k).Strong:=by
 unfold uO;split
 .rename_i q;dsimp only;have ho:AZ x.S (Bz (ob x.S h) (f (ob x.S h).Strong)):=by
   have:=K5 hR q;exact⟨this.s1,this.s2,hf _ this.st,this.wk,this.p1,this.p2,this.fl⟩
  rw[gw (o:=Bz (ob x.S h) (f (ob x.S h).Strong)) hR q rfl ho (by have:=H2 hR hk;omega)];split;·rename_i e;subst e;rfl
  .rfl
 .rename_i q;rw[za];intro e;subst e;exact q hk
theorem xO(k:Int):lk (uO x h f) k=lk x k:=by
 rw[AE];unfold lk oO;dsimp only;rw[(I1 hR h hf).kK hR]
end
theorem jJ.st{x:Hp}(h:jJ x)(k:Int){f:Int->Int}(hf:∀c,0<=c->0<=f c):jJ (uO x k f):=by
 rw[AE];exact h.xe (I1 h.sr k hf)
theorem Wk.st{x:Hp}(h:Wk x)(hR:SR x.S)(k:Int){f:Int->Int}(hf:∀c,0<=c->0<=f c):Wk (uO x k f):=by
 rw[AE];exact h.xe (I1 hR k hf)
theorem I2(h:Int):T3 [] h=0:=by unfold T3;split <;> rfl
theorem I5(v:Int)(L:List Int)(h:Int):T3 (v::L) h=T3 L h+if v=h/\h≠0 then 1 else 0:=by
 unfold T3;by_cases h0:h=0
 .simp[h0]
 .rw[za h0,za h0,zcr];by_cases e:v=h
  .simp[e,h0]
  .simp[e]
theorem Gj{x:Hp}(hR:SR x.S){L:List Int}(hf:aO x L)(v:Int):aO (E8 x v) (v::L):=by
 intro h hh hlt;unfold E8 at hh hlt |-;rw[(I1 hR v λc=>E7).lv] at hh;rw[wc hR v (λc=>E7) hh] at hlt |-;rw[xO hR v λc=>E7,I5];have h0:h≠0:=λe=>eZ hR (e▸hh);have hp:=(K5 hR hh).st;by_cases e:h=v
 .subst e;rw[zb rfl] at hlt |-;have:=hf h hh (by unfold Z7 at hlt;split at hlt <;> omega);rw[zb ⟨rfl,h0⟩];unfold Z7 at hlt |-;split at hlt;·omega
  .rename_i q;rw[za q,za (by omega)];omega
 .rw[za e] at hlt |-;rw[za (λq=>e q.1.symm)];exact hf h hh hlt
theorem uG{x:Hp}(hR:SR x.S){L:List Int}{v:Int}(hf:aO x (v::L)):aO (aK x v) L:=by
 intro h hh hlt;unfold aK at hh hlt |-;rw[(I1 hR v λc=>Q0).lv] at hh;rw[wc hR v (λc=>Q0) hh] at hlt |-;rw[xO hR v λc=>Q0];have h0:h≠0:=λe=>eZ hR (e▸hh);have hp:=(K5 hR hh).st;by_cases e:h=v
 .subst e;rw[zb rfl] at hlt |-;have:=hf h hh (by unfold lD at hlt;split at hlt <;> omega);rw[I5,zb ⟨rfl,h0⟩] at this;unfold lD at hlt |-;split at hlt;·omega
  .rename_i q;rw[za q,za (by omega)];omega
 .rw[za e] at hlt |-;have:=hf h hh hlt;rw[I5,za (λq=>e q.1.symm)] at this;exact this
theorem aO.mv{x x':Hp}{L L':List Int}(hf:aO x L)(hl:lv x'.S=lv x.S)(hs:∀h∈lv x.S,(ob x'.S h).Strong=(ob x.S h).Strong)(hn:∀h∈lv x.S,lk x' h+T3 L' h=lk x h+T3 L h):aO x' L':=by
 intro h hh hlt;rw[hl] at hh;rw[hs h hh] at hlt |-;rw[hf h hh hlt,hn h hh]
theorem xR:∀ {l:List Int} {r:Nat} (hr:r<l.length) (h k:Int),T3 (l.set r h) k+T3 [l.getD r 0] k=T3 l k+T3 [h] k
 | [],_,hr,_,_=>by simp at hr
 | a::l,0,_,h,k=>by
  rw[List.set_cons_zero,List.getD_cons_zero,I5 h l,I5 a l,I5 a [],I5 h [],I2];omega
 | a::l,r+1,hr,h,k=>by
  rw[List.set_cons_succ,List.getD_cons_succ,I5 a,I5 a l];have:=xR (l:=l) (r:=r) (by simpa using hr) h k;omega
theorem sI{x x1:Hp}(hx:K6 x){old new:Int}(h1:jJ (E8 x new)->Wk (E8 x new)->jJ x1/\Wk x1)
  (hl:lv x1.S=lv (E8 x new).S)(hs:∀h∈lv x.S,(ob x1.S h).Strong=(ob (E8 x new).S h).Strong)(hn:∀h∈lv x.S,lk x1 h+T3 [old] h=lk x h+T3 [new] h):K6 (aK x1 old):=by
 have l1:lv (E8 x new).S=lv x.S:=(I1 hx.sh.sr new λc=>E7).lv;have f1:aO (E8 x new) [new]:=Gj hx.sh.sr hx.fair new;obtain⟨h2,w2⟩:=h1 (hx.sh.st new λc=>E7) (hx.wk.st hx.sh.sr new λc=>E7);have f2:aO x1 [old]:=f1.mv hl (λh hh=>hs h (l1▸hh)) λh hh=>by
  rw[hn h (l1▸hh)];unfold E8;rw[xO hx.sh.sr new λc=>E7]
 exact⟨h2.st _ λc=>Q0,w2.st h2.sr _ λc=>Q0,uG h2.sr f2⟩
noncomputable def G6(x:Hp)(r:Nat)(h:Int):Hp:=aK (wR (E8 x h) (x.Roots.set r h)) (x.Roots.getD r 0)
theorem bX{x:Hp}(hx:K6 x){r:Nat}(hr:r<6){h:Int}(hh:h=0\/h∈lv x.S):K6 (G6 x r h):=by
 have l1:lv (E8 x h).S=lv x.S:=(I1 hx.sh.sr h λc=>E7).lv;refine sI hx (λa b=>⟨a.roots (by rw[zal];exact hx.sh.r6) (λv hv=>?_),b⟩) rfl (λ_ _=>rfl) (λk hk=>?_)
 .rw[l1];rcases zau hv with q | q
  .exact hx.sh.rt v q
  .exact q▸hh
 .have hi:=(I1 hx.sh.sr h λc=>E7).kK hx.sh.sr k;rw[pS];unfold lk oO;dsimp only;rw[show kK (E8 x h).S k=kK x.S k from hi,G2,G2,qg,qg];have:=xR (l:=x.Roots) (r:=r) (by rw[hx.sh.r6];exact hr) h k;omega
theorem Kr{α:Type}:∀ {l:List α} (hn:l.Nodup) {a:α} (ha:a∈l) (f g:α->Nat) (h:∀x∈l,x≠a->f x=g x),(l.map g).sum+f a=(l.map f).sum+g a
 | [],_,_,ha,_,_,_=>by cases ha
 | b::l,hn,a,ha,f,g,h=>by
  rw[me] at hn;rw[zT,zT,zbe,zbe];rcases zM.1 ha with e | e
  .subst e;have:l.map g=l.map f:=zt λx hx=>(h x (zn _ hx) λe=>hn.1 (e▸hx)).symm;rw[this];omega
  .have:=Kr hn.2 e f g λx hx=>h x (zn _ hx);have:=h b (zg ..) λq=>hn.1 (q▸e);omega
abbrev rX(o:n0)(l:List Int):n0:=⟨o.Serial,o.Strong,o.Weak,o.Prog,o.Started,l⟩
theorem Jv{s:b6}(hR:SR s){h:Int}(hh:h∈lv s){o:n0}(hs:o.Serial=(ob s h).Serial)(ho:AZ s o)(y:Int):kK (df s h o) y+T3 (ob s h).Fields y=kK s y+T3 o.Fields y:=by
 have hle:=H2 hR hh;have:=Kr (tX (z8.2 hR)) hh (λx=>T3 (outs s x) y) (λx=>T3 (outs (df s h o) x) y) λx hx hne=>by
  have:=H2 hR hx;unfold outs;rw[gw hR hh hs ho (by omega),za hne]
 have e:T3 (outs (df s h o) h) y=T3 o.Fields y:=by
  unfold outs;rw[gw hR hh hs ho (by omega),zb rfl,qg]
 have e2:T3 (outs s h) y=T3 (ob s h).Fields y:=qg _ _;rw[e,e2] at this;unfold kK;rw[iV hR hh hs ho];exact this
noncomputable def bP(x:Hp)(h:Int)(k:Nat)(v:Int):Hp:=aK (wS (E8 x v) (df (E8 x v).S h (rX (ob (E8 x v).S h) ((ob x.S h).Fields.set k v)))) ((ob x.S h).Fields.getD k 0)
theorem CZ{x:Hp}(hx:K6 x){h:Int}(hh:h∈lv x.S){k:Nat}(hk:k<(ob x.S h).Fields.length){v:Int}(hv:v=0\/v∈lv x.S):K6 (bP x h k v):=by
 have xe:=I1 hx.sh.sr v (f:=Z7) λc=>E7;have l1:lv (E8 x v).S=lv x.S:=xe.lv;have hR1:SR (E8 x v).S:=xe.sr;have hh1:h∈lv (E8 x v).S:=by rw[l1];exact hh
 have hle:=H2 hx.sh.sr hh;have hof:(ob (E8 x v).S h).Fields=(ob x.S h).Fields:=by
  obtain⟨n,e⟩:=xe.ob h (by omega);show (ob (uO x v Z7).S h).Fields=_;rw[e]
 have ho:AZ (E8 x v).S (rX (ob (E8 x v).S h) ((ob x.S h).Fields.set k v)):=by
  have:=K5 hR1 hh1;refine⟨this.s1,this.s2,this.st,this.wk,this.p1,this.p2,?_⟩;have h4:=this.fl;rw[hof] at h4;simpa using h4
 have hob:∀j,j∈lv x.S->ob (df (E8 x v).S h (rX (ob (E8 x v).S h) ((ob x.S h).Fields.set k v))) j=if j=h then rX (ob (E8 x v).S h) ((ob x.S h).Fields.set k v) else ob (E8 x v).S j:=λj hj=>by
  have:=H2 hx.sh.sr hj;exact gw (o:=rX (ob (E8 x v).S h) ((ob x.S h).Fields.set k v)) hR1 hh1 rfl ho (by omega)
 refine sI hx (λa b=>⟨?_,?_⟩) (iV (o:=rX (ob (E8 x v).S h) ((ob x.S h).Fields.set k v)) hR1 hh1 rfl ho) (λj hj=>?_) (λj hj=>?_)
 .refine a.of (bZ (o:=rX (ob (E8 x v).S h) ((ob x.S h).Fields.set k v)) hR1 hh1 rfl ho) (iV (o:=rX (ob (E8 x v).S h) ((ob x.S h).Fields.set k v)) hR1 hh1 rfl ho) (λj i q=>(Ea (o:=rX (ob (E8 x v).S h) ((ob x.S h).Fields.set k v)) hR1 hh1 rfl ho).2 q) (λj hj q=>?_) (λj hj u hu=>?_)
  .rw[hob j (l1▸hj)];split;·rename_i e;subst e;exact q
   .exact q
  .rw[hob j (l1▸hj)] at hu;split at hu
   .rename_i e;subst e;rcases zau hu with q | q
    .exact a.fl j hj u (by rw[hof];exact q)
    .rw[l1,q];exact hv
   .exact a.fl j hj u hu
 .intro i hi ht;dsimp only at hi ht |-;have hp:=o6 hR1 hh1;unfold df at hi;rw[K0] at hi;have hce:=AA (o:=rX (ob (E8 x v).S h) ((ob x.S h).Fields.set k v)) hR1 hh1 rfl ho i;rw[hce] at ht |-;split at ht
  .rename_i e;subst e;rw[zb rfl];have:=b _ hp.1 (.inl hp.2.1);dsimp only;refine⟨?_,λq=>absurd q (by rw[hp.2.1];decide)⟩;rw[<-this.1,E9 hR1 hp]
  .rename_i e;rw[za e];exact b i hi ht
 .rw[hob j hj];split;·rename_i e;subst e;rfl
  .rfl
 .have hi:=Jv (o:=rX (ob (E8 x v).S h) ((ob x.S h).Fields.set k v)) hR1 hh1 rfl ho j;have hi2:=xe.kK hx.sh.sr j;have hi2:kK (E8 x v).S j=kK x.S j:=hi2;rw[hi2,hof] at hi;dsimp only at hi;have:=xR hk v j;have hrest:E8 x v=wS x (E8 x v).S:=pS x v;unfold lk oO;dsimp only;rw[show (E8 x v).T=x.T by rw[hrest],show (E8 x v).Roots=x.Roots by rw[hrest],show (E8 x v).Q=x.Q by rw[hrest]];omega
theorem OT{t:Tb}(hT:HR t){k v:Int}{r:Tb × Int × Int}(h:V1 t k v=some r)(h0:r.2.2=0):HR r.1/\(∀y,own r.1 y+T3 [r.2.1] y=own t y+T3 [v] y)/\∀k' v',Has r.1 k' v'->Has t k' v'\/(k'=k/\v'=v/\v≠0):=by
 obtain⟨r',e1,e2,_,e3⟩:=dU hT k v;rw[h] at e1;cases e1;refine⟨e2,?_⟩;have hos:∀(i:Nat) (p:g5) (y:Int),i<t.length->own (t.set i p) y+(if (pt t i).State=1/\(pt t i).Val=y/\y≠0 then 1 else 0)=own t y+if p.State=1/\p.Val=y/\y≠0 then 1 else 0:=λi p y hi=>by
  have key:∀q:g5,(if ((q.State==1)&&((y != 0)&&(q.Val==y)))=true then 1 else 0:Nat)=if q.State=1/\q.Val=y/\y≠0 then 1 else 0:=λq=>by
   by_cases c:q.State=1/\q.Val=y/\y≠0
   .rw[zb c,zb (by simp[c.1,c.2.1,c.2.2])]
   .rw[za c,za (by simp only[zy,pu,bne_iff_ne,ne_eq];exact λq=>c ⟨q.1,q.2.2,q.2.1⟩)]
  have:=JU hi p y;rw[key,key] at this;exact this
 rcases e3 with ⟨_,rfl⟩ | ⟨hk,hv,⟨i,hi,rfl⟩ | ⟨hn,rfl⟩⟩ | ⟨hk,hv,⟨i,hi,rfl⟩ | ⟨d,hn,hd,hf,hp,rfl⟩ | ⟨hn,ha,rfl⟩⟩;·simp at h0
 .refine⟨λy=>?_,λk' v' q=>.inl ((tq hT hi k' v').1 q).2⟩;have:=hos i ⟨2,0,0⟩ y hi.1;rw[I5,I5,I2];subst hv;dsimp only at this |-;rw[za (show ¬((2:Int)=1/\(0:Int)=y/\y≠0) by omega)] at this;rw[za (show ¬((0:Int)=y/\y≠0) by omega)];simp only[hi.2.1,true_and] at this;omega
 .refine⟨λy=>?_,λk' v' q=>.inl q⟩;rw[hv]
 .refine⟨λy=>?_,λk' v' q=>?_⟩
  .have:=hos i ⟨1,k,v⟩ y hi.1;rw[I5,I5,I2];simp only[hi.2.1,true_and] at this;dsimp only;omega
  .rcases (xG hT (.old i hi) rfl k' v').1 q with ⟨a,b⟩ | ⟨_,b⟩;·exact .inr ⟨a,b,hv⟩
   .exact .inl b
 .refine⟨λy=>?_,λk' v' q=>?_⟩
  .have:=hos d ⟨1,k,v⟩ y hd;rw[I5,I5,I2];dsimp only;rw[za (show ¬((0:Int)=y/\y≠0) by omega)];simp only[hf,false_and,true_and,un] at this;omega
  .rcases (xG hT hp rfl k' v').1 q with ⟨a,b⟩ | ⟨_,b⟩;·exact .inr ⟨a,b,hv⟩
   .exact .inl b
 .simp at h0
noncomputable def ja(x:Hp)(v:Int)(t:Tb)(old:Int):Hp:=aK (wT (E8 x v) t) old
theorem FO{x:Hp}(hx:K6 x){k v:Int}(hk:k∈lv x.S)(hv:v=0\/v∈lv x.S){r:Tb × Int × Int}(h:V1 x.T k v=some r)(h0:r.2.2=0):K6 (ja x v r.1 r.2.1):=by
 have xe:=I1 hx.sh.sr v (f:=Z7) λc=>E7;have l1:lv (E8 x v).S=lv x.S:=xe.lv;obtain⟨p1,p2,p3⟩:=OT hx.sh.hr h h0;refine sI hx (λa b=>⟨a.table p1 λk' v' q=>?_,b⟩) rfl (λ_ _=>rfl) (λj hj=>?_)
 .rw[l1];rcases p3 k' v' q with q | ⟨rfl,rfl,hne⟩
  .exact hx.sh.pr k' v' q
  .exact⟨hk,hv.resolve_left hne⟩
 .have hi2:kK (E8 x v).S j=kK x.S j:=xe.kK hx.sh.sr j;have hrest:E8 x v=wS x (E8 x v).S:=pS x v;unfold lk oO;dsimp only;rw[show (E8 x v).Roots=x.Roots by rw[hrest],show (E8 x v).Q=x.Q by rw[hrest],hi2];have:=p2 j;omega
instance(s:b6)(h:Int)(i:Nat):Decidable (U6 s h i):=by unfold U6;infer_instance
abbrev YZ(o:n0)(n:Int):n0:=⟨o.Serial,o.Strong,n,o.Prog,o.Started,o.Fields⟩
def mi(s:b6)(i:Nat)(d:Int):b6:=fV s i (YZ (ce s i).Val ((ce s i).Val.Weak+d))
def Ew(s:b6)(i:Nat):b6:=I0 s i (if (ce s i).Gen=s.S.Last then ⟨3,(ce s i).Gen,z0⟩ else ⟨0,(ce s i).Gen+1,z0⟩)
def cu(s:b6)(i:Nat):Int:=1+(i:Int)+32*(ce s i).Gen
theorem xx{s:b6}{i:Nat}(hi:i<s.S.b7.length)(ht:Th (ce s i)):U6 s (cu s i) i:=⟨hi,ht,rfl⟩
theorem tN{s:b6}(hR:SR s){i:Nat}(hi:i<s.S.b7.length):1<=cu s i:=by
 have:=hR.cell i hi;unfold cu;omega
section
variable{s:b6}(hR:SR s){i:Nat}(hi:i<s.S.b7.length)(ht:Th (ce s i))
include hR hi ht
theorem vD{d:Int}(hd:0<=(ce s i).Val.Weak+d):SR (mi s i d):=by
 have:=hR.ok i hi ht;exact hR.put hi ht rfl ⟨this.s1,this.s2,this.st,hd,this.p1,this.p2,this.fl⟩
theorem fh(d:Int)(j:Nat):ce (mi s i d) j=if j=i then ⟨(ce s i).State,(ce s i).Gen,YZ (ce s i).Val ((ce s i).Val.Weak+d)⟩ else ce s j:=ni hi _ j
theorem nA{d:Int}(hd:0<=(ce s i).Val.Weak+d):Kn s (mi s i d):=by
 have hS:=vD hR hi ht hd;refine⟨hS,K0 ..,Oa hR hi rfl hS,λk j=>xy hi _,λk hk=>?_⟩;have q:=o6 hR hk;rw[E9 hS ((yk hi _).2 q),E9 hR q,fh hR hi ht];split
 .rename_i e;rw[e];exact⟨_,_,rfl⟩
 .exact⟨_,_,rfl⟩
theorem nB{d:Int}(hd:0<=(ce s i).Val.Weak+d){k:Int}(hk:k∈lv s):(ob (mi s i d) k).Strong=(ob s k).Strong:=by
 have hS:=vD hR hi ht hd;have q:=o6 hR hk;rw[E9 hS ((yk hi _).2 q),E9 hR q,fh hR hi ht];split
 .rename_i e;rw[e]
 .rfl
omit ht in
theorem Dh:SR (Ew s i):=by
 have hc:=hR.cell i hi;have no:KA (oo z0):=⟨rfl,rfl,rfl,rfl,rfl,rfl⟩;unfold Ew;split;·exact hR.I0 hi ⟨by simp,by simp,hc.2.2.1,hc.2.2.2⟩ (λ_=>no) (λq=>absurd q (by unfold Th;simp))
 .refine hR.I0 hi ⟨by simp,by simp,?_,?_⟩ (λ_=>no) (λq=>absurd q (by unfold Th;simp));·show 0<=(ce s i).Gen+1;omega
  .show (ce s i).Gen+1<=s.S.Last;omega
omit hR ht in
theorem De:∃c,(c.State=0\/c.State=3)/\Ew s i=I0 s i c/\∀j,ce (Ew s i) j=if j=i then c else ce s j:=by
 unfold Ew;split;·exact⟨_,.inr rfl,rfl,λj=>L0 hi _ j⟩
 .exact⟨_,.inl rfl,rfl,λj=>L0 hi _ j⟩
omit ht in
theorem Df (h2:(ce s i).State=2):lv (Ew s i)=lv s:=by
 obtain⟨c,c1,c2,_⟩:=De (s:=s) hi;have hS:=Dh hR hi;rw[c2] at hS |-;rw[JF hR hi (by omega) hS,zbm];intro h hh;rw[zG];intro e;have:=(o6 hR hh).2.1;rw[e] at this;omega
omit ht in
theorem Dg (h2:(ce s i).State=2) {k:Int} (hk:k∈lv s):ob (Ew s i) k=ob s k:=by
 obtain⟨c,c1,c2,_⟩:=De (s:=s) hi;have hS:=Dh hR hi;rw[c2] at hS |-;refine JO hR hi hS hk λe=>?_;have:=(o6 hR hk).2.1;rw[e] at this;omega
omit ht in
theorem Vg {k:Int} {j:Nat}:U6 (Ew s i) k j↔U6 s k j/\j≠i:=by
 obtain⟨c,c1,c2,c3⟩:=De (s:=s) hi;by_cases e:j=i
 .subst e;constructor
  .rintro⟨_,h,_⟩;rw[c3,zb rfl] at h;unfold Th at h;omega
  .rintro⟨_,h⟩;exact absurd rfl h
 .rw[c2,EI hi c e];simp[e]
theorem RC(h2:(ce s i).State=2)(y:Int):kK (Ew s i) y=kK s y:=by
 unfold kK;rw[Df hR hi h2];congr 1;refine zt λx hx=>?_;unfold outs;rw[Dg hR hi h2 hx]
end
def iN(x:Hp)(h:Int)(d:Int):Hp:=if U6 x.S h (D7 h) then wS x (mi x.S (D7 h) d) else x
def qh(x:Hp)(h:Int):Hp:=
 if U6 x.S h (D7 h) then
  (if (ce x.S (D7 h)).State=2/\(ce x.S (D7 h)).Val.Weak=1 then wS x (Ew (mi x.S (D7 h) (-1)) (D7 h)) else wS x (mi x.S (D7 h) (-1)))
 else x
abbrev fP(h call:Int):k8:=⟨h,h != 0,call⟩
def mO(x:Hp)(w:Nat):Int:=(x.b7.getD w ⟨0,false,0⟩).Target
def cT(x:Hp)(w:Nat)(h call:Int):Hp:=qh (iN (wC x (x.b7.set w (fP h call))) h 1) (mO x w)
theorem JL{l:List k8}{w:Nat}(hw:w<l.length)(c:k8){k:Int}(hk:k≠0):jC (l.set w c) k+(if l[w].Target=k then 1 else 0)=jC l k+if c.Target=k then 1 else 0:=by
 unfold jC;rw[List.countP_set hw];have e:∀d:k8,(((k != 0)&&(d.Target==k))=true)=(d.Target=k):=λd=>by simp[hk]
 simp only[e];have:(if l[w].Target=k then 1 else 0)<=l.countP λc=>(k != 0)&&(c.Target==k):=by
  split
  .rename_i q;exact zbw.2 ⟨l[w],zh hw,by simp[q,hk]⟩
  .exact zW _
 omega
theorem uk{l:List k8}{i:Nat}(hi:i<l.length)(h0:l[i].Target≠0):0<jC l l[i].Target:=zbw.2 ⟨l[i],zh hi,by simp[h0]⟩
theorem wO{x:Hp}(hx:K6 x){w:Nat}(hw:w<6){h call:Int}(hh:h=0\/h∈lv x.S)(hc : -1<=call/\call<=5)(hq:wX x.Q w=false):K6 (cT x w h call):=by
 have hR:=hx.sh.sr;have hwl:w<x.b7.length:=by rw[hx.sh.c6];exact hw
 have htg:mO x w=x.b7[w].Target:=by
  unfold mO;rw[zd,zc hwl];rfl
 have s1:jJ (wC x (x.b7.set w (fP h call))):=by
  have:=hx.sh;refine⟨this.sr,this.hr,this.r6,by simpa using this.c6,this.cap,this.q30,this.tk,this.td,this.rt,this.fl,this.pr,λi hi=>?_⟩;dsimp only at hi |-;rw[zcq];rw[zal] at hi;split
  .rename_i e;subst e;dsimp only;refine⟨hc.1,hc.2,λq=>by simp[q],λq=>?_,λq=>?_⟩;·exact⟨_,(o6 hR (hh.resolve_left q)).d⟩
   .have q:h≠0:=by simpa using q
    exact⟨hh.resolve_left q,hq⟩
  .exact this.cl i hi
 have k2:∃s2,iN (wC x (x.b7.set w (fP h call))) h 1=wS (wC x (x.b7.set w (fP h call))) s2/\Kn x.S s2/\(∀k∈lv x.S,(ob s2 k).Strong=(ob x.S k).Strong) /\
   ∀i,i<x.S.S.b7.length->(ce s2 i).State=(ce x.S i).State/\(ce s2 i).Gen=(ce x.S i).Gen/\(ce s2 i).Val.Fields=(ce x.S i).Val.Fields/\(ce s2 i).Val.Strong=(ce x.S i).Val.Strong/\(Th (ce x.S i)->(ce s2 i).Val.Weak=(ce x.S i).Val.Weak+if h=cu x.S i then 1 else 0):=by
  unfold iN;rcases hh with h0 | hh
  .have hno:¬U6 x.S h (D7 h):=λq=>by have:=q.LR hR;omega
   rw[za hno];refine⟨x.S,rfl,(wo.refl hR).kn hR,λ_ _=>rfl,λi hi=>⟨rfl,rfl,rfl,rfl,λht=>?_⟩⟩;have:=tN hR hi;rw[za (by omega)];omega
  .have hp:=o6 hR hh;have hwk:=(hR.ok _ hp.1 (.inl hp.2.1)).wk;rw[zb hp.d];refine⟨_,rfl,nA hR hp.1 (.inl hp.2.1) (by omega),λk hk=>nB hR hp.1 (.inl hp.2.1) (by omega) hk,λi hi=>?_⟩;rw[fh hR hp.1 (.inl hp.2.1)];split
   .rename_i e;subst e;refine⟨rfl,rfl,rfl,rfl,λ_=>?_⟩;rw[zb (show h=cu x.S (D7 h) from hp.2.2)]
   .rename_i e;refine⟨rfl,rfl,rfl,rfl,λht=>?_⟩;rw[za];·omega
    .intro q;exact e (U6.one hR (q▸xx hi ht) hp.d)
 obtain⟨s2,e2,kn2,st2,ce2⟩:=k2;have hR2:=kn2.sr;have len2:=kn2.len;have hS2:jJ (wS (wC x (x.b7.set w (fP h call))) s2):=s1.kn kn2;have hdl2:∀i,i<x.S.S.b7.length->cu s2 i=cu x.S i:=λi hi=>by unfold cu;rw[(ce2 i hi).2.1]
 have th2:∀i,i<x.S.S.b7.length->(Th (ce s2 i)↔Th (ce x.S i)):=λi hi=>by unfold Th;rw[(ce2 i hi).1]
 have wk2:∀i,i<x.S.S.b7.length->Th (ce x.S i)->(ce s2 i).Val.Weak=(jC (x.b7.set w (fP h call)) (cu x.S i):Int)+if mO x w=cu x.S i then 1 else 0:=λi hi ht=>by
  have h0:cu x.S i≠0:=by have:=tN hR hi;omega
  have:=JL hwl (fP h call) h0;rw[(ce2 i hi).2.2.2.2 ht,(hx.wk i hi ht).1,htg];dsimp only at this;unfold cu at this |-;by_cases a:h=1+(i:Int)+32*(ce x.S i).Gen <;> by_cases b:x.b7[w].Target=1+(i:Int)+32*(ce x.S i).Gen
  .rw[zb a,zb b] at *;omega
  .rw[zb a,za b] at *;omega
  .rw[za a,zb b] at *;omega
  .rw[za a,za b] at *;omega
 have dd2:∀i,i<x.S.S.b7.length->(ce s2 i).State=2->(ce s2 i).Val.Fields = []/\(ce s2 i).Val.Strong=0:=λi hi q=>by
  obtain⟨a,_,b,c,_⟩:=ce2 i hi;rw[a] at q;rw[b,c];exact ((hx.wk i hi (.inr q)).2 q).2
 have nms2:∀k,lk (wS (wC x (x.b7.set w (fP h call))) s2) k=lk x k:=λk=>by
  unfold lk oO;dsimp only;rw[kn2.kK]
 have fair2:aO (wS (wC x (x.b7.set w (fP h call))) s2) []:=hx.fair.mv kn2.lv st2 λk _=>by rw[nms2]
 unfold cT;rw[e2];unfold qh;dsimp only;by_cases hold:mO x w=0
 .have hno:¬U6 s2 (mO x w) (D7 (mO x w)):=λq=>by have:=q.LR hR2;omega
  rw[za hno];refine⟨hS2,λi hi ht=>?_,fair2⟩;dsimp only at hi ht |-;rw[len2] at hi;have ht':=(th2 i hi).1 ht;have h0:=tN hR hi;have hw2:=wk2 i hi ht';rw[za (by omega)] at hw2;rw[show (1+(i:Int)+32*(ce s2 i).Gen)=cu x.S i from hdl2 i hi];refine⟨by omega,λq=>⟨?_,dd2 i hi q⟩⟩;have q':(ce x.S i).State=2:=by rw[<-(ce2 i hi).1];exact q
  have:=((hx.wk i hi ht').2 q').1;rw[(ce2 i hi).2.2.2.2 ht'];split <;> omega
 .obtain⟨p,hp⟩:∃p,U6 x.S (mO x w) p:=by
   rw[htg] at hold |-;exact (hx.sh.cl w hwl).2.2.2.1 hold
  have hpp:=hp.D7 hR;have hp2:U6 s2 (mO x w) p:=(kn2.ad _ _).2 hp;have hth:mO x w=cu x.S p:=hp.2.2;rw[hpp,zb hp2];have hpl2:=hp2.1;have hw2:=wk2 p hp.1 hp.2.1;rw[zb hth] at hw2;have hd:0<=(ce s2 p).Val.Weak+(-1):=by omega
  have kn3:=nA hR2 hpl2 hp2.2.1 hd;have hR3:=kn3.sr;have ce3:=fh hR2 hpl2 hp2.2.1 (-1);have hS3:jJ (wS (wC x (x.b7.set w (fP h call))) (mi s2 p (-1))):=hS2.kn kn3;have fair3:aO (wS (wC x (x.b7.set w (fP h call))) (mi s2 p (-1))) []:=fair2.mv kn3.lv (λk hk=>nB hR2 hpl2 hp2.2.1 hd hk) λk _=>by
   unfold lk oO;dsimp only;rw[kn3.kK]
  have wk3:∀i,i<x.S.S.b7.length->Th (ce x.S i)->(ce (mi s2 p (-1)) i).Val.Weak=(jC (x.b7.set w (fP h call)) (cu x.S i):Int):=λi hi ht=>by
   rw[ce3];by_cases e:i=p
   .subst e;rw[zb rfl];dsimp only;omega
   .rw[za e,wk2 i hi ht,za];·omega
    .intro q;exact e (U6.one hR (q▸xx hi ht) hp)
  have cs3:∀i,(ce (mi s2 p (-1)) i).State=(ce s2 i).State/\(ce (mi s2 p (-1)) i).Gen=(ce s2 i).Gen/\(ce (mi s2 p (-1)) i).Val.Fields=(ce s2 i).Val.Fields/\(ce (mi s2 p (-1)) i).Val.Strong=(ce s2 i).Val.Strong:=λi=>by
   rw[ce3];split
   .rename_i e;subst e;exact⟨rfl,rfl,rfl,rfl⟩
   .exact⟨rfl,rfl,rfl,rfl⟩
  by_cases hg:(ce s2 p).State=2/\(ce s2 p).Val.Weak=1
  .-- the slot is given back
   rw[zb hg];have hpl3:p<(mi s2 p (-1)).S.b7.length:=by rw[kn3.len];exact hpl2
   have h23:(ce (mi s2 p (-1)) p).State=2:=by rw[(cs3 p).1];exact hg.1
   have hn0:jC (x.b7.set w (fP h call)) (mO x w)=0:=by rw[hth];omega
   have hlv:=Df hR3 hpl3 h23;have hob:=λk hk=>Dg (k:=k) hR3 hpl3 h23 hk;obtain⟨c,c1,c2,c3⟩:=De (s:=mi s2 p (-1)) hpl3;refine⟨⟨Dh hR3 hpl3,hS3.hr,hS3.r6,hS3.c6,hS3.cap,hS3.q30,λt htt=>?_,hS3.td,λv hv=>?_,λv hv u hu=>?_,λk v hkv=>?_,λi hi=>?_⟩,λi hi ht=>?_,?_⟩
   .obtain⟨a,b,d⟩:=hS3.tk t htt;refine⟨a,b,?_⟩;dsimp only at d |-;rw[hlv];rcases d with ⟨d1,d2,d3⟩ | d;·exact .inl ⟨d1,d2,by rw[hob _ d2];exact d3⟩
    .exact .inr d
   .dsimp only;rw[hlv];exact hS3.rt v hv
   .dsimp only at hv hu |-;rw[hlv] at hv |-;rw[hob _ hv] at hu;exact hS3.fl v hv u hu
   .dsimp only;rw[hlv];exact hS3.pr k v hkv
   .obtain⟨a1,a2,a3,a4,a5⟩:=hS3.cl i hi;refine⟨a1,a2,a3,λq=>?_,λq=>?_⟩
    .obtain⟨j,hj⟩:=a4 q;refine⟨j,(Vg hR3 hpl3).2 ⟨hj,λe=>?_⟩⟩;subst e;have e1:=(kn2.ad _ _).1 ((kn3.ad _ _).1 hj);have e2:(x.b7.set w (fP h call))[i].Target=mO x w:=e1.2.2.trans hp.2.2.symm;have:=uk hi q;dsimp only at this;rw[e2] at this;omega
    .dsimp only;rw[hlv];exact a5 q
   .dsimp only at hi ht |-;rw[show (Ew (mi s2 p (-1)) p).S.b7.length=x.S.S.b7.length by rw[c2,W3,kn3.len,len2]] at hi;rw[c3] at ht |-;split at ht;·unfold Th at ht;omega
    .rename_i e;rw[za e];have ht':Th (ce x.S i):=(th2 i hi).1 (by unfold Th at ht |-;rw[(cs3 i).1] at ht;exact ht);have:=wk3 i hi ht';rw[show (1+(i:Int)+32*(ce (mi s2 p (-1)) i).Gen)=cu x.S i by rw[(cs3 i).2.1];exact hdl2 i hi];refine⟨this,λq=>?_⟩;rw[(cs3 i).1] at q;rw[(cs3 i).2.2.1,(cs3 i).2.2.2,ce3,za e];refine⟨?_,dd2 i hi q⟩;have q':(ce x.S i).State=2:=by rw[<-(ce2 i hi).1];exact q
     have:=((hx.wk i hi ht').2 q').1;rw[(ce2 i hi).2.2.2.2 ht'];split <;> omega
   .refine fair3.mv hlv (λk hk=>by rw[hob k hk]) λk _=>?_;unfold lk oO;dsimp only;rw[RC hR3 hpl3 (.inr h23) h23]
  .rw[za hg];refine⟨hS3,λi hi ht=>?_,fair3⟩;dsimp only at hi ht |-;rw[kn3.len,len2] at hi;have ht':Th (ce x.S i):=(th2 i hi).1 (by unfold Th at ht |-;rw[(cs3 i).1] at ht;exact ht);have:=wk3 i hi ht';rw[show (1+(i:Int)+32*(ce (mi s2 p (-1)) i).Gen)=cu x.S i by rw[(cs3 i).2.1];exact hdl2 i hi];refine⟨this,λq=>?_⟩;rw[(cs3 i).1] at q;rw[(cs3 i).2.2.1,(cs3 i).2.2.2];refine⟨?_,dd2 i hi q⟩;rw[ce3];split
   .rename_i e;subst e;dsimp only;have:(ce s2 i).Val.Weak≠1:=λq2=>hg ⟨q,q2⟩;omega
   .have q':(ce x.S i).State=2:=by rw[<-(ce2 i hi).1];exact q
    have:=((hx.wk i hi ht').2 q').1;rw[(ce2 i hi).2.2.2.2 ht'];split <;> omega
def wcR(c:k8):iw:=⟨c.Target,c.Intact,c.Call⟩
def hO(x:Hp):mG:=⟨sO x.S,x.Roots,x.b7.map wcR,x.T.map eX,tqR x.Q⟩
structure HB (x:Hp):Prop where
 sb:SB x.S
 fb:FB x.S
 rb:LB x.Roots
 cb:∀c∈x.b7,c.Target<=9223372036854775807
 tb:TB x.T
 qb:∀t∈x.Q.L,t.At<=9223372036854775807
theorem Xs{R:Type}{f:Int->Option (Int ⊕ (Bool ⊕ Unit))}{κ:Bool ⊕ Unit->Option R}{Q:R->Prop}(n:Nat)(p:Nat->Prop)(hn:n<4611686018427387904)
  (hs:∀k:Nat,k<n->∃z,f (k:Int)=some z/\((p k/\z = .inl ((k+1:Nat):Int))\/(¬p k/\z = .inr (.inl false))))(he:f (n:Int)=some (.inr (.inr ())))
  (h1:(∀k,k<n->p k)->∃r,κ (.inr ())=some r/\Q r)(h0:(¬∀k,k<n->p k)->∃r,κ (.inl false)=some r/\Q r):∃r,(lp f 0).bind κ=some r/\Q r:=by
 obtain⟨e,e1,e2⟩:=Ce (f:=f) n (λk=>∀j,j<k->p j) (λe=>(e = .inr ()/\∀k,k<n->p k)\/(e = .inl false/\¬∀k,k<n->p k)) hn (λj hj=>by omega) (λk hk hP=>by
  obtain⟨z,z1,z2⟩:=hs k hk;rcases z2 with ⟨a,rfl⟩ | ⟨a,rfl⟩
  .refine .inl ⟨z1,λj hj=>?_⟩;rcases zD j k with q | q
   .exact hP j q
   .have:j=k:=by omega
    subst this;exact a
  .exact .inr ⟨_,z1,.inr ⟨rfl,λq=>a (q k hk)⟩⟩) (λhP=>⟨_,he,.inl ⟨rfl,hP⟩⟩)
 rw[e1];rcases e2 with ⟨rfl,h⟩ | ⟨rfl,h⟩;·exact h1 h
 .exact h0 h
section
variable{x:Hp}(hR:SR x.S)
include hR
theorem NR{h:Int}(hh:h<=9223372036854775807):kW x h=some (decide (h∈lv x.S)):=by
 unfold kW;obtain⟨e,h1,h2⟩:=iJ (z8.2 hR) hh;rw[h1,a0d];congr 1;rw[za8,pu,zG,h2]
theorem N9{h:Int}(hh:h<=9223372036854775807):O4 x h=some (decide (h=0\/h∈lv x.S)):=by
 unfold O4;by_cases q:h=0
 .subst q;simp[B9]
 .have e:(h==0)=false:=by simpa using q
  rw[e];simp only[q9,iu,zb0];rw[NR hR hh,a0d];simp[q]
theorem Vp{c:Int}(hc:c<=9223372036854775807):qq c=some (Z7 c):=by
 unfold qq jP I6 Z7;simp only[a0d];by_cases q:12<=c
 .rw[zb (by simpa using q),zb q,a0d]
 .rw[za (by simpa using q),za q,a0d];by_cases q2:c<0
  .rw[zb (show 0 > c from q2),zb q2];rfl
  .rw[za (show ¬0 > c from q2),za q2,O1 (by omega) (by omega)]
omit hR in
theorem Pa {s:b6} (hR:SR s) {h:Int} (hh:h∈lv s) {n:Int} (hn:0<=n):T2 s h (Bz (ob s h) n)=some (df s h (Bz (ob s h) n),0):=by
 have:=K5 hR hh;exact xM (o:=Bz (ob s h) n) hR hh rfl ⟨this.s1,this.s2,hn,this.wk,this.p1,this.p2,this.fl⟩
theorem mJ{h:Int}(hh:h<=9223372036854775807)(hB:∀k∈lv x.S,(ob x.S k).Strong<=9223372036854775807):bQ x h=some (E8 x h):=by
 unfold bQ Z5 E8 uO;obtain⟨e,h1,h2⟩:=iJ (z8.2 hR) hh;rw[h1,a0d];by_cases q:h∈lv x.S
 .have e0:=h2.2 q;subst e0;rw[zb q,Vp hR (hB h q)];simp only[q9,zY,a0d];have:=Pa hR q (E7 (K5 hR q).st);rw[this];rfl
 .have:(e==0)=false:=by simpa using λc=>q (h2.1 c)
  rw[this,za q];rfl
omit hR in
theorem UR (c:Int) (h1 : -1000000<=c):eV c=some (lD c):=by
 unfold eV vl gb I6 lD;simp only[a0d];by_cases q:12<=c
 .rw[zb (by simpa using q),zb q];rfl
 .rw[za (by simpa using q),za q];by_cases q2:c<1
  .rw[zb (by simpa using q2),zb q2];rfl
  .rw[za (by simpa using q2),za q2,O1 (by omega) (by omega)];rfl
theorem gv{h:Int}(hh:h<=9223372036854775807):E3 x h=some (aK x h):=by
 unfold E3 Q4 aK uO;obtain⟨e,h1,h2⟩:=iJ (z8.2 hR) hh;rw[h1,a0d];by_cases q:h∈lv x.S
 .have e0:=h2.2 q;subst e0;have ok:=K5 hR q;rw[zb q,UR _ (by have:=ok.st;dsimp only;omega)];simp only[q9,zY,a0d];have:=Pa hR q (Q0 ok.st);rw[this];rfl
 .have:(e==0)=false:=by simpa using λc=>q (h2.1 c)
  rw[this,za q];rfl
end
theorem Me{x:Hp}(hR:SR x.S)(hB:SB x.S):∀k∈lv x.S,(ob x.S k).Strong<=9223372036854775807:=λk hk=>(Cy (z8.2 hR) hB hk).2
theorem uJ(x:Hp)(h:Int):(E8 x h).Roots=x.Roots/\(E8 x h).b7=x.b7/\(E8 x h).T=x.T/\(E8 x h).Q=x.Q:=by
 rw[pS];exact⟨rfl,rfl,rfl,rfl⟩
theorem km{x:Hp}(hR:SR x.S)(h:Int):SR (E8 x h).S:=(I1 hR h λc=>E7).sr
section
variable{x:Hp}(hx:K6 x)(hS:∀k∈lv x.S,(ob x.S k).Strong<=9223372036854775807)
include hx hS
theorem tW{h:Int}(hh:h=0\/h∈lv x.S):h<=9223372036854775807:=by
 rcases hh with q | q
 .omega
 .have:=H2 hx.sh.sr q;omega
theorem Kh(k:Int){h:Int}(hh:h<=9223372036854775807):cy x k h=some (if k<0\/5<k then (x,6) else if h=0\/h∈lv x.S then (G6 x k.toNat h,0) else (x,3)):=by
 have hR:=hx.sh.sr;have r6:=hx.sh.r6;unfold cy;by_cases hk:k<0\/5<k
 .rw[zb hk,zb (by rw[r6];simp;omega)]
 .rw[za hk,za (by rw[r6];simp;omega),N9 hR hh,a0d];by_cases hn:h=0\/h∈lv x.S
  .rw[zb hn,zB hn,za (by simp)];obtain⟨n,rfl⟩:∃n:Nat,k=n:=⟨k.toNat,by omega⟩;have hn6:n<6:=by omega
   have hnl:n<x.Roots.length:=by omega
   have old:x.Roots[n]<=9223372036854775807:=tW hx hS (hx.sh.rt _ (zh hnl));have e1:=uJ x h;have hn2:n<(E8 x h).Roots.length:=by rw[e1.1];exact hnl
   rw[r9 hnl,a0d];unfold G8 T6 y8;rw[mJ hR hh hS,a0d];dsimp only;rw[cq (by omega) (by rw[e1.1];omega),a0d,r9 hn2,a0d,a0d];have hrel:=gv (x:=wR (E8 x h) (x.Roots.set n h)) (km hR h) old;rw[zN,e1.1,show E3 ⟨(E8 x h).S,x.Roots.set n h,(E8 x h).b7,(E8 x h).T,(E8 x h).Q⟩ x.Roots[n]=_ from hrel];unfold G6;rw[zd,zc hnl];rfl
  .rw[za hn,zQ hn,zb (by simp)]
omit hx hS in
theorem Zb {l:List Int} {n:Nat} (hn:n<l.length):iW l n=some (l[n],0)/\DL l n=some (l[n],0):=by
 constructor
 .unfold iW gS;rw[a0d,za (by simp;omega),r9 hn,a0d]
 .unfold DL;rw[za (by simp;omega),r9 hn,a0d]
omit hx hS in
theorem IV {l:List Int} {k:Int} (hk:¬(0<=k/\k<l.length)):iW l k=some (0,5)/\DL l k=some (0,5):=by
 constructor
 .unfold iW gS;rw[a0d,zb (by simp;omega)]
 .unfold DL;rw[zb (by simp;omega)]
theorem wv(h k:Int)(hh:h<=9223372036854775807):(∃e,e≠0/\K1 x.S h k=some (0,e)/\True) \/
  (h∈lv x.S/\∃n:Nat,k=n/\∃hn:n<(ob x.S h).Fields.length,K1 x.S h k=some ((ob x.S h).Fields[n],0)/\True):=by
 have hR:=hx.sh.sr;obtain⟨e,h1,h2⟩:=iJ (z8.2 hR) hh;unfold K1;rw[h1,a0d];by_cases q:h∈lv x.S
 .have:=h2.2 q;subst this;rw[za (by simp)];by_cases hk:0<=k/\k<(ob x.S h).Fields.length
  .right;obtain⟨n,rfl⟩:∃n:Nat,k=n:=⟨k.toNat,by omega⟩;have hn:n<(ob x.S h).Fields.length:=by omega
   refine⟨q,n,rfl,hn,?_,?_⟩
   .rw[(Zb hn).1];rfl
   .trivial
  .left;refine⟨5,by decide,?_,?_⟩
   .rw[(IV hk).1];rfl
   .trivial
 .left;have he:(e != 0)=true:=by simpa using λc=>q (h2.1 c)
  refine⟨e,by simpa using he,?_,?_⟩;·simp only[he,zY]
  .trivial
theorem OY{s:b6}(hR:SR s){h:Int}(hh:h∈lv s){n:Nat}(hn:n<(ob s h).Fields.length)(v:Int) :
  qI s h n v=some (df s h (rX (ob s h) ((ob s h).Fields.set n v)),0)/\True:=by
 have ok:=K5 hR hh;have hf:=ok.fl;have hle:=H2 hR hh;have ho:AZ s (rX (ob s h) ((ob s h).Fields.set n v)):=⟨ok.s1,ok.s2,ok.st,ok.wk,ok.p1,ok.p2,by simpa using hf⟩;have h1:=xM (o:=rX (ob s h) ((ob s h).Fields.set n v)) hR hh rfl ho;constructor
 .unfold qI;rw[sf (z8.2 hR) hh,a0d,za (by simp)];unfold mR gS;dsimp only;rw[a0d,za (by simp;omega),lf (by omega) (by omega),a0d];have e:xC (List.replicate (ob s h).Fields.length (0:Int)) (ob s h).Fields=some (ob s h).Fields:=by
   unfold xC;rw[zb (by simp)];simp
  rw[e,a0d,r9 hn,a0d,a0d,za (by simp),zN];dsimp only;rw[show T2 s h ⟨(ob s h).Serial,(ob s h).Strong,(ob s h).Weak,(ob s h).Prog,(ob s h).Started,(ob s h).Fields.set n v⟩=_ from h1];rfl
 .trivial
theorem yv(h k v:Int)(hh:h<=9223372036854775807)(hv:v<=9223372036854775807) :
  (∃e,e≠0/\aE x h k v=some (x,e)/\True) \/
  (h∈lv x.S/\(v=0\/v∈lv x.S)/\∃n:Nat,k=n/\n<(ob x.S h).Fields.length/\aE x h k v=some (bP x h n v,0)/\True):=by
 have hR:=hx.sh.sr;unfold aE;rcases wv hx hS h k hh with ⟨e,he,f1,f2⟩ | ⟨hl,n,rfl,hn,f1,f2⟩
 .left;have he':(e != 0)=true:=by simpa using he
  refine⟨e,he,?_,?_⟩;·rw[f1,a0d,zb he']
  .trivial
 .rw[f1,a0d,za (by simp),N9 hR hv,a0d];by_cases hn2:v=0\/v∈lv x.S
  .right;refine⟨hl,hn2,n,rfl,hn,?_⟩;rw[zB hn2,za (by simp)];have xe:=I1 hR v (f:=Z7) λc=>E7;have hR1:SR (E8 x v).S:=xe.sr;have hl1:h∈lv (E8 x v).S:=by rw[show lv (E8 x v).S=lv x.S from xe.lv];exact hl
   have hof:(ob (E8 x v).S h).Fields=(ob x.S h).Fields:=by
    obtain⟨m,e⟩:=xe.ob h hh;show (ob (uO x v Z7).S h).Fields=_;rw[e]
   have hn1:n<(ob (E8 x v).S h).Fields.length:=by rw[hof];exact hn
   have old:(ob x.S h).Fields[n]<=9223372036854775807:=tW hx hS (hx.sh.fl h hl _ (zh hn));have ok:=K5 hR1 hl1;have sr2:SR (df (E8 x v).S h (rX (ob (E8 x v).S h) ((ob (E8 x v).S h).Fields.set n v))):=bZ (o:=rX (ob (E8 x v).S h) ((ob (E8 x v).S h).Fields.set n v)) hR1 hl1 rfl ⟨ok.s1,ok.s2,ok.st,ok.wk,ok.p1,ok.p2,by simpa using ok.fl⟩;obtain⟨p1,p2⟩:=OY hx hS hR1 hl1 hn1 v;have hd:(ob x.S h).Fields.getD n 0=(ob x.S h).Fields[n]:=by
    rw[zd,zc hn];rfl
   constructor
   .unfold G4 cY;rw[mJ hR hv hS,a0d];dsimp only;rw[p1,a0d,a0d];have hrel:=gv (x:=wS (E8 x v) (df (E8 x v).S h (rX (ob (E8 x v).S h) ((ob (E8 x v).S h).Fields.set n v)))) sr2 old;rw[show E3 ⟨df (E8 x v).S h (rX (ob (E8 x v).S h) ((ob (E8 x v).S h).Fields.set n v)),(E8 x v).Roots,(E8 x v).b7,(E8 x v).T,(E8 x v).Q⟩ (ob x.S h).Fields[n]=_ from hrel];unfold bP;rw[hd,hof];rfl
   .trivial
  .left;refine⟨3,by decide,?_,?_⟩;·rw[zQ hn2,zb (by simp)]
   .trivial
theorem Sw(k v:Int)(hk:k<=9223372036854775807)(hv:v<=9223372036854775807) :
  (∃e,e≠0/\cv x k v=some (x,e)/\True) \/
  (k∈lv x.S/\(v=0\/v∈lv x.S)/\∃r,V1 x.T k v=some r/\r.2.2=0/\cv x k v=some (ja x v r.1 r.2.1,0)/\True):=by
 have hR:=hx.sh.sr;unfold cv;by_cases k0:k=0
 .left;subst k0;exact⟨2,by decide,by simp,trivial⟩
 .rw[za (by simpa using k0),N9 hR hk,a0d,N9 hR hv];have hkk:(k=0\/k∈lv x.S)↔k∈lv x.S:=by simp[k0]
  by_cases hl:k∈lv x.S/\(v=0\/v∈lv x.S)
  .obtain⟨hl,hn⟩:=hl;rw[zB (hkk.2 hl),zB hn];simp only[zbz,q9,iu,a0d,Bool.or_self,zA,un];obtain⟨r,r1,r2,r3,r5⟩:=dU hx.sh.hr k v;rw[r1,a0d];by_cases h0:r.2.2=0
   .right;refine⟨hl,hn,r,rfl,h0,?_⟩;have e1:(r.2.2 != 0)=false:=by simpa using h0
    have old:r.2.1<=9223372036854775807:=by
     rcases r5 with ⟨_,rfl⟩ | ⟨_,_,⟨i,hi,rfl⟩ | ⟨_,rfl⟩⟩ | ⟨_,_,⟨i,hi,rfl⟩ | ⟨d,_,_,_,_,rfl⟩ | ⟨_,_,rfl⟩⟩;·simp
     .exact tW hx hS (.inr (hx.sh.pr k _ ⟨i,hi,rfl⟩).2)
     .simp
     .exact tW hx hS (.inr (hx.sh.pr k _ ⟨i,hi,rfl⟩).2)
     .simp
     .simp
    constructor
    .rw[e1];simp only[zA,un];unfold E1 aF;rw[mJ hR hv hS,a0d,a0d];dsimp only;have hrel:=gv (x:=wT (E8 x v) r.1) (km hR v) old;rw[show E3 ⟨(E8 x v).S,(E8 x v).Roots,(E8 x v).b7,r.1,(E8 x v).Q⟩ r.2.1=_ from hrel];rfl
    .trivial
   .left;have e1:(r.2.2 != 0)=true:=by simpa using h0
    refine⟨r.2.2,h0,by rw[zb e1],trivial⟩
  .left;refine⟨3,by decide,?_,?_⟩
   .by_cases hl2:k∈lv x.S
    .have:¬(v=0\/v∈lv x.S):=λq=>hl ⟨hl2,q⟩;rw[zB (hkk.2 hl2),zQ this];rfl
    .rw[zQ λq=>hl2 (hkk.1 q)];rfl
   .trivial
end
theorem Jr{s:b6}(hR:SR s){h:Int}{i:Nat}(q:U6 s h i):Q9 s.S h=some ((Ew s i).S,0):=by
 have hi:=q.1;have hc:=hR.cell i hi;have l9:=hR.l9;unfold Q9 Ew;rw[xz hR q,a0d,za (by simp),Jx hi,a0d];by_cases g:(ce s i).Gen=s.S.Last
 .rw[zb (by simpa using g),zb g,mU rfl hi hR.len];rfl
 .rw[za (by simpa using g),za g,mU rfl hi hR.len,O1 (by omega) (by omega)];rfl
section
variable{x:Hp}(hR:SR x.S)
include hR
theorem Cg{h d:Int}(hh:h<=9223372036854775807)(hw:U6 x.S h (D7 h) -> -1000<=(ce x.S (D7 h)).Val.Weak+d/\(ce x.S (D7 h)).Val.Weak+d<=1000):au x h d=some (iN x h d):=by
 unfold au iN;by_cases q:U6 x.S h (D7 h)
 .have:=hw q;rw[zb q,xz hR q,a0d];simp only[q9,zY];rw[Jx q.1,a0d,O1 (by omega) (by omega),Py hR q,a0d];rfl
 .have hno:∀i,¬U6 x.S h i:=λi hi=>q (by rw[hi.D7 hR];exact hi);rw[za q,yj hR hh hno,a0d];have:((if h=0 then 2 else 3:Int)==0)=false:=by simpa using pk h
  simp only[this,zA,un]
theorem Gv{h:Int}(hh:h<=9223372036854775807)(hw:U6 x.S h (D7 h)->1<=(ce x.S (D7 h)).Val.Weak/\(ce x.S (D7 h)).Val.Weak<=1000):aY x h=some (qh x h):=by
 unfold aY;rw[Cg hR hh (λq=>by have:=hw q;omega),a0d];unfold iN qh;by_cases q:U6 x.S h (D7 h)
 .have hw:=hw q;rw[zb q,zb q];have Xg:=vD hR q.1 q.2.1 (d:=-1) (by omega);have q1:U6 (mi x.S (D7 h) (-1)) h (D7 h):=(xy q.1 _).2 q;dsimp only;rw[xz Xg q1,a0d,za (by simp),Jx q1.1,a0d,fh hR q.1 q.2.1,zb rfl];dsimp only;by_cases c:(ce x.S (D7 h)).State=2/\(ce x.S (D7 h)).Val.Weak=1
  .rw[zb c,zb (by simp[c.1,c.2]),Jr Xg q1,a0d];rfl
  .rw[za c,za (by simp only[zy,pu];omega)]
 .have hno:∀i,¬U6 x.S h i:=λi hi=>q (by rw[hi.D7 hR];exact hi);rw[za q,za q,yj hR hh hno,a0d];have:((if h=0 then 2 else 3:Int) != 0)=true:=by simpa using pk h
  simp only[this,zY]
end
theorem GC{l:List k8}(hl:l.length<=1000){n:Nat}(hn:n<l.length)(h call:Int):kr l n h call=some (l.set n (fP h call),l[n].Target,0):=by
 unfold kr ky ck;simp only[a0d];rw[za (by simp;omega),lf (by omega) (by omega),a0d];have e:xC (List.replicate l.length (⟨0,false,0⟩:k8)) l=some l:=by
  unfold xC;rw[zb (by simp)];simp
 rw[e,a0d,a0d,r9 hn,a0d,a0d,zN]
theorem Ow(l:List k8)(h:Int):jC l h<=l.length:=zck
theorem Eo{x:Hp}(hx:K6 x)(k h call:Int)(hh:h<=9223372036854775807)(hc : -1<=call/\call<=5) :
  (∃e,e≠0/\T0 x k h call=some (x,e)/\True) \/
  ((h=0\/h∈lv x.S)/\∃n:Nat,k=n/\n<6/\wX x.Q n=false/\T0 x k h call=some (cT x n h call,0)/\True):=by
 have hR:=hx.sh.sr;have c6:=hx.sh.c6;have q30:=hx.sh.q30;unfold T0;by_cases hk:k<0\/5<k
 .left;have e1:((decide (k<0))||(decide (k>=(x.b7.length:Int))))=true:=by rw[c6];simp;omega
  refine⟨7,by decide,?_,?_⟩;·rw[e1];rfl
  .trivial
 .obtain⟨n,rfl⟩:∃n:Nat,k=n:=⟨k.toNat,by omega⟩;have hn6:n<6:=by omega
  have e1:((decide ((n:Int)<0))||(decide ((n:Int)>=(x.b7.length:Int))))=false:=by rw[c6];simp;omega
  rw[e1];simp only[q9,iu,zb0];have hwq:aN x.Q n=some (wX x.Q n):=xP (by omega);rw[hwq,a0d,N9 hR hh,a0d];by_cases hw:wX x.Q n=true
  .left;rw[zb hw];exact⟨7,by decide,rfl,trivial⟩
  .have hw:wX x.Q n=false:=by simpa using hw
   rw[hw,za (show ¬(false=true) by decide)];by_cases hl:h=0\/h∈lv x.S
   .right;refine⟨hl,n,rfl,hn6,hw,?_⟩;have hnl:n<x.b7.length:=by omega
    rw[zB hl,za (by simp),GC (by omega) hnl,a0d];have htg:mO x n=x.b7[n].Target:=by
     unfold mO;rw[zd,zc hnl];rfl
    have wkb:∀i,i<x.S.S.b7.length->Th (ce x.S i)->0<=(ce x.S i).Val.Weak/\(ce x.S i).Val.Weak<=6:=λi hi ht=>by
     have:=(hx.wk i hi ht).1;have:=Ow x.b7 (1+(i:Int)+32*(ce x.S i).Gen);omega
    have mk1:∃s2,iN (wC x (x.b7.set n (fP h call))) h 1=wS (wC x (x.b7.set n (fP h call))) s2/\SR s2/\(∀k i,U6 s2 k i↔U6 x.S k i)/\(∀i,i<x.S.S.b7.length->Th (ce x.S i)->(ce x.S i).Val.Weak<=(ce s2 i).Val.Weak/\(ce s2 i).Val.Weak<=(ce x.S i).Val.Weak+1) /\
      (h≠0->True)/\(h=0->s2=x.S):=by
     unfold iN;by_cases h0:h=0
     .have hno:¬U6 x.S h (D7 h):=λq=>by have:=q.LR hR;omega
      rw[za hno];exact⟨x.S,rfl,hR,λ_ _=>Iff.rfl,λi _ _=>by omega,λq=>absurd h0 q,λ_=>rfl⟩
     .have hll:=hl.resolve_left h0;have hp:=o6 hR hll;have hb:=wkb _ hp.1 (.inl hp.2.1);rw[zb hp.d];have kn:=nA hR hp.1 (.inl hp.2.1) (d:=1) (by omega);refine⟨_,rfl,kn.sr,kn.ad,λi hi ht=>?_,λ_=>trivial,λq=>absurd q h0⟩;rw[fh hR hp.1 (.inl hp.2.1)];split;·rename_i e;subst e;dsimp only;omega
      .omega
    obtain⟨s2,m1,m2,m3,m4,m5,m6⟩:=mk1;have hold:mO x n<=9223372036854775807:=by
     by_cases q:mO x n=0
     .omega
     .obtain⟨p,hp⟩:=(hx.sh.cl n hnl).2.2.2.1 (by rw[<-htg];exact q);have:=hp.LR hR;rw[htg];omega
    have hun:U6 s2 (mO x n) (D7 (mO x n))->1<=(ce s2 (D7 (mO x n))).Val.Weak/\(ce s2 (D7 (mO x n))).Val.Weak<=1000:=λq=>by
     have q':=(m3 _ _).1 q;have r:=q'.LR hR;have:=(hx.wk _ q'.1 q'.2.1).1;have hp:0<jC x.b7 x.b7[n].Target:=uk hnl (by rw[<-htg];omega);rw[<-htg,q'.2.2] at hp;have:=m4 _ q'.1 q'.2.1;have:=wkb _ q'.1 q'.2.1;omega
    have u1:=Gv (x:=wS (wC x (x.b7.set n (fP h call))) s2) m2 hold hun;have hwb:U6 x.S h (D7 h) -> -1000<=(ce x.S (D7 h)).Val.Weak+1/\(ce x.S (D7 h)).Val.Weak+1<=1000:=λq=>by
     have:=wkb _ q.1 q.2.1;omega
    have mm:=Cg (x:=wC x (x.b7.set n (fP h call))) (d:=1) hR hh hwb;constructor
    .dsimp only;rw[show au ⟨x.S,x.Roots,x.b7.set n (fP h call),x.T,x.Q⟩ h 1=_ from mm,a0d,m1,<-htg,u1,a0d];unfold cT;rw[m1]
    .trivial
   .left;rw[zQ hl];exact⟨3,by decide,by rw[zb (by rfl)],trivial⟩
theorem ZQ{l:List Int}{n:Nat}(hn:n<l.length):iW l n=some (l[n],0):=by
 unfold iW gS;rw[a0d,za (by simp;omega),r9 hn,a0d]
section
variable{x:Hp}(hx:K6 x)(hS:∀k∈lv x.S,(ob x.S k).Strong<=9223372036854775807)
include hx hS
end
theorem Jp{α:Type}{l:List α}{i:Nat}(h:i<l.length)(d:α):l.getD i d=l[i]:=by
 rw[zd,zc h];rfl
def ZK(a b:g6):Prop:=a.Kind=b.Kind/\a.At=b.At
instance(a b:g6):Decidable (ZK a b):=by unfold ZK;infer_instance
section
variable{x:Hp}(hR:SR x.S)
include hR
omit hR in
theorem LA (l:List k8) (hl:l.length<=1000) (h:Int):eI l h=some (jC l h:Int):=by
 unfold eI U3 gT;simp only[jn,a0d];have key:∃e,lp (S:=Int × (List Int)) (E:=(List Int)) (λ((s17,s18):Int × (List Int))=>
   if (decide (s17<(l.length:Int))) then
     (ix l s17).bind λv26=>
     if ((h != 0)&&(v26.Target==h)) then
      (app 8 s18 [s17]).bind λv28=>
      some (.inl (u4 (s17+1),v28))
     else
     some (.inl (u4 (s17+1),s18))
   else
   some (.inr s18)) (0,[])=some e/\e.length=jC l h:=by
  refine gi l.length (λk (acc:List Int)=>acc.length=jC (l.take k) h) (λ(e:List Int)=>e.length=jC l h) (by omega) rfl (λk acc hk hP=>?_) (λacc hP=>⟨acc,by simp,by rwa [zV] at hP⟩);left;have hle:acc.length<=k:=by
   rw[hP];exact zP (Ow _ _) (by simp;omega)
  have hst:jC (l.take (k+1)) h=jC (l.take k) h+if ((h != 0)&&(l[k].Target==h))=true then 1 else 0:=by
   unfold jC;rw[zx hk,List.countP_append,List.countP_cons,List.countP_nil];omega
  simp only[we,hk,ul,zY,r9 hk,a0d];rw[n9];by_cases c:((h != 0)&&(l[k].Target==h))=true
  .rw[zb c,J0 (by omega) (by simp;omega),a0d];exact⟨_,rfl,by rw[hst,zb c];simp[hP]⟩
  .rw[za c];exact⟨_,rfl,by rw[hst,za c];simpa using hP⟩
 obtain⟨e,e1,e2⟩:=key;rw[show lp _ _=_ from e1,a0d,a0d,e2]
omit hR in
theorem Nn:Tz x.S x.T (oO x)↔aO x []:=by
 constructor
 .intro h k hk hlt;have:=h k hk hlt;unfold LV inr at this;rw[zb hk] at this;rw[I2];unfold lk;omega
 .intro h k hk hlt;have:=h k hk hlt;rw[I2] at this;unfold lk at this;unfold LV inr;rw[zb hk];omega
end
section
variable{x:Hp}(hx:K6 x)(hB:HB x)
include hx hB
end
def SL(x:Hp):Prop:=∀k∈lv x.S,(ob x.S k).Strong<=9223372036854775807
theorem SB.sl{x:Hp}(hR:SR x.S)(h:SB x.S):SL x:=λk hk=>Me hR h k hk
theorem XI{x:Hp}(hx:K6 x)(hS:SL x):HB x:=by
 have hR:=hx.sh.sr;have bd:∀v,v=0\/v∈lv x.S->v<=9223372036854775807:=λv q=>by
  rcases q with q | q
  .omega
  .have:=H2 hR q;omega
 refine⟨Yw.2 λi hi=>?_,Xz.2 λi hi v hv=>?_,λv hv=>bd v (hx.sh.rt v hv),λc hc=>?_,λp hp=>?_,λt ht=>?_⟩
 .by_cases t:Th (ce x.S i)
  .rcases t with t | t
   .have q:At x.S (1+(i:Int)+32*(ce x.S i).Gen) i:=⟨hi,t,rfl⟩;have:=hS _ ((ic hR).2 ⟨i,q⟩);rwa [E9 hR q] at this
   .have:=((hx.wk i hi (.inr t)).2 t).2.2;omega
  .have:=(hR.no i hi t).2.1;simp only[oo] at this;omega
 .by_cases t:Th (ce x.S i)
  .rcases t with t | t
   .have q:At x.S (1+(i:Int)+32*(ce x.S i).Gen) i:=⟨hi,t,rfl⟩;have hm:=(ic hR).2 ⟨i,q⟩;exact bd v (hx.sh.fl _ hm v (by rw[E9 hR q];exact hv))
   .rw[((hx.wk i hi (.inr t)).2 t).2.1] at hv;cases hv
  .have:=(hR.no i hi t).2.2.2.2.2;simp only[oo] at this;rw[wd this] at hv;cases hv
 .obtain⟨i,hi,rfl⟩:=wt hc;by_cases e:x.b7[i].Target=0
  .omega
  .obtain⟨p,hp⟩:=(hx.sh.cl i hi).2.2.2.1 e;have:=hp.LR hR;omega
 .obtain⟨i,hi,rfl⟩:=wt hp;have e:pt x.T i=x.T[i]:=by
   unfold pt;rw[zd,zc hi];rfl
  by_cases s1:(pt x.T i).State=1
  .obtain⟨a,b⟩:=hx.sh.pr (pt x.T i).Key (pt x.T i).Val ⟨i,⟨hi,s1,rfl⟩,rfl⟩;rw[e] at a b;exact⟨bd _ (.inr a),bd _ (.inr b)⟩
  .obtain⟨a,b⟩:=(hx.sh.hr.st i hi).2 s1;rw[e] at a b;omega
 .obtain⟨_,_,q | q⟩:=hx.sh.tk t ht;·exact bd _ (.inr q.2.1)
  .omega
theorem Yx{s:b6}(hR:SR s):Sm s:=by
 refine⟨by have:=hR.len;omega,λi hi=>?_⟩;by_cases t:Th (ce s i)
 .have:=(hR.ok i hi t).fl;rw[M9 hi] at this;omega
 .have:=(hR.no i hi t).2.2.2.2.2;simp only[oo] at this;rw[M9 hi] at this;omega
theorem RH(c:Int):Z7 c<=12:=by unfold Z7;split <;> (try split) <;> omega
theorem Rt{c:Int}(h:c<=9223372036854775807):lD c<=9223372036854775807:=by unfold lD;split <;> (try split) <;> omega
theorem SL.of{x y:Hp}(h:SL x)(hl:lv y.S=lv x.S)(hs:∀k∈lv x.S,(ob y.S k).Strong=(ob x.S k).Strong):SL y:=λk hk=>by
 rw[hl] at hk;rw[hs k hk];exact h k hk
theorem SL.st{x:Hp}(h:SL x)(hR:SR x.S)(v:Int){f:Int->Int}(hf:∀c,0<=c->0<=f c)(hb:∀c,c<=9223372036854775807->f c<=9223372036854775807):SL (uO x v f):=λk hk=>by
 rw[(I1 hR v hf).lv] at hk;rw[wc hR v hf hk];split;·exact hb _ (h k hk)
 .exact h k hk
theorem SL.E8{x:Hp}(h:SL x)(hR:SR x.S)(v:Int):SL (E8 x v):=h.st hR v (λc=>E7) λc _=>by have:=RH c;omega
theorem SL.Qe{x:Hp}(h:SL x)(hR:SR x.S)(v:Int):SL (aK x v):=h.st hR v (λc=>Q0) λc hc=>Rt hc
theorem Pk{x:Hp}(hR:SR x.S)(v:Int):SR (aK x v).S:=(I1 hR v λc=>Q0).sr
theorem pR{x:Hp}(hR:SR x.S)(h:SL x)(r:Nat)(v:Int):SL (G6 x r v):=by
 unfold G6;exact SL.Qe (x:=wR (E8 x v) (x.Roots.set r v)) (h.E8 hR v) (km hR v) _
theorem Lh{x:Hp}(hR:SR x.S)(hS:SL x){h:Int}(hh:h∈lv x.S)(k:Nat)(v:Int):SL (bP x h k v):=by
 have xe:=I1 hR v (f:=Z7) λc=>E7;have hR1:SR (E8 x v).S:=xe.sr;have hl1:h∈lv (E8 x v).S:=by rw[show lv (E8 x v).S=lv x.S from xe.lv];exact hh
 have hof:(ob (E8 x v).S h).Fields=(ob x.S h).Fields:=by
  obtain⟨m,e⟩:=xe.ob h (by have:=H2 hR hh;omega);show (ob (uO x v Z7).S h).Fields=_;rw[e]
 have ok:=K5 hR1 hl1;have ho:AZ (E8 x v).S (rX (ob (E8 x v).S h) ((ob x.S h).Fields.set k v)):=⟨ok.s1,ok.s2,ok.st,ok.wk,ok.p1,ok.p2,by have:=ok.fl;rw[hof] at this;simpa using this⟩;have sr2:=bZ (o:=rX (ob (E8 x v).S h) ((ob x.S h).Fields.set k v)) hR1 hl1 rfl ho;unfold bP;refine SL.Qe (x:=wS (E8 x v) (df (E8 x v).S h (rX (ob (E8 x v).S h) ((ob x.S h).Fields.set k v)))) ?_ sr2 _;refine (hS.E8 hR v).of (iV hR1 hl1 rfl ho) λj hj=>?_;dsimp only;rw[gw (o:=rX (ob (E8 x v).S h) ((ob x.S h).Fields.set k v)) hR1 hl1 rfl ho (by have:=H2 hR1 hj;omega)];split;·rename_i e;rw[e]
 .rfl
theorem OQ{x:Hp}(hR:SR x.S)(hS:SL x)(v:Int)(t:Tb)(old:Int):SL (ja x v t old):=by
 unfold ja;exact SL.Qe (x:=wT (E8 x v) t) (hS.E8 hR v) (km hR v) _
theorem VH{x:Hp}(hR:SR x.S)(hS:SL x)(h:Int){d:Int}(hd:U6 x.S h (D7 h)->0<=(ce x.S (D7 h)).Val.Weak+d):SL (iN x h d):=by
 unfold iN;split
 .rename_i q;exact hS.of (nA hR q.1 q.2.1 (hd q)).lv λk hk=>nB hR q.1 q.2.1 (hd q) hk
 .exact hS
theorem Kw{x:Hp}(hR:SR x.S)(hS:SL x)(h:Int)(hd:U6 x.S h (D7 h)->1<=(ce x.S (D7 h)).Val.Weak):SL (qh x h):=by
 unfold qh;split
 .rename_i q;have hd:=hd q;have kn:=nA (d:=-1) hR q.1 q.2.1 (by omega);have s1:SL (wS x (mi x.S (D7 h) (-1))):=hS.of kn.lv λk hk=>nB hR q.1 q.2.1 (by omega) hk;split
  .rename_i c;have hi1:D7 h<(mi x.S (D7 h) (-1)).S.b7.length:=by rw[kn.len];exact q.1
   have hce:ce (mi x.S (D7 h) (-1)) (D7 h)=⟨(ce x.S (D7 h)).State,(ce x.S (D7 h)).Gen,YZ (ce x.S (D7 h)).Val ((ce x.S (D7 h)).Val.Weak + -1)⟩:=by
    rw[fh hR q.1 q.2.1,zb rfl]
   have h2:(ce (mi x.S (D7 h) (-1)) (D7 h)).State=2:=by rw[hce];exact c.1
   exact s1.of (Df kn.sr hi1 h2) λk hk=>by
    dsimp only;rw[Dg kn.sr hi1 h2 hk]
  .exact s1
 .exact hS
theorem GA{x:Hp}(hx:K6 x)(hS:SL x){n:Nat}(hn:n<6)(h call:Int):SL (cT x n h call):=by
 have hR:=hx.sh.sr;have hnl:n<x.b7.length:=by have:=hx.sh.c6;omega
 have ok:∀k i,U6 x.S k i->0<=(ce x.S i).Val.Weak:=λk i q=>(hR.ok i q.1 q.2.1).wk;have tw:∀i,U6 x.S (mO x n) i->1<=(ce x.S i).Val.Weak:=λi q=>by
  have htg:mO x n=x.b7[n].Target:=by
   unfold mO;rw[zd,zc hnl];rfl
  have r:=q.LR hR;have p:=uk hnl (by rw[<-htg];omega);rw[<-htg,q.2.2] at p;have:=(hx.wk i q.1 q.2.1).1;omega
 unfold cT;have s1:SL (iN (wC x (x.b7.set n (fP h call))) h 1):=VH (x:=wC x (x.b7.set n (fP h call))) hR hS h λq=>by
  have:=ok _ _ q;dsimp only;omega
 by_cases q:U6 x.S h (D7 h)
 .have e:iN (wC x (x.b7.set n (fP h call))) h 1=wS (wC x (x.b7.set n (fP h call))) (mi x.S (D7 h) 1):=by
   unfold iN;rw[zb q]
  have hd:=ok _ _ q;have kn:=nA (d:=1) hR q.1 q.2.1 (by omega);rw[e] at s1 |-;refine Kw kn.sr s1 _ λq2=>?_;dsimp only at q2 |-;have q3:=(kn.ad _ _).1 q2;have:=tw _ q3;rw[fh hR q.1 q.2.1];split
  .rename_i e2;rw[e2] at this;show 1<=(ce x.S (D7 h)).Val.Weak+1;omega
  .exact this
 .have e:iN (wC x (x.b7.set n (fP h call))) h 1=wC x (x.b7.set n (fP h call)):=by
   unfold iN;rw[za q]
  rw[e] at s1 |-;exact Kw (x:=wC x (x.b7.set n (fP h call))) hR s1 _ λq2=>tw _ q2
section
variable{x:Hp}(hx:K6 x)(hS:SL x)
include hx hS
end
def EA(x:Hp):Prop:=Sm x.S/\x.Roots.length<=20/\x.b7.length<=20/\x.T.length<=20/\x.Q.L.length<=60
instance(x:Hp):Decidable (EA x):=by unfold EA;infer_instance
theorem jJ.Zp{x:Hp}(h:jJ x):EA x:=by
 have h1:=h.r6;have h2:=h.c6;have h3:=h.hr.l8;have h4:=h.q30;exact⟨Yx h.sr,by omega,by omega,by omega,by omega⟩
def RF:Hp:=⟨⟨⟨[],0⟩,0⟩,[],[],[],⟨[],0⟩⟩
theorem AF(x:Hp)(h:Int)(f:Int->Int):(uO x h f).Roots=x.Roots/\(uO x h f).b7=x.b7/\(uO x h f).T=x.T/\(uO x h f).Q=x.Q:=by
 unfold uO;split <;> exact⟨rfl,rfl,rfl,rfl⟩
theorem kl(x:Hp)(r:Nat)(h:Int):(G6 x r h).Roots=x.Roots.set r h/\(G6 x r h).b7=x.b7/\(G6 x r h).T=x.T/\(G6 x r h).Q=x.Q:=by
 obtain⟨a,b,c,d⟩:=AF (wR (E8 x h) (x.Roots.set r h)) (x.Roots.getD r 0) lD;obtain⟨a',b',c',d'⟩:=AF x h Z7;exact⟨a,b.trans b',c.trans c',d.trans d'⟩
section
variable{x:Hp}(hB:HB x)
include hB
end
abbrev Ld(o:n0):n0:=⟨o.Serial,0,o.Weak,o.Prog,o.Started,[]⟩
def GG(s:b6)(i:Nat):c8:=
 if (ce s i).Val.Weak=0 then (if (ce s i).Gen=s.S.Last then ⟨3,(ce s i).Gen,z0⟩ else ⟨0,(ce s i).Gen+1,z0⟩) else ⟨2,(ce s i).Gen,Ld (ce s i).Val⟩
def xd(s:b6)(d:Int):b6:=I0 s (D7 d) (GG s (D7 d))
def oW(s:b6)(ds:List Int):b6:=ds.foldl xd s
theorem Ve(s:b6)(i:Nat):(GG s i).State≠1:=by
 unfold GG;split;·split <;> simp
 .simp
theorem HL{s:b6}(hR:SR s){a b:Int}(ha:a∈lv s)(hb:b∈lv s)(h:a≠b):D7 a≠D7 b:=λe=>by
 have h1:=o6 hR ha;have h2:=o6 hR hb;rw[e] at h1;exact h (h1.2.2.trans h2.2.2.symm)
section
variable{s:b6}(hR:SR s){d:Int}(hd:d∈lv s)
include hR hd
theorem Dd:SR (xd s d):=by
 have q:=o6 hR hd;have hc:=hR.cell _ q.1;have ho:=hR.ok _ q.1 (.inl q.2.1);have no:KA (oo z0):=⟨rfl,rfl,rfl,rfl,rfl,rfl⟩;unfold xd GG;split
 .split;·exact hR.I0 q.1 ⟨by simp,by simp,hc.2.2.1,hc.2.2.2⟩ (λ_=>no) (λq=>absurd q (by unfold Th;simp))
  .refine hR.I0 q.1 ⟨by simp,by simp,?_,?_⟩ (λ_=>no) (λq=>absurd q (by unfold Th;simp));·show 0<=(ce s (D7 d)).Gen+1;omega
   .show (ce s (D7 d)).Gen+1<=s.S.Last;omega
 .exact hR.I0 q.1 ⟨by simp,by simp,hc.2.2.1,hc.2.2.2⟩ (λq=>absurd (.inr rfl) q) (λ_=>⟨⟨ho.s1,ho.s2,zag _,ho.wk,ho.p1,ho.p2,zW _⟩,.inl q.2.1,rfl⟩)
theorem NF(j:Nat):ce (xd s d) j=if j=D7 d then GG s (D7 d) else ce s j:=L0 (o6 hR hd).1 _ j
theorem NG:lv (xd s d)=(lv s).filter λh=>decide (h≠d):=by
 have hS:=Dd hR hd;unfold xd at hS |-;have hc:=Ve s (D7 d);rw[JF hR (o6 hR hd).1 hc hS];refine pm λh hh=>zbc.2 ⟨λq e=>q (by rw[e]),λq=>HL hR hh hd q⟩
theorem NH{k:Int}(hk:k∈lv s)(hne:k≠d):ob (xd s d) k=ob s k:=by
 have hS:=Dd hR hd;unfold xd at hS |-;exact JO hR (o6 hR hd).1 hS hk (HL hR hk hd hne)
end
structure Gn (s s':b6) (ds:List Int):Prop where
 sr:SR s'
 len:s'.S.b7.length=s.S.b7.length
 last:s'.S.Last=s.S.Last
 bw:s'.Serial=s.Serial
 lv:lv s'=(lv s).filter λh=>decide (h∉ds)
 ob:∀k∈Sh.lv s,k∉ds->ob s' k=ob s k
 ce:∀j,ce s' j=if j∈ds.map D7 then GG s j else ce s j
theorem eT:∀(ds:List Int) {s:b6} (hR:SR s),ds.Nodup->(∀d∈ds,d∈lv s)->Gn s (oW s ds) ds
 | [],s,hR,_,_=>⟨hR,rfl,rfl,rfl,(zbm.2 (λa _=>by simp)).symm,λ_ _ _=>rfl,λj=>by simp[oW]⟩
 | d::ds,s,hR,hn,hm=>by
  rw[me] at hn;have hd:=hm d (zg ..);have hlv:=NG hR hd;have hm':∀e∈ds,e∈lv (xd s d):=λe he=>by
   rw[hlv,zj,zG];exact⟨hm e (zn _ he),λq=>hn.1 (q▸he)⟩
  have ih:=eT ds (Dd hR hd) hn.2 hm';refine⟨ih.sr,ih.len.trans (W3 ..),ih.last,ih.bw,?_,λk hk hne=>?_,λj=>?_⟩
  .show lv (oW (xd s d) ds)=_;rw[ih.lv,hlv,zan];refine pm λh hh=>?_;rw[za8];simp only[zy,zG,zM,not_or];exact⟨λq=>⟨q.2,q.1⟩,λq=>⟨q.2,q.1⟩⟩
  .show ob (oW (xd s d) ds) k=_;rw[zM,not_or] at hne;rw[ih.ob k (by rw[hlv,zj,zG];exact⟨hk,hne.1⟩) hne.2,NH hR hd hk hne.1]
  .show ce (oW (xd s d) ds) j=_;have hg:∀e∈ds,D7 e≠D7 d:=λe he=>HL hR (hm e (zn _ he)) hd λq=>hn.1 (q▸he);rw[ih.ce];by_cases h1:j∈ds.map D7
   .obtain⟨e,he,rfl⟩:=zq.1 h1;rw[zb h1,zb (by rw[zT];exact zn _ h1)];unfold GG;rw[NF hR hd,za (hg e he)];rfl
   .rw[za h1,NF hR hd,zT];by_cases h2:j=D7 d
    .subst h2;rw[zb rfl,zb (zg ..)]
    .rw[za h2,za];rw[zM];exact λq=>q.elim h2 h1
theorem Cz{α:Type}(p:α->Bool)(f:α->Nat):∀l:List α,(l.map f).sum=((l.filter p).map f).sum+((l.filter λx => !p x).map f).sum
 | []=>rfl
 | x::l=>by
  rw[zT,zbe,Cz p f l,or,or];cases p x <;> simp <;> omega
theorem Gt(f:Int->List Int)(y:Int):∀l:List Int,T3 (l.flatMap f) y=(l.map λx=>T3 (f x) y).sum
 | []=>I2 y
 | x::l=>by rw[zbh,G2,Gt f y l,zT,zbe]
theorem Gn.kK{s s':b6}{ds:List Int}(hR:SR s)(hn:ds.Nodup)(hm:∀d∈ds,d∈Sh.lv s)(g:Gn s s' ds)(y:Int):kK s' y+T3 (ds.flatMap (outs s)) y=kK s y:=by
 unfold Sh.kK;rw[g.lv,Cz (λh=>decide (h∉ds)) (λx=>T3 (outs s x) y) (Sh.lv s),Gt];have h1:((Sh.lv s).filter λh=>decide (h∉ds)).map (λx=>T3 (outs s' x) y)=((Sh.lv s).filter λh=>decide (h∉ds)).map λx=>T3 (outs s x) y:=zt λx hx=>by
  rw[zj,zG] at hx;unfold Sh.outs;rw[g.ob x hx.1 hx.2]
 have h2:((Sh.lv s).filter λx => !decide (x∉ds)).Perm ds:=by
  rw[List.perm_ext_iff_of_nodup ((tX (z8.2 hR)).filter _) hn];intro a;rw[zj];simp only[decide_not,Bool.not_not,zG];exact⟨λq=>q.2,λq=>⟨hm a q,q⟩⟩
 rw[h1,(h2.map λx=>T3 (outs s x) y).sum_nat]
theorem FK{L:List g6}(hd:L.Pairwise λa b=>¬(a.Kind=b.Kind/\a.At=b.At))(k:Int):((L.filter (·.Kind==k)).map (·.At)).Nodup:=by
 unfold List.Nodup;rw[zbt];refine (hd.filter _).imp_of_mem λ{a b} ha hb h e=>?_;rw[zj,pu] at ha hb;exact h ⟨ha.2.trans hb.2.symm,e⟩
theorem AK{L:List g6}{m:List Int}(hd:L.Pairwise λa b=>¬(a.Kind=b.Kind/\a.At=b.At))(h:∀t∈L,(t.Kind=1/\t.At∈m)\/(t.Kind=2/\0<=t.At/\t.At<=5)):L.length<=m.length+6:=by
 have h1:L.length=(L.filter (·.Kind==1)).length+(L.filter (·.Kind==2)).length:=by
  rw[tz (λt:g6=>t.Kind==1) L];congr 2;refine pm λt ht=>?_;rcases h t ht with q | q
  .simp[q.1]
  .simp[q.1]
 have h2:=ab (FK hd 1) (m:=m) λa ha=>by
  obtain⟨t,ht,rfl⟩:=zq.1 ha;rw[zj,pu] at ht;rcases h t ht.1 with q | q
  .exact q.2
  .omega
 have h3:=ab (FK hd 2) (m:=[0,1,2,3,4,5]) λa ha=>by
  obtain⟨t,ht,rfl⟩:=zq.1 ha;rw[zj,pu] at ht;rcases h t ht.1 with q | q
  .omega
  .simp only[zM,zcm,or_false];omega
 rw[zl] at h2 h3;simp only[zH,zah] at h3;omega
theorem gU{q:TQ}{w:Int}:wX q w=true↔∃t∈q.L,t.Kind=2/\t.At=w:=by
 unfold wX;rw[List.any_eq_true];simp
theorem mh{q:TQ}{h:Int}:h∈pz q↔∃t∈q.L,t.Kind=1/\t.At=h:=by
 unfold pz;rw[zq];simp only[zj,pu];exact⟨λ⟨t,⟨a,b⟩,c⟩=>⟨t,a,b,c⟩,λ⟨t,a,b,c⟩=>⟨t,⟨a,b⟩,c⟩⟩
abbrev cz:k8:=⟨0,false,0⟩
def ji(ds:List Int)(c:k8):Bool:=c.Intact&&c.Target != 0&&decide (c.Target∈ds)
def rO(ds:List Int)(c:k8):k8:=if ji ds c then ⟨c.Target,false,c.Call⟩ else c
def lS(l:List k8)(ds:List Int):List k8:=l.map (rO ds)
def cls(l:List k8)(ds:List Int):List Nat:=(List.range l.length).filter λw=>ji ds (l.getD w cz)&&decide (0<=(l.getD w cz).Call)
def jN(l:List k8)(ds:List Int):List g6:=(cls l ds).map λ(w:Nat)=>⟨2,(w:Int),(l.getD w cz).Call⟩
theorem pc(ds:List Int)(c:k8):(rO ds c).Target=c.Target/\(rO ds c).Call=c.Call/\((rO ds c).Intact=true↔c.Intact=true/\ji ds c=false):=by
 unfold rO;cases h:ji ds c
 .rw[za (by simp)];simp
 .rw[zb rfl];simp
theorem Dy(l:List k8)(ds:List Int)(h:Int):jC (lS l ds) h=jC l h:=by
 unfold jC lS;rw[List.countP_map];congr 1;funext c
 simp only[Function.comp_apply,(pc ds c).1]
theorem gM{l:List k8}{ds:List Int}{t:g6}:t∈jN l ds↔∃w,∃hw:w<l.length,t=⟨2,(w:Int),l[w].Call⟩/\ji ds l[w]=true/\0<=l[w].Call:=by
 unfold jN cls;rw[zq];constructor
 .rintro⟨w,hw,rfl⟩;rw[zj,za7] at hw;obtain⟨h1,h2⟩:=hw;have e:l.getD w cz=l[w]:=by rw[zd,zc h1];rfl
  rw[e] at h2 |-;rw[zy,zG] at h2;exact⟨w,h1,rfl,h2.1,h2.2⟩
 .rintro⟨w,hw,rfl,h2,h3⟩;have e:l.getD w cz=l[w]:=by rw[zd,zc hw];rfl
  refine⟨w,?_,by rw[e]⟩;rw[zj,za7,e,zy,zG];exact⟨hw,h2,h3⟩
theorem BO(l:List k8)(ds:List Int):(jN l ds).Pairwise λa b=>¬(a.Kind=b.Kind/\a.At=b.At):=by
 unfold jN cls;rw[zbt];refine (zb7 _ (List.nodup_range (n:=l.length))).imp λ{a b} h=>?_;rintro⟨_,e⟩;dsimp only at e;omega
end Go.Sh
