/- A part. -/
import Derived.Test.YtbdapcapkocckaaGreatQ22rSh
import Derived.Test.YtbdapcapkocckaaGreatQ22rSh1
set_option linter.unusedVariables false
set_option linter.unusedSimpArgs false
set_option linter.unusedSectionVars false
namespace Go.Sh
def Fo(h:Int):Prop:=1<=h/\(h-1) % 32<24/\(h-1) / 32<=9
instance(h:Int):Decidable (Fo h):=by unfold Fo;infer_instance
variable {h:Int}{s:b6}{i:Nat}{x:Int}
theorem YE(q:Fo h):1<=h/\h<=320:=by unfold Fo at q;omega
theorem qJ{i g:Int}(a:0<=i)(b:i<24)(e:0<=g)(m:g<=9):fE i g=some (1+i+32*g):=by
 unfold fE;rw[za Ξ];rw[show y4 (i*1)=i by rw[sN];omega,show y4 (1+i)=1+i by rw[sN];omega,show y4 (g*32)=32*g by rw[sN];omega,show y4 (1+i+32*g)=1+i+32*g by rw[sN];omega]
theorem pN(hh:h<=9223372036854775807):gh h=some (if Fo h then ((h-1) % 32,(h-1) / 32,true) else (-1,-1,false)):=by
 unfold gh;split
 .rename_i q;rw[za (by unfold Fo;simp at q;omega)]
 .rename_i q;have q:1<=h:=by simpa using q
  rw[Y8 (n:=h-1),Nv Δ Δ,a2D,Nl Δ Δ Δ,a2D,Nl Δ Δ Δ,a2D,Int.ediv_one];split
  .rename_i a;rw[za (by unfold Fo;simp at a;omega)]
  .rename_i a;rw[zb (by unfold Fo;simp at a;omega)]
theorem qL(hh:h<=9223372036854775807):jh h=some (if Fo h then (h-1) % 32 else -1):=by
 unfold jh;rw[pN hh,a2D];split <;> rfl
theorem tz(hh:h<=9223372036854775807):kX h=some (if Fo h then (h-1) / 32 else -1):=by
 unfold kX;rw[pN hh,a2D];split <;> rfl
abbrev z0:p9:=⟨0,0,0,0,false,[]⟩
structure SlO (s:m8):Prop where
 len:s.b7.length<=24
 l0:0<=s.Last
 l9:s.Last<=9
 cell:∀i (h:i<s.b7.length),0<=s.b7[i].State/\s.b7[i].State<=3/\0<=s.b7[i].Gen/\s.b7[i].Gen<=s.Last
theorem od{s:m8}{i:Int}{k:Nat}{c:g7}(hi:i=k)(hk:k<s.b7.length)(hl:s.b7.length<=24):G9 s i c=some ⟨s.b7.set k c,s.Last⟩:=by
 subst hi;unfold G9 B5;rw[L8 Δ Δ,a2D,u4 hk,a2D,zN]
theorem Hy{s:m8}(hR:SlO s)(v:p9) :
  (∃i,∃h:i<s.b7.length,s.b7[i].State=0/\(∀j (hj:j<i),s.b7[j].State≠0)/\P4 s v=some (⟨s.b7.set i ⟨1,s.b7[i].Gen,v⟩,s.Last⟩,1+i+32*s.b7[i].Gen,0)) \/
  ((∀i (h:i<s.b7.length),s.b7[i].State≠0)/\P4 s v=some (s,0,4)):=by
 have hlen:=hR.len;by_cases q:∃i,∃h:i<s.b7.length,s.b7[i].State=0
 .obtain⟨i,⟨hi,h0⟩,a⟩:=iy (p:=λi=>∃h:i<s.b7.length,s.b7[i].State=0) q;left;refine⟨i,hi,h0,λj hj=>λe=>by have:=a j ⟨Δ,e⟩;omega,?_⟩;unfold P4;simp only[jn,V3,a2D];have hc:=hR.cell i hi;refine Y6 s.b7.length (λk=>k<=i) Δ Δ (λk hk b=>?_) (λb=>Δ);rcases zI k i with g | g
  .refine .inl ⟨?_,g⟩;have:s.b7[k].State≠0:=λe=>by have:=a k ⟨hk,e⟩;omega
   simp only[r4,hk,q9,ut,u4 hk,a2D];rw[za (Ω this),p8]
  .have:k=i:=by omega
   subst this;refine .inr ⟨.inl _,?_,rfl⟩;simp only[r4,hk,q9,ut,u4 hk,a2D,h0,od rfl hk hlen];rw[qJ Δ Δ hc.2.2.1 (by have:=hR.l9;omega)];simp
 .right;refine⟨λi h e=>q ⟨i,h,e⟩,?_⟩;unfold P4;simp only[jn,V3,a2D];refine Y6 s.b7.length (λk=>True) Δ trivial (λk hk _=>?_) (λb=>⟨.inr (),Ψ,rfl⟩);refine .inl ⟨?_,trivial⟩;have:s.b7[k].State≠0:=λe=>q ⟨k,hk,e⟩;simp only[r4,hk,q9,ut,u4 hk,a2D];rw[za (Ω this),p8]
def yZ(s:m8)(h:Int)(i:Nat):Prop:=∃hi:i<s.b7.length,Fo h/\(h-1) % 32=i/\s.b7[i].Gen=(h-1) / 32/\(s.b7[i].State=1\/s.b7[i].State=2)
theorem oH(s:m8)(hh:h<=9223372036854775807) :
  (∃i,yZ s h i/\C0 s h=some ((i:Int),0))\/((∀i,¬yZ s h i)/\C0 s h=some (-1,if h=0 then 2 else 3)):=by
 unfold C0;by_cases h0:h=0
 .right;subst h0;exact⟨λi ⟨_,a,_⟩=>by unfold Fo at a;omega,Ψ⟩
 .rw[za (Ω h0),qL hh,a2D,za h0];by_cases hd:Fo h
  .rw[zb hd];have b:=hd;unfold Fo at b;obtain⟨k,hk⟩:∃k:Nat,(h-1) % 32=k:=⟨((h-1) % 32).toNat,Δ⟩;rw[hk];by_cases hl:k<s.b7.length
   .rw[za Ξ,u4 hl,a2D,tz hh,a2D,zb hd];by_cases g:s.b7[k].Gen=(h-1) / 32/\(s.b7[k].State=1\/s.b7[k].State=2)
    .left;refine⟨k,⟨hl,hd,hk,g⟩,?_⟩;rw[za];simp;omega
    .right;refine⟨λi ⟨hi,_,m,e⟩=>?_,?_⟩
     .have:i=k:=by omega
      subst this;exact g e
     .rw[zb];simp;omega
   .right;refine⟨λi ⟨hi,_,m,e⟩=>Δ,?_⟩;rw[zb Ξ]
  .right;refine⟨λi ⟨hi,a,_⟩=>hd a,?_⟩;rw[za hd,zb Ψ]
theorem xv{s:m8}(hf:yZ s h i):C0 s h=some ((i:Int),0):=by
 have hh:=YE hf.2.1;rcases oH s (h:=h) Δ with ⟨j,a,b⟩ | ⟨a,_⟩
 .obtain⟨_,_,e,_⟩:=hf;obtain⟨_,_,g,_⟩:=a;have:i=j:=by omega
  subst this;exact b
 .exact absurd hf (a i)
theorem En{s:m8}(hh:h<=9223372036854775807)(hf:∀i,¬yZ s h i):C0 s h=some (-1,if h=0 then 2 else 3):=by
 rcases oH s hh with ⟨j,a,_⟩ | ⟨_,b⟩;·exact absurd a (hf j)
 .exact b
theorem vh(h:Int):(if h=0 then 2 else 3:Int)≠0:=ΩZ
theorem ID{s:m8}(hf:yZ s h i):∃hi:i<s.b7.length,K2 s h=some (if s.b7[i].State=2 then (z0,3) else (s.b7[i].Val,0)):=by
 refine⟨hf.1,?_⟩;unfold K2;rw[xv hf,a2D,za Ψ,u4 hf.1,a2D];split <;> rename_i q
 .rw[zb (Ω q)]
 .rw[za (Ω q)]
theorem BR{s:m8}{h:Int}(hh:h<=9223372036854775807)(hf:∀i,¬yZ s h i):K2 s h=some (z0,if h=0 then 2 else 3):=by
 unfold K2;rw[En hh hf,a2D,zb (Ω (vh h))]
theorem Tj{s:m8}{h:Int}{v:p9}{i:Nat}(hl:s.b7.length<=24)(hf:yZ s h i):∃hi:i<s.b7.length,bF s h v=some (⟨s.b7.set i ⟨s.b7[i].State,s.b7[i].Gen,v⟩,s.Last⟩,0):=by
 refine⟨hf.1,?_⟩;unfold bF;rw[xv hf,a2D,za Ψ,u4 hf.1,a2D,od rfl hf.1 hl,a2D]
def oo(o:p9):mo:=⟨o.Serial,o.Strong,o.Weak,o.Prog,o.Started,o.Fields⟩
def cO(c:g7):M7:=⟨c.State,c.Gen,oo c.Val⟩
def sO(s:b6):aQ:=⟨s.S.b7.map cO,s.S.Last,s.Serial⟩
def Sm(s:b6):Prop:=s.S.b7.length<=30/\∀i (h:i<s.S.b7.length),s.S.b7[i].Val.Fields.length<=10
instance(s:b6):Decidable (Sm s):=by unfold Sm;infer_instance
def TF(c:M7):Prop:=c.State=1\/c.State=2
instance(c:M7):Decidable (TF c):=by unfold TF;infer_instance
def a0u(t:aQ)(o:mo):Prop:=1<=o.Serial/\o.Serial<=t.Serial/\0<=o.Strong/\0<=o.Weak /\ -1<=o.Prog/\o.Prog<=5/\o.Fields.length<=4
def NN(o:mo):Prop:=o.Serial=0/\o.Strong=0/\o.Weak=0/\o.Prog=0/\o.Started=false/\o.Fields.length=0
structure Fp (t:aQ):Prop where
 len:t.b7.length<=24
 l0:0<=t.Last
 l9:t.Last<=9
 cP:0<=t.Serial
 cell:∀i (h:i<t.b7.length),0<=t.b7[i].State/\t.b7[i].State<=3/\0<=t.b7[i].Gen/\t.b7[i].Gen<=t.Last
 no:∀i (h:i<t.b7.length),¬TF t.b7[i]->NN t.b7[i].Val
 ok:∀i (h:i<t.b7.length),TF t.b7[i]->a0u t t.b7[i].Val
 dif:∀i (h:i<t.b7.length) k (hk:k<i),TF t.b7[i]->TF t.b7[k]->t.b7[k].Val.Serial≠t.b7[i].Val.Serial
theorem JG{c:Int->Int->Option Int}{xs:List Int}(key:Int->Int)(hc:∀x y,∃r,c x y=some r/\(r<0↔key x<key y))(hl:xs.length<4611686018427387904) :
  ∃ys,rF c xs=some ys/\ys.Perm xs/\ys.Pairwise (λa b=>key a<=key b):=by
 have hO:=JI key hc;have hs:∃ys,rF c xs=some ys:=by
  unfold rF;rw[zb hl];split <;> exact⟨_,rfl⟩
 obtain⟨ys,hs⟩:=hs;obtain⟨e,g⟩:=Jg hO.2 xs;rw[(Fc hO hs).2] at e g;refine⟨ys,hs,e,g.imp λ{a b} h=>?_⟩;obtain⟨r,m,p⟩:=hc b a;have h:decide ((c b a).getD 0<0)=false:=h;rw[m] at h;have:=of_decide_eq_false h;simp only[un,p] at this;omega
def eE:Nat->List g7->List Int
 | _,[]=>[]
 | k,c::r=>(if c.State=1 then [1+(k:Int)+32*c.Gen] else [])++eE (k+1) r
theorem xz(c:g7):∀(k:Nat) (xs:List g7),eE k (xs ++ [c])=eE k xs++(if c.State=1 then [1+((k+xs.length:Nat):Int)+32*c.Gen] else [])
 | k,[]=>by simp[eE]
 | k,x::r=>by
  simp only[List.cons_append,eE,xz c (k+1) r,zac,zF];rw[show k+1+r.length=k+(r.length+1) by omega]
theorem vC:∀(k:Nat) (xs:List g7),(eE k xs).length<=xs.length
 | _,[]=>by simp[eE]
 | k,c::r=>by
  have:=vC (k+1) r;simp only[eE,zA,zF];split <;> simp <;> omega
theorem qP{h:Int}:∀ {k:Nat} {xs:List g7},h∈eE k xs↔∃i,∃hi:i<xs.length,xs[i].State=1/\h=1+((k+i:Nat):Int)+32*xs[i].Gen
 | k,[]=>by simp[eE]
 | k,c::r=>by
  simp only[eE,zH,qP (k:=k+1) (xs:=r)];constructor
  .rintro (q | ⟨i,hi,a,b⟩)
   .by_cases hc:c.State=1
    .rw[zb hc] at q;exact⟨0,Ψ,Ω hc,Ω q⟩
    .rw[za hc] at q;cases q
   .exact⟨i+1,Ω hi,Ω a,by simp only[List.getElem_cons_succ];rw[b,show k+1+i=k+(i+1) by omega]⟩
  .rintro⟨i,hi,a,b⟩;cases i with
   | zero=>
    left;simp only[List.getElem_cons_zero] at a b;rw[zb a];simp[b]
   | succ i=>
    right;simp only[List.getElem_cons_succ] at a b;exact⟨i,Ω hi,a,by rw[b,show k+1+i=k+(i+1) by omega]⟩
def sk(cs:List g7)(h:Int):Int:=match cs[((h-1) % 32).toNat]? with
 | some c=>c.Val.Serial
 | none=>0
theorem JF{cs:List g7}{g:Int}(h:i<cs.length)(a:cs.length<=32):sk cs (1+(i:Int)+32*g)=cs[i].Val.Serial:=by
 unfold sk;have:((1+(i:Int)+32*g-1) % 32).toNat=i:=Δ
 rw[this,zc h]
structure Slb (cs:List g7):Prop where
 len:cs.length<=24
 gen:∀i (h:i<cs.length),0<=cs[i].Gen/\cs[i].Gen<=9
theorem EF{s:b6}(hR:Slb s.S.b7):∃l,K4 s=some l/\l.Perm (eE 0 s.S.b7)/\l.Pairwise (λa b=>sk s.S.b7 a<=sk s.S.b7 b):=by
 have hlen:=hR.len;unfold K4;simp only[jn];have hh:=vC 0 s.S.b7;have hloop:∃e:List (Int × Int) × List Int,lp (S:=Int × (List (Int × Int)) × (List Int)) (E:=((List (Int × Int)) × (List Int))) (λ((r,A,B):Int × (List (Int × Int)) × (List Int))=>
   if (decide (r<(s.S.b7.length:Int))) then
    ((ix s.S.b7 r).bind λC=>
     if (C.State==1) then
      (fE r C.Gen).bind λG=>
      (app 8 B [G]).bind λP=>
      some (.inl (y4 (r+1),(u6 A G C.Val.Serial),P))
     else
     some (.inl (y4 (r+1),A,B)))
   else
   some (.inr (A,B))) (0,[],[])=some e/\e.2=eE 0 s.S.b7/\∀h∈e.2,C4 e.1 h=some (sk s.S.b7 h):=by
  refine ue (T:=List (Int × Int) × List Int) s.S.b7.length (λk e=>e.2=eE 0 (s.S.b7.take k)/\∀h∈e.2,C4 e.1 h=some (sk s.S.b7 h)) (λe:List (Int × Int) × List Int=>e.2=eE 0 s.S.b7/\∀h∈e.2,C4 e.1 h=some (sk s.S.b7 h)) Δ ⟨by simp[eE],Ψ⟩ (λk e hk K=>?_) (λe K=>?_)
  .obtain⟨g,u⟩:=K;obtain⟨m,l⟩:=e;simp only at g u;left;have hc:=hR.gen k hk;have hl:l.length<=24:=by rw[g];have:=vC 0 (s.S.b7.take k);simp at this;omega
   have et:s.S.b7.take (k+1)=s.S.b7.take k ++ [s.S.b7[k]]:=by rw[List.take_add_one,zc hk];rfl
   have el:(s.S.b7.take k).length=k:=by simp;omega
   by_cases q:s.S.b7[k].State=1
   .refine⟨(u6 m (1+(k:Int)+32*s.S.b7[k].Gen) s.S.b7[k].Val.Serial,l ++ [1+(k:Int)+32*s.S.b7[k].Gen]),?_,?_,?_⟩
    .simp only[r4,hk,q9,ut,u4 hk,a2D,q,zZ];rw[qJ Δ Δ hc.1 hc.2,a2D,U5 Δ Ξ,a2D,p8]
    .simp only;rw[et,xz,zb q,el,g,zar]
    .intro h hh;simp only[zH,zu] at hh |-;rw[sf];rcases hh with hh | rfl
     .split;·rename_i e;rw[e,JF hk Δ]
      .exact u h hh
     .rw[zb rfl,JF hk Δ]
   .refine⟨(m,l),?_,?_,u⟩
    .simp only[r4,hk,q9,ut,u4 hk,a2D];rw[za (Ω q),p8]
    .simp only;rw[et,xz,za q,g,za9]
  .obtain⟨g,u⟩:=K;obtain⟨m,l⟩:=e;refine⟨(m,l),by simp only[Int.lt_irrefl,zc1,zM,pu],?_,u⟩;simpa using g
 obtain⟨⟨m,l⟩,V,R,H⟩:=hloop;rw[show lp _ _=_ from V,a2D];simp only at R H |-;subst R;obtain⟨ys,q1,N,q3⟩:=JG (c:=λp q=>gS p q m) (xs:=eE 0 s.S.b7) (λh=>(C4 m h).getD 0) (λx y=>by
  unfold gS fb bQ;simp only[a2D,zbm,zM,pu];generalize (C4 m x).getD 0=a;generalize (C4 m y).getD 0=b;by_cases g:a<b
  .rw[zG g];exact⟨-1,rfl,by simp[g]⟩
  .rw[we g];by_cases u:a > b
   .rw[zG u];exact⟨1,rfl,by simp[g]⟩
   .rw[we u];exact⟨0,rfl,by simp[g]⟩) Δ
 refine⟨ys,by rw[q1];rfl,N,q3.imp_of_mem λ{a b} ha hb F=>?_⟩;rw[H a (N.mem_iff.1 ha),H b (N.mem_iff.1 hb)] at F;simpa using F
theorem uB{key:Int->Int}:∀ {l m:List Int},l.Perm m->l.Pairwise (λa b=>key a<=key b)->m.Pairwise (λa b=>key a<=key b)->(∀a∈l,∀b∈l,key a=key b->a=b)->l=m
 | [],m,hp,_,_,_=>(List.nil_perm.1 hp).symm
 | a::l,[],hp,_,_,_=>by simp at hp
 | a::l,b::m,hp,r,u,hk=>by
  have ha:=or.1 r;have hb:=or.1 u;have e:a=b:=by
   have p:b∈a::l:=hp.mem_iff.2 (zh ..);have A:a∈b::m:=hp.mem_iff.1 (zh ..);rcases zJ.1 p with q | q
   .exact q.symm
   .rcases zJ.1 A with g | g
    .exact g
    .exact hk a (zh ..) b p (Int.le_antisymm (ha.1 b q) (hb.1 a g))
  subst e;rw[uB (List.perm_cons a |>.1 hp) ha.2 hb.2 λx hx y hy=>hk x (zw _ hx) y (zw _ hy)]
theorem mU(s:b6):(sO s).b7.length=s.S.b7.length:=by simp[sO]
theorem rq(h:Fp (sO s)):s.S.b7.length<=24:=by have:=h.len;rwa [mU] at this
theorem Hn(h:Fp (sO s))(i:Nat)(hi:i<s.S.b7.length):0<=s.S.b7[i].State/\s.S.b7[i].State<=3/\0<=s.S.b7[i].Gen/\s.S.b7[i].Gen<=s.S.Last:=by
 have:=h.cell i ΩY;simpa[sO,cO] using this
theorem Lr(h:Fp (sO s)):Slb s.S.b7:=⟨rq h,λi hi=>by have:=Hn h i hi;have a:s.S.Last<=9:=h.l9;omega⟩
theorem Xy(h:Fp (sO s))(i:Nat)(hi:i<s.S.b7.length)(ht:s.S.b7[i].State=1\/s.S.b7[i].State=2):a0u (sO s) (oo s.S.b7[i].Val):=by
 have:=h.ok i ΩY;simp only[sO,zx,cO,TF] at this;exact this ht
theorem Td(h:Fp (sO s)){j:Nat}(hi:i<s.S.b7.length)(hj:j<s.S.b7.length)(a:s.S.b7[i].State=1\/s.S.b7[i].State=2)(b:s.S.b7[j].State=1\/s.S.b7[j].State=2)(e:s.S.b7[i].Val.Serial=s.S.b7[j].Val.Serial):i=j:=by
 have key:∀i (hi:i<s.S.b7.length) j (hj:j<i),(s.S.b7[i].State=1\/s.S.b7[i].State=2)->(s.S.b7[j].State=1\/s.S.b7[j].State=2)->s.S.b7[j].Val.Serial≠s.S.b7[i].Val.Serial:=λi hi j hj a b=>by
  have:=h.dif i ΩY j hj;simp only[sO,zx,cO,TF,oo] at this;exact this a b
 rcases Nat.lt_trichotomy i j with q | q | q
 .exact absurd e (key j hj i q b a)
 .exact q
 .exact absurd e.symm (key i hi j q a b)
theorem qO(hR:Fp (sO s))(hx:x∈eE 0 s.S.b7):∃i,∃hi:i<s.S.b7.length,s.S.b7[i].State=1/\x=1+(i:Int)+32*s.S.b7[i].Gen/\yZ s.S x i/\sk s.S.b7 x=s.S.b7[i].Val.Serial/\A9 s x=some (s.S.b7[i].Val,0):=by
 obtain⟨i,hi,b,a⟩:=qP.1 hx;rw[zar] at a;have hl:=(rq hR);have hc:=(Lr hR).gen i hi;have hf:yZ s.S x i:=⟨hi,by unfold Fo;omega,Δ,Δ,.inl b⟩;refine⟨i,hi,b,a,hf,by rw[a];exact JF hi Δ,?_⟩;obtain⟨_,e⟩:=ID hf;unfold A9;rw[e,za Δ];rfl
theorem Rc(hf:yZ s.S x i)(a:∀hi:i<s.S.b7.length,s.S.b7[i].State=1):x∈eE 0 s.S.b7:=by
 obtain⟨hi,b,e,g,_⟩:=hf;refine qP.2 ⟨i,hi,a hi,?_⟩;unfold Fo at b;rw[zar];omega
theorem Lx(hR:Fp (sO s)){y:Int}(hx:x∈eE 0 s.S.b7)(hy:y∈eE 0 s.S.b7)(e:sk s.S.b7 x=sk s.S.b7 y):x=y:=by
 obtain⟨i,hi,a,b,_,g,_⟩:=qO hR hx;obtain⟨j,hj,m,p,_,q,_⟩:=qO hR hy;have:=(Td hR) hi hj (.inl a) (.inl m) (by rw[<-g,<-q];exact e);subst this;rw[b,p]
theorem oO:∀(k:Nat) (cs:List g7),k+cs.length<=32->(eE k cs).Nodup
 | _,[],_=>zb4
 | k,c::r,h=>by
  simp only[zF] at h;unfold eE;rw[List.nodup_append];refine⟨by split <;> simp,oO (k+1) r Δ,λa ha b hb e=>?_⟩;split at ha
  .simp only[zu] at ha;subst ha;subst e;obtain⟨i,hi,m,g⟩:=qP.1 hb;have:((1+(k:Int)+32*c.Gen)-1) % 32=((1+((k+1+i:Nat):Int)+32*r[i].Gen)-1) % 32:=by rw[g]
   omega
  .cases ha
theorem MQ(hR:Fp (sO s)):∃l,K4 s=some l/\l.Perm (eE 0 s.S.b7)/\l.Pairwise (λa b=>sk s.S.b7 a<sk s.S.b7 b):=by
 obtain⟨l,g,e,m⟩:=EF (Lr hR);refine⟨l,g,e,?_⟩;have hn:l.Nodup:=e.nodup_iff.2 (oO 0 _ (by have:=(rq hR);omega));have:=List.Pairwise.and m hn;refine this.imp_of_mem λ{a b} ha hb ⟨p,r⟩=>?_;rcases Int.lt_or_eq_of_le p with q | q
 .exact q
 .exact absurd (Lx hR (e.mem_iff.1 ha) (e.mem_iff.1 hb) q) r
theorem vD:∀(k:Nat) (cs:List g7) (i:Nat) (c:g7) (hi:i<cs.length),cs[i].State≠1->c.State=1->(eE k (cs.set i c)).Perm ((1+((k+i:Nat):Int)+32*c.Gen)::eE k cs)
 | _,[],i,_,hi,_,_=>by simp at hi
 | k,d::r,0,c,hi,a,b=>by
  simp only[List.getElem_cons_zero] at a;simp only[List.set_cons_zero,eE,zb b,za a,zcm,zbf];exact List.Perm.refl _
 | k,d::r,i+1,c,hi,a,b=>by
  simp only[List.getElem_cons_succ] at a;simp only[List.set_cons_succ,eE];have:=vD (k+1) r i c (Ω hi) a b;rw[show k+1+i=k+(i+1) by omega] at this;exact (List.Perm.append_left _ this).trans List.perm_middle
theorem ZQ{cs:List g7}{c:g7}(h:((x-1) % 32).toNat≠i):sk (cs.set i c) x=sk cs x:=by
 unfold sk;rw[List.getElem?_set_ne Δ]
theorem KP{s:b6}(hR:Fp (sO s)){i:Nat}(hi:i<s.S.b7.length)(h0:s.S.b7[i].State=0)(o:p9)(ho:o.Serial=s.Serial+1){l:List Int}(hl:K4 s=some l) :
  K4 ⟨⟨s.S.b7.set i ⟨1,s.S.b7[i].Gen,o⟩,s.S.Last⟩,s.Serial+1⟩=some (l ++ [1+(i:Int)+32*s.S.b7[i].Gen]):=by
 obtain⟨l',e,l1,E⟩:=MQ hR;rw[hl] at e;cases e;have hlen:=rq hR;have u:Slb (s.S.b7.set i ⟨1,s.S.b7[i].Gen,o⟩):=⟨Ω hlen,λj hj=>by
  rw[zcw];have:=(Lr hR).gen;split;·exact this i hi
  .exact this j (Ω hj)⟩
 obtain⟨m,F,y,G⟩:=EF (s:=⟨⟨s.S.b7.set i ⟨1,s.S.b7[i].Gen,o⟩,s.S.Last⟩,s.Serial+1⟩) u;have hp:=vD 0 s.S.b7 i ⟨1,s.S.b7[i].Gen,o⟩ hi Δ rfl;rw[zar] at hp;have g:∀x∈l,sk (s.S.b7.set i ⟨1,s.S.b7[i].Gen,o⟩) x=sk s.S.b7 x/\sk s.S.b7 x<=s.Serial:=λx hx=>by
  obtain⟨j,hj,A,H,B,C,_⟩:=qO hR (l1.mem_iff.1 hx);refine⟨ZQ ?_,?_⟩
  .obtain⟨_,_,q,_⟩:=B;intro e;have:j=i:=by omega
   subst this;omega
  .rw[C];exact (Xy hR j hj (.inl A)).2.1
 have r:sk (s.S.b7.set i ⟨1,s.S.b7[i].Gen,o⟩) (1+(i:Int)+32*s.S.b7[i].Gen)=s.Serial+1:=by
  rw[JF (Ω hi) Ξ];simp[ho]
 rw[F];congr 1;refine uB (key:=sk (s.S.b7.set i ⟨1,s.S.b7[i].Gen,o⟩)) ?_ G ?_ ?_
 .refine y.trans (hp.trans ?_);refine List.Perm.trans (List.Perm.cons _ l1.symm) ?_;exact (List.perm_append_singleton _ _).symm
 .rw[za8];refine⟨E.imp_of_mem λ{a b} ha hb p=>?_,Ψ,λa ha b hb=>?_⟩;·rw[(g a ha).1,(g b hb).1];omega
  .rw[zu] at hb;subst hb;rw[r,(g a ha).1];have:=(g a ha).2;omega
 .have hm:∀a∈m,a∈l\/a=1+(i:Int)+32*s.S.b7[i].Gen:=λa ha=>by
   have:=hp.mem_iff.1 (y.mem_iff.1 ha);rcases zJ.1 this with q | q
   .exact .inr q
   .exact .inl (l1.mem_iff.2 q)
  intro a ha b hb p;rcases hm a ha with qa | rfl <;> rcases hm b hb with qb | rfl
  .rw[(g a qa).1,(g b qb).1] at p;exact Lx hR (l1.mem_iff.1 qa) (l1.mem_iff.1 qb) p
  .rw[(g a qa).1,r] at p;have:=(g a qa).2;omega
  .rw[(g b qb).1,r] at p;have:=(g b qb).2;omega
  .rfl
theorem a07(n last:Int):∃a,kM n last=some a/\AM n last=some (sO a)/\Fp (sO a)/\a.S.b7.length<=24/\∀i (h:i<a.S.b7.length),a.S.b7[i].Val.Fields.length<=4:=by
 unfold kM AM bE GQ;by_cases h:0<=n/\n<=24/\0<=last/\last<=9
 .obtain⟨g,m,b,e⟩:=h;obtain⟨k,rfl⟩:∃k:Nat,n=k:=⟨n.toNat,Δ⟩;rw[za Ξ,za Ξ,ka Δ Δ,ka Δ Δ];simp only[a2D,List.length_replicate];rw[ka Δ Δ];refine⟨_,rfl,?_,?_,Ξ,λi h=>Ψ⟩;·simp[sO,cO,oo]
  .refine⟨by simp[sO];omega,b,e,by simp[sO],λi h=>?_,λi h=>?_,λi h q=>?_,λi h k hk q=>?_⟩;·simp[sO,cO];omega
   .simp[sO,cO,oo,NN]
   .exfalso;simp[sO,cO,oo,TF] at q
   .exfalso;simp[sO,cO,oo,TF] at q
 .rw[zb Ξ,zb Ξ];simp only[a2D,zag];rw[show mk 80 ((0:Nat):Int) (⟨0,0,⟨0,0,0,0,false,[]⟩⟩:M7)=some [] from rfl];refine⟨_,rfl,rfl,⟨by simp[sO],by simp[sO],by simp[sO],by simp[sO],?_,?_,?_,?_⟩,Ψ,λi h=>by simp at h⟩ <;> (intro i h;simp[sO] at h)
noncomputable def lv(s:b6):List Int:=(K4 s).getD []
def ob(s:b6)(h:Int):p9:=((A9 s h).getD (z0,0)).1
def outs(s:b6)(h:Int):List Int:=nz (ob s h).Fields
section
variable{s:b6}(hR:Fp (sO s))
include hR
theorem oT:K4 s=some (lv s)/\(lv s).Perm (eE 0 s.S.b7)/\(lv s).Pairwise (λa b=>sk s.S.b7 a<sk s.S.b7 b):=by
 obtain⟨l,e,g,m⟩:=MQ hR;have:lv s=l:=by unfold lv;rw[e];rfl
 rw[this];exact⟨e,g,m⟩
theorem Gt:K4 s=some (lv s):=(oT hR).1
theorem Gu{h:Int}:h∈lv s↔h∈eE 0 s.S.b7:=(oT hR).2.1.mem_iff
theorem dT:(lv s).length<=24:=by
 rw[(oT hR).2.1.length_eq];exact zQ (vC 0 s.S.b7) (rq hR)
theorem vK:(lv s).Nodup:=(oT hR).2.1.nodup_iff.2 (oO 0 _ (by have:=(rq hR);omega))
theorem BZ{h:Int}(hh:h∈lv s):A9 s h=some (ob s h,0):=by
 obtain⟨i,hi,_,_,_,_,e⟩:=qO hR ((Gu hR).1 hh);unfold ob;rw[e];rfl
theorem YP{h:Int}(hh:h∈lv s):∃i,∃hi:i<s.S.b7.length,s.S.b7[i].State=1/\h=1+(i:Int)+32*s.S.b7[i].Gen/\yZ s.S h i/\ob s h=s.S.b7[i].Val:=by
 obtain⟨i,hi,a,b,g,_,e⟩:=qO hR ((Gu hR).1 hh);refine⟨i,hi,a,b,g,?_⟩;unfold ob;rw[e];rfl
theorem Xq{h:Int}(hh:h<=9223372036854775807)(hn:h∉lv s):∃e,e≠0/\A9 s h=some (z0,e):=by
 rcases oH s.S hh with ⟨i,hf,_⟩ | ⟨hf,_⟩
 .obtain⟨hi,e⟩:=ID hf;unfold A9;rw[e];by_cases a:s.S.b7[i].State=2
  .rw[zb a];exact⟨3,Θ,rfl⟩
  .exact absurd ((Gu hR).2 (Rc hf λ_=>hf.2.2.2.2.resolve_right a)) hn
 .unfold A9;rw[BR hh hf];exact⟨_,vh h,rfl⟩
theorem ES{h:Int}(hh:h<=9223372036854775807)(hn:h∉lv s):ob s h=z0:=by
 obtain⟨e,_,a⟩:=Xq hR hh hn;unfold ob;rw[a];rfl
theorem qI{h:Int}(hh:h<=9223372036854775807):∃e,A9 s h=some (ob s h,e)/\(e=0↔h∈lv s):=by
 by_cases q:h∈lv s
 .exact⟨0,BZ hR q,by simp[q]⟩
 .obtain⟨e,h0,a⟩:=Xq hR hh q;refine⟨e,?_,by simp[h0,q]⟩;rw[a,ES hR hh q]
end
theorem RR(v:List Int)(h:v.length<=1000000):kN v=some (nz v):=by
 unfold kN sJ;simp only[jn,a2D];rw[jk v (λb x=>if x != 0 then b ++ [x] else b) id (λk b=>b.length<=k) Δ Ψ (λk hk b hb=>?_) (λb _=>?_)]
 .simp only[a2D,id];rw[foldl_filter];rfl
 .simp only[r4,hk,q9,ut,u4 hk,a2D];by_cases q:(v[k] != 0)=true
  .rw[zb (Ω q),zb q,U5 Δ Ξ,a2D,p8];exact⟨rfl,Ξ⟩
  .rw[za (Ω q),za q,p8];exact⟨rfl,Δ⟩
 .simp only[Int.lt_irrefl,zc1,zM,pu];rfl
theorem dq(l:List Int)(h:Int)(hl:l.length<=1000000):M8 l h=some (L0 l h:Int):=by
 unfold M8;simp only[jn];rw[EG l (λ(b:Int) x=>if (x==h&&h != 0) then b+1 else b) id (λk b=>0<=b/\b<=k) Δ Ψ (λk hk b hb=>?_) (λb _=>?_)]
 .simp only[a2D,id];rw[IA];simp
 .simp only[r4,hk,q9,ut,u4 hk,a2D];by_cases q:(l[k]==h&&h != 0)=true
  .rw[zb q,zb q,p8,Y8 (n:=b+1) Δ Δ];exact⟨rfl,Δ⟩
  .rw[za q,za q,p8];exact⟨rfl,Δ⟩
 .simp only[Int.lt_irrefl,zc1,zM,pu];rfl
noncomputable def na(s:b6)(h:Int):Nat:=((lv s).map λx=>L0 (outs s x) h).sum
section
variable{s:b6}(hR:Fp (sO s))
include hR
end
section
variable{s:b6}(hR:Fp (sO s)) 
include hR
end
theorem vk{α:Type}(p:α->Bool):∀l:List α,l.length=(l.filter p).length+(l.filter λx => !p x).length
 | []=>rfl
 | x::l=>by
  have:=vk p l;by_cases h:p x
  .simp[h];omega
  .simp[h];omega
theorem a0U{s:b6}(hR:Fp (sO s)){l:List Int}(hp:l.Perm (eE 0 s.S.b7))(hs:l.Pairwise (λa b=>sk s.S.b7 a<sk s.S.b7 b)):lv s=l:=by
 obtain⟨_,g,m⟩:=oT hR;exact uB (key:=sk s.S.b7) (g.trans hp.symm) (m.imp λh=>Δ) (hs.imp λh=>Δ) λa ha b hb e=>Lx hR (g.mem_iff.1 ha) (g.mem_iff.1 hb) e
inductive TE (s:b6) (l:List Int):Int->Prop
 | base {h:Int}:h∈l->h∈lv s->TE s l h
 | step {a b:Int}:TE s l a->b∈outs s a->b∈lv s->TE s l b
open Classical in
noncomputable def rcd (s:b6) (l:List Int):List Int:=(lv s).filter λh=>decide (TE s l h)
def Cl(s:b6)(l:List Int):Prop:=∀a∈l,∀b∈outs s a,b∈lv s->b∈l
theorem TE.live{s:b6}{l:List Int}{h:Int}(q:TE s l h):h∈lv s:=by cases q <;> assumption
open Classical in
theorem Hh {s:b6} {l:List Int} {h:Int}:h∈rcd s l↔TE s l h:=by
 unfold rcd;rw[zj];exact⟨λq=>zbd q.2,λq=>⟨q.live,zG q⟩⟩
theorem TE.least{s:b6}{l m:List Int}(hc:Cl s m)(hl:∀x∈l,x∈lv s->x∈m){h:Int}(q:TE s l h):h∈m:=by
 induction q with
 | base a b=>exact hl _ a b
 | step _ a b ih=>exact hc _ ih _ a b
theorem filter_lt{α:Type}{p q:α->Bool}:∀ {l:List α},(∀x∈l,p x=true->q x=true)->∀x∈l,q x=true->p x=false->(l.filter p).length<(l.filter q).length
 | [],_,x,hx,_,_=>by cases hx
 | y::l,h,x,hx,e,g=>by
  have m:(l.filter p).length<=(l.filter q).length:=by
   have h':∀x∈l,p x=true->q x=true:=λx hx=>h x (zw _ hx);clear h hx;induction l with
   | nil=>simp
   | cons z l ih=>
    have:=ih λx hx=>h' x (zw _ hx);have hz:=h' z (zh ..);simp only[pm];by_cases a:p z=true
    .rw[zb a,zb (hz a)];simp only[zF];omega
    .rw[za a];split <;> (try simp only[zF]) <;> omega
  rcases zJ.1 hx with rfl | b
  .simp only[pm,e,g,ut,zM,pu,zF];omega
  .have:=filter_lt (λx hx=>h x (zw _ hx)) x b e g;have hy:=h y (zh ..);simp only[pm];by_cases a:p y=true
   .rw[zb a,zb (hy a)];simp only[zF];omega
   .rw[za a];split <;> (try simp only[zF]) <;> omega
theorem aO{l m:List Int}(hn:l.Nodup)(h:∀x∈l,x∈m):l.length<=m.length:=by
 induction l generalizing m with
 | nil=>simp
 | cons x l ih=>
  rw[me] at hn;have hx:=h x (zh ..);have:=ih (m:=m.erase x) hn.2 λy hy=>(List.mem_erase_of_ne (λe=>hn.1 (by subst e;exact hy))).2 (h y (zw _ hy));rw[List.length_erase_of_mem hx] at this;have:0<m.length:=List.length_pos_of_mem hx;simp only[zF];omega
section
variable{s:b6}(hR:Fp (sO s))
include hR
abbrev Mk(m:List (Int × Bool))(x:Int):Prop:=(C4 m x).getD false=true
omit hR in
theorem oX (m:List (Int × Bool)) (x y:Int):Mk (u6 m x true) y↔y=x\/Mk m y:=by
 unfold Mk;rw[sf];by_cases q:y=x
 .simp[q]
 .simp[q]
structure a0v (s:b6) (l:List Int) (q:g9) (m:List (Int × Bool)):Prop where
 nd:q.L.Nodup
 cap:q.Cap=((lv s).length:Int)
 lQ:∀x∈q.L,Mk m x
 rc:∀x,Mk m x->TE s l x
omit hR in
theorem a0v.room {l:List Int} {q:g9} {m:List (Int × Bool)} (h:a0v s l q m) {x:Int} (hx:x∈lv s) (hm:¬Mk m x):q.L.length<(lv s).length:=by
 have:(x::q.L).length<=(lv s).length:=aO (me.2 ⟨λk=>hm (h.lQ x k),h.nd⟩) λy hy=>by
  rcases zJ.1 hy with rfl | k
  .exact hx
  .exact (h.rc y (h.lQ y k)).live
 simp only[zF] at this;omega
omit hR in
theorem Wi {q:g9} {x:Int} (h:(q.L.length:Int)<q.Cap) (a:q.L.length<=1000):H0 q x=some (⟨q.L ++ [x],q.Cap⟩,0):=by
 unfold H0 N9 X8;rw[a2D,za Ξ];have:=qz (xs:=q.L) (i:=0) (j:=q.L.length) Δ (zC _);rw[show ((0:Nat):Int)=0 from rfl] at this;rw[this];simp only[zL,List.drop_zero,a2D];rw[U5 Δ Ξ];rfl
omit hR in
theorem Zp {x:Int} {r:List Int} {c:Int} (p:r.length<=1000):bW ⟨x::r,c⟩=some (⟨r,c⟩,x,0):=by
 unfold bW jV N9 X8;simp only[a2D,zF];have e:(if (if (((r.length+1:Nat):Int))<1 then (((r.length+1:Nat):Int)) else 1) > 0 then (if (((r.length+1:Nat):Int))<1 then (((r.length+1:Nat):Int)) else 1) else 0:Int)=((1:Nat):Int):=by
  rw[za (show ¬(((r.length+1:Nat):Int)<1) by omega)];rfl
 rw[e];have a:=qz (xs:=x::r) (i:=0) (j:=1) Δ Ψ;have m:=qz (xs:=x::r) (i:=1) (j:=r.length+1) Δ Ψ;rw[show ((0:Nat):Int)=0 from rfl] at a;rw[a,m];simp only[a2D];have b:List.drop 0 (List.take 1 (x::r)) = [x]:=Ψ
 have g:List.drop 1 (List.take (r.length+1) (x::r))=r:=Ψ
 rw[b,g];rfl
end
theorem Rp(l:List Int)(x:Int)(hl:l.length<=1000000):∃r:Int,K3 l x=some r/\(0<=r↔x∈l):=by
 unfold K3;simp only[jn];by_cases h:x∈l
 .obtain⟨i,hi,e⟩:=List.mem_iff_getElem.1 h;obtain⟨j,⟨hj,ej⟩,a⟩:=iy (p:=λi=>∃hi:i<l.length,l[i]=x) ⟨i,hi,e⟩;refine⟨(j:Int),?_,by simp[h]⟩;refine Y6 l.length (λk=>k<=j) Δ (zU _) (λk hk b=>?_) (λb=>Δ);simp only[r4,hk,q9,ut,u4 hk,a2D];rcases zI k j with q | q
  .refine .inl ⟨?_,q⟩;rw[za (by
    rw[zak];intro e;have:=a k ⟨hk,e.symm⟩;omega),p8]
  .have:k=j:=by omega
   subst this;exact .inr ⟨_,by rw[zb (Ω ej.symm)],rfl⟩
 .refine⟨-1,?_,by simp[h]⟩;refine Y6 l.length (λk=>True) Δ trivial (λk hk b=>.inl ⟨?_,trivial⟩) (λb=>⟨.inr (),Ψ,rfl⟩);simp only[r4,hk,q9,ut,u4 hk,a2D];rw[za (by
   rw[zak];intro e;exact h (e▸zl hk)),p8]
theorem contains_eq(l:List Int)(x:Int)(hl:l.length<=1000000):H2 l x=some (decide (x∈l)):=by
 obtain⟨r,a,b⟩:=Rp l x hl;unfold H2;rw[a,a2D];congr 1;exact zcg.2 b
section
variable{s:b6}(hR:Fp (sO s))
include hR
end
abbrev Tb:=List g8
abbrev gY(p:g8):C7:=⟨p.State,p.Key,p.Val⟩
def pt(t:Tb)(j:Nat):g8:=t.getD j ⟨0,0,0⟩
variable {j i n:Nat}{k v:Int}{s:b6}
theorem nC{t:Tb}(h:j<t.length):pt t j=t[j]:=by unfold pt;rw[zd,zc h];rfl
theorem IK{t:Tb}(h:j<t.length):ix t (j:Int)=some (pt t j):=by rw[u4 h,nC h]
theorem Cq{t:Tb}(h:i<t.length)(p:g8)(j:Nat):pt (t.set i p) j=if j=i then p else pt t j:=by
 unfold pt;rw[zd,zd,List.getElem?_set];by_cases e:i=j
 .subst e;simp[h]
 .rw[za e,za (zaz e)]
def hm(n:Nat)(k:Int):Nat:=(y4 ((y4 (5*k))+1) % (n:Int)).toNat
theorem Xm(h:1<=n)(k:Int):hm n k<n:=by
 unfold hm;have a:=Int.emod_nonneg (y4 ((y4 (5*k))+1)) (show (n:Int)≠0 by omega);have b:=Int.emod_lt_of_pos (y4 ((y4 (5*k))+1)) (show (0:Int)<n by omega);omega
theorem MH(h:1<=n)(b:n<=1000)(k:Int):fF n k=some (hm n k:Int):=by
 unfold fF hm;rw[za Ξ];generalize y4 ((y4 (5*k))+1)=a;have hp:=Int.emod_nonneg a (show (n:Int)≠0 by omega);have hl:=Int.emod_lt_of_pos a (show (0:Int)<n by omega);unfold rem;rw[za Δ,a2D,Int.toNat_of_nonneg hp];rw[Int.tmod_eq_emod];split;·rw[show a % (n:Int)-((0:Nat):Int)=a % n by simp,za Ξ]
 .have:((n:Int).natAbs:Int)=n:=by simp
  rw[this];rw[zb Ξ,Y8 Δ Δ];congr 1;omega
def pos(n:Nat)(k:Int)(d:Nat):Nat:=(hm n k+d) % n
theorem uu(h:1<=n)(k:Int)(d:Nat):pos n k d<n:=Nat.mod_lt _ h
theorem XC(h:1<=n)(a:n<=8):n=1\/n=2\/n=3\/n=4\/n=5\/n=6\/n=7\/n=8:=Δ
theorem RO{m:Nat}(h:1<=n)(a:n<=8)(hm:m<n)(hi:i<n):∃d,d<n/\(m+d) % n=i:=by
 refine⟨(i+n-m) % n,Nat.mod_lt _ h,?_⟩;rcases XC h a with rfl | rfl | rfl | rfl | rfl | rfl | rfl | rfl <;> omega
theorem VK{m d d':Nat}(h:1<=n)(a:n<=8)(hd:d<n)(b:d'<n)(e:(m+d) % n=(m+d') % n):d=d':=by
 rcases XC h a with rfl | rfl | rfl | rfl | rfl | rfl | rfl | rfl <;> omega
theorem Jh(h:1<=n)(a:n<=8)(k:Int)(hi:i<n):∃d,d<n/\pos n k d=i:=RO h a (Xm h k) hi
theorem Wf(h:1<=n)(b:n<=8){d d':Nat}(hd:d<n)(a:d'<n)(e:pos n k d=pos n k d'):d=d':=VK h b hd a e
structure HR (t:Tb):Prop where
 l1:1<=t.length
 l8:t.length<=8
 st:∀i,i<t.length->((pt t i).State=0\/(pt t i).State=1\/(pt t i).State=2)/\((pt t i).State≠1->(pt t i).Key=0/\(pt t i).Val=0)
 uq:∀i j,i<t.length->j<t.length->(pt t i).State=1->(pt t j).State=1->(pt t i).Key=(pt t j).Key->i=j
 rd:∀i,i<t.length->(pt t i).State=1->∀d,d<t.length->(∀d',d'<=d->pos t.length (pt t i).Key d'≠i)->(pt t (pos t.length (pt t i).Key d)).State≠0
def Fk(t:Tb)(k:Int)(i:Nat):Prop:=i<t.length/\(pt t i).State=1/\(pt t i).Key=k
instance(t:Tb)(k:Int)(i:Nat):Decidable (Fk t k i):=by unfold Fk;infer_instance
theorem step_eq(h:1<=n)(a:n<=1000)(k:Int){d:Nat}(hd:d<n):rem (y4 ((hm n k:Int)+d)) n=some ((pos n k d:Nat):Int):=by
 have:=Xm h k;rw[Y8 Δ Δ,Nv Δ Δ];unfold pos;simp[Int.natCast_emod]
theorem Eo{t:Tb}(u:1<=t.length)(H:t.length<=8)(k:Int) :
  (∃d,d<t.length/\(∀j,j<d->(pt t (pos t.length k j)).State≠0/\¬Fk t k (pos t.length k j))/\Fk t k (pos t.length k d)/\bT t k=some ((pos t.length k d:Nat):Int)) \/
  (∃d,d<=t.length/\(∀j,j<d->(pt t (pos t.length k j)).State≠0/\¬Fk t k (pos t.length k j))/\(d=t.length\/(pt t (pos t.length k d)).State=0)/\bT t k=some (-1)):=by
 unfold bT;simp only[jn,kG,a2D];generalize hq:(lp (S:=Int) (E:=Int ⊕ Unit) _ 0)=q;have body:∀d:Nat,d<t.length->(if (decide ((d:Int)<(t.length:Int))) then
    (fF (t.length:Int) k).bind λr=>
    (rem (y4 (r+d)) (t.length:Int)).bind λm=>
    (ix t m).bind λg=>
    if (g.State==0) then
     some (.inr (.inr ()))
    else
    if ((g.State==1)&&(g.Key==k)) then
     some (.inr (.inl m))
    else
    some (.inl (y4 ((d:Int)+1)))
   else
   some (.inr (.inr ())):Option (Int ⊕ (Int ⊕ Unit)))=if (pt t (pos t.length k d)).State=0 then some (.inr (.inr ())) else if Fk t k (pos t.length k d) then some (.inr (.inl ((pos t.length k d:Nat):Int))) else some (.inl ((d+1:Nat):Int)):=λd hd=>by
  have hp:=uu u k d;rw[zb (Ω hd),MH u Δ,a2D,step_eq u Δ k hd,a2D,IK hp,a2D,p8 Δ];by_cases a:(pt t (pos t.length k d)).State=0
  .rw[zb (Ω a),zb a]
  .rw[za (Ω a),za a];by_cases b:Fk t k (pos t.length k d)
   .rw[zb (by simp[b.2.1,b.2.2]),zb b]
   .rw[za (by simp;exact λu F=>b ⟨hp,u,F⟩),za b]
 have key:=EH (f:=λ(p:Int)=>if (decide (p<(t.length:Int))) then
    (fF (t.length:Int) k).bind λr=>
    (rem (y4 (r+p)) (t.length:Int)).bind λm=>
    (ix t m).bind λg=>
    if (g.State==0) then
     some (.inr (.inr ()))
    else
    if ((g.State==1)&&(g.Key==k)) then
     some (.inr (.inl m))
    else
    some (.inl (y4 (p+1)))
   else
   some (.inr (.inr ()))) t.length (λd=>∀j,j<d->(pt t (pos t.length k j)).State≠0/\¬Fk t k (pos t.length k j))
   (λ(e:Int ⊕ Unit)=>(∃d,d<t.length/\(∀j,j<d->(pt t (pos t.length k j)).State≠0/\¬Fk t k (pos t.length k j))/\Fk t k (pos t.length k d)/\e = .inl ((pos t.length k d:Nat):Int)) \/
    (∃d,d<=t.length/\(∀j,j<d->(pt t (pos t.length k j)).State≠0/\¬Fk t k (pos t.length k j))/\(d=t.length\/(pt t (pos t.length k d)).State=0)/\e = .inr ())) Δ (λj hj=>Δ)
   (λd hd y=>by
    rw[body d hd];by_cases a:(pt t (pos t.length k d)).State=0
    .rw[zb a];exact .inr ⟨_,rfl,.inr ⟨d,Δ,y,.inr a,rfl⟩⟩
    .rw[za a];by_cases b:Fk t k (pos t.length k d)
     .rw[zb b];exact .inr ⟨_,rfl,.inl ⟨d,hd,y,b,rfl⟩⟩
     .rw[za b];refine .inl ⟨rfl,λj hj=>?_⟩;rcases zI j d with q | q
      .exact y j q
      .have:j=d:=by omega
       subst this;exact⟨a,b⟩)
   (λy=>⟨.inr (),Ψ,.inr ⟨t.length,zC _,y,.inl rfl,rfl⟩⟩)
 obtain⟨e,he,G⟩:=key;rw[he] at hq;subst hq;rcases G with ⟨d,A,B,C,rfl⟩ | ⟨d,A,B,C,rfl⟩;·exact .inl ⟨d,A,B,C,rfl⟩
 .exact .inr ⟨d,A,B,C,rfl⟩
theorem vo{t:Tb}(hR:HR t)(hi:Fk t k i):bT t k=some (i:Int):=by
 obtain⟨di,g,b⟩:=Jh hR.l1 hR.l8 k hi.1;have road:∀d,d<di->(pt t (pos t.length k d)).State≠0:=λd hd=>by
  have:=hR.rd i hi.1 hi.2.1 d Δ (λd' y e=>by
   rw[hi.2.2] at e;have:=Wf hR.l1 hR.l8 Δ g (e.trans b.symm);omega)
  rwa [hi.2.2] at this
 rcases Eo hR.l1 hR.l8 k with ⟨d,u,m,a,p⟩ | ⟨d,u,m,a,p⟩;·rw[p,hR.uq _ i (uu hR.l1 k d) hi.1 a.2.1 hi.2.1 (by rw[a.2.2,hi.2.2])]
 .exfalso;rcases zI di d with q | q
  .exact (m di q).2 (by rw[b];exact hi)
  .rcases a with rfl | a
   .omega
   .rcases zI d di with r | r
    .exact road d r a
    .have:d=di:=by omega
     subst this;rw[b,hi.2.1] at a;cases a
theorem vn{t:Tb}(m:1<=t.length)(p:t.length<=8)(hi:∀i,¬Fk t k i):bT t k=some (-1):=by
 rcases Eo m p k with ⟨d,e,g,a,b⟩ | ⟨d,e,g,a,b⟩;·exact absurd a (hi _)
 .exact b
theorem Es(t:Tb)(k:Int):(∃i,Fk t k i)\/∀i,¬Fk t k i:=by
 by_cases h:∃i,Fk t k i
 .exact .inl h
 .exact .inr λi hi=>h ⟨i,hi⟩
theorem Dl{t:Tb}(a:t.length<=1000)(hi:i<t.length)(p:g8):fG t (i:Int) p=some (t.set i p):=by
 unfold fG H9;rw[L8 Δ Δ,a2D,u4 hi,a2D,zN]
inductive AY (t:Tb) (k v:Int):Tb × Int->Prop
 | old (i:Nat) (hi:Fk t k i):AY t k v (t.set i ⟨1,k,v⟩,0)
 | new (d:Nat) (hn:∀i,¬Fk t k i) (hd:d<t.length) (hb:∀j,j<d->(pt t (pos t.length k j)).State=1) (hf:(pt t (pos t.length k d)).State≠1):AY t k v (t.set (pos t.length k d) ⟨1,k,v⟩,0)
 | full (hn:∀i,¬Fk t k i) (ha:∀i,i<t.length->(pt t i).State=1):AY t k v (t,8)
theorem SE{t:Tb}(hR:HR t)(k v:Int):∃r,qN t k v=some r/\AY t k v r:=by
 have g:=hR.l1;have B:=hR.l8;unfold qN;rcases Es t k with ⟨i,hi⟩ | hn
 .rw[vo hR hi,a2D,zb Ψ,Dl Δ hi.1];exact⟨_,rfl,.old i hi⟩
 .rw[vn g B hn,a2D,za Θ];simp only[jn,kG,a2D];have key:=EH (f:=λ(b:Int)=>
   if (decide (b<(t.length:Int))) then
    (fF (t.length:Int) k).bind λu=>
    (rem (y4 (u+b)) (t.length:Int)).bind λm=>
    (ix t m).bind λy=>
    if (y.State != 1) then
     (fG t m (⟨1,k,v⟩:g8)).bind λA=>
     some (Sum.inr (.inl (A,(0:Int))))
    else
    some (.inl (y4 (b+1)))
   else
   some (.inr (.inr ()))) t.length (λd=>∀j,j<d->(pt t (pos t.length k j)).State=1)
   (λ(e:(Tb × Int) ⊕ Unit)=>(∃r,e = .inl r/\AY t k v r)\/(e = .inr ()/\AY t k v (t,8))) Δ (λj hj=>Δ)
   (λd hd p=>by
    have hp:=uu g k d;rw[zb (Ω hd),MH g Δ,a2D,step_eq g Δ k hd,a2D,IK hp,a2D];by_cases a:(pt t (pos t.length k d)).State=1
    .rw[za (Ω a),p8 Δ];refine .inl ⟨rfl,λj hj=>?_⟩;rcases zI j d with q | q
     .exact p j q
     .have:j=d:=by omega
      subst this;exact a
    .rw[zb (Ω a),Dl Δ hp,a2D];exact .inr ⟨_,rfl,.inl ⟨_,rfl,.new d hn hd p a⟩⟩)
   (λp=>⟨.inr (),Ψ,.inr ⟨rfl,.full hn λi hi=>by
    obtain⟨d,hd,rfl⟩:=Jh g B k hi;exact p d hd⟩⟩)
  obtain⟨e,he,C⟩:=key;rw[he,a2D];rcases C with ⟨r,rfl,hr⟩ | ⟨rfl,hr⟩;·exact⟨r,rfl,hr⟩
  .exact⟨_,rfl,hr⟩
theorem Rh{t:Tb}(hR:HR t)(hi:Fk t k i):bI t k=some ((pt t i).Val,0):=by
 unfold bI;rw[vo hR hi,a2D,za Ψ,IK hi.1,a2D]
theorem Rg{t:Tb}(hR:HR t)(hi:∀i,¬Fk t k i):bI t k=some (0,9):=by
 unfold bI;rw[vn hR.l1 hR.l8 hi,a2D,zb Θ]
theorem vf{t:Tb}(hR:HR t)(hi:Fk t k i):bS t k=some (t.set i ⟨2,0,0⟩,(pt t i).Val,0):=by
 have:=hR.l8;unfold bS;rw[vo hR hi,a2D,za Ψ,Dl Δ hi.1,a2D,IK hi.1,a2D]
theorem ve{t:Tb}(hR:HR t)(hi:∀i,¬Fk t k i):bS t k=some (t,0,9):=by
 unfold bS;rw[vn hR.l1 hR.l8 hi,a2D,zb Θ]
theorem HR.set{t:Tb}(hR:HR t)(hi:i<t.length){p:g8}(h0:p.State=1\/p=⟨2,0,0⟩)
  (hu:p.State=1->∀j,j≠i->¬Fk t p.Key j)(hr:p.State=1->∀d,d<t.length->(∀d',d'<=d->pos t.length p.Key d'≠i)->(pt t (pos t.length p.Key d)).State≠0):HR (t.set i p):=by
 have m:p.State≠0:=by
  rcases h0 with h | rfl
  .omega
  .simp
 refine⟨Ω hR.l1,Ω hR.l8,λj hj=>?_,λj r hj g s1 s2 hk=>?_,λj hj s1 d hd a=>?_⟩ <;> simp only[zaq] at *
 .rw[Cq hi];split
  .rcases h0 with h | rfl
   .exact⟨.inr (.inl h),λq=>absurd h q⟩
   .exact⟨.inr (.inr rfl),λ_=>⟨rfl,rfl⟩⟩
  .exact hR.st j hj
 .rw[Cq hi] at s1 s2 hk;rw[Cq hi] at hk;by_cases b:j=i <;> by_cases e:r=i
  .rw[b,e]
  .rw[zb b] at s1 hk;rw[za e] at s2 hk;exact absurd ⟨g,s2,hk.symm⟩ (hu s1 r e)
  .rw[za b] at s1 hk;rw[zb e] at s2 hk;exact absurd ⟨hj,s1,hk⟩ (hu s2 j b)
  .rw[za b] at s1 hk;rw[za e] at s2 hk;exact hR.uq j r hj g s1 s2 hk
 .simp only[Cq hi] at s1 a |-;by_cases b:j=i
  .simp only[zb b] at s1 a |-;split;·exact m
   .exact hr s1 d hd (by rw[<-b];exact a)
  .simp only[za b] at s1 a |-;split;·exact m
   .exact hR.rd j hj s1 d hd a
theorem Cr{t:Tb}(hR:HR t){k v:Int}{r:Tb × Int}(h:AY t k v r):HR r.1:=by
 cases h with
 | old i hi=>
  refine hR.set hi.1 (.inl rfl) (λ_ j hj q=>hj (hR.uq j i q.1 hi.1 q.2.1 hi.2.1 (q.2.2.trans hi.2.2.symm))) λ_ d hd a=>?_;have:=hR.rd i hi.1 hi.2.1 d hd (by rw[hi.2.2];exact a);rwa [hi.2.2] at this
 | new d hn hd hb hf=>
  refine hR.set (uu hR.l1 k d) (.inl rfl) (λ_ j _=>hn j) λ_ d' b a=>?_;rcases zI d' d with q | q
  .have:=hb d' q;simp only;omega
  .exact absurd rfl (a d q)
 | full hn ha=>exact hR
theorem qD{t:Tb}(hR:HR t)(hi:i<t.length):HR (t.set i ⟨2,0,0⟩):=hR.set hi (.inr rfl) (λq=>Γ) λq=>by cases q
theorem ixm{t:Tb}(h:j<t.length):ix (t.map gY) (j:Int)=some (gY (pt t j)):=by rw[oR,IK h];rfl
theorem SX{t:Tb}(m:t.length<=1000)(hi:Fk t k i)(hf:∀j,j<i->¬Fk t k j):nG (t.map gY) k=some (i:Int):=by
 unfold nG;simp only[jn];refine Y6 t.length (λj=>j<=i) Δ (zU _) (λj hj g=>?_) (λg=>by have:=hi.1;omega);rw[zb (Ω hj),ixm hj,a2D];by_cases e:j=i
 .subst e;exact .inr ⟨.inl (j:Int),by rw[zb (by simp[gY,hi.2.1,hi.2.2])],rfl⟩
 .have:=hf j Δ;refine .inl ⟨by rw[za (by simp[gY];exact λa b=>this ⟨hj,a,b⟩),p8 Δ],Δ⟩
theorem SW{t:Tb}(g:t.length<=1000)(hf:∀j,¬Fk t k j):nG (t.map gY) k=some (-1):=by
 unfold nG;simp only[jn];refine Y6 t.length (λj=>True) Δ trivial (λj hj e=>?_) (λe=>⟨.inr (),Ψ,rfl⟩);rw[zb (Ω hj),ixm hj,a2D];refine .inl ⟨by rw[za (by simp[gY];exact λa b=>hf j ⟨hj,a,b⟩),p8 Δ],trivial⟩
theorem Rb{t:Tb}(h:∃i,Fk t k i):∃i,Fk t k i/\∀j,j<i->¬Fk t k j:=by
 obtain⟨i,a,b⟩:=iy h;exact⟨i,a,λj hj q=>by have:=b j q;omega⟩
theorem Pm{t:Tb}{i:Nat}(a:t.length<=1000)(hi:i<t.length)(p:g8):Cv (t.map gY) (i:Int) (gY p)=some ((t.set i p).map gY):=by
 unfold Cv;rw[L8 Δ Ξ,a2D,ixm hi,a2D,zN,zca]
def Has(t:Tb)(k v:Int):Prop:=∃i,Fk t k i/\(pt t i).Val=v
theorem YB{t:Tb}:(∀v,¬Has t k v)↔∀i,¬Fk t k i:=by
 constructor;·intro h i hi;exact h _ ⟨i,hi,rfl⟩
 .rintro h v ⟨i,hi,_⟩;exact h i hi
theorem YC(t:Tb)(k:Int):(∃v,Has t k v)\/∀v,¬Has t k v:=by
 by_cases h:∃v,Has t k v
 .exact .inl h
 .exact .inr λv hv=>h ⟨v,hv⟩
theorem Has.fn{t:Tb}(hR:HR t){e:Int}(h:Has t k v)(h':Has t k e):v=e:=by
 obtain⟨i,a,rfl⟩:=h;obtain⟨j,b,rfl⟩:=h';rw[hR.uq i j a.1 b.1 a.2.1 b.2.1 (a.2.2.trans b.2.2.symm)]
theorem Vp{t:Tb}(hR:HR t)(h:Has t k v):bI t k=some (v,0):=by
 obtain⟨i,a,rfl⟩:=h;exact Rh hR a
theorem OH{t:Tb}(hR:HR t)(h:∀v,¬Has t k v):bI t k=some (0,9):=Rg hR (YB.1 h)
theorem Gj{t:Tb}{i:Nat}(hi:i<t.length){k v:Int}(p:g8)(h:∀j,j≠i->Fk t p.Key j->p.State≠1)(k' q:Int) :
  Has (t.set i p) k' q↔(p.State=1/\p.Key=k'/\p.Val=q)\/∃j,j≠i/\Fk t k' j/\(pt t j).Val=q:=by
 unfold Has Fk;simp only[zaq,Cq hi];constructor
 .rintro⟨j,⟨m,a,b⟩,g⟩;by_cases e:j=i
  .rw[zb e] at a b g;exact .inl ⟨a,b,g⟩
  .rw[za e] at a b g;exact .inr ⟨j,e,⟨m,a,b⟩,g⟩
 .rintro (⟨m,a,b⟩ | ⟨j,e,⟨m,a,b⟩,g⟩);·exact⟨i,by simp[hi,m,a,b]⟩
  .exact⟨j,by simp[e,m,a,b,g]⟩
theorem AK{t:Tb}(hR:HR t){k v:Int}{r:Tb × Int}(h:AY t k v r)(h0:r.2=0)(k' g:Int):Has r.1 k' g↔(k'=k/\g=v)\/(k'≠k/\Has t k' g):=by
 cases h with
 | old i hi=>
  rw[Gj (k:=k) (v:=v) hi.1 _ (λj hj q=>absurd (hR.uq j i q.1 hi.1 q.2.1 hi.2.1 (q.2.2.trans hi.2.2.symm)) hj)];constructor
  .rintro (⟨_,rfl,rfl⟩ | ⟨j,e,a,b⟩);·exact .inl ⟨rfl,rfl⟩
   .refine .inr ⟨λq=>?_,j,a,b⟩;subst q;exact e (hR.uq j i a.1 hi.1 a.2.1 hi.2.1 (a.2.2.trans hi.2.2.symm))
  .rintro (⟨rfl,rfl⟩ | ⟨e,j,a,b⟩);·exact .inl ⟨rfl,rfl,rfl⟩
   .refine .inr ⟨j,λq=>?_,a,b⟩;subst q;exact e (a.2.2.symm.trans hi.2.2)
 | new d hn hd hb hf=>
  rw[Gj (k:=k) (v:=v) (uu hR.l1 k d) _ (λj hj q=>absurd q (hn j))];constructor
  .rintro (⟨_,rfl,rfl⟩ | ⟨j,e,a,b⟩);·exact .inl ⟨rfl,rfl⟩
   .refine .inr ⟨λq=>?_,j,a,b⟩;subst q;exact hn j a
  .rintro (⟨rfl,rfl⟩ | ⟨e,j,a,b⟩);·exact .inl ⟨rfl,rfl,rfl⟩
   .refine .inr ⟨j,λq=>?_,a,b⟩;subst q;exact hf a.2.1
 | full hn ha=>cases h0
theorem vd{t:Tb}(hR:HR t)(hi:Fk t k i)(k' g:Int):Has (t.set i ⟨2,0,0⟩) k' g↔k'≠k/\Has t k' g:=by
 rw[Gj (k:=k) (v:=0) hi.1 _ (λj hj q=>Ψ)];constructor
 .rintro (⟨h,_⟩ | ⟨j,e,a,b⟩);·cases h
  .refine⟨λq=>?_,j,a,b⟩;subst q;exact e (hR.uq j i a.1 hi.1 a.2.1 hi.2.1 (a.2.2.trans hi.2.2.symm))
 .rintro⟨e,j,a,b⟩;refine .inr ⟨j,λq=>?_,a,b⟩;subst q;exact e (a.2.2.symm.trans hi.2.2)
def keys(t:Tb):List Int:=(t.filter (·.State==1)).map (·.Key)
theorem SV{t:Tb}(hR:HR t)(k:Int):nG (t.map gY) k=bT t k:=by
 have e:=hR.l8;rcases Es t k with ⟨i,hi⟩ | hn
 .rw[vo hR hi];obtain⟨f,a,b⟩:=Rb ⟨i,hi⟩;rw[SX Δ a b,hR.uq f i a.1 hi.1 a.2.1 hi.2.1 (a.2.2.trans hi.2.2.symm)]
 .rw[vn hR.l1 hR.l8 hn,SW Δ hn]
theorem ZG{t:Tb}(hR:HR t)(k:Int):wj (t.map gY) k=(bS t k).map λr=>(r.1.map gY,r.2):=by
 have a:=hR.l8;rcases Es t k with ⟨i,hi⟩ | hn
 .rw[vf hR hi];unfold wj;rw[SV hR,vo hR hi,a2D,za Ψ];have:=Pm (t:=t) Δ hi.1 ⟨2,0,0⟩;dsimp only[gY] at this;rw[this,a2D,ixm hi.1];rfl
 .rw[ve hR hn];unfold wj;rw[SV hR,vn hR.l1 hR.l8 hn];rfl
theorem Jj{t:Tb}{r:Tb × Int}(h:AY t k v r):r.1.length=t.length:=by cases h <;> simp
theorem kZ(t:Tb):(keys t).length=t.countP (·.State==1):=by
 unfold keys;rw[zf,zbg]
theorem vH{t:Tb}(h:i<t.length)(p:g8):(keys (t.set i p)).length+(if (pt t i).State=1 then 1 else 0)=(keys t).length+if p.State=1 then 1 else 0:=by
 rw[kZ,kZ,List.countP_set h,nC h];simp only[zak];have:(if t[i].State=1 then 1 else 0)<=t.countP λc=>c.State==1:=by
  split
  .rename_i e;exact zby.2 ⟨t[i],zl h,Ω e⟩
  .exact zU _
 omega
theorem OJ{t:Tb}(h:∀i,i<t.length->(pt t i).State=1):(keys t).length=t.length:=by
 rw[kZ,List.countP_eq_length];intro a ha;obtain⟨i,hi,rfl⟩:=u8 ha;have:=h i hi;rw[nC hi] at this;simpa using this
theorem Vz{t:Tb}(hi:i<t.length)(h:(pt t i).State≠1):(keys t).length<t.length:=by
 have a:(keys t).length<=t.length:=by rw[kZ];exact List.countP_le_length
 rcases zI (keys t).length t.length with q | q
 .exact q
 .exfalso;have e:(keys t).length=t.length:=by omega
  rw[kZ,List.countP_eq_length] at e;have:=e t[i] (zl hi);rw[nC hi] at h;exact h (Ω this)
structure TM {V:Type} (φ:V->Int->Prop) (t:Tb) (m:List (Int × V)):Prop where
 R:HR t
 nd:(m.map (·.1)).Nodup
 len:(keys t).length=m.length
 has:∀k,(∀v,Has t k v->∃u,C4 m k=some u/\φ u v)/\((C4 m k).isSome=true->∃v,Has t k v)
theorem TM.some{V:Type}{φ:V->Int->Prop}{t:Tb}{m:List (Int × V)}(h:TM φ t m)(k:Int):(∃v u,Has t k v/\C4 m k=some u/\φ u v)\/(C4 m k=none/\∀v,¬Has t k v):=by
 rcases YC t k with ⟨v,hv⟩ | hn
 .obtain⟨u,a,b⟩:=(h.has k).1 v hv;exact .inl ⟨v,u,hv,a,b⟩
 .refine .inr ⟨?_,hn⟩;cases hq:C4 m k with
  | none=>rfl
  | some u=>
   obtain⟨v,hv⟩:=(h.has k).2 (by rw[hq];rfl);exact absurd hv (hn v)
theorem TM.put{V:Type}{φ:V->Int->Prop}{t:Tb}{m:List (Int × V)}(h:TM φ t m)(k v:Int)(u:V)(hφ:φ u v):∃r,qN t k v = .some r/\r.1.length=t.length/\((r.2=0/\TM φ r.1 (u6 m k u)/\((C4 m k).isSome=true\/m.length<t.length))\/(r=(t,8)/\(C4 m k)=none/\m.length=t.length)):=by
 obtain⟨r,hr,hp⟩:=SE h.R k v;refine⟨r,hr,Jj hp,?_⟩;have p:=Cr h.R hp;by_cases h0:r.2=0
 .left;have hh:=AK h.R hp h0;have g:∀k',(∀w,Has r.1 k' w->∃x,C4 (u6 m k u) k' = .some x/\φ x w)/\((C4 (u6 m k u) k').isSome=true->∃w,Has r.1 k' w):=λk'=>by
   rw[sf];by_cases e:k'=k
   .subst e;rw[zb rfl];refine⟨λw hw=>?_,λ_=>⟨v,(hh _ _).2 (.inl ⟨rfl,rfl⟩)⟩⟩;rcases (hh _ _).1 hw with ⟨_,rfl⟩ | ⟨q,_⟩;·exact⟨u,rfl,hφ⟩
    .exact absurd rfl q
   .rw[za e];refine⟨λw hw=>?_,λq=>?_⟩
    .rcases (hh _ _).1 hw with ⟨q,_⟩ | ⟨_,q⟩;·exact absurd q e
     .exact (h.has k').1 w q
    .obtain⟨w,hw⟩:=(h.has k').2 q;exact⟨w,(hh _ _).2 (.inr ⟨e,hw⟩)⟩
  have hlen:(keys r.1).length=(u6 m k u).length/\((C4 m k).isSome=true\/m.length<t.length):=by
   rw[RP];cases hp with
   | old i hi=>
    have a:(C4 m k).isSome=true:=by
     obtain⟨x,a,_⟩:=(h.has k).1 _ ⟨i,hi,rfl⟩;rw[a];rfl
    have:=vH hi.1 ⟨1,k,v⟩;rw[zb hi.2.1,zb rfl,h.len] at this;rw[zb a];exact⟨ΩH,.inl a⟩
   | new d hn hd hb hf=>
    have a:(C4 m k)=none:=by
     rcases h.some k with ⟨w,x,hw,_⟩ | ⟨q,_⟩
     .obtain⟨i,hi,_⟩:=hw;exact absurd hi (hn i)
     .exact q
    have b:=uu h.R.l1 k d;have:=vH b ⟨1,k,v⟩;rw[za hf,zb rfl,h.len] at this;rw[a];have y:=Vz b hf;rw[h.len] at y;exact⟨Ω this,.inr y⟩
   | full hn ha=>cases h0
  exact⟨h0,⟨p,KQ h.nd k u,hlen.1,g⟩,hlen.2⟩
 .right;cases hp with
  | old i hi=>exact absurd rfl h0
  | new d hn hd hb hf=>exact absurd rfl h0
  | full hn ha=>
   refine⟨rfl,?_,?_⟩
   .rcases h.some k with ⟨w,x,hw,_⟩ | ⟨q,_⟩
    .obtain⟨i,hi,_⟩:=hw;exact absurd hi (hn i)
    .exact q
   .rw[<-h.len,OJ ha]
theorem TM.drop{V:Type}{φ:V->Int->Prop}{t:Tb}{m:List (Int × V)}(h:TM φ t m)(k:Int):(∃r v u,bS t k = .some (r,v,0)/\r.length=t.length/\C4 m k = .some u/\φ u v/\TM φ r (xF m k))\/(bS t k = .some (t,0,9)/\C4 m k=none/\xF m k=m):=by
 rcases Es t k with ⟨i,hi⟩ | hn
 .left;obtain⟨u,a,b⟩:=(h.has k).1 _ ⟨i,hi,rfl⟩;refine⟨_,_,u,vf h.R hi,Ψ,a,b,qD h.R hi.1,(RJ m k).nodup h.nd,?_,λk'=>?_⟩
  .have:=vH hi.1 ⟨2,0,0⟩;rw[zb hi.2.1,za Θ,h.len] at this;rw[RI,a];simp only[Option.isSome_some,ut];omega
  .have hh:=vd h.R hi;rw[OQ h.nd];by_cases e:k'=k
   .subst e;rw[zb rfl];exact⟨λw hw=>absurd rfl ((hh _ _).1 hw).1,λq=>Γ⟩
   .rw[za e];refine⟨λw hw=>(h.has k').1 w ((hh _ _).1 hw).2,λq=>?_⟩;obtain⟨w,hw⟩:=(h.has k').2 q;exact⟨w,(hh _ _).2 ⟨e,hw⟩⟩
 .right;have a:C4 m k=none:=by
   rcases h.some k with ⟨w,x,hw,_⟩ | ⟨q,_⟩
   .obtain⟨i,hi,_⟩:=hw;exact absurd hi (hn i)
   .exact q
  refine⟨ve h.R hn,a,?_⟩;have:∀(l:List (Int × V)),C4 l k=none->xF l k=l:=by
   intro l;induction l with
   | nil=>intro _;rfl
   | cons p l ih=>
    intro q;unfold C4 at q;unfold xF;by_cases e:k=p.1
    .rw[zb (Ω e)] at q;cases q
    .rw[za (Ω e)] at q;rw[za (Ω e),ih q]
  exact this m a
theorem YY(a:1<=n)(b:n<=8):vy (n:Int)=some (List.replicate n ⟨0,0,0⟩):=by
 unfold vy;rw[za Ξ,ka Δ Δ];rfl
theorem xU:pt (List.replicate n ⟨0,0,0⟩) j=⟨0,0,0⟩:=by
 unfold pt;rw[zd,List.getElem?_replicate];split <;> rfl
theorem a0b{V:Type}(φ:V->Int->Prop){n:Nat}(a:1<=n)(b:n<=8):TM φ (List.replicate n ⟨0,0,0⟩) []:=by
 refine⟨⟨Ω a,Ω b,λi hi=>?_,λi j hi hj s=>?_,λi hi s=>?_⟩,Ψ,?_,λk=>⟨λv hv=>?_,λq=>Γ⟩⟩;·rw[xU];exact⟨.inl rfl,λ_=>⟨rfl,rfl⟩⟩
 .rw[xU] at s;cases s
 .rw[xU] at s;cases s
 .rw[kZ,List.countP_replicate];rfl
 .obtain⟨i,hi,_⟩:=hv;have:=hi.2.1;rw[xU] at this;cases this
abbrev pp(p:l5):r9:=⟨p.Key,p.Val⟩
def yA(t:Tb):List l5:=(t.filter (·.State==1)).map λp=>⟨p.Key,p.Val⟩
theorem Rv(t:Tb):keys t=(yA t).map (·.Key):=by
 unfold keys yA;rw[za5];rfl
theorem Wg(t:Tb):(yA t).length=(keys t).length:=by rw[Rv,zf]
theorem Zr{t:Tb}(h:t.length<=8):(yA t).length<=8:=by
 rw[Wg,kZ];exact zQ List.countP_le_length h
theorem gw{t:Tb}{p:l5}:p∈yA t↔Has t p.Key p.Val:=by
 unfold yA Has;rw[zn];constructor
 .rintro⟨q,hq,rfl⟩;obtain⟨b,a⟩:=zj.1 hq;obtain⟨i,hi,rfl⟩:=u8 b;refine⟨i,⟨hi,?_,?_⟩,?_⟩ <;> rw[nC hi]
  simpa using a
 .rintro⟨i,⟨hi,b,a⟩,e⟩;rw[nC hi] at b a e;refine⟨t[i],zj.2 ⟨zl hi,Ω b⟩,?_⟩;cases p;simp at a e |-;exact⟨a,e⟩
def own(t:Tb)(h:Int):Nat:=(yA t).countP λp=>(h != 0)&&(p.Val==h)
theorem fB{t:Tb}(hR:HR t)(k v:Int):∃r,Y9 t k v=some r/\HR r.1/\r.1.length=t.length /\
  ((k=0/\r=(t,0,2))\/(k≠0/\v=0/\((∃i,Fk t k i/\r=(t.set i ⟨2,0,0⟩,(pt t i).Val,0))\/((∀i,¬Fk t k i)/\r=(t,0,0)))) \/
   (k≠0/\v≠0/\((∃i,Fk t k i/\r=(t.set i ⟨1,k,v⟩,(pt t i).Val,0))\/(∃d,(∀i,¬Fk t k i)/\d<t.length/\(pt t d).State≠1/\AY t k v (t.set d ⟨1,k,v⟩,0)/\r=(t.set d ⟨1,k,v⟩,0,0))\/((∀i,¬Fk t k i)/\(∀i,i<t.length->(pt t i).State=1)/\r=(t,0,8))))):=by
 unfold Y9;by_cases hk:k=0
 .rw[zb (Ω hk)];exact⟨_,rfl,hR,rfl,.inl ⟨hk,rfl⟩⟩
 .rw[za (Ω hk)];obtain⟨g,m,a⟩:∃g,bI t k=some g/\((∃i,Fk t k i/\g=((pt t i).Val,0))\/((∀i,¬Fk t k i)/\g=(0,9))):=by
   rcases Es t k with ⟨i,hi⟩ | hn;·exact⟨_,Rh hR hi,.inl ⟨i,hi,rfl⟩⟩
   .exact⟨_,Rg hR hn,.inr ⟨hn,rfl⟩⟩
  rw[m,a2D];by_cases hv:v=0
  .rw[zb (Ω hv)];rcases a with ⟨i,hi,rfl⟩ | ⟨hn,rfl⟩
   .rw[vf hR hi,a2D];exact⟨_,rfl,qD hR hi.1,Ψ,.inr (.inl ⟨hk,hv,.inl ⟨i,hi,rfl⟩⟩)⟩
   .rw[ve hR hn,a2D];exact⟨_,rfl,hR,rfl,.inr (.inl ⟨hk,hv,.inr ⟨hn,rfl⟩⟩)⟩
  .rw[za (Ω hv)];obtain⟨r,hr,hp⟩:=SE hR k v;rw[hr,a2D];have b:=Cr hR hp;have hl:=Jj hp;have e:=hp;cases hp with
   | old i hi=>
    rcases a with ⟨j,hj,rfl⟩ | ⟨hn,rfl⟩
    .rw[hR.uq j i hj.1 hi.1 hj.2.1 hi.2.1 (hj.2.2.trans hi.2.2.symm)];exact⟨_,rfl,b,hl,.inr (.inr ⟨hk,hv,.inl ⟨i,hi,rfl⟩⟩)⟩
    .exact absurd hi (hn i)
   | new d hn hd hb hf=>
    rcases a with ⟨j,hj,rfl⟩ | ⟨_,rfl⟩;·exact absurd hj (hn j)
    .exact⟨_,rfl,b,hl,.inr (.inr ⟨hk,hv,.inr (.inl ⟨_,hn,uu hR.l1 k d,hf,e,rfl⟩)⟩)⟩
   | full hn ha=>exact⟨_,rfl,hR,rfl,.inr (.inr ⟨hk,hv,.inr (.inr ⟨hn,ha,rfl⟩)⟩)⟩
theorem ET(t:Tb)(h:Int):own t h=t.countP λp=>(p.State==1)&&((h != 0)&&(p.Val==h)):=by
 unfold own yA;rw[List.countP_map,List.countP_filter];congr 1;funext p
 simp[zcx]
theorem Ni{t:Tb}(hi:i<t.length)(p:g8)(h:Int):own (t.set i p) h+(if (((pt t i).State==1)&&((h != 0)&&((pt t i).Val==h)))=true then 1 else 0)=own t h+if ((p.State==1)&&((h != 0)&&(p.Val==h)))=true then 1 else 0:=by
 rw[ET,ET,List.countP_set hi,nC hi];have:(if ((t[i].State==1)&&((h != 0)&&(t[i].Val==h)))=true then 1 else 0)<=t.countP λp=>(p.State==1)&&((h != 0)&&(p.Val==h)):=by
  split
  .rename_i e;exact zby.2 ⟨t[i],zl hi,e⟩
  .exact zU _
 omega
theorem yY{t:Tb}(hR:HR t)(ks:List Int)(hks:ks.length<=1000):∃a b,bR t ks=some (a,b)/\HR a/\a.length=t.length/\b.length<=ks.length/\qZ (t.map gY) ks=some (a.map gY,b) /\
  (∀k v,Has a k v↔k∉ks/\Has t k v)/\(keys a).length+b.length=(keys t).length/\(∀k v,k∈ks->Has t k v->v∈b)/\∀y,own a y+L0 b y=own t y:=by
 have key:∀n,n<=ks.length->∃a b,HR a/\a.length=t.length/\b.length<=n/\(∀k v,Has a k v↔k∉ks.take n/\Has t k v)/\(keys a).length+b.length=(keys t).length/\(∀k v,k∈ks.take n->Has t k v->v∈b)/\(∀y,own a y+L0 b y=own t y) /\
   ∃f:Nat->Tb × List Int,f 0=(t,[])/\f n=(a,b)/\∀j,(hj:j<n)->HR (f j).1/\(f j).2.length<=j/\((∃i,∃hjk:j<ks.length,Fk (f j).1 ks[j] i/\f (j+1)=((f j).1.set i ⟨2,0,0⟩,(f j).2 ++ [(pt (f j).1 i).Val]))\/((∀i,∀hjk:j<ks.length,¬Fk (f j).1 ks[j] i)/\f (j+1)=f j)):=by
  intro n;induction n with
  | zero=>exact λ_=>⟨t,[],hR,rfl,Ψ,Ψ,Ψ,Ψ,λy=>by unfold L0;split <;> simp,λ_=>(t,[]),rfl,rfl,λj hj=>Δ⟩
  | succ n ih=>
   intro hn;obtain⟨a,b,r,H,K,u,R,B,N,f,E,fn,fs⟩:=ih Δ;have F:n<ks.length:=Δ
   have m:∀k,k∈ks.take (n+1)↔k∈ks.take n\/k=ks[n]:=λk=>by
    rw[zi F,zH,zu]
   rcases Es a ks[n] with ⟨i,hi⟩ | g
   .have hd:=vd r hi;refine⟨a.set i ⟨2,0,0⟩,b ++ [(pt a i).Val],qD r hi.1,Ω H,Ξ,λk v=>?_,?_,λk v hk hv=>?_,λy=>?_,λj=>if j=n+1 then (a.set i ⟨2,0,0⟩,b ++ [(pt a i).Val]) else f j,by simp[E],Ψ,λj hj=>?_⟩
    .rw[hd,u,m];constructor;·rintro⟨p,A,q3⟩;exact⟨λq=>q.elim A p,q3⟩
     .rintro⟨p,A⟩;exact⟨λq=>p (.inr q),λq=>p (.inl q),A⟩
    .have:=vH hi.1 ⟨2,0,0⟩;rw[zb hi.2.1,za Θ] at this;simp only[zA,zF,zag];omega
    .rw[zH];rcases (m k).1 hk with q | q
     .exact .inl (B k v q hv)
     .subst q;by_cases G:ks[n]∈ks.take n
      .exact .inl (B _ v G hv)
      .have:=(u _ _).2 ⟨G,hv⟩;rw[this.fn r ⟨i,hi,rfl⟩];exact .inr Ψ
    .have:=Ni hi.1 ⟨2,0,0⟩ y;have V:=N y;rw[H3];have e:L0 [(pt a i).Val] y=if (((pt a i).State==1)&&((y != 0)&&((pt a i).Val==y)))=true then 1 else 0:=by
      rw[hi.2.1];unfold L0;by_cases y0:y=0
      .simp[y0]
      .by_cases e:(pt a i).Val=y
       .simp[y0,e]
       .simp[y0,e]
     rw[e];rw[za (show ¬((((2:Int)==1)&&((y != 0)&&((0:Int)==y)))=true) by simp)] at this;omega
    .rcases zI j n with q | q
     .have:=fs j q;dsimp only;rw[za Δ,za Δ];exact this
     .have:j=n:=by omega
      subst this;dsimp only;rw[za Δ,zb rfl,fn];exact⟨r,K,.inl ⟨i,F,hi,rfl⟩⟩
   .refine⟨a,b,r,H,Δ,λk v=>?_,R,λk v hk hv=>?_,N,λj=>if j=n+1 then (a,b) else f j,by simp[E],Ψ,λj hj=>?_⟩
    .rw[u,m];constructor
     .rintro⟨p,A⟩;refine⟨λq=>q.elim p λq=>?_,A⟩;subst q;obtain⟨i,hi,_⟩:=(u _ _).2 ⟨p,A⟩;exact g i hi
     .rintro⟨p,A⟩;exact⟨λq=>p (.inl q),A⟩
    .rcases (m k).1 hk with q | q
     .exact B k v q hv
     .subst q;by_cases G:ks[n]∈ks.take n
      .exact B _ v G hv
      .obtain⟨i,hi,_⟩:=(u _ _).2 ⟨G,hv⟩;exact absurd hi (g i)
    .rcases zI j n with q | q
     .have:=fs j q;dsimp only;rw[za Δ,za Δ];exact this
     .have:j=n:=by omega
      subst this;dsimp only;rw[za Δ,zb rfl,fn];exact⟨r,K,.inr ⟨λi _=>g i,rfl⟩⟩
 obtain⟨a,b,r,H,K,u,R,B,N,f,E,fn,fs⟩:=key ks.length (zC _);rw[zL] at u B;refine⟨a,b,?_,r,H,K,?_,u,R,B,N⟩
 .unfold bR;simp only[jn];refine gn (λj=>((f j).1,(j:Int),(f j).2)) (by rw[E];rfl) ks.length (λ_=>True) Δ trivial (λj hj _=>?_) (λ_=>⟨(a,b),by dsimp only;rw[za Ψ,fn],rfl⟩);obtain⟨C,T,P⟩:=fs j hj;left;refine⟨?_,trivial⟩;dsimp only;rw[zb (Ω hj),u4 hj,a2D,p8 Δ];rcases P with ⟨i,_,hi,e⟩ | ⟨g,e⟩
  .rw[vf C hi,a2D,e];dsimp only;rw[zb Θ,U5 Δ Ξ,a2D]
  .rw[ve C (λi=>g i hj),a2D,e];dsimp only;rw[za Θ]
 .unfold qZ;simp only[jn];refine gn (λj=>((f j).1.map gY,(j:Int),(f j).2)) (by rw[E];rfl) ks.length (λ_=>True) Δ trivial (λj hj _=>?_) (λ_=>⟨(a.map gY,b),by dsimp only;rw[za Ψ,fn],rfl⟩);obtain⟨C,T,P⟩:=fs j hj;left;refine⟨?_,trivial⟩;dsimp only;rw[zb (Ω hj),u4 hj,a2D,p8 Δ,ZG C];rcases P with ⟨i,_,hi,e⟩ | ⟨g,e⟩
  .rw[vf C hi,rg,a2D,e];dsimp only;rw[zb Θ,U5 Δ Ξ,a2D]
  .rw[ve C (λi=>g i hj),rg,a2D,e];dsimp only;rw[za Θ]
theorem JB{l:List r9}(h:l.length<=100000):wm l l=some true:=by
 unfold wm;rw[za Ψ];simp only[jn];refine Y6 l.length (λ_=>True) Δ trivial (λk hk _=>.inl ⟨?_,trivial⟩) (λ_=>⟨.inr (),Ψ,rfl⟩);rw[zb (Ω hk),u4 hk,a2D,a2D,za Ψ,p8 Δ]
inductive gZ (s:b6) (t:Tb) (l:List Int):Int->Prop
 | base {h:Int}:h∈l->h∈lv s->gZ s t l h
 | step {a b:Int}:gZ s t l a->b∈outs s a->b∈lv s->gZ s t l b
 | pair {k v:Int}:Has t k v->gZ s t l k->v∈lv s->gZ s t l v
open Classical in
noncomputable def fls (s:b6) (t:Tb) (l:List Int):List Int:=(lv s).filter λh=>decide (¬gZ s t l h)
noncomputable def owd(s:b6)(t:Tb)(l:List Int):List Int:=((yA t).filter λp=>decide (p.Key∈l/\p.Key∈lv s/\p.Val∈lv s)).map (·.Val)
def TB(t:Tb):Prop:=∀p∈t,p.Key<=9223372036854775807/\p.Val<=9223372036854775807
def TD(s:b6)(t:Tb)(l:List Int):Prop:=∀k v,Has t k v->k∈l->k∈lv s->v∈lv s->v∈l
theorem TB.has{t:Tb}(h:TB t)(q:Has t k v):k<=9223372036854775807/\v<=9223372036854775807:=by
 obtain⟨i,⟨a,_,b⟩,e⟩:=q;rw[nC a] at b e;have:=h _ (zl a);rw[b,e] at this;exact this
theorem gZ.live{t:Tb}{l:List Int}{h:Int}(q:gZ s t l h):h∈lv s:=by cases q <;> assumption
theorem gZ.least{s:b6}{t:Tb}{l m:List Int}(hc:Cl s m)(hp:TD s t m)(hl:∀x∈l,x∈lv s->x∈m){h:Int}(q:gZ s t l h):h∈m:=by
 induction q with
 | base a b=>exact hl _ a b
 | step _ a b ih=>exact hc _ ih _ a b
 | pair a b e ih=>exact hp _ _ a ih b.live e
theorem GL{t:Tb}{l:List Int}:v∈owd s t l↔∃k,Has t k v/\k∈l/\k∈lv s/\v∈lv s:=by
 unfold owd;rw[zn];constructor
 .rintro⟨p,hp,rfl⟩;obtain⟨a,b⟩:=zj.1 hp;exact⟨p.Key,gw.1 a,zbd b⟩
 .rintro⟨k,a,b⟩;exact⟨⟨k,v⟩,zj.2 ⟨gw.2 a,zG b⟩,rfl⟩
theorem Zm{t:Tb}{l:List Int}:(∀v∈owd s t l,v∈l)↔TD s t l:=by
 constructor;·exact λh k v a b e g=>h v (GL.2 ⟨k,a,b,e,g⟩)
 .intro h v hv;obtain⟨k,a,b,e,g⟩:=GL.1 hv;exact h k v a b e g
noncomputable def nN(s:b6)(t:Tb)(l:List Int):Nat->List Int
 | 0=>rcd s l
 | k+1=>rcd s (nN s t l k++owd s t (nN s t l k))
section
variable{s:b6}{t:Tb}{l:List Int}
theorem Tc(k:Nat):∃m,nN s t l k=rcd s m:=by
 cases k with
 | zero=>exact⟨_,rfl⟩
 | succ k=>exact⟨_,rfl⟩
theorem Ph(k:Nat){x:Int}(h:x∈nN s t l k):x∈lv s:=by
 obtain⟨m,e⟩:=Tc (s:=s) (t:=t) (l:=l) k;rw[e] at h;exact (Hh.1 h).live
theorem Ta(k:Nat){x:Int}(h:x∈nN s t l k):x∈nN s t l (k+1):=Hh.2 (.base (zH.2 (.inl h)) (Ph k h))
theorem EX{k:Nat}(h:¬TD s t (nN s t l k)):((yA t).filter λp=>decide (p.Val∈nN s t l k)).length<((yA t).filter λp=>decide (p.Val∈nN s t l (k+1))).length:=by
 obtain⟨v,hv,hn⟩:∃v,v∈owd s t (nN s t l k)/\v∉nN s t l k:=zap λq=>h (Zm.1 λv hv=>zap λe=>q ⟨v,hv,e⟩);obtain⟨k',a,g,m,b⟩:=GL.1 hv;refine filter_lt (λp _ hp=>?_) ⟨k',v⟩ (gw.2 a) ?_ ?_
 .rw[zE] at hp |-;exact Ta k hp
 .rw[zE];exact Hh.2 (.base (zH.2 (.inr hv)) b)
 .exact we hn
theorem SZ(s:b6)(t:Tb)(l:List Int):∃n,n<=(yA t).length/\TD s t (nN s t l n)/\∀j,j<n->¬TD s t (nN s t l j):=by
 have key:∀k,(∃j,j<=k/\TD s t (nN s t l j))\/k<((yA t).filter λp=>decide (p.Val∈nN s t l (k+1))).length:=by
  intro k;induction k with
  | zero=>
   by_cases h:TD s t (nN s t l 0)
   .exact .inl ⟨0,zC _,h⟩
   .have:=EX h;exact .inr Δ
  | succ k ih=>
   rcases ih with ⟨j,e,b⟩ | ih;·exact .inl ⟨j,Δ,b⟩
   .by_cases h:TD s t (nN s t l (k+1))
    .exact .inl ⟨k+1,zC _,h⟩
    .have:=EX h;exact .inr Δ
 obtain⟨j,e,b⟩:∃j,j<=(yA t).length/\TD s t (nN s t l j):=by
  rcases key (yA t).length with q | q
  .exact q
  .have:=zo (λp:l5=>decide (p.Val∈nN s t l ((yA t).length+1))) (yA t);omega
 obtain⟨n,hn,a⟩:=iy (p:=λj=>TD s t (nN s t l j)) ⟨j,b⟩;exact⟨n,zQ (a j b) e,hn,λi hi q=>by have:=a i q;omega⟩
end
noncomputable def rnd(s:b6)(t:Tb)(l:List Int):Nat:=Classical.choose (SZ s t l)
section
variable{s:b6}(hR:Fp (sO s)){t:Tb}(hT:HR t)(hTB:TB t)
include hR hT hTB
end
section
variable(s:b6)  (t:Tb)(hTB:TB t)
include hTB
end
def ce(s:b6)(i:Nat):g7:=s.S.b7.getD i ⟨0,0,z0⟩
variable {s:b6}{i:Nat}{h:Int}{j:Nat}
theorem X5(h:i<s.S.b7.length):ce s i=s.S.b7[i]:=by
 unfold ce;rw[zd,zc h];rfl
theorem MK(h:i<s.S.b7.length):ix s.S.b7 (i:Int)=some (ce s i):=by rw[u4 h,X5 h]
def Th(c:g7):Prop:=c.State=1\/c.State=2
instance(c:g7):Decidable (Th c):=by unfold Th;infer_instance
structure Ds (s:b6) (o:p9):Prop where
 s1:1<=o.Serial
 s2:o.Serial<=s.Serial
 st:0<=o.Strong
 wk:0<=o.Weak
 p1 : -1<=o.Prog
 p2:o.Prog<=5
 fl:o.Fields.length<=4
structure SR (s:b6):Prop where
 len:s.S.b7.length<=24
 l0:0<=s.S.Last
 l9:s.S.Last<=9
 cP:0<=s.Serial
 cell:∀i,i<s.S.b7.length->0<=(ce s i).State/\(ce s i).State<=3/\0<=(ce s i).Gen/\(ce s i).Gen<=s.S.Last
 no:∀i,i<s.S.b7.length->¬Th (ce s i)->NN (oo (ce s i).Val)
 ok:∀i,i<s.S.b7.length->Th (ce s i)->Ds s (ce s i).Val
 dif:∀i j,i<s.S.b7.length->j<s.S.b7.length->Th (ce s i)->Th (ce s j)->(ce s i).Val.Serial=(ce s j).Val.Serial->i=j
theorem D5:Fp (sO s)↔SR s:=by
 constructor
 .intro h;refine⟨rq h,h.l0,h.l9,h.cP,λi hi=>?_,λi hi hn=>?_,λi hi ht=>?_,λi j hi hj a b e=>?_⟩;·rw[X5 hi];exact Hn h i hi
  .rw[X5 hi] at hn |-;have:=h.no i ΩY;simp only[sO,zx] at this;exact this hn
  .rw[X5 hi] at ht |-;obtain⟨a,b,c,d,e,f,g⟩:=Xy h i hi ht;exact⟨a,b,c,d,e,f,g⟩
  .rw[X5 hi] at a e;rw[X5 hj] at b e;exact Td h hi hj a b e
 .intro h;refine⟨by rw[mU];exact h.len,h.l0,h.l9,h.cP,λi hi=>?_,λi hi hn=>?_,λi hi ht=>?_,λi hi k hk a b=>?_⟩
  .rw[mU] at hi;have:=h.cell i hi;rw[X5 hi] at this;simpa[sO,cO] using this
  .rw[mU] at hi;have:=h.no i hi;rw[X5 hi] at this;simp only[sO,zx] at hn |-;exact this hn
  .rw[mU] at hi;have:=h.ok i hi;rw[X5 hi] at this;simp only[sO,zx] at ht |-;obtain⟨a,b,c,d,e,f,g⟩:=this ht;exact⟨a,b,c,d,e,f,g⟩
  .rw[mU] at hi;have m:k<s.S.b7.length:=by omega
   have:=h.dif i k hi m;rw[X5 hi,X5 m] at this;simp only[sO,zx,cO,oo] at a b |-;intro e;have:=this a b e.symm;omega
def At(s:b6)(h:Int)(i:Nat):Prop:=i<s.S.b7.length/\(ce s i).State=1/\h=1+(i:Int)+32*(ce s i).Gen
def Y1(s:b6)(h:Int)(i:Nat):Prop:=i<s.S.b7.length/\Th (ce s i)/\h=1+(i:Int)+32*(ce s i).Gen
theorem At.d(q:At s h i):Y1 s h i:=⟨q.1,.inl q.2.1,q.2.2⟩
theorem Y1.one(hR:SR s)(q:Y1 s h i)(a:Y1 s h j):i=j:=by
 obtain⟨b,_,e⟩:=q;obtain⟨g,_,m⟩:=a;have:=hR.len;omega
theorem Y1.PD(hR:SR s)(q:Y1 s h i):1<=h/\h<=320:=by
 obtain⟨a,_,b⟩:=q;have:=hR.len;have:=hR.cell i a;have:=hR.l9;omega
theorem IW:h∈eE 0 s.S.b7↔∃i,At s h i:=by
 rw[qP];constructor
 .rintro⟨i,hi,a,b⟩;refine⟨i,hi,by rw[X5 hi];exact a,?_⟩;rw[X5 hi,b,zar]
 .rintro⟨i,hi,a,b⟩;rw[X5 hi] at a b;exact⟨i,hi,a,by rw[b,zar]⟩
theorem lf(hR:SR s):h∈lv s↔∃i,At s h i:=by rw[Gu (D5.2 hR),IW]
theorem uc(hR:SR s):yZ s.S h i↔Y1 s h i:=by
 constructor
 .rintro⟨hi,a,b,g,e⟩;unfold Fo at a;refine⟨hi,by rw[X5 hi];exact e,?_⟩;rw[X5 hi];omega
 .rintro⟨hi,a,b⟩;have l:=hR.len;have l9:=hR.l9;have c:=hR.cell i hi;rw[X5 hi] at a b c;exact⟨hi,by unfold Fo;omega,Δ,Δ,a⟩
theorem J2(hR:SR s)(q:At s h i):ob s h=(ce s i).Val:=by
 obtain⟨j,hj,a,b,_,e⟩:=YP (D5.2 hR) ((lf hR).2 ⟨i,q⟩);have:j=i:=Y1.one hR ⟨hj,by rw[X5 hj];exact .inl a,by rw[X5 hj];exact b⟩ q.d;subst this;rw[e,X5 hj]
theorem Mq(hR:SR s)(q:At s h i):sk s.S.b7 h=(ce s i).Val.Serial:=by
 have:=hR.len;have hi:=q.1;rw[q.2.2,JF hi Δ,X5 hi]
theorem AB(hR:SR s)(q:Y1 s h i):C0 s.S h=some ((i:Int),0):=xv ((uc hR).2 q)
theorem Bp(hR:SR s)(hh:h<=9223372036854775807)(q:∀i,¬Y1 s h i):C0 s.S h=some (-1,if h=0 then 2 else 3):=En hh λi hi=>q i ((uc hR).1 hi)
theorem RB{s':b6}(hR:SR s)(e:SR s')(P:Int->Bool)(hm:∀h,(∃i,At s' h i)↔(∃i,At s h i)/\P h=true)(hk:∀h i j,At s' h i->At s h j->(ce s' i).Val.Serial=(ce s j).Val.Serial):lv s'=(lv s).filter P:=by
 have g:∀h∈lv s,P h=true->sk s'.S.b7 h=sk s.S.b7 h:=λh hh hp=>by
  obtain⟨j,hj⟩:=(lf hR).1 hh;obtain⟨i,hi⟩:=(hm h).2 ⟨⟨j,hj⟩,hp⟩;rw[Mq e hi,Mq hR hj,hk h i j hi hj]
 refine a0U (D5.2 e) ?_ ?_
 .rw[List.perm_ext_iff_of_nodup ((vK (D5.2 hR)).filter _) (oO 0 _ (by have:=e.len;omega))];intro h;rw[zj,lf hR,IW,hm h]
 .refine ((oT (D5.2 hR)).2.2.filter P).imp_of_mem λ{a b} ha hb m=>?_;rw[zj] at ha hb;rw[g a ha.1 ha.2,g b hb.1 hb.2];exact m
theorem VG{s':b6}(hR:SR s)(g:SR s')(hl:s'.S.b7.length=s.S.b7.length)(e:∀i,i<s.S.b7.length->((ce s' i).State=1↔(ce s i).State=1)/\(ce s' i).Gen=(ce s i).Gen/\(ce s' i).Val.Serial=(ce s i).Val.Serial):lv s'=lv s:=by
 have ha:∀h i,At s' h i↔At s h i:=λh i=>by
  unfold At;rw[hl];constructor
  .rintro⟨a,b,c⟩;obtain⟨x,y,z⟩:=e i a;exact⟨a,x.1 b,by rw[<-y];exact c⟩
  .rintro⟨a,b,c⟩;obtain⟨x,y,z⟩:=e i a;exact⟨a,x.2 b,by rw[y];exact c⟩
 rw[RB hR g (λ_=>true) (λh=>by simp only[and_true];exact⟨λ⟨i,q⟩=>⟨i,(ha h i).1 q⟩,λ⟨i,q⟩=>⟨i,(ha h i).2 q⟩⟩) (λh i j q m=>by
  have:=Y1.one hR ((ha h i).1 q).d m.d;subst this;exact (e i m.1).2.2)]
 simp
def ig(s:b6)(i:Nat)(o:p9):b6:=⟨⟨s.S.b7.set i ⟨(ce s i).State,(ce s i).Gen,o⟩,s.S.Last⟩,s.Serial⟩
theorem M6(s:b6)(i:Nat)(o:p9):(ig s i o).S.b7.length=s.S.b7.length:=by simp[ig]
theorem BP{α:Type}{l:List α}(hi:i<l.length)(c d:α)(j:Nat):(l.set i c).getD j d=if j=i then c else l.getD j d:=by
 rw[zd,zd,List.getElem?_set];by_cases h:j=i
 .subst h;rw[zb rfl,zb hi,zb rfl];rfl
 .rw[za (zaz h),za h]
theorem oB(hi:i<s.S.b7.length)(o:p9)(j:Nat):ce (ig s i o) j=if j=i then ⟨(ce s i).State,(ce s i).Gen,o⟩ else ce s j:=BP hi _ _ j
theorem CZ(hi:i<s.S.b7.length)(o:p9)(j:Nat):(ce (ig s i o) j).State=(ce s j).State/\(ce (ig s i o) j).Gen=(ce s j).Gen:=by
 rw[oB hi];split;·rename_i q;subst q;exact⟨rfl,rfl⟩
 .exact⟨rfl,rfl⟩
theorem AA(hi:i<s.S.b7.length)(o:p9):Y1 (ig s i o) h j↔Y1 s h j:=by
 unfold Y1 Th;rw[M6,(CZ hi o j).1,(CZ hi o j).2]
theorem Bq(hi:i<s.S.b7.length)(o:p9):At (ig s i o) h j↔At s h j:=by
 unfold At;rw[M6,(CZ hi o j).1,(CZ hi o j).2]
theorem Ti(hR:SR s)(q:Y1 s h i)(o:p9):X0 s h o=some (ig s i o,0):=by
 obtain⟨hi,e⟩:=Tj (v:=o) hR.len ((uc hR).2 q);unfold X0;rw[e];simp[ig,X5 hi]
theorem SR.put{s:b6}(hR:SR s){i:Nat}(hi:i<s.S.b7.length)(ht:Th (ce s i)){o:p9}(hs:o.Serial=(ce s i).Val.Serial)(ho:Ds s o):SR (ig s i o):=by
 have g:=CZ hi o;have m:∀j,(ce (ig s i o) j).Val.Serial=(ce s j).Val.Serial:=λj=>by
  rw[oB hi];split;·rename_i q;subst q;exact hs
  .rfl
 refine⟨by rw[M6];exact hR.len,hR.l0,hR.l9,hR.cP,λj hj=>?_,λj hj hn=>?_,λj hj hn=>?_,λj k hj hk a b e=>?_⟩
 .rw[M6] at hj;rw[(g j).1,(g j).2];exact hR.cell j hj
 .rw[M6] at hj;unfold Th at hn;rw[(g j).1] at hn;rw[oB hi];split;·rename_i q;subst q;exact absurd ht hn
  .exact hR.no j hj hn
 .rw[M6] at hj;unfold Th at hn;rw[(g j).1] at hn;rw[oB hi];split;·exact⟨ho.s1,ho.s2,ho.st,ho.wk,ho.p1,ho.p2,ho.fl⟩
  .have:=hR.ok j hj hn;exact⟨this.s1,this.s2,this.st,this.wk,this.p1,this.p2,this.fl⟩
 .rw[M6] at hj hk;unfold Th at a b;rw[(g j).1] at a;rw[(g k).1] at b;rw[m,m] at e;exact hR.dif j k hj hk a b e
theorem RA(hR:SR s)(hi:i<s.S.b7.length){o:p9}(hs:o.Serial=(ce s i).Val.Serial)(a:SR (ig s i o)):lv (ig s i o)=lv s:=by
 refine VG hR a (M6 ..) λj hj=>?_;rw[oB hi];split;·rename_i q;subst q;exact⟨Iff.rfl,rfl,hs⟩
 .exact⟨Iff.rfl,rfl,rfl⟩
theorem Zh(hR:SR s)(q:At s h i){o:p9}(a:SR (ig s i o)){k:Int}(hk:k<=9223372036854775807):ob (ig s i o) k=if k=h then o else ob s k:=by
 by_cases e:k=h
 .subst e;rw[zb rfl,J2 a ((Bq q.1 o).2 q),oB q.1,zb rfl]
 .rw[za e];by_cases hl:∃j,At s k j
  .obtain⟨j,hj⟩:=hl;rw[J2 a ((Bq q.1 o).2 hj),J2 hR hj,oB q.1,za];intro g;subst g;exact e (hj.2.2.trans q.2.2.symm)
  .rw[ES (D5.2 hR) hk (λb=>hl ((lf hR).1 b)),ES (D5.2 a) hk λb=>hl (by
    obtain⟨j,hj⟩:=(lf a).1 b;exact⟨j,(Bq q.1 o).1 hj⟩)]
def F9(h:Int):Nat:=((h-1) % 32).toNat
theorem Y1.F9(hR:SR s)(q:Y1 s h i):F9 h=i:=by
 obtain⟨a,_,c⟩:=q;have:=hR.len;unfold Sh.F9;omega
def eC(s:b6)(h:Int)(o:p9):b6:=ig s (F9 h) o
theorem r8(hR:SR s)(hh:h∈lv s):At s h (F9 h):=by
 obtain⟨i,hi⟩:=(lf hR).1 hh;rw[hi.d.F9 hR];exact hi
theorem N7(hR:SR s)(hh:h∈lv s):Ds s (ob s h):=by
 have q:=r8 hR hh;rw[J2 hR q];exact hR.ok _ q.1 (.inl q.2.1)
theorem L5(hR:SR s)(hh:h∈lv s):1<=h/\h<=320:=(r8 hR hh).d.PD hR
theorem gq(hR:SR s):(0:Int)∉lv s:=λh=>by have:=L5 hR h;omega
section
variable{s:b6}(hR:SR s){h:Int}(hh:h∈lv s){o:p9}(hs:o.Serial=(ob s h).Serial)(ho:Ds s o)
include hR hh hs ho
theorem dh:SR (eC s h o):=by
 have q:=r8 hR hh;exact hR.put q.1 (.inl q.2.1) (by rw[hs,J2 hR q]) ho
theorem jW:lv (eC s h o)=lv s:=by
 have q:=r8 hR hh;exact RA hR q.1 (by rw[hs,J2 hR q]) (dh hR hh hs ho)
theorem iI{k:Int}(hk:k<=9223372036854775807):ob (eC s h o) k=if k=h then o else ob s k:=Zh hR (r8 hR hh) (dh hR hh hs ho) hk
theorem AP:X0 s h o=some (eC s h o,0):=Ti hR (r8 hR hh).d o
theorem Hs{k:Int}{i:Nat}:Y1 (eC s h o) k i↔Y1 s k i:=AA (r8 hR hh).1 o
theorem CP(i:Nat):ce (eC s h o) i=if i=F9 h then ⟨(ce s i).State,(ce s i).Gen,o⟩ else ce s i:=by
 unfold eC;rw[oB (r8 hR hh).1];split;·rename_i q;rw[q]
 .rfl
end
abbrev DU(o:p9)(n:Int):p9:=⟨o.Serial,n,o.Weak,o.Prog,o.Started,o.Fields⟩
structure yl (s s':b6):Prop where
 sr:SR s'
 len:s'.S.b7.length=s.S.b7.length
 last:s'.S.Last=s.S.Last
 cP:s'.Serial=s.Serial
 lv:lv s'=lv s
 ad:∀k i,Y1 s' k i↔Y1 s k i
 ob:∀k,k<=9223372036854775807->∃n,ob s' k=(DU (ob s k) (n))
 ce:∀i,i<s.S.b7.length->(ce s' i).State=(ce s i).State/\(ce s' i).Gen=(ce s i).Gen/\(ce s' i).Val.Weak=(ce s i).Val.Weak/\(ce s' i).Val.Fields=(ce s i).Val.Fields/\((ce s i).State≠1->ce s' i=ce s i)
theorem yl.refl{s:b6}(hR:SR s):yl s s:=⟨hR,rfl,rfl,rfl,rfl,λ_ _=>Iff.rfl,λk _=>⟨_,rfl⟩,λi _=>⟨rfl,rfl,rfl,rfl,λ_=>rfl⟩⟩
theorem yl.trans{a b c:b6}(h:yl a b)(q:yl b c):yl a c:=by
 refine⟨q.sr,q.len.trans h.len,q.last.trans h.last,q.cP.trans h.cP,q.lv.trans h.lv,λk i=>(q.ad k i).trans (h.ad k i),λk hk=>?_,λi hi=>?_⟩
 .obtain⟨n,e⟩:=h.ob k hk;obtain⟨m,f⟩:=q.ob k hk;exact⟨m,by rw[f,e]⟩
 .obtain⟨g,p,r,u,y⟩:=h.ce i hi;obtain⟨A,B,C,E,F⟩:=q.ce i (by rw[h.len];exact hi);refine⟨A.trans g,B.trans p,C.trans r,E.trans u,λhn=>?_⟩;rw[F (by rw[g];exact hn),y hn]
theorem yl.outs{s s':b6}(k:yl s s'){h:Int}(hh:h<=9223372036854775807):outs s' h=outs s h:=by
 obtain⟨n,e⟩:=k.ob h hh;unfold Sh.outs;rw[e]
theorem yl.na{s s':b6}(hR:SR s)(k:yl s s')(h:Int):na s' h=na s h:=by
 unfold Sh.na;rw[k.lv];congr 1;refine zt λx hx=>?_;rw[k.outs (by have:=L5 hR hx;omega)]
theorem VB{s:b6}(hR:SR s){h:Int}(hh:h∈lv s){n:Int}(hn:0<=n):yl s (eC s h (DU (ob s h) (n))):=by
 have ho:Ds s (DU (ob s h) (n)):=by
  have:=N7 hR hh;exact⟨this.s1,this.s2,hn,this.wk,this.p1,this.p2,this.fl⟩
 have q:=r8 hR hh;refine⟨dh hR hh rfl ho,M6 ..,rfl,rfl,jW hR hh rfl ho,λk i=>Hs (o:=(DU (ob s h) (n))) hR hh rfl ho,λk hk=>?_,λi hi=>?_⟩
 .rw[iI (o:=(DU (ob s h) (n))) hR hh rfl ho hk];split;·rename_i e;subst e;exact⟨n,rfl⟩
  .exact⟨_,rfl⟩
 .rw[CP (o:=(DU (ob s h) (n))) hR hh rfl ho];split
  .rename_i e;subst e;rw[J2 hR q];exact⟨rfl,rfl,rfl,rfl,λhn=>absurd q.2.1 hn⟩
  .exact⟨rfl,rfl,rfl,rfl,λ_=>rfl⟩
def SB(s:b6):Prop:=∀c∈s.S.b7,c.Val.Strong<=9223372036854775807
noncomputable def inr(s:b6)(t:Tb)(h:Int):Nat:=na s h+own t h
noncomputable def rst(s:b6)(t:Tb)(h:Int):Int:=if h∈lv s then (ob s h).Strong-(inr s t h:Int) else 0
noncomputable def Vu(s:b6)(t:Tb):List Int:=(lv s).filter λh=>decide (0<rst s t h\/12<=(ob s h).Strong)
def WZ(s:b6)(t:Tb)(l:List Int):Prop:=∀h∈lv s,(ob s h).Strong<12->rst s t h=(L0 l h:Int)
noncomputable instance(s:b6)(t:Tb)(l:List Int):Decidable (WZ s t l):=Classical.propDecidable _
section
variable{s:b6}(hR:Fp (sO s)){t:Tb}(hT:HR t)
include hR hT
omit hT in
theorem Pt (a:SB s) {h:Int} (hh:h∈lv s):0<=(ob s h).Strong/\(ob s h).Strong<=9223372036854775807:=by
 obtain⟨i,hi⟩:=(lf (D5.1 hR)).1 hh;rw[J2 (D5.1 hR) hi];refine⟨((D5.1 hR).ok i hi.1 (.inl hi.2.1)).st,?_⟩;rw[X5 hi.1];exact a _ (zl _)
omit hR hT in
theorem vB {h:Int}:h∈Vu s t↔h∈lv s/\(0<rst s t h\/12<=(ob s h).Strong):=by
 unfold Vu;rw[zj,decide_eq_true_eq]
end
abbrev TQ:=k9
def tad(q:TQ)(t:k7):TQ × Int:=if q.Cap<=q.L.length then (q,4) else (⟨q.L ++ [t],q.Cap⟩,0)
def tnx(q:TQ):TQ × k7 × Int:=match q.L with
 | []=>(q,⟨0,0,0⟩,10)
 | t::l=>(⟨l,q.Cap⟩,t,0)
theorem XA{q:TQ}(t:k7)(h:q.L.length<=1000):rI q t=some (tad q t):=by
 unfold tad;unfold rI Z9 P3 K0;simp only[a2D];by_cases c:q.Cap<=q.L.length
 .rw[zb (Ω c),zb c,a2D]
 .rw[za (Ω c),za c];have e:cut q.L 0 (q.L.length:Int)=some q.L:=by
   have:=qz (xs:=q.L) (i:=0) (j:=q.L.length) (zU _) (zC _);simpa using this
  rw[e,a2D,a2D,U5 Δ Ξ,a2D,a2D]
theorem ZY{q:TQ}:fN q=some (tnx q):=by
 unfold tnx;unfold fN dV cv P3 K0;simp only[a2D];cases hl:q.L with
 | nil=>
  have e:cut ([]:List k7) 0 0=some []:=rfl;simp[e]
 | cons t l=>
  have hm:(if (if (((t::l).length:Nat):Int)<1 then (((t::l).length:Nat):Int) else 1) > 0 then (if (((t::l).length:Nat):Int)<1 then (((t::l).length:Nat):Int) else 1) else 0)=1:=by
   rw[za (show ¬(((t::l).length:Nat):Int)<1 by simp;omega)];simp
  rw[hm];have a:cut (t::l) 0 1=some [t]:=by
   have:=qz (xs:=t::l) (i:=0) (j:=1) (zU _) Ψ;simpa using this
  have b:cut (t::l) 1 (((t::l).length:Nat):Int)=some l:=by
   have:=qz (xs:=t::l) (i:=1) (j:=(t::l).length) Ψ (zC _);simpa using this
  rw[a,b];simp[ix]
theorem OD{α β:Type}(p:α->Bool)(f:α->β)(l:List α)(k:Nat)(h:k<l.length):((l.take (k+1)).filter p).map f=((l.take k).filter p).map f++(if p l[k] then [f l[k]] else []):=by
 rw[zi h,zai,zV];congr 1;simp only[pm,zcn];split <;> rfl
theorem To{q:TQ}(h:q.L.length<=1000):iJ q=some ((q.L.filter (·.Kind==1)).map (·.At)):=by
 unfold iJ sF;simp only[jn,a2D];refine S9 q.L.length (λk l=>l=((q.L.take k).filter (·.Kind==1)).map (·.At)) Δ Ψ ?_ (λl hl=>⟨_,by simp;rfl,by rw[hl,zL]⟩);rintro k l hk rfl;left;rw[OD _ _ _ _ hk];simp only[r4,hk,q9,ut,u4 hk,a2D];have a:(List.map (·.At) (List.filter (·.Kind==1) (List.take k q.L))).length<=1000:=by
  rw[zf];exact zQ (zo ..) Ξ
 by_cases c:(q.L[k].Kind==1)=true
 .rw[c,zb Θ,U5 Δ ΩB,a2D,p8];exact⟨_,rfl,rfl⟩
 .have c:(q.L[k].Kind==1)=false:=by simpa using c
  rw[c,za Θ,p8];exact⟨_,rfl,Ψ⟩
theorem AS{q:TQ}{w:Int}(h:q.L.length<=1000):bG q w=some (q.L.any λt=>t.Kind==2&&t.At==w):=by
 unfold bG sF;simp only[jn,a2D];refine Y6 q.L.length (λk=>(q.L.take k).any (λt=>t.Kind==2&&t.At==w)=false) Δ Ψ ?_ (λhl=>⟨.inr (),Ψ,by rw[zL] at hl;rw[hl]⟩);intro k hk a;simp only[r4,hk,q9,ut,u4 hk,a2D];rw[zi hk,List.any_append,a,zbj];by_cases c:(q.L[k].Kind==2)=true
 .rw[c,zb Θ];by_cases d:(q.L[k].At==w)=true
  .right;rw[d,zb rfl];refine⟨.inl true,rfl,?_⟩;simp only[wd];symm
   rw[List.any_eq_true];exact⟨_,zl hk,by rw[c,d];rfl⟩
  .have d:(q.L[k].At==w)=false:=by simpa using d
   left;rw[d,za Θ,p8];exact⟨rfl,by simp[d]⟩
 .have c:(q.L[k].Kind==2)=false:=by simpa using c
  left;rw[c,za Θ,p8];exact⟨rfl,Ωx⟩
theorem nk{l:List Int}(h:l.length<=100000):jt l l=some true:=by
 unfold jt;rw[za Ψ];simp only[jn];refine Y6 l.length (λ_=>True) Δ trivial (λk hk _=>.inl ⟨?_,trivial⟩) (λ_=>⟨.inr (),Ψ,rfl⟩);simp only[r4,hk,q9,ut,u4 hk,a2D];rw[za Ψ,p8]
def mC(t:k7):o7:=⟨t.Kind,t.At,t.Prog⟩
def PE(q:TQ):F6:=⟨q.L.map mC,q.Cap⟩
theorem Zy{q:TQ}(h:q.L.length<=1000):ra (PE q) (PE q)=some true:=by
 unfold ra;have hl:(PE q).L.length=q.L.length:=by simp[PE]
 rw[za Ψ];simp only[jn];refine Y6 (PE q).L.length (λ_=>True) Δ trivial (λk hk _=>.inl ⟨?_,trivial⟩) (λ_=>⟨.inr (),Ψ,rfl⟩);simp only[r4,hk,q9,ut,u4 hk,a2D];rw[za Ψ,p8 (n:=k) Δ]
theorem Wq{q:TQ}{w:Int}(h:q.L.length<=1000):nH (PE q) w=some (q.L.any λt=>t.Kind==2&&t.At==w):=by
 unfold nH;have hl:(PE q).L.length=q.L.length:=by simp[PE]
 simp only[jn,hl];refine Y6 q.L.length (λk=>(q.L.take k).any (λt=>t.Kind==2&&t.At==w)=false) Δ Ψ ?_ (λhl=>⟨.inr (),Ψ,by rw[zL] at hl;rw[hl]⟩);intro k hk a;have e:ix (PE q).L (k:Int)=some (mC q.L[k]):=by rw[show (PE q).L=q.L.map mC from rfl,oR,u4 hk];rfl
 simp only[r4,hk,q9,ut,e,a2D];rw[zi hk,List.any_append,a,zbj];by_cases c:(q.L[k].Kind==2&&q.L[k].At==w)=true
 .right;rw[show ((mC q.L[k]).Kind==2&&(mC q.L[k]).At==w)=true from c,zb rfl];refine⟨.inl true,rfl,?_⟩;simp only[wd];symm
  rw[List.any_eq_true];exact⟨_,zl hk,c⟩
 .have c:(q.L[k].Kind==2&&q.L[k].At==w)=false:=by simpa using c
  left;rw[show ((mC q.L[k]).Kind==2&&(mC q.L[k]).At==w)=false from c,za Θ,p8];exact⟨rfl,Ωx⟩
abbrev Hp:=c7
abbrev wS(x:Hp)(s:b6):Hp:=⟨s,x.Roots,x.b7,x.T,x.Q⟩
abbrev wR(x:Hp)(l:List Int):Hp:=⟨x.S,l,x.b7,x.T,x.Q⟩
abbrev wC(x:Hp)(l:List l4):Hp:=⟨x.S,x.Roots,l,x.T,x.Q⟩
abbrev wT(x:Hp)(t:Tb):Hp:=⟨x.S,x.Roots,x.b7,t,x.Q⟩
abbrev wQ(x:Hp)(q:TQ):Hp:=⟨x.S,x.Roots,x.b7,x.T,q⟩
def iZ(l:List l4)(h:Int):Nat:=l.countP λc=>(h != 0)&&(c.Target==h)
def qf(q:TQ):List Int:=(q.L.filter (·.Kind==1)).map (·.At)
def uM(q:TQ)(w:Int):Bool:=q.L.any λt=>t.Kind==2&&t.At==w
def qj(x:Hp):List Int:=nz x.Roots++qf x.Q
noncomputable def ny(x:Hp)(h:Int):Nat:=na x.S h+own x.T h+L0 (qj x) h
def K8(s:b6)(i:Nat)(c:g7):b6:=⟨⟨s.S.b7.set i c,s.S.Last⟩,s.Serial⟩
theorem ae(s:b6)(i:Nat)(c:g7):(K8 s i c).S.b7.length=s.S.b7.length:=by simp[K8]
variable {s:b6}{i:Nat}{c:g7}{s':b6}
theorem O2(hi:i<s.S.b7.length)(c:g7)(j:Nat):ce (K8 s i c) j=if j=i then c else ce s j:=BP hi _ _ j
theorem SR.K8(hR:SR s)(hi:i<s.S.b7.length)(u:0<=c.State/\c.State<=3/\0<=c.Gen/\c.Gen<=s.S.Last)(y:¬Th c->NN (oo c.Val))(g:Th c->Ds s c.Val/\Th (ce s i)/\c.Val.Serial=(ce s i).Val.Serial):SR (K8 s i c):=by
 have key:∀j,Th (ce (Sh.K8 s i c) j)->Th (ce s j)/\(ce (Sh.K8 s i c) j).Val.Serial=(ce s j).Val.Serial:=λj hj=>by
  rw[O2 hi] at hj |-;split at hj
  .rename_i e;subst e;rw[zb rfl];exact (g hj).2
  .rename_i e;rw[za e];exact⟨hj,rfl⟩
 refine⟨by rw[ae];exact hR.len,hR.l0,hR.l9,hR.cP,λj hj=>?_,λj hj hn=>?_,λj hj hn=>?_,λj k hj hk a b e=>?_⟩
 .rw[ae] at hj;rw[O2 hi];split;·exact u
  .exact hR.cell j hj
 .rw[ae] at hj;rw[O2 hi] at hn |-;split at hn
  .rename_i e;rw[zb e];exact y hn
  .rename_i e;rw[za e];exact hR.no j hj hn
 .rw[ae] at hj;rw[O2 hi] at hn |-;split at hn
  .rename_i e;rw[zb e];have:=(g hn).1;exact⟨this.s1,this.s2,this.st,this.wk,this.p1,this.p2,this.fl⟩
  .rename_i e;rw[za e];have:=hR.ok j hj hn;exact⟨this.s1,this.s2,this.st,this.wk,this.p1,this.p2,this.fl⟩
 .rw[ae] at hj hk;obtain⟨m,p⟩:=key j a;obtain⟨q,r⟩:=key k b;rw[p,r] at e;exact hR.dif j k hj hk m q e
theorem Ic(hi:i<s.S.b7.length)(c:g7){h:Int}{j:Nat}(hj:j≠i):Y1 (K8 s i c) h j↔Y1 s h j:=by
 unfold Y1;rw[ae,O2 hi,za hj]
theorem AD(hi:i<s.S.b7.length)(c:g7){h:Int}{j:Nat}(hj:j≠i):At (K8 s i c) h j↔At s h j:=by
 unfold At;rw[ae,O2 hi,za hj]
theorem MT(hR:SR s)(hi:i<s.S.b7.length)(hc:c.State≠1)(g:SR (K8 s i c)):lv (K8 s i c)=(lv s).filter λh=>decide (F9 h≠i):=by
 have b:∀h,¬At (K8 s i c) h i:=λh q=>by
  have:=q.2.1;rw[O2 hi,zb rfl] at this;exact hc this
 refine RB hR g _ (λh=>?_) (λh j k q m=>?_)
 .rw[zE];constructor
  .rintro⟨j,hj⟩;have a:j≠i:=λe=>b h (e▸hj);have:=(AD hi c a).1 hj;exact⟨⟨j,this⟩,by rw[this.d.F9 hR];exact a⟩
  .rintro⟨⟨j,hj⟩,hp⟩;rw[hj.d.F9 hR] at hp;exact⟨j,(AD hi c hp).2 hj⟩
 .have a:j≠i:=λe=>b h (e▸q);have p:=(AD hi c a).1 q;have:=Y1.one hR p.d m.d;subst this;rw[O2 hi,za a]
theorem Nd(hR:SR s)(hi:i<s.S.b7.length)(a:SR (K8 s i c)){k:Int}(hk:k∈lv s)(hp:F9 k≠i):ob (K8 s i c) k=ob s k:=by
 have q:=r8 hR hk;rw[J2 a ((AD hi c hp).2 q),J2 hR q,O2 hi,za hp]
structure Kn (s s':b6):Prop where
 sr:SR s'
 len:s'.S.b7.length=s.S.b7.length
 lv:lv s'=lv s
 ad:∀k i,Y1 s' k i↔Y1 s k i
 ob:∀k,k∈Sh.lv s->∃n m,ob s' k=⟨(ob s k).Serial,n,m,(ob s k).Prog,(ob s k).Started,(ob s k).Fields⟩
theorem yl.kn(hR:SR s)(k:yl s s'):Kn s s':=⟨k.sr,k.len,k.lv,k.ad,λh hh=>by
 obtain⟨n,e⟩:=k.ob h Ωv;exact⟨n,_,e⟩⟩
theorem Kn.na{s s':b6}(k:Kn s s')(h:Int):na s' h=na s h:=by
 unfold Sh.na;rw[k.lv];congr 1;refine zt λx hx=>?_;obtain⟨n,m,e⟩:=k.ob x hx;unfold Sh.outs;rw[e]
structure lS (x:Hp):Prop where
 sr:SR x.S
 hr:HR x.T
 r6:x.Roots.length=6
 c6:x.b7.length=6
 cap:x.Q.Cap=30
 q30:x.Q.L.length<=30
 tk:∀t∈x.Q.L,0<=t.Prog/\t.Prog<=5/\((t.Kind=1/\t.At∈lv x.S/\(ob x.S t.At).Started=true)\/(t.Kind=2/\0<=t.At/\t.At<=5))
 td:x.Q.L.Pairwise λa b=>¬(a.Kind=b.Kind/\a.At=b.At)
 rt:∀h∈x.Roots,h=0\/h∈lv x.S
 fl:∀h∈lv x.S,∀v∈(ob x.S h).Fields,v=0\/v∈lv x.S
 pr:∀k v,Has x.T k v->k∈lv x.S/\v∈lv x.S
 cl:∀i (hi:i<x.b7.length),-1<=x.b7[i].Call/\x.b7[i].Call<=5/\(x.b7[i].Target=0->x.b7[i].Intact=false)/\(x.b7[i].Target≠0->∃p,Y1 x.S x.b7[i].Target p)/\(x.b7[i].Intact=true->x.b7[i].Target∈lv x.S/\uM x.Q i=false)
def Wk(x:Hp):Prop:=∀i,i<x.S.S.b7.length->Th (ce x.S i)->(ce x.S i).Val.Weak=(iZ x.b7 (1+(i:Int)+32*(ce x.S i).Gen):Int)/\((ce x.S i).State=2->1<=(ce x.S i).Val.Weak/\(ce x.S i).Val.Fields = []/\(ce x.S i).Val.Strong=0)
def bH(x:Hp)(L:List Int):Prop:=∀h∈lv x.S,(ob x.S h).Strong<12->(ob x.S h).Strong=((ny x h+L0 L h:Nat):Int)
structure M0 (x:Hp):Prop where
 sh:lS x
 wk:Wk x
 fair:bH x []
theorem lS.of{x:Hp}(h:lS x)(hS:SR s')(hl:lv s'=lv x.S)(hd:∀k i,Y1 x.S k i->Y1 s' k i)(m:∀k∈lv x.S,(ob x.S k).Started=true->(ob s' k).Started=true)(hfl:∀k∈lv x.S,∀v∈(ob s' k).Fields,v=0\/v∈lv x.S):lS (wS x s'):=by
 refine⟨hS,h.hr,h.r6,h.c6,h.cap,h.q30,λt ht=>?_,h.td,λk hk=>?_,λk hk=>?_,λk v g=>?_,λi hi=>?_⟩
 .obtain⟨a,b,c⟩:=h.tk t ht;refine⟨a,b,?_⟩;rcases c with ⟨c1,c2,r⟩ | c;·exact .inl ⟨c1,by rw[hl];exact c2,m _ c2 r⟩
  .exact .inr c
 .dsimp only;rw[hl];exact h.rt k hk
 .dsimp only at hk |-;rw[hl] at hk |-;exact hfl k hk
 .dsimp only;rw[hl];exact h.pr k v g
 .obtain⟨a,b,c,d,e⟩:=h.cl i hi;refine⟨a,b,c,λq=>?_,λq=>?_⟩
  .obtain⟨p,hp⟩:=d q;exact⟨p,hd _ _ hp⟩
  .dsimp only;rw[hl];exact e q
theorem lS.kn{x:Hp}(h:lS x)(k:Kn x.S s'):lS (wS x s'):=by
 refine h.of k.sr k.lv (λj i q=>(k.ad j i).2 q) (λj hj q=>?_) (λj hj=>?_)
 .obtain⟨n,m,e⟩:=k.ob j hj;rw[e];exact q
 .obtain⟨n,m,e⟩:=k.ob j hj;rw[e];exact h.fl j hj
theorem lS.Ae{x:Hp}(h:lS x)(k:yl x.S s'):lS (wS x s'):=h.kn (k.kn h.sr)
theorem Wk.Ae{x:Hp}(h:Wk x)(k:yl x.S s'):Wk (wS x s'):=by
 intro i hi ht;dsimp only at hi ht |-;rw[k.len] at hi;obtain⟨a,b,c,d,e⟩:=k.ce i hi;unfold Th at ht;rw[a] at ht;obtain⟨f,g⟩:=h i hi ht;rw[a,b,c];refine⟨f,λq=>?_⟩;have m:=e Δ;rw[<-c,m];exact g q
theorem lS.roots{x:Hp}(h:lS x){l:List Int}(hl:l.length=6)(hr:∀v∈l,v=0\/v∈lv x.S):lS (wR x l):=⟨h.sr,h.hr,hl,h.c6,h.cap,h.q30,h.tk,h.td,hr,h.fl,h.pr,h.cl⟩
theorem lS.table{x:Hp}(h:lS x){t:Tb}(hr:HR t)(hp:∀k v,Has t k v->k∈lv x.S/\v∈lv x.S):lS (wT x t):=⟨h.sr,hr,h.r6,h.c6,h.cap,h.q30,h.tk,h.td,h.rt,h.fl,hp,h.cl⟩
def aK(c:Int):Int:=if 12<=c then 12 else if c<0 then 1 else c+1
def mJ(c:Int):Int:=if 12<=c then 12 else if c<1 then c else c-1
theorem H5{c:Int}(h:0<=c):0<=aK c:=Ω4
theorem U2{c:Int}(h:0<=c):0<=mJ c:=by unfold mJ;split <;> (try split) <;> omega
noncomputable def wK(x:Hp)(h:Int)(f:Int->Int):Hp:=if h∈lv x.S then wS x (eC x.S h (DU (ob x.S h) (f (ob x.S h).Strong))) else x
noncomputable def I3(x:Hp)(h:Int):Hp:=wK x h aK
noncomputable def bD(x:Hp)(h:Int):Hp:=wK x h mJ
theorem CT(x:Hp)(h:Int)(f:Int->Int):wK x h f=wS x (wK x h f).S:=by
 unfold wK;split <;> rfl
theorem ru(x:Hp)(h:Int):I3 x h=wS x (I3 x h).S:=CT x h aK
theorem ZH(x:Hp)(h:Int):bD x h=wS x (bD x h).S:=CT x h mJ
section
variable{x:Hp}(hR:SR x.S)(h:Int){f:Int->Int}(hf:∀c,0<=c->0<=f c)
include hR hf
theorem K9:yl x.S (wK x h f).S:=by
 unfold wK;split
 .rename_i q;exact VB hR q (hf _ (N7 hR q).st)
 .exact yl.refl hR
theorem ye{k:Int}(hk:k∈lv x.S):(ob (wK x h f).S k).Strong=if k=h then f (ob x.S k).Strong else (ob x.S k).Strong:=by
 unfold wK;split
 .rename_i q;dsimp only;have ho:Ds x.S (DU (ob x.S h) (f (ob x.S h).Strong)):=by
   have:=N7 hR q;exact⟨this.s1,this.s2,hf _ this.st,this.wk,this.p1,this.p2,this.fl⟩
  rw[iI (o:=DU (ob x.S h) (f (ob x.S h).Strong)) hR q rfl ho (by have:=L5 hR hk;omega)];split;·rename_i e;subst e;rfl
  .rfl
 .rename_i q;rw[za];intro e;subst e;exact q hk
theorem AR(k:Int):ny (wK x h f) k=ny x k:=by
 rw[CT];unfold ny qj;dsimp only;rw[(K9 hR h hf).na hR]
end
theorem lS.st{x:Hp}(h:lS x)(k:Int){f:Int->Int}(hf:∀c,0<=c->0<=f c):lS (wK x k f):=by
 rw[CT];exact h.Ae (K9 h.sr k hf)
theorem Wk.st{x:Hp}(h:Wk x)(hR:SR x.S)(k:Int){f:Int->Int}(hf:∀c,0<=c->0<=f c):Wk (wK x k f):=by
 rw[CT];exact h.Ae (K9 hR k hf)
theorem H6(h:Int):L0 [] h=0:=by unfold L0;split <;> rfl
theorem I6(v:Int)(L:List Int)(h:Int):L0 (v::L) h=L0 L h+if v=h/\h≠0 then 1 else 0:=by
 unfold L0;by_cases h0:h=0
 .simp[h0]
 .rw[za h0,za h0,zcy];by_cases e:v=h
  .simp[e,h0]
  .simp[e]
variable {x:Hp}{v:Int}
theorem Jz(hR:SR x.S){L:List Int}(hf:bH x L)(v:Int):bH (I3 x v) (v::L):=by
 intro h hh a;unfold I3 at hh a |-;rw[(K9 hR v λc=>H5).lv] at hh;rw[ye hR v (λc=>H5) hh] at a |-;rw[AR hR v λc=>H5,I6];have h0:h≠0:=λe=>gq hR (e▸hh);have hp:=(N7 hR hh).st;by_cases e:h=v
 .subst e;rw[zb rfl] at a |-;have:=hf h hh (by unfold aK at a;split at a <;> omega);rw[zb ⟨rfl,h0⟩];unfold aK at a |-;split at a;·omega
  .rename_i q;rw[za q,za Δ];omega
 .rw[za e] at a |-;rw[za (λq=>e q.1.symm)];exact hf h hh a
theorem wD{x:Hp}(hR:SR x.S){L:List Int}{v:Int}(hf:bH x (v::L)):bH (bD x v) L:=by
 intro h hh a;unfold bD at hh a |-;rw[(K9 hR v λc=>U2).lv] at hh;rw[ye hR v (λc=>U2) hh] at a |-;rw[AR hR v λc=>U2];have h0:h≠0:=λe=>gq hR (e▸hh);have hp:=(N7 hR hh).st;by_cases e:h=v
 .subst e;rw[zb rfl] at a |-;have:=hf h hh (by unfold mJ at a;split at a <;> omega);rw[I6,zb ⟨rfl,h0⟩] at this;unfold mJ at a |-;split at a;·omega
  .rename_i q;rw[za q,za Δ];omega
 .rw[za e] at a |-;have:=hf h hh a;rw[I6,za (λq=>e q.1.symm)] at this;exact this
theorem bH.mv{x':Hp}{L L':List Int}(hf:bH x L)(hl:lv x'.S=lv x.S)(hs:∀h∈lv x.S,(ob x'.S h).Strong=(ob x.S h).Strong)(hn:∀h∈lv x.S,ny x' h+L0 L' h=ny x h+L0 L h):bH x' L':=by
 intro h hh a;rw[hl] at hh;rw[hs h hh] at a |-;rw[hf h hh a,hn h hh]
theorem AU:∀ {l:List Int} {r:Nat} (hr:r<l.length) (h k:Int),L0 (l.set r h) k+L0 [l.getD r 0] k=L0 l k+L0 [h] k
 | [],_,hr,_,_=>by simp at hr
 | a::l,0,_,h,k=>by
  rw[List.set_cons_zero,List.getD_cons_zero,I6 h l,I6 a l,I6 a [],I6 h [],H6];omega
 | a::l,r+1,hr,h,k=>by
  rw[List.set_cons_succ,List.getD_cons_succ,I6 a,I6 a l];have:=AU (l:=l) (r:=r) (Ω hr) h k;omega
theorem uF{x1:Hp}(hx:M0 x){old new:Int}(b:lS (I3 x new)->Wk (I3 x new)->lS x1/\Wk x1)
  (hl:lv x1.S=lv (I3 x new).S)(hs:∀h∈lv x.S,(ob x1.S h).Strong=(ob (I3 x new).S h).Strong)(hn:∀h∈lv x.S,ny x1 h+L0 [old] h=ny x h+L0 [new] h):M0 (bD x1 old):=by
 have l1:lv (I3 x new).S=lv x.S:=(K9 hx.sh.sr new λc=>H5).lv;have f1:bH (I3 x new) [new]:=Jz hx.sh.sr hx.fair new;obtain⟨a,w2⟩:=b (hx.sh.st new λc=>H5) (hx.wk.st hx.sh.sr new λc=>H5);have f2:bH x1 [old]:=f1.mv hl (λh hh=>hs h (l1▸hh)) λh hh=>by
  rw[hn h (l1▸hh)];unfold I3;rw[AR hx.sh.sr new λc=>H5]
 exact⟨a.st _ λc=>U2,w2.st a.sr _ λc=>U2,wD a.sr f2⟩
noncomputable def K1(x:Hp)(r:Nat)(h:Int):Hp:=bD (wR (I3 x h) (x.Roots.set r h)) (x.Roots.getD r 0)
theorem bc(hx:M0 x){r:Nat}(hr:r<6){h:Int}(hh:h=0\/h∈lv x.S):M0 (K1 x r h):=by
 have l1:lv (I3 x h).S=lv x.S:=(K9 hx.sh.sr h λc=>H5).lv;refine uF hx (λa b=>⟨a.roots (by rw[zaq];exact hx.sh.r6) (λv hv=>?_),b⟩) rfl (λ_ _=>rfl) (λk hk=>?_)
 .rw[l1];rcases zay hv with q | q
  .exact hx.sh.rt v q
  .exact q▸hh
 .have hi:=(K9 hx.sh.sr h λc=>H5).na hx.sh.sr k;rw[ru];unfold ny qj;dsimp only;rw[show na (I3 x h).S k=na x.S k from hi,H3,H3,rJ,rJ];have:=AU (l:=x.Roots) (r:=r) (by rw[hx.sh.r6];exact hr) h k;omega
theorem NG{α:Type}:∀ {l:List α} (hn:l.Nodup) {a:α} (ha:a∈l) (f g:α->Nat) (h:∀x∈l,x≠a->f x=g x),(l.map g).sum+f a=(l.map f).sum+g a
 | [],_,_,ha,_,_,_=>by cases ha
 | b::l,hn,a,ha,f,g,h=>by
  rw[me] at hn;rw[zT,zT,zbs,zbs];rcases zJ.1 ha with e | e
  .subst e;have:l.map g=l.map f:=zt λx hx=>(h x (zw _ hx) λe=>hn.1 (e▸hx)).symm;rw[this];omega
  .have:=NG hn.2 e f g λx hx=>h x (zw _ hx);have:=h b (zh ..) λq=>hn.1 (q▸e);omega
abbrev ub(o:p9)(l:List Int):p9:=⟨o.Serial,o.Strong,o.Weak,o.Prog,o.Started,l⟩
theorem MI{s:b6}(hR:SR s){h:Int}(hh:h∈lv s){o:p9}(hs:o.Serial=(ob s h).Serial)(ho:Ds s o)(y:Int):na (eC s h o) y+L0 (ob s h).Fields y=na s y+L0 o.Fields y:=by
 have g:=L5 hR hh;have:=NG (vK (D5.2 hR)) hh (λx=>L0 (outs s x) y) (λx=>L0 (outs (eC s h o) x) y) λx hx a=>by
  have:=L5 hR hx;unfold outs;rw[iI hR hh hs ho Δ,za a]
 have e:L0 (outs (eC s h o) h) y=L0 o.Fields y:=by
  unfold outs;rw[iI hR hh hs ho Δ,zb rfl,rJ]
 have b:L0 (outs s h) y=L0 (ob s h).Fields y:=rJ _ _;rw[e,b] at this;unfold na;rw[jW hR hh hs ho];exact this
noncomputable def cW(x:Hp)(h:Int)(k:Nat)(v:Int):Hp:=bD (wS (I3 x v) (eC (I3 x v).S h (ub (ob (I3 x v).S h) ((ob x.S h).Fields.set k v)))) ((ob x.S h).Fields.getD k 0)
theorem FW(hx:M0 x){h:Int}(hh:h∈lv x.S){k:Nat}(hk:k<(ob x.S h).Fields.length)(hv:v=0\/v∈lv x.S):M0 (cW x h k v):=by
 have Ae:=K9 hx.sh.sr v (f:=aK) λc=>H5;have l1:lv (I3 x v).S=lv x.S:=Ae.lv;have g:SR (I3 x v).S:=Ae.sr;have m:h∈lv (I3 x v).S:=by rw[l1];exact hh
 have C:=L5 hx.sh.sr hh;have y:(ob (I3 x v).S h).Fields=(ob x.S h).Fields:=by
  obtain⟨n,e⟩:=Ae.ob h Δ;show (ob (wK x v aK).S h).Fields=_;rw[e]
 have ho:Ds (I3 x v).S (ub (ob (I3 x v).S h) ((ob x.S h).Fields.set k v)):=by
  have:=N7 g m;refine⟨this.s1,this.s2,this.st,this.wk,this.p1,this.p2,?_⟩;have B:=this.fl;rw[y] at B;simpa using B
 have r:∀j,j∈lv x.S->ob (eC (I3 x v).S h (ub (ob (I3 x v).S h) ((ob x.S h).Fields.set k v))) j=if j=h then ub (ob (I3 x v).S h) ((ob x.S h).Fields.set k v) else ob (I3 x v).S j:=λj hj=>by
  have:=L5 hx.sh.sr hj;exact iI (o:=ub (ob (I3 x v).S h) ((ob x.S h).Fields.set k v)) g m rfl ho Δ
 refine uF hx (λa b=>⟨?_,?_⟩) (jW (o:=ub (ob (I3 x v).S h) ((ob x.S h).Fields.set k v)) g m rfl ho) (λj hj=>?_) (λj hj=>?_)
 .refine a.of (dh (o:=ub (ob (I3 x v).S h) ((ob x.S h).Fields.set k v)) g m rfl ho) (jW (o:=ub (ob (I3 x v).S h) ((ob x.S h).Fields.set k v)) g m rfl ho) (λj i q=>(Hs (o:=ub (ob (I3 x v).S h) ((ob x.S h).Fields.set k v)) g m rfl ho).2 q) (λj hj q=>?_) (λj hj u hu=>?_)
  .rw[r j (l1▸hj)];split;·rename_i e;subst e;exact q
   .exact q
  .rw[r j (l1▸hj)] at hu;split at hu
   .rename_i e;subst e;rcases zay hu with q | q
    .exact a.fl j hj u (by rw[y];exact q)
    .rw[l1,q];exact hv
   .exact a.fl j hj u hu
 .intro i hi ht;dsimp only at hi ht |-;have hp:=r8 g m;unfold eC at hi;rw[M6] at hi;have A:=CP (o:=ub (ob (I3 x v).S h) ((ob x.S h).Fields.set k v)) g m rfl ho i;rw[A] at ht |-;split at ht
  .rename_i e;subst e;rw[zb rfl];have:=b _ hp.1 (.inl hp.2.1);dsimp only;refine⟨?_,λq=>absurd q (by rw[hp.2.1];decide)⟩;rw[<-this.1,J2 g hp]
  .rename_i e;rw[za e];exact b i hi ht
 .rw[r j hj];split;·rename_i e;subst e;rfl
  .rfl
 .have hi:=MI (o:=ub (ob (I3 x v).S h) ((ob x.S h).Fields.set k v)) g m rfl ho j;have p:=Ae.na hx.sh.sr j;have p:na (I3 x v).S j=na x.S j:=p;rw[p,y] at hi;dsimp only at hi;have:=AU hk v j;have hrest:I3 x v=wS x (I3 x v).S:=ru x v;unfold ny qj;dsimp only;rw[show (I3 x v).T=x.T by rw[hrest],show (I3 x v).Roots=x.Roots by rw[hrest],show (I3 x v).Q=x.Q by rw[hrest]];omega
theorem Sx{t:Tb}(hT:HR t){k:Int}{r:Tb × Int × Int}(h:Y9 t k v=some r)(h0:r.2.2=0):HR r.1/\(∀y,own r.1 y+L0 [r.2.1] y=own t y+L0 [v] y)/\∀k' e,Has r.1 k' e->Has t k' e\/(k'=k/\e=v/\v≠0):=by
 obtain⟨r',m,u,_,A⟩:=fB hT k v;rw[h] at m;cases m;refine⟨u,?_⟩;have g:∀(i:Nat) (p:g8) (y:Int),i<t.length->own (t.set i p) y+(if (pt t i).State=1/\(pt t i).Val=y/\y≠0 then 1 else 0)=own t y+if p.State=1/\p.Val=y/\y≠0 then 1 else 0:=λi p y hi=>by
  have key:∀q:g8,(if ((q.State==1)&&((y != 0)&&(q.Val==y)))=true then 1 else 0:Nat)=if q.State=1/\q.Val=y/\y≠0 then 1 else 0:=λq=>by
   by_cases c:q.State=1/\q.Val=y/\y≠0
   .rw[zb c,zb (by simp[c.1,c.2.1,c.2.2])]
   .rw[za c,za (by simp only[zB,zak,zcs,ne_eq];exact λq=>c ⟨q.1,q.2.2,q.2.1⟩)]
  have:=Ni hi p y;rw[key,key] at this;exact this
 rcases A with ⟨_,rfl⟩ | ⟨hk,hv,⟨i,hi,rfl⟩ | ⟨hn,rfl⟩⟩ | ⟨hk,hv,⟨i,hi,rfl⟩ | ⟨d,hn,hd,hf,hp,rfl⟩ | ⟨hn,ha,rfl⟩⟩;·simp at h0
 .refine⟨λy=>?_,λk' e q=>.inl ((vd hT hi k' e).1 q).2⟩;have:=g i ⟨2,0,0⟩ y hi.1;rw[I6,I6,H6];subst hv;dsimp only at this |-;rw[za (show ¬((2:Int)=1/\(0:Int)=y/\y≠0) by omega)] at this;rw[za (show ¬((0:Int)=y/\y≠0) by omega)];simp only[hi.2.1,true_and] at this;omega
 .refine⟨λy=>?_,λk' e q=>.inl q⟩;rw[hv]
 .refine⟨λy=>?_,λk' e q=>?_⟩
  .have:=g i ⟨1,k,v⟩ y hi.1;rw[I6,I6,H6];simp only[hi.2.1,true_and] at this;dsimp only;omega
  .rcases (AK hT (.old i hi) rfl k' e).1 q with ⟨a,b⟩ | ⟨_,b⟩;·exact .inr ⟨a,b,hv⟩
   .exact .inl b
 .refine⟨λy=>?_,λk' e q=>?_⟩
  .have:=g d ⟨1,k,v⟩ y hd;rw[I6,I6,H6];dsimp only;rw[za (show ¬((0:Int)=y/\y≠0) by omega)];simp only[hf,false_and,true_and,pu] at this;omega
  .rcases (AK hT hp rfl k' e).1 q with ⟨a,b⟩ | ⟨_,b⟩;·exact .inr ⟨a,b,hv⟩
   .exact .inl b
 .simp at h0
noncomputable def kc(x:Hp)(v:Int)(t:Tb)(old:Int):Hp:=bD (wT (I3 x v) t) old
theorem Jf(hx:M0 x){k:Int}(hk:k∈lv x.S)(hv:v=0\/v∈lv x.S){r:Tb × Int × Int}(h:Y9 x.T k v=some r)(h0:r.2.2=0):M0 (kc x v r.1 r.2.1):=by
 have Ae:=K9 hx.sh.sr v (f:=aK) λc=>H5;have l1:lv (I3 x v).S=lv x.S:=Ae.lv;obtain⟨p1,p2,p⟩:=Sx hx.sh.hr h h0;refine uF hx (λa b=>⟨a.table p1 λk' m q=>?_,b⟩) rfl (λ_ _=>rfl) (λj hj=>?_)
 .rw[l1];rcases p k' m q with q | ⟨rfl,rfl,g⟩
  .exact hx.sh.pr k' m q
  .exact⟨hk,hv.resolve_left g⟩
 .have e:na (I3 x v).S j=na x.S j:=Ae.na hx.sh.sr j;have hrest:I3 x v=wS x (I3 x v).S:=ru x v;unfold ny qj;dsimp only;rw[show (I3 x v).Roots=x.Roots by rw[hrest],show (I3 x v).Q=x.Q by rw[hrest],e];have:=p2 j;omega
instance(s:b6)(h:Int)(i:Nat):Decidable (Y1 s h i):=by unfold Y1;infer_instance
abbrev wkg(o:p9)(n:Int):p9:=⟨o.Serial,o.Strong,n,o.Prog,o.Started,o.Fields⟩
def nq(s:b6)(i:Nat)(d:Int):b6:=ig s i (wkg (ce s i).Val ((ce s i).Val.Weak+d))
def HP(s:b6)(i:Nat):b6:=K8 s i (if (ce s i).Gen=s.S.Last then ⟨3,(ce s i).Gen,z0⟩ else ⟨0,(ce s i).Gen+1,z0⟩)
def cY(s:b6)(i:Nat):Int:=1+(i:Int)+32*(ce s i).Gen
theorem Az{s:b6}{i:Nat}(hi:i<s.S.b7.length)(ht:Th (ce s i)):Y1 s (cY s i) i:=⟨hi,ht,rfl⟩
theorem vA{s:b6}(hR:SR s){i:Nat}(hi:i<s.S.b7.length):1<=cY s i:=by
 have:=hR.cell i hi;unfold cY;omega
section
variable{s:b6}(hR:SR s){i:Nat}(hi:i<s.S.b7.length)(ht:Th (ce s i))
include hR hi ht
theorem xG{d:Int}(hd:0<=(ce s i).Val.Weak+d):SR (nq s i d):=by
 have:=hR.ok i hi ht;exact hR.put hi ht rfl ⟨this.s1,this.s2,this.st,hd,this.p1,this.p2,this.fl⟩
theorem gx(d:Int)(j:Nat):ce (nq s i d) j=if j=i then ⟨(ce s i).State,(ce s i).Gen,wkg (ce s i).Val ((ce s i).Val.Weak+d)⟩ else ce s j:=oB hi _ j
theorem oV{d:Int}(hd:0<=(ce s i).Val.Weak+d):Kn s (nq s i d):=by
 have hS:=xG hR hi ht hd;refine⟨hS,M6 ..,RA hR hi rfl hS,λk j=>AA hi _,λk hk=>?_⟩;have q:=r8 hR hk;rw[J2 hS ((Bq hi _).2 q),J2 hR q,gx hR hi ht];split
 .rename_i e;rw[e];exact⟨_,_,rfl⟩
 .exact⟨_,_,rfl⟩
theorem oW{d:Int}(hd:0<=(ce s i).Val.Weak+d){k:Int}(hk:k∈lv s):(ob (nq s i d) k).Strong=(ob s k).Strong:=by
 have hS:=xG hR hi ht hd;have q:=r8 hR hk;rw[J2 hS ((Bq hi _).2 q),J2 hR q,gx hR hi ht];split
 .rename_i e;rw[e]
 .rfl
omit ht in
theorem Gi:SR (HP s i):=by
 have hc:=hR.cell i hi;have no:NN (oo z0):=⟨rfl,rfl,rfl,rfl,rfl,rfl⟩;unfold HP;split;·exact hR.K8 hi ⟨Ψ,Ψ,hc.2.2.1,hc.2.2.2⟩ (λ_=>no) (λq=>absurd q (by unfold Th;simp))
 .refine hR.K8 hi ⟨Ψ,Ψ,?_,?_⟩ (λ_=>no) (λq=>absurd q (by unfold Th;simp));·show 0<=(ce s i).Gen+1;omega
  .show (ce s i).Gen+1<=s.S.Last;omega
omit hR ht in
theorem Ge:∃c,(c.State=0\/c.State=3)/\HP s i=K8 s i c/\∀j,ce (HP s i) j=if j=i then c else ce s j:=by
 unfold HP;split;·exact⟨_,.inr rfl,rfl,λj=>O2 hi _ j⟩
 .exact⟨_,.inl rfl,rfl,λj=>O2 hi _ j⟩
omit ht in
theorem Gf (a:(ce s i).State=2):lv (HP s i)=lv s:=by
 obtain⟨c,c1,c2,_⟩:=Ge (s:=s) hi;have hS:=Gi hR hi;rw[c2] at hS |-;rw[MT hR hi Δ hS,zav];intro h hh;rw[zE];intro e;have:=(r8 hR hh).2.1;rw[e] at this;omega
omit ht in
theorem Gg (a:(ce s i).State=2) {k:Int} (hk:k∈lv s):ob (HP s i) k=ob s k:=by
 obtain⟨c,c1,c2,_⟩:=Ge (s:=s) hi;have hS:=Gi hR hi;rw[c2] at hS |-;refine Nd hR hi hS hk λe=>?_;have:=(r8 hR hk).2.1;rw[e] at this;omega
omit ht in
theorem Yx {k:Int} {j:Nat}:Y1 (HP s i) k j↔Y1 s k j/\j≠i:=by
 obtain⟨c,c1,c2,a⟩:=Ge (s:=s) hi;by_cases e:j=i
 .subst e;constructor
  .rintro⟨_,h,_⟩;rw[a,zb rfl] at h;unfold Th at h;omega
  .rintro⟨_,h⟩;exact absurd rfl h
 .rw[c2,Ic hi c e];simp[e]
theorem Vt(a:(ce s i).State=2)(y:Int):na (HP s i) y=na s y:=by
 unfold na;rw[Gf hR hi a];congr 1;refine zt λx hx=>?_;unfold outs;rw[Gg hR hi a hx]
end
def lQ(x:Hp)(h:Int)(d:Int):Hp:=if Y1 x.S h (F9 h) then wS x (nq x.S (F9 h) d) else x
def rK(x:Hp)(h:Int):Hp:=
 if Y1 x.S h (F9 h) then
  (if (ce x.S (F9 h)).State=2/\(ce x.S (F9 h)).Val.Weak=1 then wS x (HP (nq x.S (F9 h) (-1)) (F9 h)) else wS x (nq x.S (F9 h) (-1)))
 else x
abbrev fR(h call:Int):l4:=⟨h,h != 0,call⟩
def nU(x:Hp)(w:Nat):Int:=(x.b7.getD w ⟨0,false,0⟩).Target
def dO(x:Hp)(w:Nat)(h call:Int):Hp:=rK (lQ (wC x (x.b7.set w (fR h call))) h 1) (nU x w)
theorem Nb{l:List l4}{w:Nat}(hw:w<l.length)(c:l4){k:Int}(hk:k≠0):iZ (l.set w c) k+(if l[w].Target=k then 1 else 0)=iZ l k+if c.Target=k then 1 else 0:=by
 unfold iZ;rw[List.countP_set hw];have e:∀d:l4,(((k != 0)&&(d.Target==k))=true)=(d.Target=k):=λd=>by simp[hk]
 simp only[e];have:(if l[w].Target=k then 1 else 0)<=l.countP λc=>(k != 0)&&(c.Target==k):=by
  split
  .rename_i q;exact zby.2 ⟨l[w],zl hw,by simp[q,hk]⟩
  .exact zU _
 omega
theorem vY{l:List l4}{i:Nat}(hi:i<l.length)(h0:l[i].Target≠0):0<iZ l l[i].Target:=zby.2 ⟨l[i],zl hi,by simp[h0]⟩
theorem yU{x:Hp}(hx:M0 x){w:Nat}(hw:w<6){h call:Int}(hh:h=0\/h∈lv x.S)(hc : -1<=call/\call<=5)(hq:uM x.Q w=false):M0 (dO x w h call):=by
 have hR:=hx.sh.sr;have hwl:w<x.b7.length:=by rw[hx.sh.c6];exact hw
 have htg:nU x w=x.b7[w].Target:=by
  unfold nU;rw[zd,zc hwl];rfl
 have s1:lS (wC x (x.b7.set w (fR h call))):=by
  have:=hx.sh;refine⟨this.sr,this.hr,this.r6,Ω this.c6,this.cap,this.q30,this.tk,this.td,this.rt,this.fl,this.pr,λi hi=>?_⟩;dsimp only at hi |-;rw[zcw];rw[zaq] at hi;split
  .rename_i e;subst e;dsimp only;refine⟨hc.1,hc.2,λq=>by simp[q],λq=>?_,λq=>?_⟩;·exact⟨_,(r8 hR (hh.resolve_left q)).d⟩
   .have q:h≠0:=by simpa using q
    exact⟨hh.resolve_left q,hq⟩
  .exact this.cl i hi
 have k2:∃s2,lQ (wC x (x.b7.set w (fR h call))) h 1=wS (wC x (x.b7.set w (fR h call))) s2/\Kn x.S s2/\(∀k∈lv x.S,(ob s2 k).Strong=(ob x.S k).Strong) /\
   ∀i,i<x.S.S.b7.length->(ce s2 i).State=(ce x.S i).State/\(ce s2 i).Gen=(ce x.S i).Gen/\(ce s2 i).Val.Fields=(ce x.S i).Val.Fields/\(ce s2 i).Val.Strong=(ce x.S i).Val.Strong/\(Th (ce x.S i)->(ce s2 i).Val.Weak=(ce x.S i).Val.Weak+if h=cY x.S i then 1 else 0):=by
  unfold lQ;rcases hh with h0 | hh
  .have hno:¬Y1 x.S h (F9 h):=λq=>by have:=q.PD hR;omega
   rw[za hno];refine⟨x.S,rfl,(yl.refl hR).kn hR,λ_ _=>rfl,λi hi=>⟨rfl,rfl,rfl,rfl,λht=>?_⟩⟩;have:=vA hR hi;rw[za Δ];omega
  .have hp:=r8 hR hh;have hwk:=(hR.ok _ hp.1 (.inl hp.2.1)).wk;rw[zb hp.d];refine⟨_,rfl,oV hR hp.1 (.inl hp.2.1) Δ,λk hk=>oW hR hp.1 (.inl hp.2.1) Δ hk,λi hi=>?_⟩;rw[gx hR hp.1 (.inl hp.2.1)];split
   .rename_i e;subst e;refine⟨rfl,rfl,rfl,rfl,λ_=>?_⟩;rw[zb (show h=cY x.S (F9 h) from hp.2.2)]
   .rename_i e;refine⟨rfl,rfl,rfl,rfl,λht=>?_⟩;rw[za];·omega
    .intro q;exact e (Y1.one hR (q▸Az hi ht) hp.d)
 obtain⟨s2,e2,C,st2,y⟩:=k2;have R:=C.sr;have len2:=C.len;have hS2:lS (wS (wC x (x.b7.set w (fR h call))) s2):=s1.kn C;have H:∀i,i<x.S.S.b7.length->cY s2 i=cY x.S i:=λi hi=>by unfold cY;rw[(y i hi).2.1]
 have th2:∀i,i<x.S.S.b7.length->(Th (ce s2 i)↔Th (ce x.S i)):=λi hi=>by unfold Th;rw[(y i hi).1]
 have wk2:∀i,i<x.S.S.b7.length->Th (ce x.S i)->(ce s2 i).Val.Weak=(iZ (x.b7.set w (fR h call)) (cY x.S i):Int)+if nU x w=cY x.S i then 1 else 0:=λi hi ht=>by
  have h0:cY x.S i≠0:=by have:=vA hR hi;omega
  have:=Nb hwl (fR h call) h0;rw[(y i hi).2.2.2.2 ht,(hx.wk i hi ht).1,htg];dsimp only at this;unfold cY at this |-;by_cases a:h=1+(i:Int)+32*(ce x.S i).Gen <;> by_cases b:x.b7[w].Target=1+(i:Int)+32*(ce x.S i).Gen
  .rw[zb a,zb b] at *;omega
  .rw[zb a,za b] at *;omega
  .rw[za a,zb b] at *;omega
  .rw[za a,za b] at *;omega
 have V:∀i,i<x.S.S.b7.length->(ce s2 i).State=2->(ce s2 i).Val.Fields = []/\(ce s2 i).Val.Strong=0:=λi hi q=>by
  obtain⟨a,_,b,c,_⟩:=y i hi;rw[a] at q;rw[b,c];exact ((hx.wk i hi (.inr q)).2 q).2
 have nms2:∀k,ny (wS (wC x (x.b7.set w (fR h call))) s2) k=ny x k:=λk=>by
  unfold ny qj;dsimp only;rw[C.na]
 have fair2:bH (wS (wC x (x.b7.set w (fR h call))) s2) []:=hx.fair.mv C.lv st2 λk _=>by rw[nms2]
 unfold dO;rw[e2];unfold rK;dsimp only;by_cases T:nU x w=0
 .have hno:¬Y1 s2 (nU x w) (F9 (nU x w)):=λq=>by have:=q.PD R;omega
  rw[za hno];refine⟨hS2,λi hi ht=>?_,fair2⟩;dsimp only at hi ht |-;rw[len2] at hi;have r:=(th2 i hi).1 ht;have h0:=vA hR hi;have hw2:=wk2 i hi r;rw[za Δ] at hw2;rw[show (1+(i:Int)+32*(ce s2 i).Gen)=cY x.S i from H i hi];refine⟨Δ,λq=>⟨?_,V i hi q⟩⟩;have q':(ce x.S i).State=2:=by rw[<-(y i hi).1];exact q
  have:=((hx.wk i hi r).2 q').1;rw[(y i hi).2.2.2.2 r];split <;> omega
 .obtain⟨p,hp⟩:∃p,Y1 x.S (nU x w) p:=by
   rw[htg] at T |-;exact (hx.sh.cl w hwl).2.2.2.1 T
  have hpp:=hp.F9 hR;have K:Y1 s2 (nU x w) p:=(C.ad _ _).2 hp;have hth:nU x w=cY x.S p:=hp.2.2;rw[hpp,zb K];have E:=K.1;have hw2:=wk2 p hp.1 hp.2.1;rw[zb hth] at hw2;have hd:0<=(ce s2 p).Val.Weak+(-1):=Δ
  have B:=oV R E K.2.1 hd;have G:=B.sr;have N:=gx R E K.2.1 (-1);have g:lS (wS (wC x (x.b7.set w (fR h call))) (nq s2 p (-1))):=hS2.kn B;have fair3:bH (wS (wC x (x.b7.set w (fR h call))) (nq s2 p (-1))) []:=fair2.mv B.lv (λk hk=>oW R E K.2.1 hd hk) λk _=>by
   unfold ny qj;dsimp only;rw[B.na]
  have wk3:∀i,i<x.S.S.b7.length->Th (ce x.S i)->(ce (nq s2 p (-1)) i).Val.Weak=(iZ (x.b7.set w (fR h call)) (cY x.S i):Int):=λi hi ht=>by
   rw[N];by_cases e:i=p
   .subst e;rw[zb rfl];dsimp only;omega
   .rw[za e,wk2 i hi ht,za];·omega
    .intro q;exact e (Y1.one hR (q▸Az hi ht) hp)
  have m:∀i,(ce (nq s2 p (-1)) i).State=(ce s2 i).State/\(ce (nq s2 p (-1)) i).Gen=(ce s2 i).Gen/\(ce (nq s2 p (-1)) i).Val.Fields=(ce s2 i).Val.Fields/\(ce (nq s2 p (-1)) i).Val.Strong=(ce s2 i).Val.Strong:=λi=>by
   rw[N];split
   .rename_i e;subst e;exact⟨rfl,rfl,rfl,rfl⟩
   .exact⟨rfl,rfl,rfl,rfl⟩
  by_cases hg:(ce s2 p).State=2/\(ce s2 p).Val.Weak=1
  .-- the slot is given back
   rw[zb hg];have A:p<(nq s2 p (-1)).S.b7.length:=by rw[B.len];exact E
   have P:(ce (nq s2 p (-1)) p).State=2:=by rw[(m p).1];exact hg.1
   have hn0:iZ (x.b7.set w (fR h call)) (nU x w)=0:=by rw[hth];omega
   have F:=Gf G A P;have hob:=λk hk=>Gg (k:=k) G A P hk;obtain⟨c,c1,c2,c3⟩:=Ge (s:=nq s2 p (-1)) A;refine⟨⟨Gi G A,g.hr,g.r6,g.c6,g.cap,g.q30,λt htt=>?_,g.td,λv hv=>?_,λv hv u hu=>?_,λk v hkv=>?_,λi hi=>?_⟩,λi hi ht=>?_,?_⟩
   .obtain⟨a,b,d⟩:=g.tk t htt;refine⟨a,b,?_⟩;dsimp only at d |-;rw[F];rcases d with ⟨d1,d2,d3⟩ | d;·exact .inl ⟨d1,d2,by rw[hob _ d2];exact d3⟩
    .exact .inr d
   .dsimp only;rw[F];exact g.rt v hv
   .dsimp only at hv hu |-;rw[F] at hv |-;rw[hob _ hv] at hu;exact g.fl v hv u hu
   .dsimp only;rw[F];exact g.pr k v hkv
   .obtain⟨a1,a2,a3,a4,a5⟩:=g.cl i hi;refine⟨a1,a2,a3,λq=>?_,λq=>?_⟩
    .obtain⟨j,hj⟩:=a4 q;refine⟨j,(Yx G A).2 ⟨hj,λe=>?_⟩⟩;subst e;have e1:=(C.ad _ _).1 ((B.ad _ _).1 hj);have e2:(x.b7.set w (fR h call))[i].Target=nU x w:=e1.2.2.trans hp.2.2.symm;have:=vY hi q;dsimp only at this;rw[e2] at this;omega
    .dsimp only;rw[F];exact a5 q
   .dsimp only at hi ht |-;rw[show (HP (nq s2 p (-1)) p).S.b7.length=x.S.S.b7.length by rw[c2,ae,B.len,len2]] at hi;rw[c3] at ht |-;split at ht;·unfold Th at ht;omega
    .rename_i e;rw[za e];have r:Th (ce x.S i):=(th2 i hi).1 (by unfold Th at ht |-;rw[(m i).1] at ht;exact ht);have:=wk3 i hi r;rw[show (1+(i:Int)+32*(ce (nq s2 p (-1)) i).Gen)=cY x.S i by rw[(m i).2.1];exact H i hi];refine⟨this,λq=>?_⟩;rw[(m i).1] at q;rw[(m i).2.2.1,(m i).2.2.2,N,za e];refine⟨?_,V i hi q⟩;have q':(ce x.S i).State=2:=by rw[<-(y i hi).1];exact q
     have:=((hx.wk i hi r).2 q').1;rw[(y i hi).2.2.2.2 r];split <;> omega
   .refine fair3.mv F (λk hk=>by rw[hob k hk]) λk _=>?_;unfold ny qj;dsimp only;rw[Vt G A (.inr P) P]
  .rw[za hg];refine⟨g,λi hi ht=>?_,fair3⟩;dsimp only at hi ht |-;rw[B.len,len2] at hi;have r:Th (ce x.S i):=(th2 i hi).1 (by unfold Th at ht |-;rw[(m i).1] at ht;exact ht);have:=wk3 i hi r;rw[show (1+(i:Int)+32*(ce (nq s2 p (-1)) i).Gen)=cY x.S i by rw[(m i).2.1];exact H i hi];refine⟨this,λq=>?_⟩;rw[(m i).1] at q;rw[(m i).2.2.1,(m i).2.2.2];refine⟨?_,V i hi q⟩;rw[N];split
   .rename_i e;subst e;dsimp only;have:(ce s2 i).Val.Weak≠1:=λq2=>hg ⟨q,q2⟩;omega
   .have q':(ce x.S i).State=2:=by rw[<-(y i hi).1];exact q
    have:=((hx.wk i hi r).2 q').1;rw[(y i hi).2.2.2.2 r];split <;> omega
def rO(c:l4):n7:=⟨c.Target,c.Intact,c.Call⟩
def hO(x:Hp):df:=⟨sO x.S,x.Roots,x.b7.map rO,x.T.map gY,PE x.Q⟩
theorem a0C{R:Type}{f:Int->Option (Int ⊕ (Bool ⊕ Unit))}{κ:Bool ⊕ Unit->Option R}{Q:R->Prop}(n:Nat)(p:Nat->Prop)(hn:n<4611686018427387904)
  (hs:∀k:Nat,k<n->∃z,f (k:Int)=some z/\((p k/\z = .inl ((k+1:Nat):Int))\/(¬p k/\z = .inr (.inl false))))(he:f (n:Int)=some (.inr (.inr ())))
  (y:(∀k,k<n->p k)->∃r,κ (.inr ())=some r/\Q r)(h0:(¬∀k,k<n->p k)->∃r,κ (.inl false)=some r/\Q r):∃r,(lp f 0).bind κ=some r/\Q r:=by
 obtain⟨e,m,u⟩:=EH (f:=f) n (λk=>∀j,j<k->p j) (λe=>(e = .inr ()/\∀k,k<n->p k)\/(e = .inl false/\¬∀k,k<n->p k)) hn (λj hj=>Δ) (λk hk b=>by
  obtain⟨z,g,A⟩:=hs k hk;rcases A with ⟨a,rfl⟩ | ⟨a,rfl⟩
  .refine .inl ⟨g,λj hj=>?_⟩;rcases zI j k with q | q
   .exact b j q
   .have:j=k:=by omega
    subst this;exact a
  .exact .inr ⟨_,g,.inr ⟨rfl,λq=>a (q k hk)⟩⟩) (λb=>⟨_,he,.inl ⟨rfl,b⟩⟩)
 rw[m];rcases u with ⟨rfl,h⟩ | ⟨rfl,h⟩;·exact y h
 .exact h0 h
section
variable{x:Hp}(hR:SR x.S)
include hR
theorem Rr{h:Int}(hh:h<=9223372036854775807):mb x h=some (decide (h∈lv x.S)):=by
 unfold mb;obtain⟨e,a,b⟩:=qI (D5.2 hR) hh;rw[a,a2D];congr 1;rw[zbh,zak,zE,b]
theorem U8{h:Int}(hh:h<=9223372036854775807):R9 x h=some (decide (h=0\/h∈lv x.S)):=by
 unfold R9;by_cases q:h=0
 .subst q;simp[y6]
 .have e:(h==0)=false:=by simpa using q
  rw[e];simp only[zZ,W4,zbj];rw[Rr hR hh,a2D];simp[q]
theorem YG{c:Int}(hc:c<=9223372036854775807):rY c=some (aK c):=by
 unfold rY kW O3 aK;simp only[a2D];by_cases q:12<=c
 .rw[zb (Ω q),zb q,a2D]
 .rw[za (Ω q),za q,a2D];by_cases a:c<0
  .rw[zb (show 0 > c from a),zb a];rfl
  .rw[za (show ¬0 > c from a),za a,Y8 Δ Δ]
omit hR in
theorem SF {s:b6} (hR:SR s) {h:Int} (hh:h∈lv s) {n:Int} (hn:0<=n):X0 s h (DU (ob s h) n)=some (eC s h (DU (ob s h) n),0):=by
 have:=N7 hR hh;exact AP (o:=DU (ob s h) n) hR hh rfl ⟨this.s1,this.s2,hn,this.wk,this.p1,this.p2,this.fl⟩
theorem sy{h:Int}(hh:h<=9223372036854775807)(m:∀k∈lv x.S,(ob x.S k).Strong<=9223372036854775807):cZ x h=some (I3 x h):=by
 unfold cZ aI I3 wK;obtain⟨e,g,a⟩:=qI (D5.2 hR) hh;rw[g,a2D];by_cases q:h∈lv x.S
 .have b:=a.2 q;subst b;rw[zb q,YG hR (m h q)];simp only[zZ,ut,a2D];have:=SF hR q (H5 (N7 hR q).st);rw[this];rfl
 .have:(e==0)=false:=by simpa using λc=>q (a.1 c)
  rw[this,za q];rfl
omit hR in
theorem Yj (c:Int) (b : -1000000<=c):gk c=some (mJ c):=by
 unfold gk xp iv O3 mJ;simp only[a2D];by_cases q:12<=c
 .rw[zb (Ω q),zb q];rfl
 .rw[za (Ω q),za q];by_cases a:c<1
  .rw[zb (Ω a),zb a];rfl
  .rw[za (Ω a),za a,Y8 Δ Δ];rfl
theorem pq{h:Int}(hh:h<=9223372036854775807):J3 x h=some (bD x h):=by
 unfold J3 U6 bD wK;obtain⟨e,g,a⟩:=qI (D5.2 hR) hh;rw[g,a2D];by_cases q:h∈lv x.S
 .have b:=a.2 q;subst b;have ok:=N7 hR q;rw[zb q,Yj _ (by have:=ok.st;dsimp only;omega)];simp only[zZ,ut,a2D];have:=SF hR q (U2 ok.st);rw[this];rfl
 .have:(e==0)=false:=by simpa using λc=>q (a.1 c)
  rw[this,za q];rfl
end
theorem Pu{x:Hp}(hR:SR x.S)(a:SB x.S):∀k∈lv x.S,(ob x.S k).Strong<=9223372036854775807:=λk hk=>(Pt (D5.2 hR) a hk).2
theorem CL(x:Hp)(h:Int):(I3 x h).Roots=x.Roots/\(I3 x h).b7=x.b7/\(I3 x h).T=x.T/\(I3 x h).Q=x.Q:=by
 rw[ru];exact⟨rfl,rfl,rfl,rfl⟩
theorem mT{x:Hp}(hR:SR x.S)(h:Int):SR (I3 x h).S:=(K9 hR h λc=>H5).sr
section
variable{x:Hp}(hx:M0 x)(hS:∀k∈lv x.S,(ob x.S k).Strong<=9223372036854775807)
include hx hS
theorem vJ{h:Int}(hh:h=0\/h∈lv x.S):h<=9223372036854775807:=by
 rcases hh with q | q
 .omega
 .have:=L5 hx.sh.sr q;omega
theorem Wt(k:Int){h:Int}(hh:h<=9223372036854775807):kH x k h=some (if k<0\/5<k then (x,6) else if h=0\/h∈lv x.S then (K1 x k.toNat h,0) else (x,3)):=by
 have hR:=hx.sh.sr;have r6:=hx.sh.r6;unfold kH;by_cases hk:k<0\/5<k
 .rw[zb hk,zb (by rw[r6];simp;omega)]
 .rw[za hk,za (by rw[r6];simp;omega),U8 hR hh,a2D];by_cases hn:h=0\/h∈lv x.S
  .rw[zb hn,zG hn,za Ψ];obtain⟨n,rfl⟩:∃n:Nat,k=n:=⟨k.toNat,Δ⟩;have g:n<6:=by omega
   have hnl:n<x.Roots.length:=Δ
   have old:x.Roots[n]<=9223372036854775807:=vJ hx hS (hx.sh.rt _ (zl hnl));have b:=CL x h;have e:n<(I3 x h).Roots.length:=by rw[b.1];exact hnl
   rw[u4 hnl,a2D];unfold P9 bt C2;rw[sy hR hh hS,a2D];dsimp only;rw[L8 Δ (by rw[b.1];omega),a2D,u4 e,a2D,a2D];have a:=pq (x:=wR (I3 x h) (x.Roots.set n h)) (mT hR h) old;rw[zN,b.1,show J3 ⟨(I3 x h).S,x.Roots.set n h,(I3 x h).b7,(I3 x h).T,(I3 x h).Q⟩ x.Roots[n]=_ from a];unfold K1;rw[zd,zc hnl];rfl
  .rw[za hn,we hn,zb Ψ]
omit hx hS in
theorem a1P {l:List Int} {n:Nat} (hn:n<l.length):iK l n=some (l[n],0)/\mS l n=some (l[n],0):=by
 constructor
 .unfold iK jc;rw[a2D,za Ξ,u4 hn,a2D]
 .unfold mS;rw[za Ξ,u4 hn,a2D]
omit hx hS in
theorem Mn {l:List Int} {k:Int} (hk:¬(0<=k/\k<l.length)):iK l k=some (0,5)/\mS l k=some (0,5):=by
 constructor
 .unfold iK jc;rw[a2D,zb Ξ]
 .unfold mS;rw[zb Ξ]
theorem yv(h k:Int)(hh:h<=9223372036854775807):(∃e,e≠0/\N2 x.S h k=some (0,e)/\True) \/
  (h∈lv x.S/\∃n:Nat,k=n/\∃hn:n<(ob x.S h).Fields.length,N2 x.S h k=some ((ob x.S h).Fields[n],0)/\True):=by
 have hR:=hx.sh.sr;obtain⟨e,b,a⟩:=qI (D5.2 hR) hh;unfold N2;rw[b,a2D];by_cases q:h∈lv x.S
 .have:=a.2 q;subst this;rw[za Ψ];by_cases hk:0<=k/\k<(ob x.S h).Fields.length
  .right;obtain⟨n,rfl⟩:∃n:Nat,k=n:=⟨k.toNat,Δ⟩;have hn:n<(ob x.S h).Fields.length:=by omega
   refine⟨q,n,rfl,hn,?_,?_⟩
   .rw[(a1P hn).1];rfl
   .trivial
  .left;refine⟨5,Θ,?_,?_⟩
   .rw[(Mn hk).1];rfl
   .trivial
 .left;have he:(e != 0)=true:=by simpa using λc=>q (a.1 c)
  refine⟨e,Ω he,?_,?_⟩;·simp only[he,ut]
  .trivial
theorem SD{s:b6}(hR:SR s){h:Int}(hh:h∈lv s){n:Nat}(hn:n<(ob s h).Fields.length)(v:Int) :
  sD s h n v=some (eC s h (ub (ob s h) ((ob s h).Fields.set n v)),0)/\True:=by
 have ok:=N7 hR hh;have hf:=ok.fl;have b:=L5 hR hh;have ho:Ds s (ub (ob s h) ((ob s h).Fields.set n v)):=⟨ok.s1,ok.s2,ok.st,ok.wk,ok.p1,ok.p2,Ω hf⟩;have a:=AP (o:=ub (ob s h) ((ob s h).Fields.set n v)) hR hh rfl ho;constructor
 .unfold sD;rw[BZ (D5.2 hR) hh,a2D,za Ψ];unfold nX jc;dsimp only;rw[a2D,za Ξ,ka Δ Δ,a2D];have e:AE (List.replicate (ob s h).Fields.length (0:Int)) (ob s h).Fields=some (ob s h).Fields:=by
   unfold AE;rw[zb Ψ];simp
  rw[e,a2D,u4 hn,a2D,a2D,za Ψ,zN];dsimp only;rw[show X0 s h ⟨(ob s h).Serial,(ob s h).Strong,(ob s h).Weak,(ob s h).Prog,(ob s h).Started,(ob s h).Fields.set n v⟩=_ from a];rfl
 .trivial
theorem BD(h k v:Int)(hh:h<=9223372036854775807)(hv:v<=9223372036854775807) :
  (∃e,e≠0/\bq x h k v=some (x,e)/\True) \/
  (h∈lv x.S/\(v=0\/v∈lv x.S)/\∃n:Nat,k=n/\n<(ob x.S h).Fields.length/\bq x h k v=some (cW x h n v,0)/\True):=by
 have hR:=hx.sh.sr;unfold bq;rcases yv hx hS h k hh with ⟨e,he,f1,f2⟩ | ⟨hl,n,rfl,hn,f1,f2⟩
 .left;have r:(e != 0)=true:=by simpa using he
  refine⟨e,he,?_,?_⟩;·rw[f1,a2D,zb r]
  .trivial
 .rw[f1,a2D,za Ψ,U8 hR hv,a2D];by_cases g:v=0\/v∈lv x.S
  .right;refine⟨hl,g,n,rfl,hn,?_⟩;rw[zG g,za Ψ];have Ae:=K9 hR v (f:=aK) λc=>H5;have a:SR (I3 x v).S:=Ae.sr;have b:h∈lv (I3 x v).S:=by rw[show lv (I3 x v).S=lv x.S from Ae.lv];exact hl
   have p:(ob (I3 x v).S h).Fields=(ob x.S h).Fields:=by
    obtain⟨m,e⟩:=Ae.ob h hh;show (ob (wK x v aK).S h).Fields=_;rw[e]
   have u:n<(ob (I3 x v).S h).Fields.length:=by rw[p];exact hn
   have old:(ob x.S h).Fields[n]<=9223372036854775807:=vJ hx hS (hx.sh.fl h hl _ (zl hn));have ok:=N7 a b;have y:SR (eC (I3 x v).S h (ub (ob (I3 x v).S h) ((ob (I3 x v).S h).Fields.set n v))):=dh (o:=ub (ob (I3 x v).S h) ((ob (I3 x v).S h).Fields.set n v)) a b rfl ⟨ok.s1,ok.s2,ok.st,ok.wk,ok.p1,ok.p2,Ω ok.fl⟩;obtain⟨p1,p2⟩:=SD hx hS a b u v;have hd:(ob x.S h).Fields.getD n 0=(ob x.S h).Fields[n]:=by
    rw[zd,zc hn];rfl
   constructor
   .unfold J4 dR;rw[sy hR hv hS,a2D];dsimp only;rw[p1,a2D,a2D];have q:=pq (x:=wS (I3 x v) (eC (I3 x v).S h (ub (ob (I3 x v).S h) ((ob (I3 x v).S h).Fields.set n v)))) y old;rw[show J3 ⟨eC (I3 x v).S h (ub (ob (I3 x v).S h) ((ob (I3 x v).S h).Fields.set n v)),(I3 x v).Roots,(I3 x v).b7,(I3 x v).T,(I3 x v).Q⟩ (ob x.S h).Fields[n]=_ from q];unfold cW;rw[hd,p];rfl
   .trivial
  .left;refine⟨3,Θ,?_,?_⟩;·rw[we g,zb Ψ]
   .trivial
theorem Wc(k v:Int)(hk:k<=9223372036854775807)(hv:v<=9223372036854775807) :
  (∃e,e≠0/\dy x k v=some (x,e)/\True) \/
  (k∈lv x.S/\(v=0\/v∈lv x.S)/\∃r,Y9 x.T k v=some r/\r.2.2=0/\dy x k v=some (kc x v r.1 r.2.1,0)/\True):=by
 have hR:=hx.sh.sr;unfold dy;by_cases p:k=0
 .left;subst p;exact⟨2,Θ,Ψ,trivial⟩
 .rw[za (Ω p),U8 hR hk,a2D,U8 hR hv];have a:(k=0\/k∈lv x.S)↔k∈lv x.S:=by simp[p]
  by_cases hl:k∈lv x.S/\(v=0\/v∈lv x.S)
  .obtain⟨hl,hn⟩:=hl;rw[zG (a.2 hl),zG hn];simp only[za2,zZ,W4,a2D,zcb,zM,pu];obtain⟨r,u,A,B,y⟩:=fB hx.sh.hr k v;rw[u,a2D];by_cases h0:r.2.2=0
   .right;refine⟨hl,hn,r,rfl,h0,?_⟩;have m:(r.2.2 != 0)=false:=by simpa using h0
    have old:r.2.1<=9223372036854775807:=by
     rcases y with ⟨_,rfl⟩ | ⟨_,_,⟨i,hi,rfl⟩ | ⟨_,rfl⟩⟩ | ⟨_,_,⟨i,hi,rfl⟩ | ⟨d,_,_,_,_,rfl⟩ | ⟨_,_,rfl⟩⟩;·simp
     .exact vJ hx hS (.inr (hx.sh.pr k _ ⟨i,hi,rfl⟩).2)
     .simp
     .exact vJ hx hS (.inr (hx.sh.pr k _ ⟨i,hi,rfl⟩).2)
     .simp
     .simp
    constructor
    .rw[m];simp only[zM,pu];unfold G7 br;rw[sy hR hv hS,a2D,a2D];dsimp only;have g:=pq (x:=wT (I3 x v) r.1) (mT hR v) old;rw[show J3 ⟨(I3 x v).S,(I3 x v).Roots,(I3 x v).b7,r.1,(I3 x v).Q⟩ r.2.1=_ from g];rfl
    .trivial
   .left;have m:(r.2.2 != 0)=true:=by simpa using h0
    refine⟨r.2.2,h0,by rw[zb m],trivial⟩
  .left;refine⟨3,Θ,?_,?_⟩
   .by_cases b:k∈lv x.S
    .have:¬(v=0\/v∈lv x.S):=λq=>hl ⟨b,q⟩;rw[zG (a.2 b),we this];rfl
    .rw[we λq=>b (a.1 q)];rfl
   .trivial
end
theorem MF{s:b6}(hR:SR s){h:Int}{i:Nat}(q:Y1 s h i):V2 s.S h=some ((HP s i).S,0):=by
 have hi:=q.1;have hc:=hR.cell i hi;have l9:=hR.l9;unfold V2 HP;rw[AB hR q,a2D,za Ψ,MK hi,a2D];by_cases g:(ce s i).Gen=s.S.Last
 .rw[zb (Ω g),zb g,od rfl hi hR.len];rfl
 .rw[za (Ω g),za g,od rfl hi hR.len,Y8 Δ Δ];rfl
section
variable{x:Hp}(hR:SR x.S)
include hR
theorem EJ{h d:Int}(hh:h<=9223372036854775807)(hw:Y1 x.S h (F9 h) -> -1000<=(ce x.S (F9 h)).Val.Weak+d/\(ce x.S (F9 h)).Val.Weak+d<=1000):aZ x h d=some (lQ x h d):=by
 unfold aZ lQ;by_cases q:Y1 x.S h (F9 h)
 .have:=hw q;rw[zb q,AB hR q,a2D];simp only[zZ,ut];rw[MK q.1,a2D,Y8 Δ Δ,Ti hR q,a2D];rfl
 .have a:∀i,¬Y1 x.S h i:=λi hi=>q (by rw[hi.F9 hR];exact hi);rw[za q,Bp hR hh a,a2D];have:((if h=0 then 2 else 3:Int)==0)=false:=by simpa using vh h
  simp only[this,zM,pu]
theorem JO{h:Int}(hh:h<=9223372036854775807)(hw:Y1 x.S h (F9 h)->1<=(ce x.S (F9 h)).Val.Weak/\(ce x.S (F9 h)).Val.Weak<=1000):bU x h=some (rK x h):=by
 unfold bU;rw[EJ hR hh (λq=>by have:=hw q;omega),a2D];unfold lQ rK;by_cases q:Y1 x.S h (F9 h)
 .have hw:=hw q;rw[zb q,zb q];have sr1:=xG hR q.1 q.2.1 (d:=-1) Δ;have b:Y1 (nq x.S (F9 h) (-1)) h (F9 h):=(AA q.1 _).2 q;dsimp only;rw[AB sr1 b,a2D,za Ψ,MK b.1,a2D,gx hR q.1 q.2.1,zb rfl];dsimp only;by_cases c:(ce x.S (F9 h)).State=2/\(ce x.S (F9 h)).Val.Weak=1
  .rw[zb c,zb (by simp[c.1,c.2]),MF sr1 b,a2D];rfl
  .rw[za c,za (by simp only[zB,zak];omega)]
 .have a:∀i,¬Y1 x.S h i:=λi hi=>q (by rw[hi.F9 hR];exact hi);rw[za q,za q,Bp hR hh a,a2D];have:((if h=0 then 2 else 3:Int) != 0)=true:=by simpa using vh h
  simp only[this,ut]
end
theorem JT{l:List l4}(hl:l.length<=1000){n:Nat}(hn:n<l.length)(h call:Int):lJ l n h call=some (l.set n (fR h call),l[n].Target,0):=by
 unfold lJ lK dt;simp only[a2D];rw[za Ξ,ka Δ Δ,a2D];have e:AE (List.replicate l.length (⟨0,false,0⟩:l4)) l=some l:=by
  unfold AE;rw[zb Ψ];simp
 rw[e,a2D,a2D,u4 hn,a2D,a2D,zN]
theorem LF{l:List l4}(hl:l.length<=1000){n:Nat}(hn:n<l.length)(h call:Int):AN (l.map rO) n h call=some ((l.set n (fR h call)).map rO,l[n].Target,0):=by
 unfold AN;have a:n<(l.map rO).length:=Ω hn
 rw[za Ξ,L8 Δ Ξ,a2D,u4 a,a2D,a2D,zN,zca];simp[rO]
theorem RV(l:List l4)(h:Int):iZ l h<=l.length:=List.countP_le_length
theorem HG{x:Hp}(hx:M0 x)(k h call:Int)(hh:h<=9223372036854775807)(hc : -1<=call/\call<=5) :
  (∃e,e≠0/\W7 x k h call=some (x,e)/\True) \/
  ((h=0\/h∈lv x.S)/\∃n:Nat,k=n/\n<6/\uM x.Q n=false/\W7 x k h call=some (dO x n h call,0)/\True):=by
 have hR:=hx.sh.sr;have c6:=hx.sh.c6;have q30:=hx.sh.q30;unfold W7;by_cases hk:k<0\/5<k
 .left;have m:((decide (k<0))||(decide (k>=(x.b7.length:Int))))=true:=by rw[c6];simp;omega
  refine⟨7,Θ,?_,?_⟩;·rw[m];rfl
  .trivial
 .obtain⟨n,rfl⟩:∃n:Nat,k=n:=⟨k.toNat,Δ⟩;have y:n<6:=by omega
  have m:((decide ((n:Int)<0))||(decide ((n:Int)>=(x.b7.length:Int))))=false:=by rw[c6];simp;omega
  rw[m];simp only[zZ,W4,zbj];have E:bG x.Q n=some (uM x.Q n):=AS Δ;rw[E,a2D,U8 hR hh,a2D];by_cases hw:uM x.Q n=true
  .left;rw[zb hw];exact⟨7,Θ,rfl,trivial⟩
  .have hw:uM x.Q n=false:=by simpa using hw
   rw[hw,za (show ¬(false=true) by decide)];by_cases hl:h=0\/h∈lv x.S
   .right;refine⟨hl,n,rfl,y,hw,?_⟩;have hnl:n<x.b7.length:=by omega
    rw[zG hl,za Ψ,JT Δ hnl,a2D];have a:nU x n=x.b7[n].Target:=by
     unfold nU;rw[zd,zc hnl];rfl
    have wkb:∀i,i<x.S.S.b7.length->Th (ce x.S i)->0<=(ce x.S i).Val.Weak/\(ce x.S i).Val.Weak<=6:=λi hi ht=>by
     have:=(hx.wk i hi ht).1;have:=RV x.b7 (1+(i:Int)+32*(ce x.S i).Gen);omega
    have F:∃s2,lQ (wC x (x.b7.set n (fR h call))) h 1=wS (wC x (x.b7.set n (fR h call))) s2/\SR s2/\(∀k i,Y1 s2 k i↔Y1 x.S k i)/\(∀i,i<x.S.S.b7.length->Th (ce x.S i)->(ce x.S i).Val.Weak<=(ce s2 i).Val.Weak/\(ce s2 i).Val.Weak<=(ce x.S i).Val.Weak+1) /\
      (h≠0->True)/\(h=0->s2=x.S):=by
     unfold lQ;by_cases h0:h=0
     .have A:¬Y1 x.S h (F9 h):=λq=>by have:=q.PD hR;omega
      rw[za A];exact⟨x.S,rfl,hR,λ_ _=>Iff.rfl,λi _ _=>Δ,λq=>absurd h0 q,λ_=>rfl⟩
     .have u:=hl.resolve_left h0;have hp:=r8 hR u;have hb:=wkb _ hp.1 (.inl hp.2.1);rw[zb hp.d];have kn:=oV hR hp.1 (.inl hp.2.1) (d:=1) Δ;refine⟨_,rfl,kn.sr,kn.ad,λi hi ht=>?_,λ_=>trivial,λq=>absurd q h0⟩;rw[gx hR hp.1 (.inl hp.2.1)];split;·rename_i e;subst e;dsimp only;omega
      .omega
    obtain⟨s2,G,H,K,N,R,V⟩:=F;have g:nU x n<=9223372036854775807:=by
     by_cases q:nU x n=0
     .omega
     .obtain⟨p,hp⟩:=(hx.sh.cl n hnl).2.2.2.1 (by rw[<-a];exact q);have:=hp.PD hR;rw[a];omega
    have B:Y1 s2 (nU x n) (F9 (nU x n))->1<=(ce s2 (F9 (nU x n))).Val.Weak/\(ce s2 (F9 (nU x n))).Val.Weak<=1000:=λq=>by
     have b:=(K _ _).1 q;have r:=b.PD hR;have:=(hx.wk _ b.1 b.2.1).1;have hp:0<iZ x.b7 x.b7[n].Target:=vY hnl (by rw[<-a];omega);rw[<-a,b.2.2] at hp;have:=N _ b.1 b.2.1;have:=wkb _ b.1 b.2.1;omega
    have P:=JO (x:=wS (wC x (x.b7.set n (fR h call))) s2) H g B;have C:Y1 x.S h (F9 h) -> -1000<=(ce x.S (F9 h)).Val.Weak+1/\(ce x.S (F9 h)).Val.Weak+1<=1000:=λq=>by
     have:=wkb _ q.1 q.2.1;omega
    have mm:=EJ (x:=wC x (x.b7.set n (fR h call))) (d:=1) hR hh C;constructor
    .dsimp only;rw[show aZ ⟨x.S,x.Roots,x.b7.set n (fR h call),x.T,x.Q⟩ h 1=_ from mm,a2D,G,<-a,P,a2D];unfold dO;rw[G]
    .trivial
   .left;rw[we hl];exact⟨3,Θ,by rw[zb (by rfl)],trivial⟩
theorem at1{l:List Int}{n:Nat}(hn:n<l.length):iK l n=some (l[n],0):=by
 unfold iK jc;rw[a2D,za Ξ,u4 hn,a2D]
section
variable{x:Hp}(hx:M0 x)(hS:∀k∈lv x.S,(ob x.S k).Strong<=9223372036854775807)
include hx hS
end
theorem ME{α:Type}{l:List α}{i:Nat}(h:i<l.length)(d:α):l.getD i d=l[i]:=by
 rw[zd,zc h];rfl
def TkS(a b:k7):Prop:=a.Kind=b.Kind/\a.At=b.At
instance(a b:k7):Decidable (TkS a b):=by unfold TkS;infer_instance
section
variable{x:Hp}(hR:SR x.S)
include hR
omit hR in
theorem RS (l:List l4) (hl:l.length<=1000) (h:Int):lr (l.map rO) h=some (iZ l h:Int):=by
 unfold lr;simp only[jn];rw[zf,EG l (λ(b:Int) c=>if ((h != 0)&&(c.Target==h))=true then b+1 else b) id (λk b=>0<=b/\b<=k) Δ Δ (λk hk b e=>?_) (λb _=>Ψ),a2D]
 .congr 1;have:∀(l:List l4) (n:Int),l.foldl (λ(b:Int) c=>if ((h != 0)&&(c.Target==h))=true then b+1 else b) n=n+(iZ l h:Int):=λl=>by
   induction l with
   | nil=>intro n;simp[iZ]
   | cons c l ih=>
    intro n;rw[ww,ih];unfold iZ;rw[List.countP_cons];split <;> simp_all <;> omega
  rw[id,this];omega
 .have a:k<(l.map rO).length:=by simpa using hk
  simp only[r4,hk,q9,ut,u4 a,a2D,zx,rO];by_cases c:((h != 0)&&(l[k].Target==h))=true
  .rw[zb c,zb (by rw[zcx];exact c),Y8 Δ Δ,p8];exact⟨rfl,Δ⟩
  .rw[za c,za (by rw[zcx];exact c),p8];exact⟨rfl,Δ⟩
omit hR in
theorem OR (l:List l4) (hl:l.length<=1000) (h:Int):fP l h=some (iZ l h:Int):=by
 unfold fP Y0 jd;simp only[jn,a2D];have key:∃e,lp (S:=Int × (List Int)) (E:=(List Int)) (λ((a,b):Int × (List Int))=>
   if (decide (a<(l.length:Int))) then
     (ix l a).bind λp=>
     if ((h != 0)&&(p.Target==h)) then
      (app 8 b [a]).bind λq=>
      some (.inl (y4 (a+1),q))
     else
     some (.inl (y4 (a+1),b))
   else
   some (.inr b)) (0,[])=some e/\e.length=iZ l h:=by
  refine ue l.length (λk (acc:List Int)=>acc.length=iZ (l.take k) h) (λ(e:List Int)=>e.length=iZ l h) Δ rfl (λk acc hk g=>?_) (λacc g=>⟨acc,Ψ,by rwa [zL] at g⟩);left;have y:acc.length<=k:=by
   rw[g];exact zQ (RV _ _) Ξ
  have m:iZ (l.take (k+1)) h=iZ (l.take k) h+if ((h != 0)&&(l[k].Target==h))=true then 1 else 0:=by
   unfold iZ;rw[zi hk,List.countP_append,List.countP_cons,List.countP_nil];omega
  simp only[r4,hk,q9,ut,u4 hk,a2D];rw[p8];by_cases c:((h != 0)&&(l[k].Target==h))=true
  .rw[zb c,U5 Δ Ξ,a2D];exact⟨_,rfl,by rw[m,zb c];simp[g]⟩
  .rw[za c];exact⟨_,rfl,by rw[m,za c];simpa using g⟩
 obtain⟨e,r,u⟩:=key;rw[show lp _ _=_ from r,a2D,a2D,u]
omit hR in
theorem QV:WZ x.S x.T (qj x)↔bH x []:=by
 constructor
 .intro h k hk a;have:=h k hk a;unfold rst inr at this;rw[zb hk] at this;rw[H6];unfold ny;omega
 .intro h k hk a;have:=h k hk a;rw[H6] at this;unfold ny at this;unfold rst inr;rw[zb hk];omega
end
section
variable{x:Hp}(hx:M0 x) 
include hx
end
theorem ZK{l:List n7}(h:l.length<=100000):wi l l=some true:=by
 unfold wi;rw[za Ψ];simp only[jn];refine Y6 l.length (λ_=>True) Δ trivial (λk hk _=>.inl ⟨?_,trivial⟩) (λ_=>⟨.inr (),Ψ,rfl⟩);rw[zb (Ω hk),u4 hk,a2D,a2D,za Ψ,p8 Δ]
def SL(x:Hp):Prop:=∀k∈lv x.S,(ob x.S k).Strong<=9223372036854775807
theorem SB.sl{x:Hp}(hR:SR x.S)(h:SB x.S):SL x:=λk hk=>Pu hR h k hk
theorem Vx(c:Int):aK c<=12:=Ω4
theorem Vd{c:Int}(h:c<=9223372036854775807):mJ c<=9223372036854775807:=by unfold mJ;split <;> (try split) <;> omega
theorem SL.of{x y:Hp}(h:SL x)(hl:lv y.S=lv x.S)(hs:∀k∈lv x.S,(ob y.S k).Strong=(ob x.S k).Strong):SL y:=λk hk=>by
 rw[hl] at hk;rw[hs k hk];exact h k hk
theorem SL.st{x:Hp}(h:SL x)(hR:SR x.S)(v:Int){f:Int->Int}(hf:∀c,0<=c->0<=f c)(hb:∀c,c<=9223372036854775807->f c<=9223372036854775807):SL (wK x v f):=λk hk=>by
 rw[(K9 hR v hf).lv] at hk;rw[ye hR v hf hk];split;·exact hb _ (h k hk)
 .exact h k hk
theorem SL.I3{x:Hp}(h:SL x)(hR:SR x.S)(v:Int):SL (I3 x v):=h.st hR v (λc=>H5) λc _=>by have:=Vx c;omega
theorem SL.TH{x:Hp}(h:SL x)(hR:SR x.S)(v:Int):SL (bD x v):=h.st hR v (λc=>U2) λc hc=>Vd hc
theorem SY{x:Hp}(hR:SR x.S)(v:Int):SR (bD x v).S:=(K9 hR v λc=>U2).sr
theorem wE{x:Hp}(hR:SR x.S)(h:SL x)(r:Nat)(v:Int):SL (K1 x r v):=by
 unfold K1;exact SL.TH (x:=wR (I3 x v) (x.Roots.set r v)) (h.I3 hR v) (mT hR v) _
theorem OB{x:Hp}(hR:SR x.S)(hS:SL x){h:Int}(hh:h∈lv x.S)(k:Nat)(v:Int):SL (cW x h k v):=by
 have Ae:=K9 hR v (f:=aK) λc=>H5;have a:SR (I3 x v).S:=Ae.sr;have b:h∈lv (I3 x v).S:=by rw[show lv (I3 x v).S=lv x.S from Ae.lv];exact hh
 have g:(ob (I3 x v).S h).Fields=(ob x.S h).Fields:=by
  obtain⟨m,e⟩:=Ae.ob h Ωv;show (ob (wK x v aK).S h).Fields=_;rw[e]
 have ok:=N7 a b;have ho:Ds (I3 x v).S (ub (ob (I3 x v).S h) ((ob x.S h).Fields.set k v)):=⟨ok.s1,ok.s2,ok.st,ok.wk,ok.p1,ok.p2,by have:=ok.fl;rw[g] at this;simpa using this⟩;have p:=dh (o:=ub (ob (I3 x v).S h) ((ob x.S h).Fields.set k v)) a b rfl ho;unfold cW;refine SL.TH (x:=wS (I3 x v) (eC (I3 x v).S h (ub (ob (I3 x v).S h) ((ob x.S h).Fields.set k v)))) ?_ p _;refine (hS.I3 hR v).of (jW a b rfl ho) λj hj=>?_;dsimp only;rw[iI (o:=ub (ob (I3 x v).S h) ((ob x.S h).Fields.set k v)) a b rfl ho (by have:=L5 a hj;omega)];split;·rename_i e;rw[e]
 .rfl
theorem Ss{x:Hp}(hR:SR x.S)(hS:SL x)(v:Int)(t:Tb)(old:Int):SL (kc x v t old):=by
 unfold kc;exact SL.TH (x:=wT (I3 x v) t) (hS.I3 hR v) (mT hR v) _
theorem YV{x:Hp}(hR:SR x.S)(hS:SL x)(h:Int){d:Int}(hd:Y1 x.S h (F9 h)->0<=(ce x.S (F9 h)).Val.Weak+d):SL (lQ x h d):=by
 unfold lQ;split
 .rename_i q;exact hS.of (oV hR q.1 q.2.1 (hd q)).lv λk hk=>oW hR q.1 q.2.1 (hd q) hk
 .exact hS
theorem NI{x:Hp}(hR:SR x.S)(hS:SL x)(h:Int)(hd:Y1 x.S h (F9 h)->1<=(ce x.S (F9 h)).Val.Weak):SL (rK x h):=by
 unfold rK;split
 .rename_i q;have hd:=hd q;have kn:=oV (d:=-1) hR q.1 q.2.1 Δ;have s1:SL (wS x (nq x.S (F9 h) (-1))):=hS.of kn.lv λk hk=>oW hR q.1 q.2.1 Δ hk;split
  .rename_i c;have a:F9 h<(nq x.S (F9 h) (-1)).S.b7.length:=by rw[kn.len];exact q.1
   have b:ce (nq x.S (F9 h) (-1)) (F9 h)=⟨(ce x.S (F9 h)).State,(ce x.S (F9 h)).Gen,wkg (ce x.S (F9 h)).Val ((ce x.S (F9 h)).Val.Weak + -1)⟩:=by
    rw[gx hR q.1 q.2.1,zb rfl]
   have e:(ce (nq x.S (F9 h) (-1)) (F9 h)).State=2:=by rw[b];exact c.1
   exact s1.of (Gf kn.sr a e) λk hk=>by
    dsimp only;rw[Gg kn.sr a e hk]
  .exact s1
 .exact hS
theorem JR{x:Hp}(hx:M0 x)(hS:SL x){n:Nat}(hn:n<6)(h call:Int):SL (dO x n h call):=by
 have hR:=hx.sh.sr;have hnl:n<x.b7.length:=by have:=hx.sh.c6;omega
 have ok:∀k i,Y1 x.S k i->0<=(ce x.S i).Val.Weak:=λk i q=>(hR.ok i q.1 q.2.1).wk;have tw:∀i,Y1 x.S (nU x n) i->1<=(ce x.S i).Val.Weak:=λi q=>by
  have a:nU x n=x.b7[n].Target:=by
   unfold nU;rw[zd,zc hnl];rfl
  have r:=q.PD hR;have p:=vY hnl (by rw[<-a];omega);rw[<-a,q.2.2] at p;have:=(hx.wk i q.1 q.2.1).1;omega
 unfold dO;have s1:SL (lQ (wC x (x.b7.set n (fR h call))) h 1):=YV (x:=wC x (x.b7.set n (fR h call))) hR hS h λq=>by
  have:=ok _ _ q;dsimp only;omega
 by_cases q:Y1 x.S h (F9 h)
 .have e:lQ (wC x (x.b7.set n (fR h call))) h 1=wS (wC x (x.b7.set n (fR h call))) (nq x.S (F9 h) 1):=by
   unfold lQ;rw[zb q]
  have hd:=ok _ _ q;have kn:=oV (d:=1) hR q.1 q.2.1 Δ;rw[e] at s1 |-;refine NI kn.sr s1 _ λb=>?_;dsimp only at b |-;have m:=(kn.ad _ _).1 b;have:=tw _ m;rw[gx hR q.1 q.2.1];split
  .rename_i g;rw[g] at this;show 1<=(ce x.S (F9 h)).Val.Weak+1;omega
  .exact this
 .have e:lQ (wC x (x.b7.set n (fR h call))) h 1=wC x (x.b7.set n (fR h call)):=by
   unfold lQ;rw[za q]
  rw[e] at s1 |-;exact NI (x:=wC x (x.b7.set n (fR h call))) hR s1 _ λb=>tw _ b
section
variable{x:Hp}(hx:M0 x)(hS:SL x)
include hx hS
end
def Xa(x:Hp):Prop:=Sm x.S/\x.Roots.length<=20/\x.b7.length<=20/\x.T.length<=20/\x.Q.L.length<=60
instance(x:Hp):Decidable (Xa x):=by unfold Xa;infer_instance
def Vv:Hp:=⟨⟨⟨[],0⟩,0⟩,[],[],[],⟨[],0⟩⟩
theorem CU(x:Hp)(h:Int)(f:Int->Int):(wK x h f).Roots=x.Roots/\(wK x h f).b7=x.b7/\(wK x h f).T=x.T/\(wK x h f).Q=x.Q:=by
 unfold wK;split <;> exact⟨rfl,rfl,rfl,rfl⟩
theorem lD(x:Hp)(r:Nat)(h:Int):(K1 x r h).Roots=x.Roots.set r h/\(K1 x r h).b7=x.b7/\(K1 x r h).T=x.T/\(K1 x r h).Q=x.Q:=by
 obtain⟨a,b,c,d⟩:=CU (wR (I3 x h) (x.Roots.set r h)) (x.Roots.getD r 0) mJ;obtain⟨m,e,g,d'⟩:=CU x h aK;exact⟨a,b.trans e,c.trans g,d.trans d'⟩
section
variable{x:Hp} 
end
abbrev Ox(o:p9):p9:=⟨o.Serial,0,o.Weak,o.Prog,o.Started,[]⟩
def JV(s:b6)(i:Nat):g7:=
 if (ce s i).Val.Weak=0 then (if (ce s i).Gen=s.S.Last then ⟨3,(ce s i).Gen,z0⟩ else ⟨0,(ce s i).Gen+1,z0⟩) else ⟨2,(ce s i).Gen,Ox (ce s i).Val⟩
def Ad(s:b6)(d:Int):b6:=K8 s (F9 d) (JV s (F9 d))
def qq(s:b6)(ds:List Int):b6:=ds.foldl Ad s
theorem Yw(s:b6)(i:Nat):(JV s i).State≠1:=by
 unfold JV;split;·split <;> simp
 .simp
theorem KX{s:b6}(hR:SR s){a b:Int}(ha:a∈lv s)(hb:b∈lv s)(h:a≠b):F9 a≠F9 b:=λe=>by
 have g:=r8 hR ha;have m:=r8 hR hb;rw[e] at g;exact h (g.2.2.trans m.2.2.symm)
section
variable{s:b6}(hR:SR s){d:Int}(hd:d∈lv s)
include hR hd
theorem Gc:SR (Ad s d):=by
 have q:=r8 hR hd;have hc:=hR.cell _ q.1;have ho:=hR.ok _ q.1 (.inl q.2.1);have no:NN (oo z0):=⟨rfl,rfl,rfl,rfl,rfl,rfl⟩;unfold Ad JV;split
 .split;·exact hR.K8 q.1 ⟨Ψ,Ψ,hc.2.2.1,hc.2.2.2⟩ (λ_=>no) (λq=>absurd q (by unfold Th;simp))
  .refine hR.K8 q.1 ⟨Ψ,Ψ,?_,?_⟩ (λ_=>no) (λq=>absurd q (by unfold Th;simp));·show 0<=(ce s (F9 d)).Gen+1;omega
   .show (ce s (F9 d)).Gen+1<=s.S.Last;omega
 .exact hR.K8 q.1 ⟨Ψ,Ψ,hc.2.2.1,hc.2.2.2⟩ (λq=>absurd (.inr rfl) q) (λ_=>⟨⟨ho.s1,ho.s2,zan _,ho.wk,ho.p1,ho.p2,zU _⟩,.inl q.2.1,rfl⟩)
theorem Ri(j:Nat):ce (Ad s d) j=if j=F9 d then JV s (F9 d) else ce s j:=O2 (r8 hR hd).1 _ j
theorem Rj:lv (Ad s d)=(lv s).filter λh=>decide (h≠d):=by
 have hS:=Gc hR hd;unfold Ad at hS |-;have hc:=Yw s (F9 d);rw[MT hR (r8 hR hd).1 hc hS];refine zaf λh hh=>zcg.2 ⟨λq e=>q (by rw[e]),λq=>KX hR hh hd q⟩
theorem Rk{k:Int}(hk:k∈lv s)(a:k≠d):ob (Ad s d) k=ob s k:=by
 have hS:=Gc hR hd;unfold Ad at hS |-;exact Nd hR (r8 hR hd).1 hS hk (KX hR hk hd a)
end
structure Gn (s s':b6) (ds:List Int):Prop where
 sr:SR s'
 len:s'.S.b7.length=s.S.b7.length
 last:s'.S.Last=s.S.Last
 cP:s'.Serial=s.Serial
 lv:lv s'=(lv s).filter λh=>decide (h∉ds)
 ob:∀k∈Sh.lv s,k∉ds->ob s' k=ob s k
 ce:∀j,ce s' j=if j∈ds.map F9 then JV s j else ce s j
theorem gb:∀(ds:List Int) {s:b6} (hR:SR s),ds.Nodup->(∀d∈ds,d∈lv s)->Gn s (qq s ds) ds
 | [],s,hR,_,_=>⟨hR,rfl,rfl,rfl,(zav.2 (λa _=>Ψ)).symm,λ_ _ _=>rfl,λj=>by simp[qq]⟩
 | d::ds,s,hR,hn,hm=>by
  rw[me] at hn;have hd:=hm d (zh ..);have g:=Rj hR hd;have r:∀e∈ds,e∈lv (Ad s d):=λe he=>by
   rw[g,zj,zE];exact⟨hm e (zw _ he),λq=>hn.1 (q▸he)⟩
  have ih:=gb ds (Gc hR hd) hn.2 r;refine⟨ih.sr,ih.len.trans (ae ..),ih.last,ih.cP,?_,λk hk b=>?_,λj=>?_⟩
  .show lv (qq (Ad s d) ds)=_;rw[ih.lv,g,zat];refine zaf λh hh=>?_;rw[zbh];simp only[zB,zE,zJ,not_or];exact⟨λq=>⟨q.2,q.1⟩,λq=>⟨q.2,q.1⟩⟩
  .show ob (qq (Ad s d) ds) k=_;rw[zJ,not_or] at b;rw[ih.ob k (by rw[g,zj,zE];exact⟨hk,b.1⟩) b.2,Rk hR hd hk b.1]
  .show ce (qq (Ad s d) ds) j=_;have u:∀e∈ds,F9 e≠F9 d:=λe he=>KX hR (hm e (zw _ he)) hd λq=>hn.1 (q▸he);rw[ih.ce];by_cases m:j∈ds.map F9
   .obtain⟨e,he,rfl⟩:=zn.1 m;rw[zb m,zb (by rw[zT];exact zw _ m)];unfold JV;rw[Ri hR hd,za (u e he)];rfl
   .rw[za m,Ri hR hd,zT];by_cases p:j=F9 d
    .subst p;rw[zb rfl,zb (zh ..)]
    .rw[za p,za];rw[zJ];exact λq=>q.elim p m
theorem Fg{α:Type}(p:α->Bool)(f:α->Nat):∀l:List α,(l.map f).sum=((l.filter p).map f).sum+((l.filter λx => !p x).map f).sum
 | []=>rfl
 | x::l=>by
  rw[zT,zbs,Fg p f l,pm,pm];cases p x <;> simp <;> omega
theorem JM(f:Int->List Int)(y:Int):∀l:List Int,L0 (l.flatMap f) y=(l.map λx=>L0 (f x) y).sum
 | []=>H6 y
 | x::l=>by rw[zbv,H3,JM f y l,zT,zbs]
theorem Gn.na{s s':b6}{ds:List Int}(hR:SR s)(hn:ds.Nodup)(hm:∀d∈ds,d∈Sh.lv s)(g:Gn s s' ds)(y:Int):na s' y+L0 (ds.flatMap (outs s)) y=na s y:=by
 unfold Sh.na;rw[g.lv,Fg (λh=>decide (h∉ds)) (λx=>L0 (outs s x) y) (Sh.lv s),JM];have b:((Sh.lv s).filter λh=>decide (h∉ds)).map (λx=>L0 (outs s' x) y)=((Sh.lv s).filter λh=>decide (h∉ds)).map λx=>L0 (outs s x) y:=zt λx hx=>by
  rw[zj,zE] at hx;unfold Sh.outs;rw[g.ob x hx.1 hx.2]
 have e:((Sh.lv s).filter λx => !decide (x∉ds)).Perm ds:=by
  rw[List.perm_ext_iff_of_nodup ((vK (D5.2 hR)).filter _) hn];intro a;rw[zj];simp only[decide_not,Bool.not_not,zE];exact⟨λq=>q.2,λq=>⟨hm a q,q⟩⟩
 rw[b,(e.map λx=>L0 (outs s x) y).sum_nat]
theorem IZ{L:List k7}(hd:L.Pairwise λa b=>¬(a.Kind=b.Kind/\a.At=b.At))(k:Int):((L.filter (·.Kind==k)).map (·.At)).Nodup:=by
 unfold List.Nodup;rw[zbn];refine (hd.filter _).imp_of_mem λ{a b} ha hb h e=>?_;rw[zj,zak] at ha hb;exact h ⟨ha.2.trans hb.2.symm,e⟩
theorem JK{L:List k7}{m:List Int}(hd:L.Pairwise λa b=>¬(a.Kind=b.Kind/\a.At=b.At))(h:∀t∈L,(t.Kind=1/\t.At∈m)\/(t.Kind=2/\0<=t.At/\t.At<=5)):L.length<=m.length+6:=by
 have p:L.length=(L.filter (·.Kind==1)).length+(L.filter (·.Kind==2)).length:=by
  rw[vk (λt:k7=>t.Kind==1) L];congr 2;refine zaf λt ht=>?_;rcases h t ht with q | q
  .simp[q.1]
  .simp[q.1]
 have g:=aO (IZ hd 1) (m:=m) λa ha=>by
  obtain⟨t,ht,rfl⟩:=zn.1 ha;rw[zj,zak] at ht;rcases h t ht.1 with q | q
  .exact q.2
  .omega
 have e:=aO (IZ hd 2) (m:=[0,1,2,3,4,5]) λa ha=>by
  obtain⟨t,ht,rfl⟩:=zn.1 ha;rw[zj,zak] at ht;rcases h t ht.1 with q | q
  .omega
  .simp only[zJ,zct,or_false];omega
 rw[zf] at g e;simp only[zF,zag] at e;omega
theorem kz{q:TQ}{w:Int}:uM q w=true↔∃t∈q.L,t.Kind=2/\t.At=w:=by
 unfold uM;rw[List.any_eq_true];simp
variable {h:Int}{ds:List Int}{x:Hp}{t:Tb}{z:Int}
theorem np{q:TQ}:h∈qf q↔∃t∈q.L,t.Kind=1/\t.At=h:=by
 unfold qf;rw[zn];simp only[zj,zak];exact⟨λ⟨t,⟨a,b⟩,c⟩=>⟨t,a,b,c⟩,λ⟨t,a,b,c⟩=>⟨t,⟨a,b⟩,c⟩⟩
abbrev cz:l4:=⟨0,false,0⟩
def gi(ds:List Int)(c:l4):Bool:=c.Intact&&c.Target != 0&&decide (c.Target∈ds)
def qx(ds:List Int)(c:l4):l4:=if gi ds c then ⟨c.Target,false,c.Call⟩ else c
def hU(l:List l4)(ds:List Int):List l4:=l.map (qx ds)
def cls(l:List l4)(ds:List Int):List Nat:=(List.range l.length).filter λw=>gi ds (l.getD w cz)&&decide (0<=(l.getD w cz).Call)
def jf(l:List l4)(ds:List Int):List k7:=(cls l ds).map λ(w:Nat)=>⟨2,(w:Int),(l.getD w cz).Call⟩
theorem oC(ds:List Int)(c:l4):(qx ds c).Target=c.Target/\(qx ds c).Call=c.Call/\((qx ds c).Intact=true↔c.Intact=true/\gi ds c=false):=by
 unfold qx;cases h:gi ds c
 .rw[za Ψ];simp
 .rw[zb rfl];simp
theorem GB(l:List l4)(ds:List Int)(h:Int):iZ (hU l ds) h=iZ l h:=by
 unfold iZ hU;rw[List.countP_map];congr 1;funext c
 simp only[Function.comp_apply,(oC ds c).1]
theorem mg{l:List l4}{t:k7}:t∈jf l ds↔∃w,∃hw:w<l.length,t=⟨2,(w:Int),l[w].Call⟩/\gi ds l[w]=true/\0<=l[w].Call:=by
 unfold jf cls;rw[zn];constructor
 .rintro⟨w,hw,rfl⟩;rw[zj,za1] at hw;obtain⟨b,a⟩:=hw;have e:l.getD w cz=l[w]:=by rw[zd,zc b];rfl
  rw[e] at a |-;rw[zB,zE] at a;exact⟨w,b,rfl,a.1,a.2⟩
 .rintro⟨w,hw,rfl,a,g⟩;have e:l.getD w cz=l[w]:=by rw[zd,zc hw];rfl
  refine⟨w,?_,by rw[e]⟩;rw[zj,za1,e,zB,zE];exact⟨hw,a,g⟩
theorem Ou(l:List l4)(ds:List Int):(jf l ds).Pairwise λa b=>¬(a.Kind=b.Kind/\a.At=b.At):=by
 unfold jf cls;rw[zbn];refine (zb9 _ (List.nodup_range (n:=l.length))).imp λ{a b} h=>?_;rintro⟨_,e⟩;dsimp only at e;omega
def kU(x:Hp)(ds:List Int)(t:Tb):Hp:=⟨qq x.S ds,x.Roots,hU x.b7 ds,t,⟨x.Q.L++jf x.b7 ds,x.Q.Cap⟩⟩
theorem BS(q:TQ)(l:List k7)(c:Int)(h:∀t∈l,t.Kind≠1):qf ⟨q.L++l,c⟩=qf q:=by
 unfold qf;dsimp only;rw[zai];have:l.filter (λt=>t.Kind==1) = []:=by
  rw[List.filter_eq_nil_iff];intro t ht;simpa using h t ht
 rw[this,za9]
theorem Ol(hx:M0 x)(hn:ds.Nodup)(hm:∀d∈ds,d∈lv x.S)
  (ho:∀d∈ds,d∉qj x)(hf:∀h∈lv x.S,h∉ds->∀v∈(ob x.S h).Fields,v∉ds)(hp:∀k v,Has x.T k v->k∉ds->v∉ds)
  {vals:List Int}(ht:HR t)(h1:∀k v,Has t k v↔k∉ds/\Has x.T k v)(h2:∀y,own t y+L0 vals y=own x.T y) :
  lS (kU x ds t)/\Wk (kU x ds t)/\bH (kU x ds t) (ds.flatMap (outs x.S)++vals):=by
 have hS:=hx.sh;have hR:=hS.sr;have g:=gb ds hR hn hm;have u:∀h,h∈lv (qq x.S ds)↔h∈lv x.S/\h∉ds:=λh=>by rw[g.lv,zj,zE]
 have hlen:(lv x.S).length<=24:=dT (D5.2 hR);have hcl:∀w (hw:w<x.b7.length),gi ds x.b7[w]=true->x.b7[w].Intact=true:=λw hw q=>by
  unfold gi at q;rw[zB,zB] at q;exact q.1.1
 have K:(x.Q.L++jf x.b7 ds).Pairwise λa b=>¬(a.Kind=b.Kind/\a.At=b.At):=by
  rw[za8];refine⟨hS.td,Ou ..,λa ha b hb q=>?_⟩;obtain⟨w,hw,rfl,hh,_⟩:=mg.1 hb;have:=((hS.cl w hw).2.2.2.2 (hcl w hw hh)).2;rw[zcc] at this;exact this (kz.2 ⟨a,ha,q.1,q.2⟩)
 have N:∀t∈x.Q.L++jf x.b7 ds,0<=t.Prog/\t.Prog<=5/\((t.Kind=1/\t.At∈lv (qq x.S ds)/\(ob (qq x.S ds) t.At).Started=true)\/(t.Kind=2/\0<=t.At/\t.At<=5)):=λt C=>by
  rcases zH.1 C with q | q
  .obtain⟨a,b,c⟩:=hS.tk t q;refine⟨a,b,?_⟩;rcases c with ⟨c1,c2,c3⟩ | c
   .have hnd:t.At∉ds:=λhd=>ho _ hd (zH.2 (.inr (np.2 ⟨t,q,c1,rfl⟩)));exact .inl ⟨c1,(u _).2 ⟨c2,hnd⟩,by rw[g.ob _ c2 hnd];exact c3⟩
   .exact .inr c
  .obtain⟨w,hw,rfl,hh,hc⟩:=mg.1 q;have c6:=hS.c6;have:=(hS.cl w hw).2.1;exact⟨hc,this,.inr ⟨rfl,by dsimp only;omega,by dsimp only;omega⟩⟩
 have H:(x.Q.L++jf x.b7 ds).length<=30:=by
  have:=JK (m:=lv x.S) K λt C=>by
   rcases (N t C).2.2 with q | q
   .exact .inl ⟨q.1,((u _).1 q.2.1).1⟩
   .exact .inr q
  omega
 have R:∀i:Nat,uM x.Q i=false->(∀hi:i<x.b7.length,gi ds x.b7[i]=false)->uM ⟨x.Q.L++jf x.b7 ds,x.Q.Cap⟩ i=false:=λi q1 V=>by
  rw[zcc] at q1 |-;intro q;obtain⟨t,ht,a,b⟩:=kz.1 q;rcases zH.1 ht with c | c
  .exact q1 (kz.2 ⟨t,c,a,b⟩)
  .obtain⟨w,hw,rfl,hh,_⟩:=mg.1 c;dsimp only at b;have:w=i:=by omega
   subst this;rw[V hw] at hh;cases hh
 refine⟨⟨g.sr,ht,hS.r6,?_,hS.cap,H,N,K,λh hh=>?_,λh hh v hv=>?_,λk v hkv=>?_,λi hi=>?_⟩,λi hi hti=>?_,λh hh E=>?_⟩
 .unfold kU hU;rw[zf];exact hS.c6
 .rcases hS.rt h hh with q | q
  .exact .inl q
  .have h0:h≠0:=λe=>gq hR (e▸q);exact .inr ((u h).2 ⟨q,λhd=>ho h hd (zH.2 (.inl (ln.2 ⟨hh,h0⟩)))⟩)
 .obtain⟨a,b⟩:=(u h).1 hh;have P:v∈(ob x.S h).Fields:=by
   have e:=g.ob h a b;unfold kU at hv;rwa [e] at hv
  rcases hS.fl h a v P with q | q
  .exact .inl q
  .exact .inr ((u v).2 ⟨q,hf h a b v P⟩)
 .obtain⟨a,b⟩:=(h1 k v).1 hkv;obtain⟨c,d⟩:=hS.pr k v b;exact⟨(u k).2 ⟨c,a⟩,(u v).2 ⟨d,hp k v b a⟩⟩
 .have A:i<x.b7.length:=by
   unfold kU hU at hi;simpa using hi
  have e:(kU x ds t).b7[i]=qx ds x.b7[i]:=zx _;obtain⟨a1,a2,a3,a4,a5⟩:=hS.cl i A;obtain⟨b1,b2,b3⟩:=oC ds x.b7[i];rw[e,b1,b2];refine⟨a1,a2,λq=>?_,λq=>?_,λq=>?_⟩
  .rw[zcc];intro V;rw[a3 q] at b3;exact absurd (b3.1 V).1 Θ
  .obtain⟨p,F,G,B⟩:=a4 q;refine⟨p,by show p<(qq x.S ds).S.b7.length;rw[g.len];exact F,?_⟩;show Th (ce (qq x.S ds) p)/\_=1+(p:Int)+32*(ce (qq x.S ds) p).Gen;rw[g.ce];split
   .have hw:=(hx.wk p F G).1;have:=vY A q;rw[B] at this;unfold JV;rw[za Δ];exact⟨.inr rfl,B⟩
   .exact⟨G,B⟩
  .obtain⟨c1,c2⟩:=b3.1 q;obtain⟨d1,d2⟩:=a5 c1;have h0:x.b7[i].Target≠0:=λe=>gq hR (e▸d1);refine⟨(u _).2 ⟨d1,λhd=>?_⟩,R i d2 λ_=>c2⟩;have:gi ds x.b7[i]=true:=by
    unfold gi;simp[c1,h0,hd]
   rw[this] at c2;cases c2
 .have A:i<x.S.S.b7.length:=by
   have:=g.len;have hi:i<(qq x.S ds).S.b7.length:=hi;omega
  show (ce (qq x.S ds) i).Val.Weak=(iZ (hU x.b7 ds) (1+(i:Int)+32*(ce (qq x.S ds) i).Gen):Int)/\((ce (qq x.S ds) i).State=2->_);have r:Th (ce (qq x.S ds) i):=hti;show _/\((ce (qq x.S ds) i).State=2->1<=(ce (qq x.S ds) i).Val.Weak/\(ce (qq x.S ds) i).Val.Fields = []/\(ce (qq x.S ds) i).Val.Strong=0);rw[GB];rw[g.ce] at r |-;split
  .rename_i q;rw[zb q] at r;obtain⟨d,hd,rfl⟩:=zn.1 q;have hp:=r8 hR (hm d hd);have hw:=(hx.wk _ A (.inl hp.2.1)).1;unfold JV at r |-;split at r
   .exfalso;unfold Th at r;split at r <;> simp at r
   .rename_i V;rw[za V];have:=(hR.ok _ A (.inl hp.2.1)).wk;exact⟨hw,λ_=>⟨by dsimp only;omega,rfl,rfl⟩⟩
  .rename_i q;rw[za q] at r;exact hx.wk i A r
 .obtain⟨a,b⟩:=(u h).1 hh;have e:=g.ob h a b;have e':ob (kU x ds t).S h=ob x.S h:=e;rw[e'] at E |-;have hf:=hx.fair h a E;rw[H6] at hf;rw[hf];have i1:=g.na hR hn hm h;have i2:=h2 h;have i3:qf ⟨x.Q.L++jf x.b7 ds,x.Q.Cap⟩=qf x.Q:=BS _ _ _ λt ht=>by
   obtain⟨w,_,rfl,_⟩:=mg.1 ht;simp
  unfold ny qj kU;dsimp only;rw[i3,H3 (ds.flatMap (outs x.S)),H3];omega
theorem CG:∀(l:List Int) {x:Hp},lS x->Wk x->bH x l->M0 (l.foldl bD x)
 | [],x,a,b,e=>⟨a,b,e⟩
 | v::l,x,a,b,e=>CG l (a.st v λc=>U2) (b.st a.sr v λc=>U2) (wD a.sr e)
abbrev gQ(o:p9):p9:=⟨o.Serial,o.Strong,o.Weak,o.Prog,true,o.Fields⟩
abbrev Dv(x:Hp)(h:Int):k7:=⟨1,h,(ob x.S h).Prog⟩
noncomputable def kK(x:Hp)(h:Int):Hp:=I3 ⟨eC x.S h (gQ (ob x.S h)),x.Roots,x.b7,x.T,⟨x.Q.L ++ [Dv x h],x.Q.Cap⟩⟩ h
theorem xV(hx:M0 x)(hh:h∈lv x.S)(hp:0<=(ob x.S h).Prog)(hs:(ob x.S h).Started=false):M0 (kK x h):=by
 have hS:=hx.sh;have hR:=hS.sr;have oko:=N7 hR hh;have ho:Ds x.S (gQ (ob x.S h)):=⟨oko.s1,oko.s2,oko.st,oko.wk,oko.p1,oko.p2,oko.fl⟩;have H:=dh (o:=gQ (ob x.S h)) hR hh rfl ho;have l1:=jW (o:=gQ (ob x.S h)) hR hh rfl ho;have B:∀j,j∈lv x.S->ob (eC x.S h (gQ (ob x.S h))) j=if j=h then gQ (ob x.S h) else ob x.S j:=λj hj=>by
  have:=L5 hR hj;exact iI (o:=gQ (ob x.S h)) hR hh rfl ho Δ
 have hlen:(lv x.S).length<=24:=dT (D5.2 hR);have s1:lS (wS x (eC x.S h (gQ (ob x.S h)))):=hS.of H l1 (λk i q=>(Hs (o:=gQ (ob x.S h)) hR hh rfl ho).2 q) (λk hk q=>by
  rw[B k hk];split;·rfl
  .exact q) λk hk v hv=>by
  rw[B k hk] at hv;split at hv;·rename_i e;subst e;exact hS.fl k hk v hv
  .exact hS.fl k hk v hv
 have w1:Wk (wS x (eC x.S h (gQ (ob x.S h)))):=λi hi ht=>by
  have gY:=r8 hR hh;have hc:=CP (o:=gQ (ob x.S h)) hR hh rfl ho i;dsimp only at hi ht |-;rw[hc] at ht |-;have r:i<x.S.S.b7.length:=by unfold eC at hi;rwa [M6] at hi
  split at ht
  .rename_i e;subst e;rw[zb rfl];dsimp only;have:=hx.wk _ r (.inl gY.2.1);rw[J2 hR gY];exact⟨this.1,λq=>absurd q (by rw[gY.2.1];decide)⟩
  .rename_i e;rw[za e];exact hx.wk i r ht
 have y:(x.Q.L ++ [Dv x h]).Pairwise λa b=>¬(a.Kind=b.Kind/\a.At=b.At):=by
  rw[za8];refine⟨hS.td,Ψ,λa ha b hb q=>?_⟩;rw[zu] at hb;subst hb;dsimp only at q;rcases (hS.tk a ha).2.2 with c | c
  .rw[q.2,hs] at c;exact absurd c.2.2 Θ
  .omega
 have A:∀t∈x.Q.L ++ [Dv x h],0<=t.Prog/\t.Prog<=5/\((t.Kind=1/\t.At∈lv (eC x.S h (gQ (ob x.S h)))/\(ob (eC x.S h (gQ (ob x.S h))) t.At).Started=true)\/(t.Kind=2/\0<=t.At/\t.At<=5)):=λt ht=>by
  rcases zH.1 ht with q | q
  .exact s1.tk t q
  .rw[zu] at q;subst q;refine⟨hp,oko.p2,.inl ⟨rfl,by rw[l1];exact hh,?_⟩⟩;dsimp only;rw[B h hh,zb rfl]
 have u:(x.Q.L ++ [Dv x h]).length<=30:=by
  have:=JK (m:=lv x.S) y λt ht=>by
   rcases (A t ht).2.2 with q | q
   .exact .inl ⟨q.1,by rw[<-l1];exact q.2.1⟩
   .exact .inr q
  omega
 have s2:lS ⟨eC x.S h (gQ (ob x.S h)),x.Roots,x.b7,x.T,⟨x.Q.L ++ [Dv x h],x.Q.Cap⟩⟩:=by
  refine⟨s1.sr,s1.hr,s1.r6,s1.c6,s1.cap,u,A,y,s1.rt,s1.fl,s1.pr,λi hi=>?_⟩;obtain⟨a,b,c,d,e⟩:=s1.cl i hi;refine⟨a,b,c,d,λq=>⟨(e q).1,?_⟩⟩;have:=(e q).2;rw[zcc] at this |-;intro G;obtain⟨t,ht,k1,k2⟩:=kz.1 G;rcases zH.1 ht with C | C
  .exact this (kz.2 ⟨t,C,k1,k2⟩)
  .rw[zu] at C;subst C;dsimp only at k1;omega
 have w2:Wk ⟨eC x.S h (gQ (ob x.S h)),x.Roots,x.b7,x.T,⟨x.Q.L ++ [Dv x h],x.Q.Cap⟩⟩:=w1;refine⟨s2.st h λc=>H5,w2.st s2.sr h λc=>H5,λk hk g=>?_⟩;have p:k∈lv x.S:=by
  have:lv (kK x h).S=lv x.S:=(K9 s2.sr h λc=>H5).lv.trans l1;rw[<-this];exact hk
 have F:(ob (kK x h).S k).Strong=if k=h then aK (ob x.S k).Strong else (ob x.S k).Strong:=by
  have:=ye (x:=⟨eC x.S h (gQ (ob x.S h)),x.Roots,x.b7,x.T,⟨x.Q.L ++ [Dv x h],x.Q.Cap⟩⟩) s2.sr h (f:=aK) (λc=>H5) (k:=k) (by rw[<-l1] at p;exact p);refine Eq.trans this ?_;dsimp only;rw[B k p];by_cases e:k=h
  .subst e;rw[zb rfl,zb rfl,zb rfl]
  .rw[za e,za e,za e]
 have E:ny (kK x h) k=ny x k+if k=h then 1 else 0:=by
  have:=AR (x:=⟨eC x.S h (gQ (ob x.S h)),x.Roots,x.b7,x.T,⟨x.Q.L ++ [Dv x h],x.Q.Cap⟩⟩) s2.sr h (f:=aK) (λc=>H5) k;refine Eq.trans this ?_;have hi:=MI (o:=gQ (ob x.S h)) hR hh rfl ho k;dsimp only at hi;have h0:k≠0:=λe=>gq hR (e▸p);unfold ny qj qf;dsimp only;rw[zai,zV,H3,H3,H3];have:L0 (List.map (·.At) (List.filter (λt:k7=>t.Kind==1) [Dv x h])) k=if k=h then 1 else 0:=by
   show L0 [h] k=_;rw[I6,H6];by_cases e:k=h
   .rw[zb ⟨e.symm,h0⟩,zb e]
   .rw[za (λq=>e q.1.symm),za e]
  rw[this];omega
 rw[F] at g |-;rw[E,H6];have hpos:=(N7 hR p).st;by_cases e:k=h
 .rw[zb e] at g |-;rw[zb e];have:=hx.fair k p (by unfold aK at g;split at g <;> omega);rw[H6] at this;unfold aK at g |-;split at g;·omega
  .rename_i q;rw[za q,za Δ];omega
 .rw[za e] at g |-;rw[za e];have:=hx.fair k p g;rw[H6] at this;exact this
noncomputable def zr(x:Hp):List Int:=(lv x.S).filter λh=>(ob x.S h).Strong==0
theorem du:h∈zr x↔h∈lv x.S/\(ob x.S h).Strong=0:=by
 unfold zr;rw[zj,zak]
theorem HM(hx:M0 x)(hz:z∈zr x):ny x z=0:=by
 obtain⟨a,b⟩:=du.1 hz;have:=hx.fair z a Δ;rw[H6] at this;omega
theorem JN{l:List Int}(h0:h≠0)(e:L0 l h=0):h∉l:=λq=>by
 have:=gT.2 ⟨h0,q⟩;omega
theorem Ry{α:Type}(f:α->Nat):∀ {l:List α} {a:α},a∈l->f a<=(l.map f).sum
 | b::l,a,h=>by
  rw[zT,zbs];rcases zJ.1 h with e | e
  .subst e;omega
  .have:=Ry f e;omega
theorem Gq{s:b6}{a y:Int}(ha:a∈lv s):L0 (outs s a) y<=na s y:=Ry (λx=>L0 (outs s x) y) ha
theorem GM{k v:Int}(h:Has t k v)(h0:v≠0):0<own t v:=zby.2 ⟨⟨k,v⟩,gw.2 h,by simp[h0]⟩
def mY(t:Tb)(ks:List Int):Tb × List Int:=(bR t ks).getD (t,[])
theorem lL(hT:HR t)(ks:List Int)(e:ks.length<=1000):bR t ks=some (mY t ks)/\HR (mY t ks).1/\(mY t ks).2.length<=ks.length/\qZ (t.map gY) ks=some ((mY t ks).1.map gY,(mY t ks).2) /\
  (∀k v,Has (mY t ks).1 k v↔k∉ks/\Has t k v)/\∀y,own (mY t ks).1 y+L0 (mY t ks).2 y=own t y:=by
 obtain⟨a,b,g,m,A,p,q,r,B,C,u⟩:=yY hT ks e;have:mY t ks=(a,b):=by unfold mY;rw[g];rfl
 rw[this];exact⟨g,m,p,q,r,u⟩
noncomputable def iU(x:Hp)(ds:List Int):Hp:=(ds.flatMap (outs x.S)++(mY x.T ds).2).foldl bD (kU x ds (mY x.T ds).1)
theorem jE:∀(l:List Int) {x:Hp},SR x.S->yl x.S (l.foldl bD x).S/\l.foldl bD x=wS x (l.foldl bD x).S
 | [],x,h=>⟨yl.refl h,rfl⟩
 | v::l,x,h=>by
  have k1:=K9 h v (f:=mJ) λc=>U2;obtain⟨k2,e⟩:=jE l (x:=bD x v) k1.sr;refine⟨k1.trans k2,?_⟩;show l.foldl bD (bD x v)=wS x (l.foldl bD (bD x v)).S;rw[e,ZH x v]
theorem Ej(hx:M0 x)(hn:ds.Nodup)(hm:∀d∈ds,d∈lv x.S)
  (ho:∀d∈ds,d∉qj x)(hf:∀h∈lv x.S,h∉ds->∀v∈(ob x.S h).Fields,v∉ds)(hp:∀k v,Has x.T k v->k∉ds->v∉ds):M0 (iU x ds):=by
 have hl:ds.length<=24:=zQ (aO hn hm) (dT (D5.2 hx.sh.sr));obtain⟨_,w1,_,_,w2,w3⟩:=lL hx.sh.hr ds Δ;obtain⟨a,b,c⟩:=Ol hx hn hm ho hf hp w1 w2 w3;exact CG _ a b c
theorem Ku(hR:SR x.S)(hn:ds.Nodup)(hm:∀d∈ds,d∈lv x.S):lv (iU x ds).S=(lv x.S).filter λh=>decide (h∉ds):=by
 have g:=gb ds hR hn hm;exact (jE (ds.flatMap (outs x.S)++(mY x.T ds).2) (x:=kU x ds (mY x.T ds).1) g.sr).1.lv.trans g.lv
theorem Kv(hR:SR x.S)(hn:ds.Nodup)(hm:∀d∈ds,d∈lv x.S){k:Int}(hk:k∈lv x.S)(hd:k∉ds):∃n,ob (iU x ds).S k=DU (ob x.S k) n:=by
 have g:=gb ds hR hn hm;have hr:=L5 hR hk;obtain⟨n,e⟩:=(jE (ds.flatMap (outs x.S)++(mY x.T ds).2) (x:=kU x ds (mY x.T ds).1) g.sr).1.ob k Δ;refine⟨n,?_⟩;have a:ob (iU x ds).S k=_:=e;have b:ob (kU x ds (mY x.T ds).1).S k=ob x.S k:=g.ob k hk hd;rw[a,b]
theorem uV(hR:SR x.S)(hn:ds.Nodup)(hm:∀d∈ds,d∈lv x.S):(iU x ds).Roots=x.Roots/\(iU x ds).b7=hU x.b7 ds/\(iU x ds).T=(mY x.T ds).1/\(iU x ds).Q=⟨x.Q.L++jf x.b7 ds,x.Q.Cap⟩:=by
 have g:=gb ds hR hn hm;have e:=(jE (ds.flatMap (outs x.S)++(mY x.T ds).2) (x:=kU x ds (mY x.T ds).1) g.sr).2;have a:iU x ds=wS (kU x ds (mY x.T ds).1) (iU x ds).S:=e;rw[a];exact⟨rfl,rfl,rfl,rfl⟩
theorem Dr(hx:M0 x)(hz:z∈zr x):M0 (iU x [z]):=by
 obtain⟨a,b⟩:=du.1 hz;have h0:z≠0:=λe=>gq hx.sh.sr (e▸a);have hn:=HM hx hz;unfold ny at hn;refine Ej hx Ψ (Ω a) (λd hd=>?_) (λh hh m v hv q=>?_) (λk v g _ q=>?_)
 .rw[zu] at hd;subst hd;exact JN h0 Δ
 .rw[zu] at q;subst q;have:=Gq (y:=v) hh;have p:=gT.2 ⟨h0,show v∈outs x.S h from ln.2 ⟨hv,h0⟩⟩;omega
 .rw[zu] at q;subst q;have:=GM g h0;omega
def due(o:p9):Bool:=decide (0<=o.Prog) && !o.Started
noncomputable def JY(x:Hp):Hp:=match zr x with
 | []=>x
 | z::_=>if due (ob x.S z) then kK x z else iU x [z]
noncomputable def lG:Nat->Hp->Hp
 | 0,x=>x
 | n+1,x=>lG n (JY x)
theorem gR(n:Nat)(x:Hp):lG (n+1) x=JY (lG n x):=by
 induction n generalizing x with
 | zero=>rfl
 | succ n ih=>exact ih (JY x)
theorem pE(h:zr x = []):JY x=x:=by unfold JY;rw[h]
theorem lH{l:List Int}(h:zr x=z::l):JY x=if due (ob x.S z) then kK x z else iU x [z]:=by unfold JY;rw[h]
theorem Ps{x:Hp}(hx:M0 x):M0 (JY x):=by
 cases h:zr x with
 | nil=>rw[pE h];exact hx
 | cons z l=>
  have hz:z∈zr x:=by rw[h];exact zh ..
  rw[lH h];split
  .rename_i q;unfold due at q;rw[zB,zE,zcd] at q;exact xV hx (du.1 hz).1 q.1 q.2
  .exact Dr hx hz
theorem M9{x:Hp}(hx:M0 x)(n:Nat):M0 (lG n x):=by
 induction n with
 | zero=>exact hx
 | succ n ih=>rw[gR];exact Ps ih
section
variable{x:Hp}(hR:SR x.S){h:Int}(hh:h∈lv x.S)
include hR hh
theorem pe:yl (eC x.S h (gQ (ob x.S h))) (kK x h).S/\(kK x h).Roots=x.Roots/\(kK x h).b7=x.b7/\(kK x h).T=x.T/\(kK x h).Q=⟨x.Q.L ++ [Dv x h],x.Q.Cap⟩:=by
 have oko:=N7 hR hh;have a:=dh (o:=gQ (ob x.S h)) hR hh rfl ⟨oko.s1,oko.s2,oko.st,oko.wk,oko.p1,oko.p2,oko.fl⟩;refine⟨K9 (x:=⟨eC x.S h (gQ (ob x.S h)),x.Roots,x.b7,x.T,⟨x.Q.L ++ [Dv x h],x.Q.Cap⟩⟩) a h λc=>H5,?_⟩;have e:kK x h=wS ⟨eC x.S h (gQ (ob x.S h)),x.Roots,x.b7,x.T,⟨x.Q.L ++ [Dv x h],x.Q.Cap⟩⟩ (kK x h).S:=ru _ h;rw[e];exact⟨rfl,rfl,rfl,rfl⟩
theorem GP:lv (kK x h).S=lv x.S:=by
 have oko:=N7 hR hh;exact (pe hR hh).1.lv.trans (jW (o:=gQ (ob x.S h)) hR hh rfl ⟨oko.s1,oko.s2,oko.st,oko.wk,oko.p1,oko.p2,oko.fl⟩)
theorem Cs{k:Int}(hk:k∈lv x.S):∃n,ob (kK x h).S k=DU (if k=h then gQ (ob x.S h) else ob x.S k) n:=by
 have oko:=N7 hR hh;have hr:=L5 hR hk;obtain⟨n,e⟩:=(pe hR hh).1.ob k Δ;refine⟨n,?_⟩;rw[e,iI (o:=gQ (ob x.S h)) hR hh rfl ⟨oko.s1,oko.s2,oko.st,oko.wk,oko.p1,oko.p2,oko.fl⟩ Δ]
end
noncomputable def mu(x:Hp):Nat:=(lv x.S).length+((lv x.S).filter λh => !(ob x.S h).Started).length
theorem a04{x:Hp}(hR:SR x.S):mu x<=48:=by
 have a:(lv x.S).length<=24:=dT (D5.2 hR);have b:((lv x.S).filter λh => !(ob x.S h).Started).length<=(lv x.S).length:=zo ..;unfold mu;omega
theorem ZV{x:Hp}(hx:M0 x)(h:zr x ≠ []):mu (JY x)<mu x:=by
 cases hz:zr x with
 | nil=>exact absurd hz h
 | cons z l=>
  have g:z∈zr x:=by rw[hz];exact zh ..
  have b:=(du.1 g).1;have hR:=hx.sh.sr;rw[lH hz];split
  .rename_i q;unfold due at q;rw[zB,zE,zcd] at q;unfold mu;rw[GP hR b];have:=filter_lt (p:=λh => !(ob (kK x z).S h).Started) (q:=λh => !(ob x.S h).Started) (l:=lv x.S) (λk hk hp=>by
    obtain⟨n,e⟩:=Cs hR b hk;rw[e] at hp;split at hp;·exact absurd hp Ψ
    .exact hp) z b (by rw[q.2];rfl) (by
    obtain⟨n,e⟩:=Cs hR b b;rw[e,zb rfl];rfl)
   omega
  .unfold mu;have hn:([z]:List Int).Nodup:=by simp
   have hm:∀d ∈ [z],d∈lv x.S:=Ω b
   rw[Ku hR hn hm,zat];have m:((lv x.S).filter λh=>decide (h ∉ [z])).length<((lv x.S).filter λ_=>true).length:=filter_lt (λ_ _ _=>rfl) z b rfl Ψ;rw[zav.2 (λ_ _=>rfl)] at m;have r:((lv x.S).filter λa=>(!(ob (iU x [z]).S a).Started)&&decide (a ∉ [z])).length<=((lv x.S).filter λh => !(ob x.S h).Started).length:=by
    rw[<-zbg,<-zbg];refine List.countP_mono_left λa ha hp=>?_;rw[zB,zE] at hp;obtain⟨n,e⟩:=Kv hR hn hm ha hp.2;rw[e] at hp;exact hp.1
   omega
noncomputable def cy(x:Hp):Hp:=lG 100 x
theorem sC{x:Hp}(hx:M0 x):∃n,n<=48/\zr (lG n x) = []/\(∀j,j<n->zr (lG j x) ≠ [])/\cy x=lG n x:=by
 have key:∀m,(∃n,n<=m/\zr (lG n x) = [])\/mu (lG m x)+m<=mu x:=by
  intro m;induction m with
  | zero=>exact .inr (zC _)
  | succ m ih=>
   rcases ih with ⟨n,p,e⟩ | ih;·exact .inl ⟨n,Δ,e⟩
   .by_cases q:zr (lG m x) = []
    .exact .inl ⟨m,Δ,q⟩
    .have:=ZV (M9 hx m) q;rw[<-gR] at this;exact .inr Δ
 have r:=a04 hx.sh.sr;have g:∃n,n<=48/\zr (lG n x) = []:=by
  rcases key 49 with ⟨n,p,e⟩ | h
  .rcases zI n 49 with q | q
   .exact⟨n,Δ,e⟩
   .rcases key 48 with h | h
    .exact h
    .have:mu (lG 48 x)=0:=by omega
     refine⟨48,zC _,?_⟩;have hl:(lv (lG 48 x).S).length=0:=by unfold mu at this;omega
     unfold zr;rw[ul hl];rfl
  .omega
 obtain⟨n,⟨hn,hz⟩,b⟩:=iy g;refine⟨n,hn,hz,λj hj q=>?_,?_⟩
 .have:=b j ⟨Δ,q⟩;omega
 .have:∀k,lG (n+k) x=lG n x:=λk=>by
   induction k with
   | zero=>rfl
   | succ k ih=>rw[show n+(k+1)=(n+k)+1 by omega,gR,ih,pE hz]
  have a:=this (100-n);rw[show n+(100-n)=100 by omega] at a;exact a
theorem pA{x:Hp}(hx:M0 x):M0 (cy x):=M9 hx 100
theorem Fb{x:Hp}(hx:M0 x):zr (cy x) = []:=by
 obtain⟨n,_,h,_,e⟩:=sC hx;rw[e];exact h
theorem Tk{x:Hp}(h:zr x = []):cy x=x:=by
 have:∀n,lG n x=x:=λn=>by
  induction n with
  | zero=>rfl
  | succ n ih=>rw[gR,ih,pE h]
 exact this 100
section
variable{x:Hp}(hR:SR x.S)
include hR
theorem Ca{h:Int}(hh:h∈lv x.S):h<=9223372036854775807:=Ωv
theorem Gb{h:Int}(hh:h∈lv x.S):A9 x.S h=some (ob x.S h,0):=by
 obtain⟨e,a,b⟩:=qI (D5.2 hR) (Ca hR hh);rw[a,b.2 hh]
theorem zero_eq:fK x=some (zr x):=by
 have a:(lv x.S).length<=24:=dT (D5.2 hR);unfold fK;simp only[jn];rw[Gt (D5.2 hR),a2D];rw[jk (lv x.S) (λb h=>if (ob x.S h).Strong==0 then b ++ [h] else b) id (λk b=>b.length<=k) Δ (zC _) (λk hk b hb=>?_) (λb hb=>Ψ)]
 .rw[foldl_filter];rfl
 .simp only[r4,hk,q9,ut,u4 hk,a2D,Gb hR (zl hk)];by_cases c:((ob x.S (lv x.S)[k]).Strong==0)=true
  .rw[zb c,zb c,U5 Δ Ξ,a2D,p8];exact⟨rfl,Ξ⟩
  .rw[za c,za c,p8];exact⟨rfl,Δ⟩
end
noncomputable def quD(x:Hp)(h:Int):Hp:=if h∈lv x.S/\due (ob x.S h)=true then kK x h else x
theorem ND{s:b6}(hR:SR s){h:Int}(hl:h∈lv s):Ds s (gQ (ob s h)):=by
 have oko:=N7 hR hl;exact⟨oko.s1,oko.s2,oko.st,oko.wk,oko.p1,oko.p2,oko.fl⟩
theorem Nh(o:p9):T7 o=some (due o):=by
 unfold T7 due;congr 1
section
variable{x:Hp}(hx:M0 x)(hS:SL x){h:Int}(hh:h<=9223372036854775807)
include hx hS hh
theorem Lb(hl:h∈lv x.S)(hd:due (ob x.S h)=true):x.Q.L.length<30:=by
 have hb:0<=(ob x.S h).Prog/\(ob x.S h).Started=false:=by
  unfold due at hd;rw[zB,zE,zcd] at hd;exact hd
 have:=(xV hx hl hb.1 hb.2).sh.q30;rw[(pe hx.sh.sr hl).2.2.2.2] at this;simp at this;omega
theorem Pb:au x h=some (quD x h):=by
 have hR:=hx.sh.sr;have cap:=hx.sh.cap;obtain⟨e,m,g⟩:=qI (D5.2 hR) hh;unfold au quD;rw[m,a2D];by_cases hl:h∈lv x.S
 .have a:e=0:=g.2 hl;subst a;have b:(((0:Int) != 0)==false)=true:=rfl;simp only[b,W4,Nh,a2D];cases hd:due (ob x.S h);·rw[zb Ψ,za Ψ]
  .rw[za Ψ,zb ⟨hl,rfl⟩];have hr:=Lb hx hS hh hl hd;have hok:=ND hR hl;have l1:=jW (o:=gQ (ob x.S h)) hR hl rfl hok;have p:=dh (o:=gQ (ob x.S h)) hR hl rfl hok;rw[AP (o:=gQ (ob x.S h)) hR hl rfl hok,a2D,XA _ Δ,a2D];have et:tad x.Q ⟨1,h,(ob x.S h).Prog⟩=(⟨x.Q.L ++ [Dv x h],x.Q.Cap⟩,0):=by
    unfold tad;rw[za Δ]
   rw[et];dsimp only;rw[sy p hh (λk hk=>?_),a2D];·rfl
   .dsimp only at hk |-;rw[l1] at hk;rw[iI (o:=gQ (ob x.S h)) hR hl rfl hok (Ca hR hk)];split;·exact hS h hl
    .exact hS k hk
 .have a:e≠0:=λq=>hl (g.1 q);have b:(e != 0)=true:=by simpa using a
  rw[b];simp only[show ((true==false)=true)=False by simp,y6,pu,a2D,Bool.true_or,ut];rw[za (λq=>hl q.1)]
end
noncomputable def lvo(x:Hp)(l:List Int):List Int:=l.foldl (λb h=>if h∈lv x.S/\h∉b then b ++ [h] else b) []
theorem RC{x:Hp}{z:Int}(hz:z∈lv x.S):lvo x [z] = [z]:=by
 unfold lvo;simp[hz]
section
variable{x:Hp}(hR:SR x.S)
include hR
theorem Gr(l:List Int)(hl:l.length<=1000)(hb:∀h∈l,h<=9223372036854775807):aU x l=some (lvo x l):=by
 unfold aU;simp only[jn];have key:=jk (f:=λ((a,p,r):Int × (List (Int × Bool)) × (List Int))=>
   if (decide (a<(l.length:Int))) then
     (ix l a).bind λu=>
     (A9 x.S u).bind λB=>
     if ((B.2==0)==true) then
      if (!((C4 p u).getD (false:Bool))) then
       (app 8 r [u]).bind λC=>
       some (Sum.inl (y4 (a+1),(u6 p u true),C))
      else
      some (.inl (y4 (a+1),p,r))
     else
     some (.inl (y4 (a+1),p,r))
   else
   some (.inr r)) l (λ(b:List (Int × Bool) × List Int) h=>if h∈lv x.S/\h∉b.2 then (u6 b.1 h true,b.2 ++ [h]) else b) (λb=>b.2) (λk b=>b.2.length<=k/\∀d,(C4 b.1 d).getD false=decide (d∈b.2)) (b0:=([],[])) Δ ⟨zC _,λd=>by simp[C4]⟩ (λk hk b y=>?_) (λb y=>Ψ)
 .rw[key,a2D];congr 1;have:∀(l:List Int) (m:List (Int × Bool)) (b:List Int),(l.foldl (λ(b:List (Int × Bool) × List Int) h=>if h∈lv x.S/\h∉b.2 then (u6 b.1 h true,b.2 ++ [h]) else b) (m,b)).2=l.foldl (λb h=>if h∈lv x.S/\h∉b then b ++ [h] else b) b:=λl=>by
   induction l with
   | nil=>intro m b;rfl
   | cons h l ih=>
    intro m b;rw[ww,ww];by_cases c:h∈lv x.S/\h∉b
    .rw[zb c,zb c,ih]
    .rw[za c,za c,ih]
  exact this l [] []
 .obtain⟨G,g⟩:=y;obtain⟨e,F,E⟩:=qI (D5.2 hR) (hb _ (zl hk));simp only[r4,hk,q9,ut,u4 hk,a2D,F,g];by_cases hl:l[k]∈lv x.S
  .have A:e=0:=E.2 hl;subst A;by_cases hm:l[k]∈b.2
   .rw[zb (by rfl),za (by simp[hm]),za (λq=>q.2 hm),p8];exact⟨rfl,Δ,g⟩
   .rw[zb (by rfl),zb (by simp[hm]),zb ⟨hl,hm⟩,U5 Δ Ξ,a2D,p8];refine⟨rfl,Ξ,λd=>?_⟩;rw[sf];by_cases q:d=l[k]
    .rw[zb q];simp[q]
    .rw[za q,g];simp[q]
  .have A:e≠0:=λq=>hl (E.1 q);rw[za (by simp[A]),za (λq=>hl q.1),p8];exact⟨rfl,Δ,g⟩
end
theorem BK{α β:Type}(p:α->Bool)(f:α->β):∀(xs:List α) (acc:List β),xs.foldl (λb x=>if p x then b ++ [f x] else b) acc=acc++(xs.filter p).map f
 | [],acc=>by simp
 | x::xs,acc=>by
  rw[ww,BK p f xs];by_cases h:p x=true
  .simp[h]
  .simp[h]
theorem ki{α:Type}{l:List α}{i:Nat}(h:i<l.length)(d:α):l.getD i d=l[i]:=by
 rw[zd,zc h];rfl
theorem Oo(c:l4)(ds:List Int)(hl:ds.length<=1000):dJ c ds=some (gi ds c):=by
 unfold dJ gi;rw[contains_eq _ _ Δ];cases (c.Intact&&c.Target != 0);·rfl
 .simp[y6]
def ql(l:List l4)(ds:List Int):List Nat:=(List.range l.length).filter λw=>gi ds (l.getD w cz)
variable {ds:List Int}{w k:Nat}
theorem Zn{l:List l4}(h:w∈ql l ds):w<l.length:=by
 unfold ql at h;rw[zj,za1] at h;exact h.1
theorem We(l:List l4)(ds:List Int):(ql l ds).length<=l.length:=by
 unfold ql;exact zQ (zo ..) Ψ
theorem Zo(l:List l4)(ds:List Int):(ql l ds).Nodup:=zb9 _ List.nodup_range
theorem UZ(l:List l4)(ds:List Int):cls l ds=(ql l ds).filter λw=>decide (0<=(l.getD w cz).Call):=by
 unfold cls ql;rw[zat];refine zaf λw _=>?_;rw[zcx]
def ji(l:List Nat):List Int:=l.map λ(n:Nat)=>(n:Int)
theorem MJ{l:List Nat}(h:k<l.length):ix (ji l) (k:Int)=some ((l[k]:Nat):Int):=by
 unfold ji;rw[oR,u4 h];rfl
theorem vG(l:List Nat):(ji l).length=l.length:=zf ..
theorem OZ(l:List l4)(ds:List Int)(hl:l.length<=1000)(hd:ds.length<=1000):Q2 l ds=some (ji (ql l ds)):=by
 unfold Q2;simp only[jn];have hr:(List.range l.length).length=l.length:=Ψ
 have key:=jk (List.range l.length) (λ(b:List Int) (w:Nat)=>if gi ds (l.getD w cz) then b ++ [(w:Int)] else b) id (λk b=>b.length<=k) (b0:=[]) (f:=λ((a,e):Int × (List Int))=>
   if (decide (a<(l.length:Int))) then
     (ix l a).bind λg=>
     (dJ g ds).bind λm=>
     if m then
      (app 8 e [a]).bind λp=>
      some (Sum.inl (y4 (a+1),p))
     else
     some (.inl (y4 (a+1),e))
   else
   some (.inr e)) Δ (zC _) (λk hk b hb=>?_) (λb hb=>Ψ)
 .rw[key,BK];rfl
 .rw[hr] at hk;simp only[r4,hk,q9,ut,u4 hk,a2D,Oo _ _ hd,List.getElem_range,ki hk];by_cases c:gi ds l[k]=true
  .rw[zb c,zb c,U5 Δ Ξ,a2D,p8];exact⟨rfl,Ξ⟩
  .rw[za c,za c,p8];exact⟨rfl,Δ⟩
theorem Ov(l:List l4)(hl:l.length<=1000):dt l=some l:=by
 unfold dt;rw[ka Δ Δ,a2D];unfold AE;rw[zb Ψ,a2D];simp
def uZ(l:List l4)(K:List Nat):List l4:=(List.range l.length).map λi=>if i∈K then ⟨(l.getD i cz).Target,false,(l.getD i cz).Call⟩ else l.getD i cz
theorem nf(l:List l4)(K:List Nat):(uZ l K).length=l.length:=by simp[uZ]
theorem va{l:List l4}{K:List Nat}{i:Nat}(h:i<(uZ l K).length):(uZ l K)[i]=if i∈K then ⟨(l.getD i cz).Target,false,(l.getD i cz).Call⟩ else l.getD i cz:=by simp[uZ]
theorem QF(l:List l4):uZ l []=l:=by
 refine zb2 (nf ..) λi b a=>?_;rw[va,za Ψ,ki a]
theorem Ot{l:List l4}{K:List Nat}(hw:w<l.length):uZ l (K ++ [w])=(uZ l K).set w ⟨(l.getD w cz).Target,false,(l.getD w cz).Call⟩:=by
 refine zb2 (by rw[zaq,nf,nf]) λi g m=>?_;rw[va,zcw];by_cases e:w=i
 .subst e;rw[zb rfl,zb Ψ]
 .rw[za e,va];by_cases q:i∈K
  .rw[zb (rx _ q),zb q]
  .rw[za,za q];rw[zH,zu];exact λa=>a.elim q λb=>e b.symm
theorem QE(l:List l4)(ds:List Int):uZ l (ql l ds)=hU l ds:=by
 refine zb2 (by rw[nf];simp[hU]) λi a b=>?_;have hi:i<l.length:=by rw[nf] at a;exact a
 have ec:(hU l ds)[i]=qx ds l[i]:=zx _;rw[va,ec,ki hi];unfold qx;by_cases c:gi ds l[i]=true
 .rw[zb c,zb];unfold ql;rw[zj,za1,ki hi];exact⟨hi,c⟩
 .rw[za c,za];unfold ql;rw[zj,za1,ki hi];exact λq=>c q.2
theorem dI{α:Type}{l:List α}(h:k<l.length):l.take (k+1)=l.take k ++ [l[k]]:=zi h
theorem Ij(l:List l4)(ds:List Int)(hl:l.length<=1000)(hd:ds.length<=1000):iN l ds=some (hU l ds,ji (cls l ds)):=by
 unfold iN;rw[OZ l ds hl hd,a2D,Ov l hl,a2D];simp only[jn,vG];have hp:=We l ds;refine S9 (ql l ds).length (λk (b:List l4 × List Int)=>b.1=uZ l ((ql l ds).take k)/\b.2=ji (((ql l ds).take k).filter λw=>decide (0<=(l.getD w cz).Call))) Δ ⟨by simp[QF],by simp[ji]⟩ ?_ ?_
 .rintro k ⟨g,m⟩ hk ⟨rfl,rfl⟩;left;have hw:=Zn (zl hk);have a:(ql l ds)[k]∉(ql l ds).take k:=λq=>by
   have hn:=Zo l ds;rw[<-zbq k (ql l ds),List.nodup_append] at hn;exact hn.2.2 _ q (ql l ds)[k] (by rw[zbp hk];exact zh ..) rfl
  have e:(ql l ds)[k]<(uZ l ((ql l ds).take k)).length:=by rw[nf];exact hw
  have p:ix (uZ l ((ql l ds).take k)) (((ql l ds)[k]:Nat):Int)=some (l.getD (ql l ds)[k] cz):=by rw[u4 e,va,za a]
  have u:(ql l ds)[k]<((uZ l ((ql l ds).take k)).set (ql l ds)[k] ⟨(l.getD (ql l ds)[k] cz).Target,false,(l.getD (ql l ds)[k] cz).Call⟩).length:=by rw[zaq];exact e
  have r:ix ((uZ l ((ql l ds).take k)).set (ql l ds)[k] ⟨(l.getD (ql l ds)[k] cz).Target,false,(l.getD (ql l ds)[k] cz).Call⟩) (((ql l ds)[k]:Nat):Int)=some ⟨(l.getD (ql l ds)[k] cz).Target,false,(l.getD (ql l ds)[k] cz).Call⟩:=by rw[u4 u,List.getElem_set_self]
  dsimp only;simp only[r4,hk,q9,ut,MJ hk,a2D,p,zN,r];have y:(ji (((ql l ds).take k).filter λw=>decide (0<=(l.getD w cz).Call))).length<=1000:=by
   rw[vG];exact zQ (zo ..) Ξ
  rw[dI hk,Ot hw,zai];by_cases c:0<=(l.getD (ql l ds)[k] cz).Call
  .rw[zb (zG c),U5 Δ ΩB,a2D,p8];refine⟨_,rfl,rfl,?_⟩;rw[pm,zb (zG c)];simp[ji]
  .rw[za (λq=>c (zbd q)),p8];refine⟨_,rfl,rfl,?_⟩;rw[pm,za (λq=>c (zbd q))];simp[ji]
 .rintro⟨g,m⟩ ⟨rfl,rfl⟩;refine⟨_,za Ψ,?_⟩;dsimp only;rw[zL,QE,<-UZ]
theorem a0L(c:l4)(ds:List Int)(hd:ds.length<=1000):((y6 ((rO c).Intact==true) 0 (M8 ds (rO c).Target)).bind λv=>some ((rO c).Intact&&decide (v > 0)))=some (gi ds c):=by
 unfold gi rO;dsimp only;cases a:c.Intact;·rfl
 .simp only[zZ,W4];rw[dq _ _ Δ,a2D];congr 1;rw[zax,zax,zbh];simp only[zE,zB,zcs];have:=gT (l:=ds) (h:=c.Target);constructor
  .intro q;exact this.1 Δ
  .intro q;have:=this.2 q;omega
theorem UX(l:List l4)(ds:List Int)(hl:l.length<=1000)(hd:ds.length<=1000):sm (l.map rO) ds=some ((hU l ds).map rO,ji (cls l ds)):=by
 unfold sm;simp only[jn,zf];refine S9 l.length (λk (b:List n7 × List Int)=>b.1=((hU l ds).take k).map rO/\b.2=ji ((List.range k).filter λw=>gi ds (l.getD w cz)&&decide (0<=(l.getD w cz).Call))) Δ ⟨Ψ,by simp[ji]⟩ ?_ ?_
 .rintro k ⟨g,m⟩ hk ⟨rfl,rfl⟩;left;have e:k<(hU l ds).length:=by simp[hU];exact hk
  have p:ix (l.map rO) (k:Int)=some (rO l[k]):=by rw[oR,u4 hk];rfl
  have q:(ji ((List.range k).filter λw=>gi ds (l.getD w cz)&&decide (0<=(l.getD w cz).Call))).length<=1000:=by
   rw[vG];exact zQ (zo ..) Ξ
  dsimp only;simp only[r4,hk,q9,ut,p,a2D];obtain⟨v,hv,a⟩:=pJ (a0L l[k] ds hd);rw[hv,a2D];have a:=zK a;rw[a,dI e,zV,List.range_succ,zai];have ec:(hU l ds)[k]=qx ds l[k]:=zx _;have lc:(List.map rO (List.take k (hU l ds))).length<=1000:=by simp[hU];omega
  rw[ec];unfold qx;by_cases c:gi ds l[k]=true
  .rw[zb c,zb c];by_cases c2:0<=l[k].Call
   .rw[zb (by simpa[rO] using c2),U5 Δ ΩB,a2D,U5 Δ ΩB,a2D,p8];refine⟨_,rfl,rfl,?_⟩;simp only[pm,zcn,ki hk,c,c2,q9,zcp,ut];simp[ji]
   .rw[za (by simpa[rO] using c2),U5 Δ ΩB,a2D,p8];refine⟨_,rfl,rfl,?_⟩;simp only[pm,zcn,ki hk,c,c2,zc1,Bool.and_false,zM,pu,za9]
  .rw[za c,za c,U5 Δ ΩB,a2D,p8];refine⟨_,rfl,rfl,?_⟩;have c:gi ds l[k]=false:=by simpa using c
   simp only[pm,zcn,ki hk,c,Bool.false_and,zM,pu,za9]
 .rintro⟨g,m⟩ ⟨rfl,rfl⟩;refine⟨_,za Ψ,?_⟩;dsimp only;rw[List.take_of_length_le (by simp[hU])];rfl
def PB(x:Hp)(ds:List Int):Hp:=⟨x.S,x.Roots,hU x.b7 ds,x.T,⟨x.Q.L++jf x.b7 ds,x.Q.Cap⟩⟩
theorem iV(l:List l4)(ds:List Int):(jf l ds).length=(cls l ds).length:=zf ..
theorem FL{l:List l4}(h:w∈cls l ds):w<l.length:=by
 unfold cls at h;rw[zj,za1] at h;exact h.1
theorem QH{l:List l4}(h:k<(jf l ds).length):(jf l ds)[k]=⟨2,(((cls l ds)[k]'(by rw[<-iV];exact h):Nat):Int),(l.getD ((cls l ds)[k]'(by rw[<-iV];exact h)) cz).Call⟩:=zx _
theorem QG{l:List l4}(h:w<l.length):ix (hU l ds) (w:Int)=some (qx ds l[w]):=by
 unfold hU;rw[oR,u4 h];rfl
section
variable{x:Hp}{ds:List Int}(hc:x.b7.length<=6)(hd:ds.length<=1000)(hq:(x.Q.L++jf x.b7 ds).length<=30)(hcap:x.Q.Cap=30)
include hc hd hq hcap
theorem Og{k:Nat}(hk:k<(jf x.b7 ds).length):tad ⟨x.Q.L++(jf x.b7 ds).take k,x.Q.Cap⟩ (jf x.b7 ds)[k]=(⟨x.Q.L++(jf x.b7 ds).take (k+1),x.Q.Cap⟩,0):=by
 rw[zA] at hq;unfold tad;rw[za (by dsimp only;rw[zA,wn,hcap];omega),dI hk,zac]
theorem Ky:gN x ds=some (PB x ds):=by
 unfold gN;rw[Ij _ _ Δ hd,a2D];dsimp only;simp only[jn,vG];have b:=hq;rw[zA] at b;refine S9 (cls x.b7 ds).length (λk (q:TQ)=>q=⟨x.Q.L++(jf x.b7 ds).take k,x.Q.Cap⟩) (by rw[<-iV];omega) Ψ ?_ ?_
 .rintro k q hk rfl;left;have hw:=FL (zl hk);have a:k<(jf x.b7 ds).length:=by rw[iV];exact hk
  simp only[r4,hk,q9,ut,MJ hk,a2D,QG hw];have et:(⟨2,(((cls x.b7 ds)[k]:Nat):Int),(qx ds x.b7[(cls x.b7 ds)[k]]).Call⟩:k7)=(jf x.b7 ds)[k]:=by
   rw[QH,(oC ds _).2.1,ki hw]
  rw[et,XA _ (by dsimp only;rw[zA,wn];omega),Og hc hd hq hcap a,a2D,p8 (by rw[<-iV] at hk;omega)];exact⟨_,rfl,rfl⟩
 .rintro q rfl;refine⟨_,za Ψ,?_⟩;rw[<-iV,zL];rfl
end
theorem Fa(s:b6)(i:Nat)(c d:g7):K8 (K8 s i c) i d=K8 s i d:=by
 unfold K8;dsimp only;rw[List.set_set]
section
variable{s:b6}(hR:SR s){d:Int}(hd:d∈lv s)
include hR hd
def k1(s:b6)(d:Int):b6:=K8 s (F9 d) ⟨1,(ce s (F9 d)).Gen,Ox (ob s d)⟩
def k2(s:b6)(d:Int):b6:=K8 s (F9 d) ⟨2,(ce s (F9 d)).Gen,Ox (ob s d)⟩
theorem KA:Ds s (Ox (ob s d)):=by
 have ho:=N7 hR hd;exact⟨ho.s1,ho.s2,zan _,ho.wk,ho.p1,ho.p2,zU _⟩
theorem Ru:eC s d (Ox (ob s d))=k1 s d:=by
 have q:=r8 hR hd;unfold eC ig k1 K8;rw[q.2.1]
theorem a0O:At (k1 s d) d (F9 d):=by
 have q:=r8 hR hd;refine⟨by unfold k1;rw[ae];exact q.1,?_,?_⟩;·unfold k1;rw[O2 q.1,zb rfl]
 .unfold k1;rw[O2 q.1,zb rfl];exact q.2.2
theorem a0P:SR (k1 s d):=by rw[<-Ru hR hd];exact dh (o:=Ox (ob s d)) hR hd rfl (KA hR hd)
theorem a0S:SR (k2 s d):=by
 have q:=r8 hR hd;have hc:=hR.cell _ q.1;unfold k2;refine hR.K8 q.1 ⟨Ψ,Ψ,hc.2.2.1,hc.2.2.2⟩ (λq=>absurd (.inr rfl) q) (λ_=>⟨KA hR hd,.inl q.2.1,?_⟩);show (ob s d).Serial=_;rw[J2 hR q]
theorem a0Q:Y1 (k2 s d) d (F9 d):=by
 have q:=r8 hR hd;refine⟨by unfold k2;rw[ae];exact q.1,?_,?_⟩;·unfold k2;rw[O2 q.1,zb rfl];exact .inr rfl
 .unfold k2;rw[O2 q.1,zb rfl];exact q.2.2
theorem VA:aC (k1 s d).S d=some ((k2 s d).S,0):=by
 have q:=r8 hR hd;have a:=a0P hR hd;have b:=a0O hR hd;have hr:=L5 hR hd;have hlen:=a.len;have m:Fo d:=((uc a).2 b.d).2.1;have g:(d-1) % 32=(F9 d:Nat):=((uc a).2 b.d).2.2.1;have r:(d-1) / 32=(ce s (F9 d)).Gen:=by
  have:=q.2.2;have p:=hR.len;have:=q.1;omega
 unfold aC K2;rw[AB a b.d,a2D,za Ψ,MK b.1,a2D,b.2.1,za Ψ,a2D,za Ψ,qL Δ,a2D,zb m,g,tz Δ,a2D,zb m,r,od rfl b.1 hlen,a2D];have e:(ce (k1 s d) (F9 d)).Val=Ox (ob s d):=by unfold k1;rw[O2 q.1,zb rfl]
 rw[e];congr 2;show (K8 (k1 s d) (F9 d) _).S=(k2 s d).S;unfold k1 k2;rw[Fa]
theorem a0K(hw:(ob s d).Weak=0):HP (k2 s d) (F9 d)=Ad s d:=by
 have q:=r8 hR hd;have e:ce (k2 s d) (F9 d)=⟨2,(ce s (F9 d)).Gen,Ox (ob s d)⟩:=by unfold k2;rw[O2 q.1,zb rfl]
 unfold HP Ad JV;rw[e];rw[J2 hR q] at hw;rw[zb hw];unfold k2;rw[Fa];rfl
theorem a0R(hw:(ob s d).Weak≠0):k2 s d=Ad s d:=by
 have q:=r8 hR hd;unfold k2 Ad JV;rw[J2 hR q] at hw |-;rw[za hw]
end
theorem OL{x:Hp}(hR:SR x.S){d:Int}(hd:d∈lv x.S):bZ x d=some (wS x (Ad x.S d)):=by
 unfold bZ;rw[Gb hR hd,a2D];have a:X0 x.S d (⟨(ob x.S d).Serial,0,(ob x.S d).Weak,(ob x.S d).Prog,(ob x.S d).Started,[]⟩:p9)=some (k1 x.S d,0):=by
  rw[<-Ru hR hd];exact AP (o:=Ox (ob x.S d)) hR hd rfl (KA hR hd)
 rw[a,a2D,VA hR hd,a2D];by_cases hw:(ob x.S d).Weak=0
 .rw[zb (Ω hw),MF (a0S hR hd) (a0Q hR hd),a2D,a0K hR hd hw];rfl
 .rw[za (Ω hw)];show some (wS x (k2 x.S d))=_;rw[a0R hR hd hw]
end Go.Sh
