/-
 Several texts of one kind, one behind the other.
-/
import Derived.Test.YtppgkaeodaaidaaGreatDoorU3xSh1
import Derived.Test.YtppgkaeodaaidaaGreatDoorU3xPwE
import Derived.Test.YtppgkaeodaaidaaGreatDoorU3xSh
set_option linter.unusedVariables false
set_option linter.unusedSimpArgs false
set_option linter.unusedSectionVars false
namespace Go.Sh
theorem b1V(a:ByteArray):∀(n i:Nat) (r:List UInt8),a.size-i=n→ByteArray.toList.loop a i r=r.reverse++a.data.toList.drop i
 | 0,i,r,h=>by
  rw[ByteArray.toList.loop,if_neg (by omega),List.drop_eq_nil_of_le (by simpa using Nat.le_of_sub_eq_zero h),List.append_nil]
 | n+1,i,r,h=>by
  have hi:i<a.size:=by omega
  rw[ByteArray.toList.loop,if_pos hi,b1V a n (i+1) _ (by omega)];have:i<a.data.toList.length:=by simpa using hi
  rw[List.drop_eq_getElem_cons this];have e:a.get! i=a.data.toList[i]:=by
   simp[ByteArray.get!,hi,getElem!_pos]
  rw[e];simp
theorem b7b(a:ByteArray):a.toList=bts a:=by
 unfold ByteArray.toList;rw[b1V a _ 0 [] rfl];rfl
theorem a9g(s:ByteArray):(bts s).length=s.size:=by simp
theorem a1U(l:List UInt8):bts (l6 l)=l:=by simp
theorem b4z(s:ByteArray):l6 (bts s)=s:=by cases s;simp
theorem a0q(l:List UInt8):(l6 l).size=l.length:=by simp[ByteArray.size]
theorem b1B{s:ByteArray}{p:Nat}{b:UInt8}(h:(bts s)[p]? = some b):s.get! p=b∧p<s.size:=by
 obtain⟨h1,h2⟩:=List.getElem?_eq_some_iff.1 h;have h3:p<s.size:=by simpa using h1
 refine⟨?_,h3⟩;rw[←h2];simp[ByteArray.get!,h3,getElem!_pos]
theorem a6T{s:ByteArray}{p:Nat}(h:p<s.size):(bts s)[p]? = some (s.get! p):=by
 have h1:p<(bts s).length:=by simpa using h
 rw[List.getElem?_eq_getElem h1];simp[ByteArray.get!,h,getElem!_pos]
theorem b5X{s:ByteArray}{p:Nat}{b:UInt8}(hp:(bts s)[p]? = some b)(h:b.toNat<128):dec s p=(b.toNat,1):=by
 have h0:=(b1B hp).1;show Go.Utf8.decode s p=_;unfold Go.Utf8.decode;simp only[Nat.add_zero,h0];rw[if_pos h]
theorem b5W{s:ByteArray}{p:Nat}{b:UInt8}(hp:(bts s)[p]? = some b)(h:128≤b.toNat) :
  128≤(dec s p).1∧1≤(dec s p).2∧∀i,i<(dec s p).2→∃c,(bts s)[p+i]? = some c∧128≤c.toNat:=by
 obtain⟨h0,hs⟩:=b1B hp;have one:∀i,i<1→∃c,(bts s)[p+i]? = some c∧128≤c.toNat:=λi hi=>by
  obtain rfl:i=0:=by omega
  exact⟨b,hp,h⟩
 have at_:∀k,(decide (p+k<s.size)&&(s.get! (p+k)).toNat / 64==2)=true→∃c,(bts s)[p+k]? = some c∧128≤c.toNat:=λk hk=>by
  simp only[Bool.and_eq_true,decide_eq_true_eq,beq_iff_eq] at hk;exact⟨_,a6T hk.1,by omega⟩
 show 128≤(Go.Utf8.decode s p).1∧1≤(Go.Utf8.decode s p).2∧∀i,i<(Go.Utf8.decode s p).2→_;unfold Go.Utf8.decode;simp only[Nat.add_zero,h0];rw[if_neg (by omega)];split
 ·rename_i q;split
  ·rename_i q2;refine⟨q2,by simp,λi hi=>?_⟩;have q:=(Bool.and_eq_true _ _▸q).2;have:i=0∨i=1:=by simp at hi;omega
   rcases this with rfl | rfl
   ·exact⟨b,hp,h⟩
   ·exact at_ 1 q
  ·exact⟨by simp[Go.Utf8.runeError],by simp,one⟩
 split
 ·rename_i q;split
  ·rename_i q2;simp only[Bool.and_eq_true] at q;refine⟨?_,by simp,λi hi=>?_⟩
   ·simp only[Bool.and_eq_true,decide_eq_true_eq] at q2;show 128≤_;omega
   have:i=0∨i=1∨i=2:=by simp at hi;omega
   rcases this with rfl | rfl | rfl
   ·exact⟨b,hp,h⟩
   ·exact at_ 1 (by rw[Bool.and_eq_true];exact q.1.2)
   ·exact at_ 2 (by rw[Bool.and_eq_true];exact q.2)
  ·exact⟨by simp[Go.Utf8.runeError],by simp,one⟩
 split
 ·rename_i q;split
  ·rename_i q2;simp only[Bool.and_eq_true] at q;refine⟨?_,by simp,λi hi=>?_⟩
   ·simp only[Bool.and_eq_true,decide_eq_true_eq] at q2;show 128≤_;omega
   have:i=0∨i=1∨i=2∨i=3:=by simp at hi;omega
   rcases this with rfl | rfl | rfl | rfl
   ·exact⟨b,hp,h⟩
   ·exact at_ 1 (by rw[Bool.and_eq_true];exact q.1.1.2)
   ·exact at_ 2 (by rw[Bool.and_eq_true];exact q.1.2)
   ·exact at_ 3 (by rw[Bool.and_eq_true];exact q.2)
  ·exact⟨by simp[Go.Utf8.runeError],by simp,one⟩
 ·exact⟨by simp[Go.Utf8.runeError],by simp,one⟩
def isD(b:UInt8):Bool:=decide (48≤b.toNat)&&decide (b.toNat≤57)
def a5s(l:List UInt8):Int:=l.foldl (λn b=>n*10+((b.toNat:Int)-48)) 0
theorem a6c(l:List UInt8)(b:UInt8):a5s (l ++ [b])=a5s l*10+((b.toNat:Int)-48):=by
 unfold a5s;rw[List.foldl_append];rfl
theorem b5a(l:List UInt8)(h:∀b∈l,isD b=true):0≤a5s l∧a5s l<10 ^ l.length:=by
 generalize hn:l.length=n;induction n generalizing l with
 | zero=>
  obtain rfl:=List.eq_nil_of_length_eq_zero hn;exact⟨by decide,by decide⟩
 | succ n ih=>
  have hne:l ≠ []:=λe=>by rw[e] at hn;cases hn
  rw[←List.dropLast_concat_getLast hne,a6c];have h1:=ih l.dropLast (λb hb=>h b (List.dropLast_subset _ hb)) (by simp[hn]);have h2:=h _ (List.getLast_mem hne);unfold isD at h2;simp only[Bool.and_eq_true,decide_eq_true_eq] at h2;have:(10:Int) ^ (n+1)=10 ^ n*10:=rfl;omega
def a5O(l:List UInt8):Option Int:=if 1≤l.length∧l.length≤9∧l.all isD=true then some (a5s l) else none
def b0Y(l:List UInt8):Int × Bool:=match l with
 | []=>(0,false)
 | b::r=>if b=45 then (match a5O r with
  | some n=>(-n,true)
  | none=>(0,false)) else (match a5O (b::r) with
  | some n=>(n,true)
  | none=>(0,false))
theorem p10{k:Nat}(h:k≤9):(10:Int) ^ k≤1000000000:=by
 have:k=0∨k=1∨k=2∨k=3∨k=4∨k=5∨k=6∨k=7∨k=8∨k=9:=by omega
 rcases this with rfl | rfl | rfl | rfl | rfl | rfl | rfl | rfl | rfl | rfl <;> decide
end Go.Sh
namespace Go.Sh
theorem b5Y{s:ByteArray}{p:Nat}(h:p<s.size):∃b,(bts s)[p]? = some b∧((dec s p).1<128→(dec s p).1=b.toNat∧(dec s p).2=1)∧(b.toNat<128→(dec s p).1=b.toNat)∧1≤(dec s p).2:=by
 refine⟨_,a6T h,?_⟩;rcases Nat.lt_or_ge (s.get! p).toNat 128 with q | q
 ·rw[b5X (a6T h) q];exact⟨λ_=>⟨rfl,rfl⟩,λ_=>rfl,Nat.le_refl _⟩
 ·obtain⟨h1,h2,_⟩:=b5W (a6T h) q;exact⟨λq2=>by omega,λq2=>by omega,h2⟩
theorem b3E{b:UInt8}{n:Nat}(hn:n<256):b=UInt8.ofNat n↔b.toNat=n:=by
 constructor
 ·rintro rfl;simp[Nat.mod_eq_of_lt hn]
 ·intro h;apply UInt8.toNat_inj.1;rw[h];simp[Nat.mod_eq_of_lt hn]
def Sgn(l:List UInt8)(d:Nat)(sg:Int):Prop:=(d=0∧sg=1∧l[0]? ≠ some 45)∨(d=1∧sg = -1∧l[0]? = some 45)
theorem a7F{l:List UInt8}{d:Nat}{sg:Int}(h:Sgn l d sg):b0Y l=match a5O (l.drop d) with
  | some n=>(sg*n,true)
  | none=>(0,false):=by
 cases l with
 | nil=>
  rcases h with ⟨rfl,rfl,h⟩ | ⟨_,_,h⟩;·rfl
  ·cases h
 | cons b r=>
  rcases h with ⟨rfl,rfl,h⟩ | ⟨rfl,rfl,h⟩
  ·have:b≠45:=λe=>h (by rw[e];rfl);unfold b0Y;simp only[if_neg this,List.drop_zero];cases a5O (b::r);·rfl
   ·simp only[Int.one_mul]
  ·have:b=45:=Option.some.inj h;unfold b0Y;simp only[if_pos this,List.drop_succ_cons,List.drop_zero];cases a5O r;·rfl
   ·simp only[Int.neg_mul,Int.one_mul]
theorem a6U(b:UInt8):isD b=true↔48≤b.toNat∧b.toNat≤57:=by
 unfold isD;rw[Bool.and_eq_true,decide_eq_true_iff,decide_eq_true_iff]
theorem b3A{l:List UInt8}{k:Nat}{b:UInt8}(h:l[k]? = some b):l.take (k+1)=l.take k ++ [b]:=by
 obtain⟨h1,h2⟩:=List.getElem?_eq_some_iff.1 h;rw[List.take_succ_eq_append_getElem h1,h2]
structure Rdg (l:List UInt8) (d k:Nat):Prop where
 k9:k≤9
 le:d+k≤l.length
 all:∀b∈(l.drop d).take k,isD b=true
theorem Rdg.len{l:List UInt8}{d k:Nat}(h:Rdg l d k):((l.drop d).take k).length=k:=by
 have:=h.le;simp;omega
theorem Rdg.bd{l:List UInt8}{d k:Nat}(h:Rdg l d k):0≤a5s ((l.drop d).take k)∧a5s ((l.drop d).take k)<1000000000:=by
 have h1:=b5a _ h.all;rw[h.len] at h1;have h2:=p10 h.k9;omega
theorem Rdg.up{l:List UInt8}{d k:Nat}(h:Rdg l d k){b:UInt8}(hb:l[d+k]? = some b)(hD:isD b=true)(h9:k≠9):Rdg l d (k+1)∧(l.drop d).take (k+1)=(l.drop d).take k ++ [b]:=by
 have h1:=(List.getElem?_eq_some_iff.1 hb).1;have e:(l.drop d)[k]? = some b:=by rw[List.getElem?_drop];exact hb
 have e:=b3A e;refine⟨⟨by have:=h.k9;omega,by omega,λc hc=>?_⟩,e⟩;rw[e] at hc;rcases List.mem_append.1 hc with q | q
 ·exact h.all c q
 ·rw[List.mem_singleton.1 q];exact hD
theorem Rdg.no{l:List UInt8}{d k:Nat}(h:Rdg l d k){b:UInt8}(hb:l[d+k]? = some b)(hD:isD b=false∨k=9):a5O (l.drop d)=none:=by
 have h1:=(List.getElem?_eq_some_iff.1 hb).1;unfold a5O;rw[if_neg];rintro⟨_,h9,ha⟩;rw[List.length_drop] at h9;rcases hD with q | q
 ·have e:(l.drop d)[k]? = some b:=by rw[List.getElem?_drop];exact hb
  rw[List.all_eq_true.1 ha b (List.mem_of_getElem? e)] at q;cases q
 ·omega
theorem Rdg.yes{l:List UInt8}{d k:Nat}(h:Rdg l d k)(he:d+k=l.length)(hk:k≠0):a5O (l.drop d)=some (a5s ((l.drop d).take k)):=by
 have:(l.drop d).take k=l.drop d:=List.take_of_length_le (by simp;omega);have ha:=h.all;rw[this] at ha ⊢;unfold a5O;have:=h.k9;rw[if_pos ⟨by simp;omega,by simp;omega,List.all_eq_true.2 ha⟩]
theorem b7s(s:ByteArray)(hs:s.size<1000000000):L5 s=some (b0Y (bts s)):=by
 have hl:=a9g s;generalize hL:bts s=l at hl;unfold L5;simp only[jn];refine b1F (λ(x:Int × Int × Int × Nat)=>∃d k,x.1=a5s ((l.drop d).take k)∧x.2.1=(k:Int)∧x.2.2.2=d+k∧Rdg l d k∧(Sgn l d x.2.2.1∨d=0∧k=0∧x.2.2.1=1)) (λx=>s.size-x.2.2.2) ⟨0,0,rfl,rfl,rfl,⟨by omega,by omega,λb hb=>by simp at hb⟩,.inr ⟨rfl,rfl,rfl⟩⟩ (by simp only;omega) ?_;rintro⟨n,kk,sg,p⟩ ⟨d,k,h1,h2,h3,hR,hG⟩;simp only at h1 h2 h3 hG;subst h1;subst h2;subst h3;have hbd:=hR.bd;have hle:=hR.le;have h9:=hR.k9;by_cases hp:d+k<s.size
 ·obtain⟨b,hb,q1,q2,q3⟩:=b5Y hp;rw[hL] at hb;rw[if_pos (by simpa using hp)];by_cases c0:d+k=0∧(dec s (d+k)).1=45
  ·obtain⟨c1,c2⟩:=c0;obtain⟨e1,e2⟩:=q1 (by omega);have hd:d=0:=by omega
   have hk:k=0:=by omega
   subst hd;subst hk;have e3:b=45:=(b3E (n:=45) (by decide)).2 (by omega);refine .inl ⟨_,if_pos (by simp[c2]),⟨1,0,?_,rfl,by simp[e2],⟨by omega,by omega,λb hb=>by simp at hb⟩,.inl (.inr ⟨rfl,rfl,by rw[hb,e3]⟩)⟩,by simp only[e2];omega⟩;simp[a5s]
  have hS:Sgn l d sg:=by
   rcases hG with q | ⟨rfl,rfl,rfl⟩
   ·exact q
   refine .inl ⟨rfl,rfl,λe=>?_⟩;rw[hb] at e;have e4:b.toNat=45:=(b3E (n:=45) (by decide)).1 (Option.some.inj e);exact c0 ⟨rfl,by rw[q2 (by omega)];exact e4⟩
  rw[if_neg (by simp only[Bool.and_eq_true,beq_iff_eq];omega)];by_cases c1:isD b=true∧k≠9
  ·obtain⟨hD,k9⟩:=c1;have hDb:=(a6U b).1 hD;have e1:=q2 (by omega);obtain⟨_,e2⟩:=q1 (by omega);obtain⟨u1,u2⟩:=hR.up hb hD k9;refine .inl ⟨_,if_neg (by simp only[Bool.or_eq_true,decide_eq_true_eq,beq_iff_eq];omega),⟨d,k+1,?_,?_,?_,u1,.inl hS⟩,by simp only[e2];omega⟩
   ·simp only;rw[u2,a6c];have hw:IntKind.i32.wrap (((dec s (d+k)).1:Int)-48)=(b.toNat:Int)-48:=by
     have:∀n:Int,0≤n→n≤57→IntKind.i32.wrap n=n:=λn h0 h1=>by
      rw[IntKind.wrap_i32];omega
     rw[e1,this _ (by omega) (by omega)]
    rw[hw,a1q (n:=a5s _*10) (by omega) (by omega),a1q (n:=(b.toNat:Int)-48) (by omega) (by omega),a1q (by omega) (by omega)]
   ·simp only;rw[a5v]
   ·simp only;rw[e2];omega
  ·refine .inr ⟨_,if_pos (by
    simp only[Bool.or_eq_true,decide_eq_true_eq,beq_iff_eq];by_cases c2:k=9
    ·right;omega
    have c3:¬isD b=true:=λq=>c1 ⟨q,c2⟩;rw[a6U] at c3;left;rcases Nat.lt_or_ge (dec s (d+k)).1 128 with q | q
    ·have:=(q1 q).1;omega
    ·omega),?_⟩
   rw[a7F hS,hR.no hb (by
    by_cases c2:k=9
    ·exact .inr c2
    exact .inl (by simpa using λq=>c1 ⟨q,c2⟩))]
   rfl
 ·rw[if_neg (by simpa using hp)];refine .inr ⟨_,rfl,?_⟩;simp only;by_cases hk:k=0
  ·subst hk;rw[if_pos (by rfl)];rcases hG with q | ⟨rfl,_,rfl⟩
   ·rw[a7F q,List.drop_eq_nil_of_le (by omega)];rfl
   ·obtain rfl:l = []:=List.eq_nil_of_length_eq_zero (by omega);rfl
  ·rw[if_neg (by simpa using hk)];have hS:Sgn l d sg:=by
    rcases hG with q | ⟨_,q,_⟩
    ·exact q
    ·exact absurd q hk
   rw[a7F hS,hR.yes (by omega) hk];simp only;rw[a1q (by rcases hS with ⟨_,rfl,_⟩ | ⟨_,rfl,_⟩ <;> omega) (by rcases hS with ⟨_,rfl,_⟩ | ⟨_,rfl,_⟩ <;> omega),Int.mul_comm]
end Go.Sh
namespace Go.Sh
theorem b3y{s:ByteArray}{k:Nat}{b:UInt8}(h:(bts s)[k]? = some b):six s (k:Int)=some (b.toNat:Int):=by
 unfold six;rw[if_pos (by omega)];simp only[Int.toNat_natCast];rw[h];rfl
theorem b41{s:ByteArray}{i j:Nat}(h:i≤j)(hj:j≤s.size):a6K s (i:Int) (j:Int)=some (l6 (((bts s).take j).drop i)):=by
 unfold a6K;rw[if_pos ⟨by omega,by omega,by omega⟩];simp
theorem a6Y{a b:ByteArray}(h:a.size+b.size≤9223372036854775807):a52 a b=some (l6 (bts a++bts b)):=by
 unfold a52;rw[if_pos h]
theorem b04(l:List UInt8)(sg:Int)(hg:sg=1∨sg = -1)(hl:l.length<1000000000) :
  (if ((decide (((l6 l).size:Int)<1))||(decide (((l6 l).size:Int) > 9))) then
   some ((0:Int),false)
  else
   (lp (S:=Int × Int) (E:=(Int × Bool) ⊕ Int) (λ((s16,s17):Int × Int)=>
    if (decide (s17<((l6 l).size:Int))) then
     (six (l6 l) s17).bind λv20=>
     if ((decide (v20<48))||(decide (v20 > 57))) then
      some (.inr (.inl (0,false)))
     else
     some (.inl (C6 ((C6 (10*s16))+(C6 (w8 (v20-48)))),C6 (s17+1)))
    else
    some (.inr (.inr s16))) (0,0)).bind λe15=>
   match e15 with
   | .inl w=>some w
   | .inr w=>some (C6 (sg*w),true))=some (match a5O l with
  | some n=>(sg*n,true)
  | none=>(0,false)):=by
 rw[a0q];by_cases hb:1≤l.length∧l.length≤9
 case neg=>
  rw[if_pos (by simp only[Bool.or_eq_true,decide_eq_true_eq];omega)];unfold a5O;rw[if_neg (λq=>hb ⟨q.1,q.2.1⟩)]
 rw[if_neg (by simp only[Bool.or_eq_true,decide_eq_true_eq];omega)];refine b1F (λ(x:Int × Int)=>∃k:Nat,x.1=a5s (l.take k)∧x.2=(k:Int)∧Rdg l 0 k) (λx=>l.length-x.2.toNat) ⟨0,rfl,rfl,⟨by omega,by omega,λb hb=>by simp at hb⟩⟩ (by simp only;omega) ?_;rintro⟨n,kk⟩ ⟨k,h1,h2,hR⟩;simp only at h1 h2;subst h1;subst h2;have hbd:=hR.bd;simp only[List.drop_zero] at hbd;by_cases hk:k<l.length
 ·obtain⟨b,hb'⟩:∃b,l[k]? = some b:=⟨_,List.getElem?_eq_getElem hk⟩;have hsx:six (l6 l) (k:Int)=some (b.toNat:Int):=b3y (by rw[a1U];exact hb');simp only[Int.ofNat_lt,hk,decide_true,if_true,hsx,b7R];have hbk:l[0+k]? = some b:=by rw[Nat.zero_add];exact hb'
  by_cases hD:isD b=true
  ·have hDb:=(a6U b).1 hD;obtain⟨u1,u2⟩:=hR.up hbk hD (by omega);simp only[List.drop_zero] at u2;refine .inl ⟨_,if_neg (by simp only[Bool.or_eq_true,decide_eq_true_eq];omega),⟨k+1,?_,?_,u1⟩,by simp only[a5v (show k<9223372036854775807 by omega)];omega⟩
   ·simp only;have hw:w8 ((b.toNat:Int)-48)=(b.toNat:Int)-48:=by
     show IntKind.u8.wrap _=_;rw[IntKind.wrap_u8];omega
    rw[u2,a6c,hw,a1q (n:=10*a5s _) (by omega) (by omega),a1q (n:=(b.toNat:Int)-48) (by omega) (by omega),a1q (by omega) (by omega),Int.mul_comm]
   ·simp only;rw[a5v]
  ·have hDb:¬(48≤b.toNat∧b.toNat≤57):=λq=>hD ((a6U b).2 q);refine .inr ⟨_,if_pos (by simp only[Bool.or_eq_true,decide_eq_true_eq];omega),?_⟩;have:=hR.no hbk (.inl (by simpa using hD));simp only[List.drop_zero] at this;rw[this]
 ·have hke:k=l.length:=by have:=hR.le;omega
  simp only[Int.ofNat_lt,hk,decide_false,Bool.false_eq_true,if_false];refine .inr ⟨_,rfl,?_⟩;have:=hR.yes (by omega) (by omega);simp only[List.drop_zero] at this;rw[this];simp only;rw[a1q (by rcases hg with rfl | rfl <;> omega) (by rcases hg with rfl | rfl <;> omega)]
theorem b7G(s:ByteArray)(hs:s.size<1000000000):a2e s=some (b0Y (bts s)):=by
 have hl:=a9g s;have hb:=b4z s;unfold a2e;simp only[jn,b7b];generalize hL:bts s=l at hl hb;cases l with
 | nil=>
  have he:(bts ByteArray.empty:List UInt8) = []:=rfl;rw[he];simp only[beq_self_eq_true,Bool.not_true,Bool.false_eq_true,beq_iff_eq,b63,Bool.false_and,if_false,decide_false,b7R];have:=b04 [] 1 (.inl rfl) (by decide);rw[hb] at this;exact this
 | cons b r=>
  have he:((b::r:List UInt8)==(bts ByteArray.empty))=false:=rfl;rw[he];have h0:six s 0=some (b.toNat:Int):=b3y (k:=0) (by rw[hL];rfl);simp only[Bool.not_false,beq_self_eq_true,b3g,h0,b7R,Bool.true_and];by_cases h45:b=45
  ·subst h45;have hc:a6K s 1 (s.size:Int)=some (l6 r):=by
    have:=b41 (s:=s) (i:=1) (j:=s.size) (by simp at hl;omega) (Nat.le_refl _);rw[hL,List.take_of_length_le (by omega)] at this;exact this
   rw[if_pos (by rfl),hc,b7R];have:=b04 r (-1) (.inr rfl) (by simp at hl;omega);refine this.trans ?_;unfold b0Y;simp only[if_true];cases a5O r;·rfl
   ·simp only[Int.neg_mul,Int.one_mul]
  ·have hn:¬((b.toNat:Int)==45)=true:=λq=>h45 ((b3E (n:=45) (by decide)).2 (by rw[beq_iff_eq] at q;omega));rw[if_neg hn];have:=b04 (b::r) 1 (.inl rfl) (by omega);rw[hb] at this;refine this.trans ?_;unfold b0Y;simp only[if_neg h45];cases a5O (b::r);·rfl
   ·simp only[Int.one_mul]
end Go.Sh
namespace Go.Sh
theorem a42:∀(k u:Nat),(a3T k u).length≤k
 | 0,_=>Nat.le_refl _
 | k+1,u=>by
  unfold a3T;split;·simp
  ·have:=a42 k (u / 10);simp;omega
theorem b0s{n:Int}(h0 : -9223372036854775808≤n)(h1:n≤9223372036854775807):∃l,a4o n=some (l6 l)∧l.length≤21:=by
 unfold a4o;rw[if_pos ⟨h0,h1⟩];refine⟨_,rfl,?_⟩;split
 ·have:=a42 20 n.natAbs;simp;omega
 ·have:=a42 20 n.toNat;omega
theorem b69(n:Int):rem n 10=some (n.tmod 10):=by
 unfold rem;rw[if_neg (by decide)]
theorem b46{d:Nat}(h:d<10):a6K (l6 [48,49,50,51,52,53,54,55,56,57]) (d:Int) (C6 ((d:Int)+1))=some (l6 [UInt8.ofNat (48+d)]):=by
 rw[a5v];have:d=0∨d=1∨d=2∨d=3∨d=4∨d=5∨d=6∨d=7∨d=8∨d=9:=by omega
 rcases this with rfl | rfl | rfl | rfl | rfl | rfl | rfl | rfl | rfl | rfl <;> rfl
theorem b7D(i:Nat):10 ^ (i+1)=10 ^ i*10:=rfl
theorem b68{n:Int}(h0 : -9223372036854775808≤n)(h1:n≤9223372036854775807):a0B n=a4o n:=by
 have key:(lp (S:=Int × ByteArray × Int) (E:=ByteArray) (λ((s19,s20,s21):Int × ByteArray × Int)=>
    if (decide (s21<20)) then
     (rem s19 10).bind λv24=>
     jn (λ(j26:Int)=>
      (a6K (l6 [48,49,50,51,52,53,54,55,56,57]) j26 (C6 (j26+1))).bind λv27=>
      (a52 v27 s20).bind λv28=>
      (quo .i64 s19 10).bind λv29=>
      if (v29==0) then
       some (.inr v28)
      else
      some (.inl (v29,v28,C6 (s21+1)))) (λκ25=>
      if (decide (v24<0)) then
       κ25 (C6 (0-v24))
      else
      κ25 v24)
    else
    some (.inr s20)) (n,ByteArray.empty,0))=some (l6 (a3T 20 n.natAbs)):=by
  refine b44 (b28 (λ(x:Int × ByteArray × Int)=>∃i:Nat,x.2.2=(i:Int)∧i<20∧x.1.natAbs<10 ^ (20-i)∧(-9223372036854775808≤x.1∧x.1≤9223372036854775807)∧(bts x.2.1).length≤i∧a3T 20 n.natAbs=a3T (20-i) x.1.natAbs++bts x.2.1) (λe=>e=l6 (a3T 20 n.natAbs)) (λx=>20-x.2.2.toNat) ⟨0,rfl,by omega,by have:(10:Nat) ^ (20-0)=100000000000000000000:=rfl;simp only;omega,⟨h0,h1⟩,Nat.le_refl _,by simp[bts]⟩ (by simp only;omega) ?_);rintro⟨m,s,ii⟩ ⟨i,e1,hi,hm,hmb,hsl,he⟩;simp only at e1 hm hsl he hmb;subst e1;have hdm:m.natAbs % 10<10:=Nat.mod_lt _ (by decide);have htd:(m.tdiv 10).natAbs=m.natAbs / 10:=Int.natAbs_tdiv m 10;have htm:(m.tmod 10).natAbs=m.natAbs % 10:=Int.natAbs_tmod m 10;have hq:quo .i64 m 10=some (m.tdiv 10):=by
   unfold quo;rw[if_neg (by decide)];congr 1;exact a1q (by omega) (by omega)
  have hstep:∀d:Int,d=((m.natAbs % 10:Nat):Int)→((a6K (l6 [48,49,50,51,52,53,54,55,56,57]) d (C6 (d+1))).bind λv27=>
      (a52 v27 s).bind λv28=>
      (quo .i64 m 10).bind λv29=>
      if (v29==0) then
       some (Sum.inr (α:=Int × ByteArray × Int) v28)
      else
      some (.inl (v29,v28,C6 ((i:Int)+1))))=(if (m.tdiv 10==0) then some (.inr (l6 (UInt8.ofNat (48+m.natAbs % 10)::bts s))) else some (.inl (m.tdiv 10,l6 (UInt8.ofNat (48+m.natAbs % 10)::bts s),((i+1:Nat):Int)))):=λd hd=>by
   rw[hd,b46 hdm,b7R,a6Y (by rw[a0q];have:=a9g s;simp only[List.length_singleton];omega),b7R,hq,b7R,a5v];simp[a1U]
  have hcond:(if decide (((i:Nat):Int)<20)=true then (rem m 10).bind λv24=>jn (λ(j26:Int)=>
      (a6K (l6 [48,49,50,51,52,53,54,55,56,57]) j26 (C6 (j26+1))).bind λv27=>
      (a52 v27 s).bind λv28=>
      (quo .i64 m 10).bind λv29=>
      if (v29==0) then
       some (Sum.inr (α:=Int × ByteArray × Int) v28)
      else
      some (.inl (v29,v28,C6 ((i:Int)+1)))) (λκ25=>
      if (decide (v24<0)) then
       κ25 (C6 (0-v24))
      else
      κ25 v24) else some (.inr s))=(if (m.tdiv 10==0) then some (.inr (l6 (UInt8.ofNat (48+m.natAbs % 10)::bts s))) else some (.inl (m.tdiv 10,l6 (UInt8.ofNat (48+m.natAbs % 10)::bts s),((i+1:Nat):Int)))):=by
   rw[if_pos (by simp;omega),b69,b7R];simp only[jn];split
   ·rename_i q;rw[decide_eq_true_eq] at q;exact hstep _ (by rw[a1q (by omega) (by omega)];omega)
   ·rename_i q;rw[decide_eq_true_eq] at q;exact hstep _ (by omega)
  have hdg:a3T (20-i) m.natAbs=if m.natAbs<10 then [UInt8.ofNat (48+m.natAbs)] else a3T (20-(i+1)) (m.natAbs / 10) ++ [UInt8.ofNat (48+m.natAbs % 10)]:=by
   obtain⟨k,hk⟩:∃k,20-i=k+1:=⟨19-i,by omega⟩;rw[hk,a3T,show 20-(i+1)=k by omega]
  by_cases hz:m.natAbs<10
  ·refine .inr ⟨_,hcond.trans (if_pos (by rw[beq_iff_eq];omega)),?_⟩;rw[he,hdg,if_pos hz,Nat.mod_eq_of_lt hz];rfl
  ·refine .inl ⟨_,hcond.trans (if_neg (by rw[beq_iff_eq];omega)),⟨i+1,rfl,?_,?_,?_,?_,?_⟩,by simp only[Int.toNat_natCast];omega⟩
   ·rcases Nat.lt_or_ge i 19 with q | q
    ·omega
    ·obtain rfl:i=19:=by omega
     have:(10:Nat) ^ (20-19)=10:=rfl;omega
   ·simp only;rw[htd];rcases Nat.lt_or_ge i 19 with q | q
    ·have e:20-i=(20-(i+1))+1:=by omega
     rw[e,b7D] at hm;omega
    ·obtain rfl:i=19:=by omega
     have:(10:Nat) ^ (20-19)=10:=rfl;omega
   ·simp only;omega
   ·simp only[a1U,List.length_cons];omega
   ·simp only[a1U];rw[he,hdg,if_neg hz,htd,List.append_assoc];rfl
 unfold a0B a4o;rw[if_pos ⟨h0,h1⟩];have hle:=a42 20 n.natAbs;simp only[jn];simp only[jn] at key;split
 ·rename_i q;rw[decide_eq_true_eq] at q;rw[key,b7R,a6Y (by rw[a0q,a0q];simp only[List.length_singleton];omega),b7R,if_pos q,a1U,a1U];rfl
 ·rename_i q;rw[decide_eq_true_eq] at q;rw[key,b7R,a6Y (by have:=a0q (a3T 20 n.natAbs);show 0+_≤_;omega),b7R,if_neg q,a1U,show n.toNat=n.natAbs by omega];rfl
theorem b2d{e:Int}(h0 : -9223372036854775808≤e)(h1:e≤9223372036854775807):∃l,A3 e=some l:=by
 obtain⟨l,q1,q2⟩:=b0s h0 h1;unfold A3;rw[q1,b7R,a6Y (by rw[a0q,a0q];simp only[List.length_cons,List.length_nil];omega)];exact⟨_,rfl⟩
theorem b40{a:r6}(h0 : -9223372036854775808≤a.V∧a.V≤9223372036854775807)(h1 : -9223372036854775808≤a.E∧a.E≤9223372036854775807):∃l,T7 a=some l∧a5m ⟨a.V,a.E⟩=some l:=by
 unfold T7 a5m;simp only;rw[b68 h0.1 h0.2,b68 h1.1 h1.2];obtain⟨m,e1⟩:=b2d h1.1 h1.2;obtain⟨l,q1,q2⟩:=b0s h0.1 h0.2;split
 ·rw[e1];exact⟨m,rfl,e1⟩
 ·rw[q1];exact⟨_,rfl,rfl⟩
end Go.Sh
namespace Go.Sh
set_option maxRecDepth 100000 in
theorem b1U:a3Q=some true:=by kernel_rfl
end Go.Sh
namespace Go.Sh
theorem consoleTexts(s:ByteArray)(a:r6)(hV : -9223372036854775808≤a.V∧a.V≤9223372036854775807)(hE : -9223372036854775808≤a.E∧a.E≤9223372036854775807):N4 s a=some true:=by
 unfold N4;by_cases h:(decide ((s.size:Int) > 100)||decide (a.E<0))=true
 ·rw[h,b1U];rfl
 ·have h':(decide ((s.size:Int) > 100)||decide (a.E<0))=false:=by simpa using h
  rw[h',b1U];simp only[beq_self_eq_true,b3g,b7R,Bool.not_true,Bool.or_self,Bool.false_eq_true,if_false];have hs:s.size≤100:=by
   rw[Bool.or_eq_true,decide_eq_true_eq,decide_eq_true_eq] at h;omega
  obtain⟨l,e1,e2⟩:=b40 hV hE;rw[b7s s (by omega),b7G s (by omega),e1,e2];simp only[b7R,beq_self_eq_true,Bool.and_self,b3g]
end Go.Sh
