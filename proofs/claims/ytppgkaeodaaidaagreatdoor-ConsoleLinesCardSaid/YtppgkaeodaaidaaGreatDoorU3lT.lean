/- A part. -/
import Derived.Test.YtppgkaeodaaidaaGreatDoorU3lSh1
import Derived.Test.YtppgkaeodaaidaaGreatDoorU3lPwE
import Derived.Test.YtppgkaeodaaidaaGreatDoorU3lSh
set_option linter.unusedVariables false
set_option linter.unusedSimpArgs false
set_option linter.unusedSectionVars false
namespace Go.Sh
theorem OS(a:ByteArray):∀(n i:Nat) (r:List UInt8),a.size-i=n->ByteArray.toList.loop a i r=r.reverse++a.data.toList.drop i
 | 0,i,r,h=>by
  rw[ByteArray.toList.loop,za Δ,zcd (Ω (Nat.le_of_sub_eq_zero h)),t6]
 | n+1,i,r,h=>by
  have hi:i<a.size:=Δ
  rw[ByteArray.toList.loop,zc hi,OS a n (i+1) _ Δ];have:i<a.data.toList.length:=Ω hi
  rw[zau this];have e:a.get! i=a.data.toList[i]:=by
   simp[ByteArray.get!,hi,zcq]
  rw[e];simp
theorem Kw(a:ByteArray):a.toList=aA a:=by
 unfold ByteArray.toList;rw[OS a _ 0 [] rfl];rfl
theorem fe(s:ByteArray):(aA s).length=s.size:=Ψ
theorem K9(l:List UInt8):aA (r9 l)=l:=Ψ
theorem Ay(s:ByteArray):r9 (aA s)=s:=by cases s;simp
theorem H9(l:List UInt8):(r9 l).size=l.length:=by simp[ByteArray.size]
variable {s:a7}{p:Nat}{b:UInt8}{k i:Nat}{h g x:Int}
theorem NH{s:ByteArray}(h:(aA s)[p]? = some b):s.get! p=b/\p<s.size:=by
 obtain⟨c,e⟩:=zA.1 h;have a:p<s.size:=Ω c
 refine⟨?_,a⟩;rw[<-e];simp[ByteArray.get!,a,zcq]
theorem uF{s:ByteArray}(h:p<s.size):(aA s)[p]? = some (s.get! p):=by
 have a:p<(aA s).length:=Ω h
 rw[zd a];simp[ByteArray.get!,h,zcq]
theorem Lh{s:ByteArray}{p:Nat}{b:UInt8}(hp:(aA s)[p]? = some b)(h:b.toNat<128):dec s p=(b.toNat,1):=by
 have h0:=(NH hp).1;show Go.Utf8.decode s p=_;unfold Go.Utf8.decode;simp only[zam,h0];rw[zc h]
theorem RR{s:ByteArray}{p:Nat}{b:UInt8}(hp:(aA s)[p]? = some b)(h:128<=b.toNat) :
  128<=(dec s p).1/\1<=(dec s p).2/\∀i,i<(dec s p).2->∃c,(aA s)[p+i]? = some c/\128<=c.toNat:=by
 obtain⟨h0,hs⟩:=NH hp;have one:∀i,i<1->∃c,(aA s)[p+i]? = some c/\128<=c.toNat:=λi hi=>by
  obtain rfl:i=0:=Δ
  exact⟨b,hp,h⟩
 have at_:∀k,(decide (p+k<s.size)&&(s.get! (p+k)).toNat / 64==2)=true->∃c,(aA s)[p+k]? = some c/\128<=c.toNat:=λk hk=>by
  simp only[zo,zI,wl] at hk;exact⟨_,uF hk.1,Δ⟩
 show 128<=(Go.Utf8.decode s p).1/\1<=(Go.Utf8.decode s p).2/\∀i,i<(Go.Utf8.decode s p).2->_;unfold Go.Utf8.decode;simp only[zam,h0];rw[za Δ];split
 .rename_i q;split
  .rename_i a;refine⟨a,Ψ,λi hi=>?_⟩;have q:=(zo _ _▸q).2;have:i=0\/i=1:=by simp at hi;omega
   rcases this with rfl | rfl
   .exact⟨b,hp,h⟩
   .exact at_ 1 q
  .exact⟨Ω5,Ψ,one⟩
 split
 .rename_i q;split
  .rename_i a;simp only[zo] at q;refine⟨?_,Ψ,λi hi=>?_⟩
   .simp only[zo,zI] at a;show 128<=_;omega
   have:i=0\/i=1\/i=2:=by simp at hi;omega
   rcases this with rfl | rfl | rfl
   .exact⟨b,hp,h⟩
   .exact at_ 1 (by rw[zo];exact q.1.2)
   .exact at_ 2 (by rw[zo];exact q.2)
  .exact⟨Ω5,Ψ,one⟩
 split
 .rename_i q;split
  .rename_i a;simp only[zo] at q;refine⟨?_,Ψ,λi hi=>?_⟩
   .simp only[zo,zI] at a;show 128<=_;omega
   have:i=0\/i=1\/i=2\/i=3:=by simp at hi;omega
   rcases this with rfl | rfl | rfl | rfl
   .exact⟨b,hp,h⟩
   .exact at_ 1 (by rw[zo];exact q.1.1.2)
   .exact at_ 2 (by rw[zo];exact q.1.2)
   .exact at_ 3 (by rw[zo];exact q.2)
  .exact⟨Ω5,Ψ,one⟩
 .exact⟨Ω5,Ψ,one⟩
def SO(b:UInt8):Bool:=decide (48<=b.toNat)&&decide (b.toNat<=57)
def wD(l:List UInt8):Int:=l.foldl (λn b=>n*10+((b.toNat:Int)-48)) 0
theorem ya(l:List UInt8)(b:UInt8):wD (l ++ [b])=wD l*10+((b.toNat:Int)-48):=by
 unfold wD;rw[za5];rfl
theorem YB(l:List UInt8)(h:∀b∈l,SO b=true):0<=wD l/\wD l<10 ^ l.length:=by
 generalize hn:l.length=n;induction n generalizing l with
 | zero=>
  obtain rfl:=zN hn;exact⟨Θ,Θ⟩
 | succ n ih=>
  have a:l ≠ []:=λe=>by rw[e] at hn;cases hn
  rw[<-List.dropLast_concat_getLast a,ya];have f:=ih l.dropLast (λb hb=>h b (List.dropLast_subset _ hb)) ΩA;have c:=h _ (List.getLast_mem a);unfold SO at c;simp only[zo,zI] at c;have:(10:Int) ^ (n+1)=10 ^ n*10:=rfl;omega
def xw(l:List UInt8):Option Int:=if 1<=l.length/\l.length<=9/\l.all SO=true then some (wD l) else none
def xx(l:List UInt8):Int × Bool:=match l with
 | []=>(0,false)
 | b::r=>if b=45 then (match xw r with
  | some n=>(-n,true)
  | none=>(0,false)) else (match xw (b::r) with
  | some n=>(n,true)
  | none=>(0,false))
theorem p10(h:k<=9):(10:Int) ^ k<=1000000000:=by
 have:k=0\/k=1\/k=2\/k=3\/k=4\/k=5\/k=6\/k=7\/k=8\/k=9:=Δ
 rcases this with rfl | rfl | rfl | rfl | rfl | rfl | rfl | rfl | rfl | rfl <;> decide
theorem a0n{s:ByteArray}(h:p<s.size):∃b,(aA s)[p]? = some b/\((dec s p).1<128->(dec s p).1=b.toNat/\(dec s p).2=1)/\(b.toNat<128->(dec s p).1=b.toNat)/\1<=(dec s p).2:=by
 refine⟨_,uF h,?_⟩;rcases zE (s.get! p).toNat 128 with q | q
 .rw[Lh (uF h) q];exact⟨λ_=>⟨rfl,rfl⟩,λ_=>rfl,zq _⟩
 .obtain⟨e,a,_⟩:=RR (uF h) q;exact⟨λc=>Δ,λc=>Δ,a⟩
theorem CU{b:UInt8}{n:Nat}(hn:n<256):b=UInt8.ofNat n↔b.toNat=n:=by
 constructor
 .rintro rfl;simp[zca hn]
 .intro h;apply UInt8.toNat_inj.1;rw[h];simp[zca hn]
def Sgn(l:List UInt8)(d:Nat)(sg:Int):Prop:=(d=0/\sg=1/\l[0]? ≠ some 45)\/(d=1/\sg = -1/\l[0]? = some 45)
theorem BX{l:List UInt8}{d:Nat}{sg:Int}(h:Sgn l d sg):xx l=match xw (l.drop d) with
  | some n=>(sg*n,true)
  | none=>(0,false):=by
 cases l with
 | nil=>
  rcases h with ⟨rfl,rfl,h⟩ | ⟨_,_,h⟩;·rfl
  .cases h
 | cons b r=>
  rcases h with ⟨rfl,rfl,h⟩ | ⟨rfl,rfl,h⟩
  .have:b≠45:=λe=>h (by rw[e];rfl);unfold xx;simp only[za this,zby];cases xw (b::r);·rfl
   .simp only[Int.one_mul]
  .have:b=45:=t8 h;unfold xx;simp only[zc this,List.drop_succ_cons,zby];cases xw r;·rfl
   .simp only[Int.neg_mul,Int.one_mul]
theorem AH(b:UInt8):SO b=true↔48<=b.toNat/\b.toNat<=57:=by
 unfold SO;rw[zo,zG,zG]
theorem UR{l:List UInt8}(h:l[k]? = some b):l.take (k+1)=l.take k ++ [b]:=by
 obtain⟨a,c⟩:=zA.1 h;rw[zn a,c]
structure Pa (l:List UInt8) (d k:Nat):Prop where
 k9:k<=9
 le:d+k<=l.length
 all:∀b∈(l.drop d).take k,SO b=true
theorem Pa.len{l:List UInt8}{d:Nat}(h:Pa l d k):((l.drop d).take k).length=k:=by
 have:=h.le;simp;omega
theorem Pa.bd{l:List UInt8}{d:Nat}(h:Pa l d k):0<=wD ((l.drop d).take k)/\wD ((l.drop d).take k)<1000000000:=by
 have a:=YB _ h.all;rw[h.len] at a;have c:=p10 h.k9;omega
theorem Pa.up{l:List UInt8}{d:Nat}(h:Pa l d k)(hb:l[d+k]? = some b)(a:SO b=true)(m:k≠9):Pa l d (k+1)/\(l.drop d).take (k+1)=(l.drop d).take k ++ [b]:=by
 have f:=(zA.1 hb).1;have e:(l.drop d)[k]? = some b:=by rw[pm];exact hb
 have e:=UR e;refine⟨⟨by have:=h.k9;omega,Δ,λc hc=>?_⟩,e⟩;rw[e] at hc;rcases zC.1 hc with q | q
 .exact h.all c q
 .rw[zR.1 q];exact a
theorem Pa.no{l:List UInt8}{d:Nat}(h:Pa l d k)(hb:l[d+k]? = some b)(c:SO b=false\/k=9):xw (l.drop d)=none:=by
 have f:=(zA.1 hb).1;unfold xw;rw[za];rintro⟨_,a,ha⟩;rw[zcb] at a;rcases c with q | q
 .have e:(l.drop d)[k]? = some b:=by rw[pm];exact hb
  rw[zf.1 ha b (zh e)] at q;cases q
 .omega
theorem Pa.yes{l:List UInt8}{d:Nat}(h:Pa l d k)(he:d+k=l.length)(hk:k≠0):xw (l.drop d)=some (wD ((l.drop d).take k)):=by
 have:(l.drop d).take k=l.drop d:=zaj Ξ;have ha:=h.all;rw[this] at ha |-;unfold xw;have:=h.k9;rw[zc ⟨Ξ,Ξ,zf.2 ha⟩]
theorem a3X(s:ByteArray)(hs:s.size<1000000000):bN s=some (xx (aA s)):=by
 have hl:=fe s;generalize G:aA s=l at hl;unfold bN;simp only[jn];refine oJ (λ(x:Int × Int × Int × Nat)=>∃d k,x.1=wD ((l.drop d).take k)/\x.2.1=(k:Int)/\x.2.2.2=d+k/\Pa l d k/\(Sgn l d x.2.2.1\/d=0/\k=0/\x.2.2.1=1)) (λx=>s.size-x.2.2.2) ⟨0,0,rfl,rfl,rfl,⟨Δ,Δ,λb hb=>by simp at hb⟩,.inr ⟨rfl,rfl,rfl⟩⟩ Ωg ?_;rintro⟨n,kk,sg,p⟩ ⟨d,k,m,w,y,hR,f⟩;simp only at m w y f;subst m;subst w;subst y;have H:=hR.bd;have K:=hR.le;have Q:=hR.k9;by_cases hp:d+k<s.size
 .obtain⟨b,hb,r,A,R⟩:=a0n hp;rw[G] at hb;rw[zc (Ω hp)];by_cases c0:d+k=0/\(dec s (d+k)).1=45
  .obtain⟨c1,c2⟩:=c0;obtain⟨u,c⟩:=r Δ;have hd:d=0:=by omega
   have hk:k=0:=Δ
   subst hd;subst hk;have C:b=45:=(CU (n:=45) Θ).2 Δ;refine .inl ⟨_,zc (by simp[c2]),⟨1,0,?_,rfl,by simp[c],⟨Δ,Δ,λb hb=>by simp at hb⟩,.inl (.inr ⟨rfl,rfl,by rw[hb,C]⟩)⟩,by simp only[c];omega⟩;simp[wD]
  have a:Sgn l d sg:=by
   rcases f with q | ⟨rfl,rfl,rfl⟩
   .exact q
   refine .inl ⟨rfl,rfl,λe=>?_⟩;rw[hb] at e;have E:b.toNat=45:=(CU (n:=45) Θ).1 (t8 e);exact c0 ⟨rfl,by rw[A Δ];exact E⟩
  rw[za (by simp only[zo,wl];omega)];by_cases c1:SO b=true/\k≠9
  .obtain⟨z,k9⟩:=c1;have F:=(AH b).1 z;have u:=A Δ;obtain⟨_,c⟩:=r Δ;obtain⟨N,P⟩:=hR.up hb z k9;refine .inl ⟨_,za (by simp only[pi,zI,wl];omega),⟨d,k+1,?_,?_,?_,N,.inl a⟩,by simp only[c];omega⟩
   .simp only;rw[P,ya];have hw:IntKind.i32.wrap (((dec s (d+k)).1:Int)-48)=(b.toNat:Int)-48:=by
     have:∀n:Int,0<=n->n<=57->IntKind.i32.wrap n=n:=λn h0 m=>by
      rw[IntKind.wrap_i32];omega
     rw[u,this _ Δ Δ]
    rw[hw,E3 (n:=wD _*10) Δ Δ,E3 (n:=(b.toNat:Int)-48) Δ Δ,E3 Δ Δ]
   .simp only;rw[p9]
   .simp only;rw[c];omega
  .refine .inr ⟨_,zc (by
    simp only[pi,zI,wl];by_cases c2:k=9
    .right;omega
    have B:¬SO b=true:=λq=>c1 ⟨q,c2⟩;rw[AH] at B;left;rcases zE (dec s (d+k)).1 128 with q | q
    .have:=(r q).1;omega
    .omega),?_⟩
   rw[BX a,hR.no hb (by
    by_cases c2:k=9
    .exact .inr c2
    exact .inl (Ω (λq=>c1 ⟨q,c2⟩)))]
   rfl
 .rw[za (Ω hp)];refine .inr ⟨_,rfl,?_⟩;simp only;by_cases hk:k=0
  .subst hk;rw[zc Ωm];rcases f with q | ⟨rfl,_,rfl⟩
   .rw[BX q,zcd Δ];rfl
   .obtain rfl:l = []:=zN Δ;rfl
  .rw[za (Ω hk)];have a:Sgn l d sg:=by
    rcases f with q | ⟨_,q,_⟩
    .exact q
    .exact absurd q hk
   rw[BX a,hR.yes Δ hk];simp only;rw[E3 (by rcases a with ⟨_,rfl,_⟩ | ⟨_,rfl,_⟩ <;> omega) (by rcases a with ⟨_,rfl,_⟩ | ⟨_,rfl,_⟩ <;> omega),Int.mul_comm]
theorem ME{s:ByteArray}{k:Nat}{b:UInt8}(h:(aA s)[k]? = some b):UK s (k:Int)=some (b.toNat:Int):=by
 unfold UK;rw[zc Δ];simp only[zO];rw[h];rfl
theorem Hy{s:ByteArray}{i j:Nat}(h:i<=j)(hj:j<=s.size):sT s (i:Int) (j:Int)=some (r9 (((aA s).take j).drop i)):=by
 unfold sT;rw[zc ⟨Δ,Δ,Δ⟩];simp
theorem fJ{a b:ByteArray}(h:a.size+b.size<=9223372036854775807):ra a b=some (r9 (aA a++aA b)):=by
 unfold ra;rw[zc h]
theorem Mr(l:List UInt8)(sg:Int)(F:sg=1\/sg = -1)(hl:l.length<1000000000) :
  (if ((decide (((r9 l).size:Int)<1))||(decide (((r9 l).size:Int) > 9))) then
   some ((0:Int),false)
  else
   (lp (S:=Int × Int) (E:=(Int × Bool) ⊕ Int) (λ((m,a):Int × Int)=>
    if (decide (a<((r9 l).size:Int))) then
     (UK (r9 l) a).bind λc=>
     if ((decide (c<48))||(decide (c > 57))) then
      some (.inr (.inl (0,false)))
     else
     some (.inl (z8 ((z8 (10*m))+(z8 (w8 (c-48)))),z8 (a+1)))
    else
    some (.inr (.inr m))) (0,0)).bind λu=>
   match u with
   | .inl w=>some w
   | .inr w=>some (z8 (sg*w),true))=some (match xw l with
  | some n=>(sg*n,true)
  | none=>(0,false)):=by
 rw[H9];by_cases hb:1<=l.length/\l.length<=9
 case neg=>
  rw[zc Ωu];unfold xw;rw[za (λq=>hb ⟨q.1,q.2.1⟩)]
 rw[za Ωu];refine oJ (λ(x:Int × Int)=>∃k:Nat,x.1=wD (l.take k)/\x.2=(k:Int)/\Pa l 0 k) (λx=>l.length-x.2.toNat) ⟨0,rfl,rfl,⟨Δ,Δ,λb hb=>by simp at hb⟩⟩ Ωg ?_;rintro⟨n,kk⟩ ⟨k,B,C,hR⟩;simp only at B C;subst B;subst C;have z:=hR.bd;simp only[zby] at z;by_cases hk:k<l.length
 .obtain⟨b,e⟩:∃b,l[k]? = some b:=⟨_,zd hk⟩;have A:UK (r9 l) (k:Int)=some (b.toNat:Int):=ME (by rw[K9];exact e);simp only[zQ,hk,zY,wd,A,a4L];have f:l[0+k]? = some b:=by rw[m7];exact e
  by_cases r:SO b=true
  .have y:=(AH b).1 r;obtain⟨K,G⟩:=hR.up f r Δ;simp only[zby] at G;refine .inl ⟨_,za Ωu,⟨k+1,?_,?_,K⟩,by simp only[p9 (show k<9223372036854775807 by omega)];omega⟩
   .simp only;have hw:w8 ((b.toNat:Int)-48)=(b.toNat:Int)-48:=by
     show IntKind.u8.wrap _=_;rw[IntKind.wrap_u8];omega
    rw[G,ya,hw,E3 (n:=10*wD _) Δ Δ,E3 (n:=(b.toNat:Int)-48) Δ Δ,E3 Δ Δ,Int.mul_comm]
   .simp only;rw[p9]
  .have y:¬(48<=b.toNat/\b.toNat<=57):=λq=>r ((AH b).2 q);refine .inr ⟨_,zc Ωu,?_⟩;have:=hR.no f (.inl (Ω r));simp only[zby] at this;rw[this]
 .have H:k=l.length:=by have:=hR.le;omega
  simp only[zQ,hk,zab,zj,wf];refine .inr ⟨_,rfl,?_⟩;have:=hR.yes Δ Δ;simp only[zby] at this;rw[this];simp only;rw[E3 (by rcases F with rfl | rfl <;> omega) (by rcases F with rfl | rfl <;> omega)]
theorem a4s(s:ByteArray)(hs:s.size<1000000000):kh s=some (xx (aA s)):=by
 have hl:=fe s;have hb:=Ay s;unfold kh;simp only[jn,Kw];generalize c:aA s=l at hl hb;cases l with
 | nil=>
  have he:(aA ByteArray.empty:List UInt8) = []:=rfl;rw[he];simp only[qr,zbu,zj,wl,BZ,zbi,wf,zab,a4L];have:=Mr [] 1 (.inl rfl) Θ;rw[hb] at this;exact this
 | cons b r=>
  have he:((b::r:List UInt8)==(aA ByteArray.empty))=false:=rfl;rw[he];have h0:UK s 0=some (b.toNat:Int):=ME (k:=0) (by rw[c];rfl);simp only[Bool.not_false,qr,iv,h0,a4L,zag];by_cases a:b=45
  .subst a;have hc:sT s 1 (s.size:Int)=some (r9 r):=by
    have:=Hy (s:=s) (i:=1) (j:=s.size) (by simp at hl;omega) (zq _);rw[c,zaj Δ] at this;exact this
   rw[zc Ωm,hc,a4L];have:=Mr r (-1) (.inr rfl) (by simp at hl;omega);refine this.trans ?_;unfold xx;simp only[wd];cases xw r;·rfl
   .simp only[Int.neg_mul,Int.one_mul]
  .have hn:¬((b.toNat:Int)==45)=true:=λq=>a ((CU (n:=45) Θ).2 (by rw[wl] at q;omega));rw[za hn];have:=Mr (b::r) 1 (.inl rfl) Δ;rw[hb] at this;refine this.trans ?_;unfold xx;simp only[za a];cases xw (b::r);·rfl
   .simp only[Int.one_mul]
theorem uN:∀(k u:Nat),(sL k u).length<=k
 | 0,_=>zq _
 | k+1,u=>by
  unfold sL;split;·simp
  .have:=uN k (u / 10);simp;omega
theorem CN{n:Int}(h0 : -9223372036854775808<=n)(a:n<=9223372036854775807):∃l,nB n=some (r9 l)/\l.length<=21:=by
 unfold nB;rw[zc ⟨h0,a⟩];refine⟨_,rfl,?_⟩;split
 .have:=uN 20 n.natAbs;simp;omega
 .have:=uN 20 n.toNat;omega
theorem a3p(n:Int):rem n 10=some (n.tmod 10):=by
 unfold rem;rw[za Θ]
theorem Yt{d:Nat}(h:d<10):sT (r9 [48,49,50,51,52,53,54,55,56,57]) (d:Int) (z8 ((d:Int)+1))=some (r9 [UInt8.ofNat (48+d)]):=by
 rw[p9];have:d=0\/d=1\/d=2\/d=3\/d=4\/d=5\/d=6\/d=7\/d=8\/d=9:=Δ
 rcases this with rfl | rfl | rfl | rfl | rfl | rfl | rfl | rfl | rfl | rfl <;> rfl
theorem a4q(i:Nat):10 ^ (i+1)=10 ^ i*10:=rfl
theorem XY{n:Int}(h0 : -9223372036854775808<=n)(N:n<=9223372036854775807):ca n=nB n:=by
 have key:(lp (S:=Int × ByteArray × Int) (E:=ByteArray) (λ((A,B,C):Int × ByteArray × Int)=>
    if (decide (C<20)) then
     (rem A 10).bind λr=>
     jn (λ(u:Int)=>
      (sT (r9 [48,49,50,51,52,53,54,55,56,57]) u (z8 (u+1))).bind λw=>
      (ra w B).bind λa=>
      (quo .i64 A 10).bind λc=>
      if (c==0) then
       some (.inr a)
      else
      some (.inl (c,a,z8 (C+1)))) (λf=>
      if (decide (r<0)) then
       f (z8 (0-r))
      else
      f r)
    else
    some (.inr B)) (n,ByteArray.empty,0))=some (r9 (sL 20 n.natAbs)):=by
  refine cP (jX (λ(x:Int × ByteArray × Int)=>∃i:Nat,x.2.2=(i:Int)/\i<20/\x.1.natAbs<10 ^ (20-i)/\(-9223372036854775808<=x.1/\x.1<=9223372036854775807)/\(aA x.2.1).length<=i/\sL 20 n.natAbs=sL (20-i) x.1.natAbs++aA x.2.1) (λe=>e=r9 (sL 20 n.natAbs)) (λx=>20-x.2.2.toNat) ⟨0,rfl,Δ,by have:(10:Nat) ^ (20-0)=100000000000000000000:=rfl;simp only;omega,⟨h0,N⟩,zq _,by simp[aA]⟩ Ωg ?_);rintro⟨m,s,ii⟩ ⟨i,K,hi,hm,G,H,he⟩;simp only at K hm H he G;subst K;have F:m.natAbs % 10<10:=Nat.mod_lt _ Θ;have z:(m.tdiv 10).natAbs=m.natAbs / 10:=Int.natAbs_tdiv m 10;have R:(m.tmod 10).natAbs=m.natAbs % 10:=Int.natAbs_tmod m 10;have Q:quo .i64 m 10=some (m.tdiv 10):=by
   unfold quo;rw[za Θ];congr 1;exact E3 Δ Δ
  have hstep:∀d:Int,d=((m.natAbs % 10:Nat):Int)->((sT (r9 [48,49,50,51,52,53,54,55,56,57]) d (z8 (d+1))).bind λw=>
      (ra w s).bind λa=>
      (quo .i64 m 10).bind λc=>
      if (c==0) then
       some (Sum.inr (α:=Int × ByteArray × Int) a)
      else
      some (.inl (c,a,z8 ((i:Int)+1))))=(if (m.tdiv 10==0) then some (.inr (r9 (UInt8.ofNat (48+m.natAbs % 10)::aA s))) else some (.inl (m.tdiv 10,r9 (UInt8.ofNat (48+m.natAbs % 10)::aA s),((i+1:Nat):Int)))):=λd hd=>by
   rw[hd,Yt F,a4L,fJ (by rw[H9];have:=fe s;simp only[zJ];omega),a4L,Q,a4L,p9];simp[K9]
  have hcond:(if decide (((i:Nat):Int)<20)=true then (rem m 10).bind λr=>jn (λ(u:Int)=>
      (sT (r9 [48,49,50,51,52,53,54,55,56,57]) u (z8 (u+1))).bind λw=>
      (ra w s).bind λa=>
      (quo .i64 m 10).bind λc=>
      if (c==0) then
       some (Sum.inr (α:=Int × ByteArray × Int) a)
      else
      some (.inl (c,a,z8 ((i:Int)+1)))) (λf=>
      if (decide (r<0)) then
       f (z8 (0-r))
      else
      f r) else some (.inr s))=(if (m.tdiv 10==0) then some (.inr (r9 (UInt8.ofNat (48+m.natAbs % 10)::aA s))) else some (.inl (m.tdiv 10,r9 (UInt8.ofNat (48+m.natAbs % 10)::aA s),((i+1:Nat):Int)))):=by
   rw[zc Ξ,a3p,a4L];simp only[jn];split
   .rename_i q;rw[zI] at q;exact hstep _ (by rw[E3 Δ Δ];omega)
   .rename_i q;rw[zI] at q;exact hstep _ Δ
  have y:sL (20-i) m.natAbs=if m.natAbs<10 then [UInt8.ofNat (48+m.natAbs)] else sL (20-(i+1)) (m.natAbs / 10) ++ [UInt8.ofNat (48+m.natAbs % 10)]:=by
   obtain⟨k,hk⟩:∃k,20-i=k+1:=⟨19-i,Δ⟩;rw[hk,sL,show 20-(i+1)=k by omega]
  by_cases hz:m.natAbs<10
  .refine .inr ⟨_,hcond.trans (zc (by rw[wl];omega)),?_⟩;rw[he,y,zc hz,zca hz];rfl
  .refine .inl ⟨_,hcond.trans (za (by rw[wl];omega)),⟨i+1,rfl,?_,?_,?_,?_,?_⟩,ΩM⟩
   .rcases zE i 19 with q | q
    .omega
    .obtain rfl:i=19:=by omega
     have:(10:Nat) ^ (20-19)=10:=rfl;omega
   .simp only;rw[z];rcases zE i 19 with q | q
    .have e:20-i=(20-(i+1))+1:=by omega
     rw[e,a4q] at hm;omega
    .obtain rfl:i=19:=by omega
     have:(10:Nat) ^ (20-19)=10:=rfl;omega
   .simp only;omega
   .simp only[K9,zl];omega
   .simp only[K9];rw[he,y,za hz,z,pu];rfl
 unfold ca nB;rw[zc ⟨h0,N⟩];have P:=uN 20 n.natAbs;simp only[jn];simp only[jn] at key;split
 .rename_i q;rw[zI] at q;rw[key,a4L,fJ (by rw[H9,H9];simp only[zJ];omega),a4L,zc q,K9,K9];rfl
 .rename_i q;rw[zI] at q;rw[key,a4L,fJ (by have:=H9 (sL 20 n.natAbs);show 0+_<=_;omega),a4L,za q,K9,show n.toNat=n.natAbs by omega];rfl
theorem PK{e:Int}(h0 : -9223372036854775808<=e)(a:e<=9223372036854775807):∃l,D6 e=some l:=by
 obtain⟨l,c,f⟩:=CN h0 a;unfold D6;rw[c,a4L,fJ Δt];exact⟨_,rfl⟩
theorem Yi{a:F4}(h0 : -9223372036854775808<=a.V/\a.V<=9223372036854775807)(c : -9223372036854775808<=a.E/\a.E<=9223372036854775807):∃l,cy a=some l/\nk ⟨a.V,a.E⟩=some l:=by
 unfold cy nk;simp only;rw[XY h0.1 h0.2,XY c.1 c.2];obtain⟨m,e⟩:=PK c.1 c.2;obtain⟨l,f,q⟩:=CN h0.1 h0.2;split
 .rw[e];exact⟨m,rfl,e⟩
 .rw[f];exact⟨_,rfl,rfl⟩
set_option maxRecDepth 100000 in
theorem ON:sH=some true:=Φ
def Dj:List UInt8->List (List UInt8)
 | []=>[[]]
 | b::l=>if b=10 then []::Dj l else match Dj l with
  | x::xs=>(b::x)::xs
  | []=>[[b]]
theorem UM:∀ {l:List UInt8},(∀b∈l,b≠10)->Dj l = [l]
 | [],_=>rfl
 | b::l,h=>by
  have e:=UM (l:=l) λc hc=>h c (zx _ hc);rw[Dj,za (h b (zm ..)),e]
theorem OO{m:List UInt8}:∀ {a:List UInt8},(∀b∈a,b≠10)->Dj (a++10::m)=a::Dj m
 | [],_=>by simp[Dj]
 | b::a,h=>by
  have e:=OO (m:=m) (a:=a) λc hc=>h c (zx _ hc);rw[List.cons_append,Dj,za (h b (zm ..)),e]
theorem SF(s:ByteArray):Go.Lib.indexB s (r9 [10])=Go.Lib.indexByte (aA s) 10:=Go.Lib.one s (r9 [10]) rfl
theorem UN:∀(n:Nat) (s:ByteArray),s.size<=n->(Go.Lib.splitB (r9 [10]) 0 (Go.Lib.countB s (r9 [10])) s).map aA=Dj (aA s):=by
 intro n;induction n with
 | zero=>
  intro s hs;have e:aA s = []:=zN (by have:=fe s;omega);have hi:Go.Lib.indexB s (r9 [10]) = -1:=by rw[SF,e];rfl
  rw[Go.Lib.countB_miss _ _ hi,Go.Lib.splitB_zero,e];simp[Dj,e]
 | succ n ih=>
  intro s hs;rcases Go.Lib.indexB_cases s (r9 [10]) with hi | ⟨i,hi,m⟩
  .rw[Go.Lib.countB_miss _ _ hi,Go.Lib.splitB_zero];rw[SF] at hi;have r:=Go.Lib.indexByte_none hi;rw[UM λb hb e=>by
    obtain⟨k,hk⟩:=za8 hb;exact r k (by rw[hk,e])]
   rfl
  .have C:(1:Nat)<=(r9 [10]:ByteArray).size:=zq 1;rw[Go.Lib.countB_hit s _ i C hi,zbf,Go.Lib.splitB_hit _ _ _ _ i hi];have u:(r9 [10]:ByteArray).size=1:=rfl;rw[u] at m |-;have a:(s.extract (i+1) s.size).size<=n:=by
    rw[ByteArray.size_extract];omega
   rw[ut,ih _ a];rw[SF] at hi;obtain⟨A,B⟩:=Go.Lib.indexByte_some hi;have w:aA (s.extract 0 (i+0))=(aA s).take i:=by rw[Go.Pw.tL,K9];simp
   have y:aA (s.extract (i+1) s.size)=(aA s).drop (i+1):=by
    rw[Go.Pw.tL,K9,zaj (by have:=fe s;omega)]
   rw[w,y];have hl:=(zA.1 A);obtain⟨c,f⟩:=hl;have z:aA s=(aA s).take i++10::(aA s).drop (i+1):=by
    have:=zau c;rw[f] at this;rw[<-this,zck]
   conv=>rhs;rw[z]
   rw[OO λb hb e=>by
    obtain⟨k,hk⟩:=za8 hb;rw[List.getElem?_take] at hk;split at hk
    .rename_i q;exact B k q (by rw[hk,e])
    .cases hk]
theorem QH{s:ByteArray}(h:s.size<1000000000):xU s (r9 [10])=some ((Dj (aA s)).map r9):=by
 unfold xU;rw[zc ⟨Δ,zq 1⟩,<-UN s.size s (zq _),List.map_map];congr 1;conv=>lhs;rw[<-List.map_id (Go.Lib.splitB _ _ _ _)]
 exact we λx _=>(Ay x).symm
def IK(b:UInt8):Bool:=b==9||b==13||b==32
def J1(w:List UInt8)(r:List (List UInt8)):List (List UInt8):=if w = [] then r else r ++ [w]
def br:List UInt8->List (List UInt8)->List UInt8->List (List UInt8)
 | w,r,[]=>J1 w r
 | w,r,b::l=>if IK b=true then br [] (J1 w r) l else br (w ++ [b]) r l
theorem Sj{x:List UInt8}:∀(w:List UInt8) (r:List (List UInt8)) (l:List UInt8),(∀b∈x,IK b=false)->br w r (x++l)=br (w++x) r l:=by
 induction x with
 | nil=>intro w r l _;rw[t6];rfl
 | cons b x ih=>
  intro w r l h;rw[List.cons_append,br,h b (zm ..),za Θ,ih _ _ _ λc hc=>h c (zx _ hc),pu];rfl
theorem SM(h:128<=b.toNat):IK b=false:=by
 unfold IK;rw[zb2,zb2];refine⟨⟨?_,?_⟩,?_⟩ <;> (rw[zb8];rintro rfl;revert h;decide)
theorem SN:IK b=true↔(b.toNat=9\/b.toNat=13\/b.toNat=32):=by
 unfold IK;rw[pi,pi,wl,wl,wl,show (9:UInt8)=UInt8.ofNat 9 from rfl,show (13:UInt8)=UInt8.ofNat 13 from rfl,show (32:UInt8)=UInt8.ofNat 32 from rfl,CU Θ,CU Θ,CU Θ,or_assoc]
def Spn(l:List UInt8)(sp:y7)(x:List UInt8):Prop:=∃i j:Nat,sp.start=i/\sp.end_=j/\i<=j/\j<=l.length/\x=(l.take j).drop i
def QW(l:List UInt8)(sp:List y7)(r:List (List UInt8)):Prop:=sp.length=r.length/\∀(k:Nat) s x,sp[k]? = some s->r[k]? = some x->Spn l s x
theorem QW.snoc{l:List UInt8}{sp:List y7}{r:List (List UInt8)}(h:QW l sp r){s:y7}{x:List UInt8}(hs:Spn l s x):QW l (sp ++ [s]) (r ++ [x]):=by
 refine⟨by rw[zD,zD,h.1];rfl,λk s' x' a c=>?_⟩;rcases Nat.lt_trichotomy k sp.length with q | q | q
 .rw[zU q] at a;rw[zU (by rw[<-h.1];exact q)] at c;exact h.2 k s' x' a c
 .subst q;rw[zK (zq _),Nat.sub_self] at a;rw[h.1,zK (zq _),Nat.sub_self] at c;cases a;cases c;exact hs
 .rw[p0 Ξ] at a;cases a
theorem rm{l:List UInt8}{x:List UInt8}(hi:i<=p)(hx:(l.drop p).take x.length=x)(hl:p+x.length<=l.length):(l.take (p+x.length)).drop i=(l.take p).drop i++x:=by
 rw[List.take_add,hx,List.drop_append_of_le_length (by rw[n9];omega)]
theorem a4j(n:Nat):aS (n:Int)=some (decide (n=9\/n=13\/n=32)):=by
 unfold aS;congr 1;rw[zao];simp only[pi,wl,zI];omega
theorem La{n:Nat}(h:n<1000000000):Bl .i64 (n:Int)<0:=by
 unfold Bl;have e:((BitVec.ofInt IntKind.i64.bits (-1) ^^^ BitVec.ofInt IntKind.i64.bits (n:Int)).toNat:Int)=18446744073709551615-n:=by
  show ((BitVec.ofInt 64 (-1) ^^^ BitVec.ofInt 64 (n:Int)).toNat:Int)=_;have a:BitVec.ofInt 64 (-1)=BitVec.allOnes 64:=Θ
  have c:BitVec.ofInt 64 (n:Int)=BitVec.ofNat 64 n:=BitVec.ofInt_natCast 64 n;rw[a,c,BitVec.allOnes_xor,BitVec.toNat_not,BitVec.toNat_ofNat,zca Δ];omega
 rw[e,IntKind.wrap_i64];omega
theorem PN(s:ByteArray)(hs:s.size<1000000000):G6 s=some ((br [] [] (aA s)).map r9):=by
 have hl:=fe s;unfold G6;simp only[jn];generalize F:aA s=l at hl;have tail:∀(sp:List y7) (r:List (List UInt8)),QW l sp r->sp.length<=1000000001->((mk 16 (sp.length:Int) (ByteArray.empty:ByteArray)).bind λv16=>
    (lp (S:=Int × (List ByteArray)) (E:=(List ByteArray)) (λ((y,C):Int × (List ByteArray))=>
     if (decide (y<(sp.length:Int))) then
      (ix sp y).bind λR=>
      (sT s R.start R.end_).bind λv33=>
      (ix C y).bind λv34=>
      some (.inl (z8 (y+1),(C.set (y).toNat v33)))
     else
     some (.inr C)) (0,v16)).bind λV=>some V)=some (r.map r9):=by
  intro sp r h hn;rw[mJ Δ Δ,a4L];refine N7 sp.length (λk t=>t.length=sp.length/\t.take k=(r.take k).map r9) Δ ⟨Ψ,Ψ⟩ (λk t hk ht=>.inl ?_) λt ht=>⟨_,za Ψ,?_⟩
  .have hr:k<r.length:=by rw[<-h.1];exact hk
   obtain⟨i,j,e1,e2,e3,e4,e5⟩:=h.2 k sp[k] r[k] (zd hk) (zd hr);have hc:sT s sp[k].start sp[k].end_=some (r9 r[k]):=by
    rw[e1,e2,Hy e3 Δ,F,e5]
   have Q:k<t.length:=by rw[ht.1];exact hk
   refine⟨t.set k (r9 r[k]),?_,by rw[zas];exact ht.1,?_⟩
   .dsimp only;rw[zc (Ω hk),x8 hk,a4L,hc,a4L,x8 Q,a4L,p9];rfl
   .rw[zn (by rw[zas];exact Q),List.getElem_set_self,List.take_set_of_le (zq _),ht.2,zn hr,n7];rfl
  .have:=ht.2;rw[<-ht.1,zM,ht.1,h.1,zM] at this;rw[this]
 refine oJ (λ(x:Int × Nat × List y7)=>∃(w:List UInt8) (r:List (List UInt8)),QW l x.2.2 r/\x.2.2.length<=x.2.1/\x.2.1<=l.length/\br [] [] l=br w r (l.drop x.2.1)/\((x.1<0/\w = [])\/(∃i:Nat,x.1=i/\i<x.2.1/\w=(l.take x.2.1).drop i))) (λx=>s.size-x.2.1) ⟨[],[],⟨rfl,λk s x h=>by simp at h⟩,zq _,rg _,rfl,.inl ⟨Θ,rfl⟩⟩ Ωg ?_;rintro⟨a,p,sp⟩ ⟨w,r,z,h2,h3,H,T⟩;simp only at z h2 h3 H T;by_cases hp:p<s.size
 .have f:=uF hp;generalize hbb:s.get! p=b at f;rw[F] at f;have hx:∃x:List UInt8,(dec s p).2=x.length/\1<=x.length/\p+x.length<=l.length/\(l.drop p).take x.length=x/\((x = [b]/\(dec s p).1=b.toNat)\/(128<=(dec s p).1/\IK b=false/\∀c∈x,IK c=false)):=by
   rcases zE b.toNat 128 with q | q
   .refine⟨[b],?_,zq _,Ωs,?_,.inl ⟨rfl,?_⟩⟩;·rw[Lh (b:=b) (by rw[F];exact f) q];rfl
    .obtain⟨q1,q2⟩:=zA.1 f;rw[zau q1,q2];rfl
    .rw[Lh (b:=b) (by rw[F];exact f) q]
   .obtain⟨g1,g2,g3⟩:=RR (b:=b) (by rw[F];exact f) q;rw[F] at g3;have hle:p+(dec s p).2<=l.length:=by
     obtain⟨c,hc,_⟩:=g3 ((dec s p).2-1) Δ;have:=(zA.1 hc).1;omega
    have u:((l.drop p).take (dec s p).2).length=(dec s p).2:=by rw[n9,zcb];omega
    refine⟨(l.drop p).take (dec s p).2,u.symm,by rw[u];exact g2,by rw[u];exact hle,by rw[u],.inr ⟨g1,SM q,λc hc=>?_⟩⟩;obtain⟨k,hk⟩:=za8 hc;have A:=(zA.1 hk).1;rw[u] at A;rw[List.getElem?_take,zc A,pm] at hk;obtain⟨c',K,G⟩:=g3 k A;rw[hk] at K;cases K;exact SM G
  obtain⟨x,x1,x2,x3,x4,x5⟩:=hx;have N:l.drop p=x++l.drop (p+x.length):=by
   conv=>lhs;rw[<-zck x.length (l.drop p),x4,List.drop_drop]
  simp only[zB hp,wd,a4j,a4L,x1];by_cases hB:(dec s p).1=9\/(dec s p).1=13\/(dec s p).1=32
  .have hx':x = [b]/\(dec s p).1=b.toNat:=by
    rcases x5 with q | ⟨q,_⟩
    .exact q
    .omega
   obtain⟨rfl,hb1⟩:=hx';have hBb:IK b=true:=SN.2 Δ;rw[zB hB];simp only[wd];have m:br [] [] l=br [] (J1 w r) (l.drop (p+1)):=by
    rw[H,N,List.singleton_append,br,zc hBb];rfl
   rcases T with ⟨ha,rfl⟩ | ⟨i,rfl,hi,rfl⟩
   .rw[zH Δ];refine .inl ⟨_,rfl,⟨[],r,z,Ωg,Ωg,?_,.inl ⟨ha,rfl⟩⟩,Ωs⟩;rw[m];rfl
   .rw[zB Δ];simp only[wd];rw[B5 Θ Ωs,a4L];have B:(l.take p).drop i ≠ []:=λe=>by
     have:=m9 List.length e;rw[zcb,n9] at this;simp at this;omega
    refine .inl ⟨_,rfl,⟨[],r ++ [(l.take p).drop i],z.snoc ⟨i,p,rfl,rfl,Δ,Δ,rfl⟩,ΩI,Ωs,?_,.inl ⟨La Δ,rfl⟩⟩,Ωs⟩;rw[m];unfold J1;rw[za B];rfl
  .rw[zH hB];simp only[zj,wf];have hxn:∀c∈x,IK c=false:=by
    rcases x5 with ⟨rfl,q⟩ | ⟨_,_,q⟩
    .intro c hc;rw[zR.1 hc];cases hc2:IK b;·rfl
     .have:=SN.1 hc2;omega
    .exact q
   have m:br [] [] l=br (w++x) r (l.drop (p+x.length)):=by
    rw[H,N,Sj _ _ _ hxn]
   rcases T with ⟨ha,rfl⟩ | ⟨i,rfl,hi,rfl⟩
   .rw[zB ha];simp only[wd];refine .inl ⟨_,rfl,⟨x,r,z,Ωg,Ωg,?_,.inr ⟨p,rfl,Ωg,?_⟩⟩,Ωg⟩;·rw[m];rfl
    .simp only;rw[rm (zq _) x4 x3,List.drop_of_length_le (by rw[n9];omega)];rfl
   .rw[zH Δ];simp only[zj,wf];refine .inl ⟨_,rfl,⟨(l.take p).drop i++x,r,z,Ωg,Ωg,m,.inr ⟨i,rfl,Ωg,?_⟩⟩,Ωg⟩;simp only;rw[rm Δ x4 x3]
 .rw[zH hp];simp only[zj,wf];have P:p=l.length:=by omega
  refine .inr ⟨_,rfl,?_⟩;simp only;rw[P,List.drop_length] at H;rw[H];rcases T with ⟨ha,rfl⟩ | ⟨i,rfl,hi,rfl⟩
  .rw[zH Δ];simp only[zj,wf];exact tail sp r z Δ
  .rw[zB Δ];simp only[wd];rw[B5 Θ Ωs,a4L];have B:(l.take p).drop i ≠ []:=λe=>by
    have:=m9 List.length e;rw[zcb,n9] at this;simp at this;omega
   have:=tail (sp ++ [⟨(i:Int),(s.size:Int)⟩]) (r ++ [(l.take p).drop i]) (z.snoc ⟨i,s.size,rfl,rfl,Δ,Δ,by rw[P,hl]⟩) ΩI;rw[this];unfold br J1;rw[za B]
def sX(h:Int):Prop:=1<=h/\(h-1) % 32<24/\(h-1) / 32<=9
instance(h:Int):Decidable (sX h):=by unfold sX;infer_instance
theorem BH(q:sX h):1<=h/\h<=320:=by unfold sX at q;omega
theorem qv{i:Int}(a:0<=i)(c:i<24)(e:0<=g)(f:g<=9):ep i g=some (1+i+32*g):=by
 unfold ep;rw[za Ξ];rw[show z8 (i*1)=i by rw[jw];omega,show z8 (1+i)=1+i by rw[jw];omega,show z8 (g*32)=32*g by rw[jw];omega,show z8 (1+i+32*g)=1+i+32*g by rw[jw];omega]
theorem qE{i:Int}:kc i g=some (if 0<=i/\i<24/\0<=g/\g<=9 then 1+i+32*g else 0):=by
 unfold kc;split;·rename_i h;rw[za (by simp at h;omega)]
 .rename_i h;have h:0<=i/\i<24/\0<=g/\g<=9:=by simp at h;omega
  rw[zc h];rw[show z8 (1+i)=1+i by rw[jw];omega,show z8 (32*g)=32*g by rw[jw];omega,show z8 (1+i+32*g)=1+i+32*g by rw[jw];omega]
theorem pN(hh:h<=9223372036854775807):fm h=some (if sX h then ((h-1) % 32,(h-1) / 32,true) else (-1,-1,false)):=by
 unfold fm;split
 .rename_i q;rw[za (by unfold sX;simp at q;omega)]
 .rename_i q;have q:1<=h:=by simpa using q
  rw[E3 (n:=h-1),pj Δ Δ,a4L,AM Δ Δ Δ,a4L,AM Δ Δ Δ,a4L,Int.ediv_one];split
  .rename_i a;rw[za (by unfold sX;simp at a;omega)]
  .rename_i a;rw[zc (by unfold sX;simp at a;omega)]
theorem jT(hh:h<=9223372036854775807):ig h=some (if sX h then (h-1) % 32 else -1):=by
 unfold ig;rw[pN hh,a4L];split <;> rfl
theorem lR(hh:h<=9223372036854775807):jS h=some (if sX h then (h-1) / 32 else -1):=by
 unfold jS;rw[pN hh,a4L];split <;> rfl
theorem vC:mR h=some (decide (sX h)):=by
 unfold mR;split
 .rename_i q;rw[zH (by unfold sX;simp at q;omega)]
 .rename_i q;have q:1<=h/\h<=400:=by simp at q;omega
  rw[E3 (n:=h-1),pj Δ Δ,a4L,AM Δ Δ Δ,a4L,qE,a4L];congr 1;by_cases k:sX h
  .rw[zB k,zc (by unfold sX at k;omega)];simp;omega
  .rw[zH k,za (by unfold sX at k;omega)];simp;omega
theorem qG:mQ h=some (if sX h then (h-1) % 32 else -1):=by
 unfold mQ;rw[vC,a4L];by_cases k:sX h
 .have:=BH k;rw[zB k,za Ψ,zc k,E3 (n:=h-1),pj Δ Δ,a4L]
 .rw[zH k,zc Ψ,za k]
theorem LX:AN h=some (if sX h then (h-1) / 32 else -1):=by
 unfold AN;rw[vC,a4L];by_cases k:sX h
 .have:=BH k;rw[zB k,za Ψ,zc k,E3 (n:=h-1),AM Δ Δ Δ,a4L]
 .rw[zH k,zc Ψ,za k]
theorem MQ(a b:List Int)(ha:a.length<4611686018427387904):vE a b=some (decide (a=b)):=by
 unfold vE;by_cases hl:a.length=b.length
 .rw[za (by simp[hl])];simp only[jn];refine dU a.length (λk=>∀j (c:j<a.length) (f:j<b.length),j<k->a[j]=b[j]) ha (λ_ _ _ h=>Δ) (λk hk m=>?_) (λm=>?_)
  .have r:k<b.length:=by omega
   simp only[zQ,hk,zY,wd,x8 hk,x8 r,a4L];by_cases e:a[k]=b[k]
   .refine .inl ⟨?_,λj c f hj=>?_⟩;·rw[za (Ω e),p9]
    .rcases zE j k with q | q
     .exact m j c f q
     .have:j=k:=by omega
      subst this;exact e
   .refine .inr ⟨.inl false,by rw[zc (Ω e)],?_⟩;simp only;rw[zH (λq=>e (by subst q;rfl))]
  .refine⟨.inr (),Ψ,?_⟩;simp only;rw[zB (zbd hl λi c f=>m i c f c)]
 .rw[zc (by rw[zcr];omega)];rw[zH (λq=>hl (by rw[q]))]
abbrev z0:u0:=⟨0,0,0,0,false,[]⟩
structure SlO (s:l4):Prop where
 len:s.a8.length<=24
 l0:0<=s.Last
 l9:s.Last<=9
 cell:∀i (h:i<s.a8.length),0<=s.a8[i].State/\s.a8[i].State<=3/\0<=s.a8[i].Gen/\s.a8[i].Gen<=s.Last
theorem nM{s:l4}{i:Int}{c:c5}(hi:i=k)(hk:k<s.a8.length)(hl:s.a8.length<=24):G0 s i c=some ⟨s.a8.set k c,s.Last⟩:=by
 subst hi;unfold G0 B7;rw[P4 Δ Δ,a4L,x8 hk,a4L,zO]
theorem HL{s:l4}(hR:SlO s)(v:u0) :
  (∃i,∃h:i<s.a8.length,s.a8[i].State=0/\(∀j (hj:j<i),s.a8[j].State≠0)/\H6 s v=some (⟨s.a8.set i ⟨1,s.a8[i].Gen,v⟩,s.Last⟩,1+i+32*s.a8[i].Gen,0)) \/
  ((∀i (h:i<s.a8.length),s.a8[i].State≠0)/\H6 s v=some (s,0,4)):=by
 have hlen:=hR.len;by_cases q:∃i,∃h:i<s.a8.length,s.a8[i].State=0
 .obtain⟨i,⟨hi,h0⟩,a⟩:=dP (p:=λi=>∃h:i<s.a8.length,s.a8[i].State=0) q;left;refine⟨i,hi,h0,λj hj=>λe=>by have:=a j ⟨Δ,e⟩;omega,?_⟩;unfold H6;simp only[jn,U1,a4L];have hc:=hR.cell i hi;refine dU s.a8.length (λk=>k<=i) Δ Δ (λk hk c=>?_) (λc=>Δ);rcases zE k i with g | g
  .refine .inl ⟨?_,g⟩;have:s.a8[k].State≠0:=λe=>by have:=a k ⟨hk,e⟩;omega
   simp only[zQ,hk,zY,wd,x8 hk,a4L];rw[za (Ω this),p9]
  .have:k=i:=by omega
   subst this;refine .inr ⟨.inl _,?_,rfl⟩;simp only[zQ,hk,zY,wd,x8 hk,a4L,h0,nM rfl hk hlen];rw[qv Δ Δ hc.2.2.1 (by have:=hR.l9;omega)];simp
 .right;refine⟨λi h e=>q ⟨i,h,e⟩,?_⟩;unfold H6;simp only[jn,U1,a4L];refine dU s.a8.length (λk=>True) Δ trivial (λk hk _=>?_) (λc=>⟨.inr (),Ψ,rfl⟩);refine .inl ⟨?_,trivial⟩;have:s.a8[k].State≠0:=λe=>q ⟨k,hk,e⟩;simp only[zQ,hk,zY,wd,x8 hk,a4L];rw[za (Ω this),p9]
def wM(s:l4)(h:Int)(i:Nat):Prop:=∃hi:i<s.a8.length,sX h/\(h-1) % 32=i/\s.a8[i].Gen=(h-1) / 32/\(s.a8[i].State=1\/s.a8[i].State=2)
theorem fi(s:l4)(hh:h<=9223372036854775807) :
  (∃i,wM s h i/\z6 s h=some ((i:Int),0))\/((∀i,¬wM s h i)/\z6 s h=some (-1,if h=0 then 2 else 3)):=by
 unfold z6;by_cases h0:h=0
 .right;subst h0;exact⟨λi ⟨_,a,_⟩=>by unfold sX at a;omega,Ψ⟩
 .rw[za (Ω h0),jT hh,a4L,za h0];by_cases hd:sX h
  .rw[zc hd];have c:=hd;unfold sX at c;obtain⟨k,hk⟩:∃k:Nat,(h-1) % 32=k:=⟨((h-1) % 32).toNat,Δ⟩;rw[hk];by_cases hl:k<s.a8.length
   .rw[za Ξ,x8 hl,a4L,lR hh,a4L,zc hd];by_cases g:s.a8[k].Gen=(h-1) / 32/\(s.a8[k].State=1\/s.a8[k].State=2)
    .left;refine⟨k,⟨hl,hd,hk,g⟩,?_⟩;rw[za];simp;omega
    .right;refine⟨λi ⟨hi,_,f,e⟩=>?_,?_⟩
     .have:i=k:=by omega
      subst this;exact g e
     .rw[zc];simp;omega
   .right;refine⟨λi ⟨hi,_,f,e⟩=>Δ,?_⟩;rw[zc Ξ]
  .right;refine⟨λi ⟨hi,a,_⟩=>hd a,?_⟩;rw[za hd,zc Ψ]
theorem rG{s:l4}(hf:wM s h i):z6 s h=some ((i:Int),0):=by
 have hh:=BH hf.2.1;rcases fi s (h:=h) Δ with ⟨j,a,c⟩ | ⟨a,_⟩
 .obtain⟨_,_,e,_⟩:=hf;obtain⟨_,_,f,_⟩:=a;have:i=j:=by omega
  subst this;exact c
 .exact absurd hf (a i)
theorem xi{s:l4}(hh:h<=9223372036854775807)(hf:∀i,¬wM s h i):z6 s h=some (-1,if h=0 then 2 else 3):=by
 rcases fi s hh with ⟨j,a,_⟩ | ⟨_,c⟩;·exact absurd a (hf j)
 .exact c
theorem ic(h:Int):(if h=0 then 2 else 3:Int)≠0:=ΩV
theorem IE{s:l4}(hf:wM s h i):∃hi:i<s.a8.length,F5 s h=some (if s.a8[i].State=2 then (z0,3) else (s.a8[i].Val,0)):=by
 refine⟨hf.1,?_⟩;unfold F5;rw[rG hf,a4L,za Ψ,x8 hf.1,a4L];split <;> rename_i q
 .rw[zc (Ω q)]
 .rw[za (Ω q)]
theorem Su{s:l4}(hh:h<=9223372036854775807)(hf:∀i,¬wM s h i):F5 s h=some (z0,if h=0 then 2 else 3):=by
 unfold F5;rw[xi hh hf,a4L,zc (Ω (ic h))]
theorem Kk{s:l4}{h:Int}{v:u0}{i:Nat}(hl:s.a8.length<=24)(hf:wM s h i):∃hi:i<s.a8.length,O7 s h v=some (⟨s.a8.set i ⟨s.a8[i].State,s.a8[i].Gen,v⟩,s.Last⟩,0):=by
 refine⟨hf.1,?_⟩;unfold O7;rw[rG hf,a4L,za Ψ,x8 hf.1,a4L,nM rfl hf.1 hl,a4L]
theorem UJ{s:l4}{v:u0}(hh:h<=9223372036854775807)(hf:∀i,¬wM s h i):O7 s h v=some (s,if h=0 then 2 else 3):=by
 unfold O7;rw[xi hh hf,a4L,zc (Ω (ic h))]
def oo(o:u0):J2:=⟨o.Serial,o.Strong,o.Weak,o.Prog,o.Started,o.Fields⟩
def cO(c:c5):x6:=⟨c.State,c.Gen,oo c.Val⟩
def sO(s:a7):p7:=⟨s.S.a8.map cO,s.S.Last,s.Serial⟩
def Sm(s:a7):Prop:=s.S.a8.length<=30/\∀i (h:i<s.S.a8.length),s.S.a8[i].Val.Fields.length<=10
instance(s:a7):Decidable (Sm s):=by unfold Sm;infer_instance
def Dh(i:Nat)(c:x6):A7:=⟨c.State,c.Gen,(i:Int)⟩
def pl(t:p7):B2:=⟨t.a8.mapIdx Dh,t.Last⟩
theorem jm(t:p7)(h:t.a8.length<=1000):R6 t=some (pl t):=by
 unfold R6;simp only[jn];refine N7 t.a8.length (λk acc=>acc=(t.a8.mapIdx Dh).take k) Δ Ψ (λk acc hk a=>?_) (λacc a=>?_)
 .subst a;refine .inl ⟨_,?_,rfl⟩;simp only[zQ,hk,zY,wd,x8 hk,a4L];rw[B5 Δ Ξ,a4L,p9];have e:(t.a8.mapIdx Dh).take (k+1)=(t.a8.mapIdx Dh).take k ++ [Dh k t.a8[k]]:=by
   rw[List.take_add_one,zd (Ω hk)];simp
  rw[e];rfl
 .subst a;rw[zaj Ψ];exact⟨t.a8.mapIdx Dh,by simp only[zal,zab,zj,wf],rfl⟩
def Vq(c:x6):Prop:=c.State=1\/c.State=2
instance(c:x6):Decidable (Vq c):=by unfold Vq;infer_instance
def a2n(t:p7)(o:J2):Prop:=1<=o.Serial/\o.Serial<=t.Serial/\0<=o.Strong/\0<=o.Weak /\ -1<=o.Prog/\o.Prog<=5/\o.Fields.length<=4
def OZ(o:J2):Prop:=o.Serial=0/\o.Strong=0/\o.Weak=0/\o.Prog=0/\o.Started=false/\o.Fields.length=0
structure wN (t:p7):Prop where
 len:t.a8.length<=24
 l0:0<=t.Last
 l9:t.Last<=9
 V3:0<=t.Serial
 cell:∀i (h:i<t.a8.length),0<=t.a8[i].State/\t.a8[i].State<=3/\0<=t.a8[i].Gen/\t.a8[i].Gen<=t.Last
 no:∀i (h:i<t.a8.length),¬Vq t.a8[i]->OZ t.a8[i].Val
 ok:∀i (h:i<t.a8.length),Vq t.a8[i]->a2n t t.a8[i].Val
 dif:∀i (h:i<t.a8.length) k (hk:k<i),Vq t.a8[i]->Vq t.a8[k]->t.a8[k].Val.Serial≠t.a8[i].Val.Serial
theorem Ko{c:Int->Int->Option Int}{xs:List Int}(key:Int->Int)(hc:∀x y,∃r,c x y=some r/\(r<0↔key x<key y))(hl:xs.length<4611686018427387904) :
  ∃ys,rj c xs=some ys/\ys.Perm xs/\ys.Pairwise (λa b=>key a<=key b):=by
 have hO:=Kq key hc;have hs:∃ys,rj c xs=some ys:=by
  unfold rj;rw[zc hl];split <;> exact⟨_,rfl⟩
 obtain⟨ys,hs⟩:=hs;obtain⟨e,f⟩:=Jp hO.2 xs;rw[(ER hO hs).2] at e f;refine⟨ys,hs,e,f.imp λ{a b} h=>?_⟩;obtain⟨r,m,q⟩:=hc b a;have h:decide ((c b a).getD 0<0)=false:=h;rw[m] at h;have:=of_decide_eq_false h;simp only[wp,q] at this;omega
def bt:Nat->List c5->List Int
 | _,[]=>[]
 | k,c::r=>(if c.State=1 then [1+(k:Int)+32*c.Gen] else [])++bt (k+1) r
theorem rM(c:c5):∀(k:Nat) (xs:List c5),bt k (xs ++ [c])=bt k xs++(if c.State=1 then [1+((k+xs.length:Nat):Int)+32*c.Gen] else [])
 | k,[]=>by simp[bt]
 | k,x::r=>by
  simp only[List.cons_append,bt,rM c (k+1) r,pu,zl];rw[show k+1+r.length=k+(r.length+1) by omega]
theorem mD:∀(k:Nat) (xs:List c5),(bt k xs).length<=xs.length
 | _,[]=>by simp[bt]
 | k,c::r=>by
  have:=mD (k+1) r;simp only[bt,zD,zl];split <;> simp <;> omega
theorem qy{h:Int}:∀ {k:Nat} {xs:List c5},h∈bt k xs↔∃i,∃hi:i<xs.length,xs[i].State=1/\h=1+((k+i:Nat):Int)+32*xs[i].Gen
 | k,[]=>by simp[bt]
 | k,c::r=>by
  simp only[bt,zC,qy (k:=k+1) (xs:=r)];constructor
  .rintro (q | ⟨i,hi,a,e⟩)
   .by_cases hc:c.State=1
    .rw[zc hc] at q;exact⟨0,Ψ,Ω hc,Ω q⟩
    .rw[za hc] at q;cases q
   .exact⟨i+1,Ω hi,Ω a,by simp only[List.getElem_cons_succ];rw[e,show k+1+i=k+(i+1) by omega]⟩
  .rintro⟨i,hi,a,e⟩;cases i with
   | zero=>
    left;simp only[List.getElem_cons_zero] at a e;rw[zc a];simp[e]
   | succ i=>
    right;simp only[List.getElem_cons_succ] at a e;exact⟨i,Ω hi,a,by rw[e,show k+1+i=k+(i+1) by omega]⟩
def sk(cs:List c5)(h:Int):Int:=match cs[((h-1) % 32).toNat]? with
 | some c=>c.Val.Serial
 | none=>0
theorem Km{cs:List c5}(h:i<cs.length)(a:cs.length<=32):sk cs (1+(i:Int)+32*g)=cs[i].Val.Serial:=by
 unfold sk;have:((1+(i:Int)+32*g-1) % 32).toNat=i:=Δ
 rw[this,zd h]
structure Slb (cs:List c5):Prop where
 len:cs.length<=24
 gen:∀i (h:i<cs.length),0<=cs[i].Gen/\cs[i].Gen<=9
theorem En{s:a7}(hR:Slb s.S.a8):∃l,H0 s=some l/\l.Perm (bt 0 s.S.a8)/\l.Pairwise (λa b=>sk s.S.a8 a<=sk s.S.a8 b):=by
 have hlen:=hR.len;unfold H0;simp only[jn];have hh:=mD 0 s.S.a8;have hloop:∃e:List (Int × Int) × List Int,lp (S:=Int × (List (Int × Int)) × (List Int)) (E:=((List (Int × Int)) × (List Int))) (λ((r,w,z):Int × (List (Int × Int)) × (List Int))=>
   if (decide (r<(s.S.a8.length:Int))) then
    ((ix s.S.a8 r).bind λA=>
     if (A.State==1) then
      (ep r A.Gen).bind λC=>
      (app 8 z [C]).bind λK=>
      some (.inl (z8 (r+1),(r7 w C A.Val.Serial),K))
     else
     some (.inl (z8 (r+1),w,z)))
   else
   some (.inr (w,z))) (0,[],[])=some e/\e.2=bt 0 s.S.a8/\∀h∈e.2,C0 e.1 h=some (sk s.S.a8 h):=by
  refine gu (T:=List (Int × Int) × List Int) s.S.a8.length (λk e=>e.2=bt 0 (s.S.a8.take k)/\∀h∈e.2,C0 e.1 h=some (sk s.S.a8 h)) (λe:List (Int × Int) × List Int=>e.2=bt 0 s.S.a8/\∀h∈e.2,C0 e.1 h=some (sk s.S.a8 h)) Δ ⟨by simp[bt],Ψ⟩ (λk e hk G=>?_) (λe G=>?_)
  .obtain⟨f,u⟩:=G;obtain⟨m,l⟩:=e;simp only at f u;left;have hc:=hR.gen k hk;have hl:l.length<=24:=by rw[f];have:=mD 0 (s.S.a8.take k);simp at this;omega
   have et:s.S.a8.take (k+1)=s.S.a8.take k ++ [s.S.a8[k]]:=by rw[List.take_add_one,zd hk];rfl
   have el:(s.S.a8.take k).length=k:=by simp;omega
   by_cases q:s.S.a8[k].State=1
   .refine⟨(r7 m (1+(k:Int)+32*s.S.a8[k].Gen) s.S.a8[k].Val.Serial,l ++ [1+(k:Int)+32*s.S.a8[k].Gen]),?_,?_,?_⟩
    .simp only[zQ,hk,zY,wd,x8 hk,a4L,q,qr];rw[qv Δ Δ hc.1 hc.2,a4L,B5 Δ Ξ,a4L,p9]
    .simp only;rw[et,rM,zc q,el,f,m7]
    .intro h hh;simp only[zC,zR] at hh |-;rw[rQ];rcases hh with hh | rfl
     .split;·rename_i e;rw[e,Km hk Δ]
      .exact u h hh
     .rw[zc rfl,Km hk Δ]
   .refine⟨(m,l),?_,?_,u⟩
    .simp only[zQ,hk,zY,wd,x8 hk,a4L];rw[za (Ω q),p9]
    .simp only;rw[et,rM,za q,f,t6]
  .obtain⟨f,u⟩:=G;obtain⟨m,l⟩:=e;refine⟨(m,l),by simp only[zal,zab,zj,wf],?_,u⟩;simpa using f
 obtain⟨⟨m,l⟩,P,N,F⟩:=hloop;rw[show lp _ _=_ from P,a4L];simp only at N F |-;subst N;obtain⟨ys,Q,H,R⟩:=Ko (c:=λp q=>fO p q m) (xs:=bt 0 s.S.a8) (λh=>(C0 m h).getD 0) (λx y=>by
  unfold fO dH cmp_isNaN_int;simp only[a4L,za6,zj,wf];generalize (C0 m x).getD 0=a;generalize (C0 m y).getD 0=b;by_cases f:a<b
  .rw[zB f];exact⟨-1,rfl,by simp[f]⟩
  .rw[zH f];by_cases u:a > b
   .rw[zB u];exact⟨1,rfl,by simp[f]⟩
   .rw[zH u];exact⟨0,rfl,by simp[f]⟩) Δ
 refine⟨ys,by rw[Q];rfl,H,R.imp_of_mem λ{a b} ha hb B=>?_⟩;rw[F a (H.mem_iff.1 ha),F b (H.mem_iff.1 hb)] at B;simpa using B
theorem pA{key:Int->Int}:∀ {l m:List Int},l.Perm m->l.Pairwise (λa b=>key a<=key b)->m.Pairwise (λa b=>key a<=key b)->(∀a∈l,∀b∈l,key a=key b->a=b)->l=m
 | [],m,hp,_,_,_=>(List.nil_perm.1 hp).symm
 | a::l,[],hp,_,_,_=>by simp at hp
 | a::l,b::m,hp,r,u,hk=>by
  have ha:=q9.1 r;have hb:=q9.1 u;have e:a=b:=by
   have f:b∈a::l:=hp.mem_iff.2 (zm ..);have w:a∈b::m:=hp.mem_iff.1 (zm ..);rcases zV.1 f with q | q
   .exact q.symm
   .rcases zV.1 w with c | c
    .exact c
    .exact hk a (zm ..) b f (Int.le_antisymm (ha.1 b q) (hb.1 a c))
  subst e;rw[pA (List.perm_cons a |>.1 hp) ha.2 hb.2 λx hx y hy=>hk x (zx _ hx) y (zx _ hy)]
theorem F0(s:a7):(sO s).a8.length=s.S.a8.length:=by simp[sO]
theorem OI(s:a7)(i:Int):ix (sO s).a8 i=(ix s.S.a8 i).map cO:=dI cO s.S.a8 i
theorem dV(t:p7):(pl t).a8.length=t.a8.length:=by simp[pl]
theorem Jq{t:p7}(h:k<t.a8.length):ix (pl t).a8 k=some (Dh k t.a8[k]):=by
 rw[x8 (by simpa[pl] using h)];simp[pl]
theorem xh(s:a7)(hh:h<=9223372036854775807):W1 (pl (sO s)) h=z6 s.S h:=by
 unfold W1 z6;rw[qG,jT hh,LX,lR hh];simp only[a4L,dV,F0];generalize (if sX h then (h-1) % 32 else -1:Int)=v;generalize (if sX h then (h-1) / 32 else -1:Int)=g;split;·rfl
 .split;·rfl
  .rename_i q;have q:0<=v/\v<s.S.a8.length:=by simp at q;omega
   obtain⟨k,rfl⟩:∃k:Nat,v=k:=⟨v.toNat,Δ⟩;have hk:k<s.S.a8.length:=Δ
   rw[Jq (by rw[F0];exact hk),x8 hk];simp only[a4L,Dh,sO,rx,cO]
theorem UI(s:a7)(hl:s.S.a8.length<=24)(hh:h<=9223372036854775807)(o:u0):R7 (sO s) h (oo o)=(O8 s h o).map λp=>(sO p.1,p.2):=by
 unfold R7 O8;rw[jm _ Ωz,a4L,xh s hh];rcases fi s.S hh with ⟨i,hf,e⟩ | ⟨hf,e⟩
 .obtain⟨hi,a⟩:=Kk (v:=o) hl hf;rw[e,a];simp only[a4L,za6,zj,wf,ww];unfold dx;rw[P4 Δ Ωz,a4L,x8 Ωx,a4L];simp[sO,cO,oo,zbt]
 .rw[e,UJ hh hf];simp only[a4L];rw[zc (Ω (ic h))];rfl
theorem fI(h:wN (sO s)):s.S.a8.length<=24:=by have:=h.len;rwa [F0] at this
theorem Hu(h:wN (sO s))(i:Nat)(hi:i<s.S.a8.length):0<=s.S.a8[i].State/\s.S.a8[i].State<=3/\0<=s.S.a8[i].Gen/\s.S.a8[i].Gen<=s.S.Last:=by
 have:=h.cell i Ωx;simpa[sO,cO] using this
theorem Hv(h:wN (sO s)):Slb s.S.a8:=⟨fI h,λi hi=>by have:=Hu h i hi;have a:s.S.Last<=9:=h.l9;omega⟩
theorem Uy(h:wN (sO s))(i:Nat)(hi:i<s.S.a8.length)(ht:s.S.a8[i].State=1\/s.S.a8[i].State=2):a2n (sO s) (oo s.S.a8[i].Val):=by
 have:=h.ok i Ωx;simp only[sO,rx,cO,Vq] at this;exact this ht
theorem Ux(h:wN (sO s)){j:Nat}(hi:i<s.S.a8.length)(hj:j<s.S.a8.length)(a:s.S.a8[i].State=1\/s.S.a8[i].State=2)(b:s.S.a8[j].State=1\/s.S.a8[j].State=2)(e:s.S.a8[i].Val.Serial=s.S.a8[j].Val.Serial):i=j:=by
 have key:∀i (hi:i<s.S.a8.length) j (hj:j<i),(s.S.a8[i].State=1\/s.S.a8[i].State=2)->(s.S.a8[j].State=1\/s.S.a8[j].State=2)->s.S.a8[j].Val.Serial≠s.S.a8[i].Val.Serial:=λi hi j hj a b=>by
  have:=h.dif i Ωx j hj;simp only[sO,rx,cO,Vq,oo] at this;exact this a b
 rcases Nat.lt_trichotomy i j with q | q | q
 .exact absurd e (key j hj i q b a)
 .exact q
 .exact absurd e.symm (key i hi j q a b)
theorem mC(hR:wN (sO s))(hx:x∈bt 0 s.S.a8):∃i,∃hi:i<s.S.a8.length,s.S.a8[i].State=1/\x=1+(i:Int)+32*s.S.a8[i].Gen/\wM s.S x i/\sk s.S.a8 x=s.S.a8[i].Val.Serial/\B3 s x=some (s.S.a8[i].Val,0):=by
 obtain⟨i,hi,c,a⟩:=qy.1 hx;rw[m7] at a;have hl:=(fI hR);have hc:=(Hv hR).gen i hi;have hf:wM s.S x i:=⟨hi,by unfold sX;omega,Δ,Δ,.inl c⟩;refine⟨i,hi,c,a,hf,by rw[a];exact Km hi Δ,?_⟩;obtain⟨_,e⟩:=IE hf;unfold B3;rw[e,za Δ];rfl
theorem Sl(hf:wM s.S x i)(a:∀hi:i<s.S.a8.length,s.S.a8[i].State=1):x∈bt 0 s.S.a8:=by
 obtain⟨hi,c,e,f,_⟩:=hf;refine qy.2 ⟨i,hi,a hi,?_⟩;unfold sX at c;rw[m7];omega
theorem HD(hR:wN (sO s)){y:Int}(hx:x∈bt 0 s.S.a8)(hy:y∈bt 0 s.S.a8)(e:sk s.S.a8 x=sk s.S.a8 y):x=y:=by
 obtain⟨i,hi,a,c,_,f,_⟩:=mC hR hx;obtain⟨j,hj,m,q,_,r,_⟩:=mC hR hy;have:=(Ux hR) hi hj (.inl a) (.inl m) (by rw[<-f,<-r];exact e);subst this;rw[c,q]
theorem oD:∀(k:Nat) (cs:List c5),k+cs.length<=32->(bt k cs).Nodup
 | _,[],_=>List.nodup_nil
 | k,c::r,h=>by
  simp only[zl] at h;unfold bt;rw[zb6];refine⟨by split <;> simp,oD (k+1) r Δ,λa ha b hb e=>?_⟩;split at ha
  .simp only[zR] at ha;subst ha;subst e;obtain⟨i,hi,m,f⟩:=qy.1 hb;have:((1+(k:Int)+32*c.Gen)-1) % 32=((1+((k+1+i:Nat):Int)+32*r[i].Gen)-1) % 32:=by rw[f]
   omega
  .cases ha
theorem NR(hR:wN (sO s)):∃l,H0 s=some l/\l.Perm (bt 0 s.S.a8)/\l.Pairwise (λa b=>sk s.S.a8 a<sk s.S.a8 b):=by
 obtain⟨l,e,c,f⟩:=En (Hv hR);refine⟨l,e,c,?_⟩;have hn:l.Nodup:=c.nodup_iff.2 (oD 0 _ (by have:=(fI hR);omega));have:=List.Pairwise.and f hn;refine this.imp_of_mem λ{a b} ha hb ⟨m,r⟩=>?_;rcases Int.lt_or_eq_of_le m with q | q
 .exact q
 .exact absurd (HD hR (c.mem_iff.1 ha) (c.mem_iff.1 hb) q) r
theorem vf:∀(k:Nat) (cs:List c5) (i:Nat) (c:c5) (hi:i<cs.length),cs[i].State≠1->c.State=1->(bt k (cs.set i c)).Perm ((1+((k+i:Nat):Int)+32*c.Gen)::bt k cs)
 | _,[],i,_,hi,_,_=>by simp at hi
 | k,d::r,0,c,hi,a,e=>by
  simp only[List.getElem_cons_zero] at a;simp only[List.set_cons_zero,bt,zc e,za a,zbz,zam];exact List.Perm.refl _
 | k,d::r,i+1,c,hi,a,e=>by
  simp only[List.getElem_cons_succ] at a;simp only[List.set_cons_succ,bt];have:=vf (k+1) r i c (Ω hi) a e;rw[show k+1+i=k+(i+1) by omega] at this;exact (List.Perm.append_left _ this).trans List.perm_middle
theorem a1O{cs:List c5}{c:c5}(h:((x-1) % 32).toNat≠i):sk (cs.set i c) x=sk cs x:=by
 unfold sk;rw[zb0 Δ]
theorem LJ{s:a7}(hR:wN (sO s)){i:Nat}(hi:i<s.S.a8.length)(h0:s.S.a8[i].State=0)(o:u0)(ho:o.Serial=s.Serial+1){l:List Int}(hl:H0 s=some l) :
  H0 ⟨⟨s.S.a8.set i ⟨1,s.S.a8[i].Gen,o⟩,s.S.Last⟩,s.Serial+1⟩=some (l ++ [1+(i:Int)+32*s.S.a8[i].Gen]):=by
 obtain⟨l',e,l1,B⟩:=NR hR;rw[hl] at e;cases e;have hlen:=fI hR;have u:Slb (s.S.a8.set i ⟨1,s.S.a8[i].Gen,o⟩):=⟨Ω hlen,λj hj=>by
  rw[zcc];have:=(Hv hR).gen;split;·exact this i hi
  .exact this j (Ω hj)⟩
 obtain⟨m,C,w,E⟩:=En (s:=⟨⟨s.S.a8.set i ⟨1,s.S.a8[i].Gen,o⟩,s.S.Last⟩,s.Serial+1⟩) u;have hp:=vf 0 s.S.a8 i ⟨1,s.S.a8[i].Gen,o⟩ hi Δ rfl;rw[m7] at hp;have c:∀x∈l,sk (s.S.a8.set i ⟨1,s.S.a8[i].Gen,o⟩) x=sk s.S.a8 x/\sk s.S.a8 x<=s.Serial:=λx hx=>by
  obtain⟨j,hj,y,F,z,A,_⟩:=mC hR (l1.mem_iff.1 hx);refine⟨a1O ?_,?_⟩
  .obtain⟨_,_,q,_⟩:=z;intro e;have:j=i:=by omega
   subst this;omega
  .rw[A];exact (Uy hR j hj (.inl y)).2.1
 have r:sk (s.S.a8.set i ⟨1,s.S.a8[i].Gen,o⟩) (1+(i:Int)+32*s.S.a8[i].Gen)=s.Serial+1:=by
  rw[Km (Ω hi) Ξ];simp[ho]
 rw[C];congr 1;refine pA (key:=sk (s.S.a8.set i ⟨1,s.S.a8[i].Gen,o⟩)) ?_ E ?_ ?_
 .refine w.trans (hp.trans ?_);refine List.Perm.trans (List.Perm.cons _ l1.symm) ?_;exact (List.perm_append_singleton _ _).symm
 .rw[zbb];refine⟨B.imp_of_mem λ{a b} ha hb f=>?_,Ψ,λa ha b hb=>?_⟩;·rw[(c a ha).1,(c b hb).1];omega
  .rw[zR] at hb;subst hb;rw[r,(c a ha).1];have:=(c a ha).2;omega
 .have hm:∀a∈m,a∈l\/a=1+(i:Int)+32*s.S.a8[i].Gen:=λa ha=>by
   have:=hp.mem_iff.1 (w.mem_iff.1 ha);rcases zV.1 this with q | q
   .exact .inr q
   .exact .inl (l1.mem_iff.2 q)
  intro a ha b hb f;rcases hm a ha with qa | rfl <;> rcases hm b hb with qb | rfl
  .rw[(c a qa).1,(c b qb).1] at f;exact HD hR (l1.mem_iff.1 qa) (l1.mem_iff.1 qb) f
  .rw[(c a qa).1,r] at f;have:=(c a qa).2;omega
  .rw[(c b qb).1,r] at f;have:=(c b qb).2;omega
  .rfl
theorem a3a(n last:Int):∃a,jF n last=some a/\AP n last=some (sO a)/\wN (sO a)/\a.S.a8.length<=24/\∀i (h:i<a.S.a8.length),a.S.a8[i].Val.Fields.length<=4:=by
 unfold jF AP aN GQ;by_cases h:0<=n/\n<=24/\0<=last/\last<=9
 .obtain⟨f,m,c,e⟩:=h;obtain⟨k,rfl⟩:∃k:Nat,n=k:=⟨n.toNat,Δ⟩;rw[za Ξ,za Ξ,mJ Δ Δ,mJ Δ Δ];simp only[a4L,zbl];rw[mJ Δ Δ];refine⟨_,rfl,?_,?_,Ξ,λi h=>Ψ⟩;·simp[sO,cO,oo]
  .refine⟨by simp[sO];omega,c,e,by simp[sO],λi h=>?_,λi h=>?_,λi h q=>?_,λi h k hk q=>?_⟩;·simp[sO,cO];omega
   .simp[sO,cO,oo,OZ]
   .exfalso;simp[sO,cO,oo,Vq] at q
   .exfalso;simp[sO,cO,oo,Vq] at q
 .rw[zc Ξ,zc Ξ];simp only[a4L,zT];rw[show mk 80 ((0:Nat):Int) (⟨0,0,⟨0,0,0,0,false,[]⟩⟩:x6)=some [] from rfl];refine⟨_,rfl,rfl,⟨by simp[sO],by simp[sO],by simp[sO],by simp[sO],?_,?_,?_,?_⟩,Ψ,λi h=>by simp at h⟩ <;> (intro i h;simp[sO] at h)
noncomputable def lv(s:a7):List Int:=(H0 s).getD []
def ob(s:a7)(h:Int):u0:=((B3 s h).getD (z0,0)).1
def outs(s:a7)(h:Int):List Int:=nz (ob s h).Fields
def FB(s:a7):Prop:=∀c∈s.S.a8,∀x∈c.Val.Fields,x<=9223372036854775807
section
variable{s:a7}(hR:wN (sO s))
include hR
theorem lg:H0 s=some (lv s)/\(lv s).Perm (bt 0 s.S.a8)/\(lv s).Pairwise (λa b=>sk s.S.a8 a<sk s.S.a8 b):=by
 obtain⟨l,c,e,f⟩:=NR hR;have:lv s=l:=by unfold lv;rw[c];rfl
 rw[this];exact⟨c,e,f⟩
theorem fv:H0 s=some (lv s):=(lg hR).1
variable {h:Int}
theorem xp:h∈lv s↔h∈bt 0 s.S.a8:=(lg hR).2.1.mem_iff
theorem J5:(lv s).length<=24:=by
 rw[(lg hR).2.1.length_eq];exact ul (mD 0 s.S.a8) (fI hR)
theorem vn:(lv s).Nodup:=(lg hR).2.1.nodup_iff.2 (oD 0 _ (by have:=(fI hR);omega))
theorem BR(hh:h∈lv s):B3 s h=some (ob s h,0):=by
 obtain⟨i,hi,_,_,_,_,e⟩:=mC hR ((xp hR).1 hh);unfold ob;rw[e];rfl
theorem Gx(hh:h∈lv s):∃i,∃hi:i<s.S.a8.length,s.S.a8[i].State=1/\h=1+(i:Int)+32*s.S.a8[i].Gen/\wM s.S h i/\ob s h=s.S.a8[i].Val:=by
 obtain⟨i,hi,a,c,f,_,e⟩:=mC hR ((xp hR).1 hh);refine⟨i,hi,a,c,f,?_⟩;unfold ob;rw[e];rfl
theorem lT(hh:h∈lv s):1<=h/\h<=320:=by
 obtain⟨i,hi,_,_,hf,_⟩:=Gx hR hh;exact BH hf.2.1
theorem Zi(hh:h<=9223372036854775807)(hn:h∉lv s):∃e,e≠0/\B3 s h=some (z0,e):=by
 rcases fi s.S hh with ⟨i,hf,_⟩ | ⟨hf,_⟩
 .obtain⟨hi,e⟩:=IE hf;unfold B3;rw[e];by_cases a:s.S.a8[i].State=2
  .rw[zc a];exact⟨3,Θ,rfl⟩
  .exact absurd ((xp hR).2 (Sl hf λ_=>hf.2.2.2.2.resolve_right a)) hn
 .unfold B3;rw[Su hh hf];exact⟨_,ic h,rfl⟩
theorem tv(hh:h<=9223372036854775807)(hn:h∉lv s):ob s h=z0:=by
 obtain⟨e,_,a⟩:=Zi hR hh hn;unfold ob;rw[a];rfl
theorem Y8(hh:h<=9223372036854775807):∃e,B3 s h=some (ob s h,e)/\(e=0↔h∈lv s):=by
 by_cases q:h∈lv s
 .exact⟨0,BR hR q,by simp[q]⟩
 .obtain⟨e,h0,a⟩:=Zi hR hh q;refine⟨e,?_,by simp[h0,q]⟩;rw[a,tv hR hh q]
theorem Oi(hh:h<=9223372036854775807)(hn:h∉lv s):outs s h = []:=by
 unfold outs;rw[tv hR hh hn];rfl
theorem GD(h:Int)(hh:h<=9223372036854775807):(ob s h).Fields.length<=4:=by
 by_cases q:h∈lv s
 .obtain⟨i,hi,a,_,_,e⟩:=Gx hR q;rw[e];exact (Uy hR i hi (.inl a)).2.2.2.2.2.2
 .rw[tv hR hh q];exact rg _
theorem mM(h:Int)(hh:h<=9223372036854775807):(outs s h).length<=4:=ul (Ty _) (GD hR h hh)
theorem XK(hF:FB s){x:Int}(hh:h<=9223372036854775807)(hx:x∈outs s h):x<=9223372036854775807:=by
 by_cases q:h∈lv s
 .obtain⟨i,hi,a,_,_,e⟩:=Gx hR q;unfold outs at hx;rw[e] at hx;exact hF _ (zk hi) x (oO.1 hx).1
 .rw[Oi hR hh q] at hx;cases hx
end
theorem XL{s:a7}{h x:Int}(hx:x∈outs s h):x≠0:=(oO.1 hx).2
theorem mw(s:a7)(hl:s.S.a8.length<=1000){h:Int}(hh:h<=9223372036854775807):K0 (sO s) h=(B3 s h).map λp=>(oo p.1,p.2):=by
 unfold K0 B3 F5 vF;rw[jm _ (by rw[F0];exact hl),a4L,xh s hh];rcases fi s.S hh with ⟨i,hf,e⟩ | ⟨hf,e⟩
 .rw[e];have hi:=hf.1;simp only[a4L,za6,zj,wf];rw[Jq Ωx,x8 hi];simp only[a4L,Dh,sO,rx,cO];split;·rfl
  .simp only[a4L,za6,zj,wf];rw[x8 (Ω hi)];simp[cO,oo]
 .rw[e];simp only[a4L];have a:((if h=0 then 2 else 3:Int) != 0)=true:=by simpa using ic h
  simp only[a,wd,a4L];rfl
theorem UL{s:a7}(hR:wN (sO s)){l:List Int}(hl:∀x∈l,x∈lv s)(hn:l.length<=100) :
  ∃m,ke (sO s) l=some m/\m.Perm l/\m.Pairwise (λa b=>sk s.S.a8 a<=sk s.S.a8 b):=by
 have hfind:∀x∈l,∃i:Nat,∃hi:i<s.S.a8.length,W1 (pl (sO s)) x=some ((i:Int),0)/\s.S.a8[i].Val.Serial=sk s.S.a8 x:=λx hx=>by
  obtain⟨i,hi,_,_,hf,h4,_⟩:=mC hR ((xp hR).1 (hl x hx));refine⟨i,hi,?_,h4.symm⟩;rw[xh s (by have:=BH hf.2.1;omega),rG hf]
 unfold ke;rw[P4 Δ Δ,a4L];simp only[jn];let K:List Int->Nat->Int:=λo a=>sk s.S.a8 (o.getD a 0)
 have hplain:=jm (sO s) (by rw[F0];have:=fI hR;omega);have inner:∀(n:Nat) (o:List Int),n<l.length->o.Perm l->(∀a b,a<b->b<=n->b≠n->K o a<=K o b) ->
   ∃o',lp (S:=Int × (List Int)) (E:=(List Int)) (λ((f,r):Int × (List Int))=>
      if (decide (f > 0)) then
       (R6 (sO s)).bind λA=>
       (ix r (z8 (f-1))).bind λy=>
       (W1 A y).bind λu=>
       (ix r f).bind λB=>
       (W1 A B).bind λw=>
       (B8 (((decide (u.1<0))||(decide (w.1<0)))==false) (⟨0,0,⟨0,0,0,0,false,[]⟩⟩:x6) (ix (sO s).a8 u.1)).bind λQ=>
       (B8 (((decide (u.1<0))||(decide (w.1<0)))==false) (⟨0,0,⟨0,0,0,0,false,[]⟩⟩:x6) (ix (sO s).a8 w.1)).bind λR=>
       if (((decide (u.1<0))||(decide (w.1<0)))||(decide (Q.Val.Serial<=R.Val.Serial))) then
        some (.inr r)
       else
       (ix (r.set (f).toNat y) (z8 (f-1))).bind λv69=>
       some (.inl (z8 (f-1),((r.set (f).toNat y).set (z8 (f-1)).toNat B)))
      else
      some (.inr r)) ((n:Int),o)=some o'/\o'.Perm l/\∀a b,a<b->b<=n->K o' a<=K o' b:=by
  intro n o hn' hp hk;have hbn:(n:Int).toNat<4611686018427387904:=by rw[zO];omega
  refine jX (s0:=((n:Int),o)) (λq=>∃k:Nat,q.1=(k:Int)/\k<=n/\q.2.Perm l/\∀a b,a<b->b<=n->b≠k->K q.2 a<=K q.2 b) (λo'=>o'.Perm l/\∀a b,a<b->b<=n->K o' a<=K o' b) (λq=>q.1.toNat) ⟨n,rfl,zq _,hp,hk⟩ hbn ?_;rintro⟨_,o⟩ ⟨k,rfl,hkn,hp,hk⟩;simp only at hp hk |-;have hol:o.length=l.length:=hp.length_eq;rcases m8 k with rfl | hpos
  .right;refine⟨o,by rw[za Ψ],hp,λa b C F=>hk a b C F Δ⟩
  .obtain⟨j,rfl⟩:∃j,k=j+1:=⟨k-1,Δ⟩;have z:j+1<o.length:=by omega
   have hj:j<o.length:=Δ
   have ew:z8 (((j+1:Nat):Int)-1)=(j:Int):=by rw[E3 Δ Δ];omega
   obtain⟨ia,hia,fa,ka⟩:=hfind o[j] (hp.mem_iff.1 (zk hj));obtain⟨ib,hib,fb,kb⟩:=hfind o[j+1] (hp.mem_iff.1 (zk z));have ea:ix (sO s).a8 (ia:Int)=some (cO s.S.a8[ia]):=by rw[OI,x8 hia];rfl
   have eb:ix (sO s).a8 (ib:Int)=some (cO s.S.a8[ib]):=by rw[OI,x8 hib];rfl
   have V:((decide ((ia:Int)<0))||(decide ((ib:Int)<0)))=false:=Ψ
   have H:decide (((j+1:Nat):Int) > 0)=true:=Ψ
   simp only[H,wd,hplain,ew,x8 hj,x8 z,a4L,fa,fb,V,qr,iv,ea,eb,zbv,cO,oo,ka,kb,zO];have Kj:K o j=sk s.S.a8 o[j]:=by simp[K,List.getD,zd hj]
   have Kj1:K o (j+1)=sk s.S.a8 o[j+1]:=by simp[K,List.getD,zd z]
   by_cases T:sk s.S.a8 o[j]<=sk s.S.a8 o[j+1]
   .right;refine⟨o,by rw[zc (Ω T)],hp,λa b C F=>?_⟩;by_cases e:b=j+1
    .subst e;rcases zE a j with q | q
     .have:=hk a j q Δ Δ;omega
     .have:a=j:=by omega
      subst this;omega
    .exact hk a b C F e
   .left;refine⟨_,by rw[za (Ω T),x8 (Ω hj)];rfl,⟨j,rfl,Δ,?_,λa b C F h3=>?_⟩,by show (j:Int).toNat<((j+1:Nat):Int).toNat;omega⟩;·exact (List.set_set_perm z hj).trans hp
    .have hK:∀c,K ((o.set (j+1) o[j]).set j o[j+1]) c=if c=j then K o (j+1) else if c=j+1 then K o j else K o c:=λc=>by
      simp only[K,List.getD,List.getElem?_set,zas];by_cases c1:c=j
      .subst c1;simp[hj,zd z]
      .by_cases c2:c=j+1
       .subst c2;simp[z,zd hj]
       .rw[za Δ,za Δ,za c1,za c2]
     show K ((o.set (j+1) o[j]).set ((j:Nat):Int).toNat o[j+1]) a<=K ((o.set (j+1) o[j]).set ((j:Nat):Int).toNat o[j+1]) b;rw[zO,hK,hK];by_cases a1:a=j
     .subst a1;rw[zc rfl];by_cases G:b=a+1
      .subst G;rw[za Δ,zc rfl];omega
      .rw[za Δ,za G];exact hk (a+1) b Δ F G
     .rw[za a1];by_cases a2:a=j+1
      .subst a2;rw[zc rfl,za Δ,za Δ];exact hk j b Δ F Δ
      .rw[za a2,za h3];by_cases G:b=j+1
       .subst G;rw[zc rfl];exact hk a j Δ Δ Δ
       .rw[za G];exact hk a b C F G
 have outer:∃m,(lp (S:=Int × (List Int)) (E:=(List Int)) (λ((N,P):Int × (List Int))=>
   if (decide (N<(P.length:Int))) then
     (lp (S:=Int × (List Int)) (E:=(List Int)) (λ((f,r):Int × (List Int))=>
      if (decide (f > 0)) then
       (R6 (sO s)).bind λA=>
       (ix r (z8 (f-1))).bind λy=>
       (W1 A y).bind λu=>
       (ix r f).bind λB=>
       (W1 A B).bind λw=>
       (B8 (((decide (u.1<0))||(decide (w.1<0)))==false) (⟨0,0,⟨0,0,0,0,false,[]⟩⟩:x6) (ix (sO s).a8 u.1)).bind λQ=>
       (B8 (((decide (u.1<0))||(decide (w.1<0)))==false) (⟨0,0,⟨0,0,0,0,false,[]⟩⟩:x6) (ix (sO s).a8 w.1)).bind λR=>
       if (((decide (u.1<0))||(decide (w.1<0)))||(decide (Q.Val.Serial<=R.Val.Serial))) then
        some (.inr r)
       else
       (ix (r.set (f).toNat y) (z8 (f-1))).bind λv69=>
       some (.inl (z8 (f-1),((r.set (f).toNat y).set (z8 (f-1)).toNat B)))
      else
      some (.inr r)) (N,P)).bind λe57=>
     some (.inl (z8 (N+1),e57))
   else
   some (.inr P)) (1,l))=some m/\m.Perm l/\m.Pairwise (λa b=>sk s.S.a8 a<=sk s.S.a8 b):=by
  have hb1:l.length+1-(1:Int).toNat<4611686018427387904:=Δ
  refine jX (s0:=((1:Int),l)) (λq=>∃k:Nat,q.1=(k:Int)/\(k<=l.length\/k=1)/\1<=k/\q.2.Perm l/\∀a b,a<b->b<k->K q.2 a<=K q.2 b) (λ(o':List Int)=>o'.Perm l/\o'.Pairwise (λa b=>sk s.S.a8 a<=sk s.S.a8 b)) (λq=>l.length+1-q.1.toNat) ⟨1,rfl,.inr rfl,Δ,List.Perm.refl _,λa b C F=>Δ⟩ hb1 ?_;rintro⟨_,o⟩ ⟨k,rfl,hkl,hk1,hp,hk⟩;simp only at hp hk |-;have hol:o.length=l.length:=hp.length_eq;rcases zE k l.length with C | C
  .left;obtain⟨o',e1,e2,e3⟩:=inner k o C hp λa b x1 x2 x3=>hk a b x1 Δ;refine⟨(((k+1:Nat):Int),o'),?_,⟨k+1,rfl,Δ,Δ,e2,λa b x1 x2=>e3 a b x1 Δ⟩,by show l.length+1-((k+1:Nat):Int).toNat<l.length+1-(k:Int).toNat;omega⟩;rw[zc Ξ,e1,a4L,p9 Δ]
  .right;refine⟨o,by rw[za Ξ],hp,?_⟩;rw[List.pairwise_iff_getElem];intro i j hi hj hij;have:=hk i j hij Δ;simpa[K,List.getD,zd hi,zd hj] using this
 obtain⟨m,e1,e2,e3⟩:=outer;exact⟨m,by rw[show lp _ _=_ from e1];rfl,e2,e3⟩
theorem qB{s:a7}(hR:wN (sO s)):aW (sO s)=some (lv s):=by
 have hlen:=fI hR;unfold aW;simp only[jn];have hloop:lp (S:=Int × (List Int)) (E:=(List Int)) (λ((c,f):Int × (List Int))=>
   if (decide (c<((sO s).a8.length:Int))) then
     (ix (sO s).a8 c).bind λr=>
     if (r.State==1) then
      (kc c r.Gen).bind λy=>
      (app 8 f [y]).bind λz=>
      some (.inl (z8 (c+1),z))
     else
     some (.inl (z8 (c+1),f))
   else
   some (.inr f)) (0,[])=some (bt 0 s.S.a8):=by
  refine cP (gu (T:=List Int) s.S.a8.length (λk l=>l=bt 0 (s.S.a8.take k)) (λe=>e=bt 0 s.S.a8) Δ (by simp[bt]) (λk l hk w=>?_) (λl w=>?_))
  .subst w;left;have hc:=(Hv hR).gen k hk;have hl:=mD 0 (s.S.a8.take k);have et:s.S.a8.take (k+1)=s.S.a8.take k ++ [s.S.a8[k]]:=by rw[List.take_add_one,zd hk];rfl
   have el:(s.S.a8.take k).length=k:=by simp;omega
   refine⟨_,?_,rfl⟩;simp only[F0,zQ,hk,zY,wd,OI,x8 hk,ww,a4L,cO];rw[et,rM,el,m7];by_cases q:s.S.a8[k].State=1
   .rw[zc (Ω q),zc q,qE,a4L,zc Δ,B5 Δ Ξ,a4L,p9]
   .rw[za (Ω q),za q,p9,t6]
  .subst w;refine⟨_,by simp only[F0,zal,zab,zj,wf];rfl,Ψ⟩
 rw[show lp _ _=_ from hloop,a4L];obtain⟨m,A,u,B⟩:=UL hR (l:=bt 0 s.S.a8) (λx hx=>(xp hR).2 hx) (by have:=mD 0 s.S.a8;omega);rw[A,a4L];congr 1;obtain⟨_,C,F⟩:=lg hR;exact pA (key:=sk s.S.a8) (u.trans C.symm) B (F.imp λh=>Δ) λa ha b hb e=>HD hR (u.mem_iff.1 ha) (u.mem_iff.1 hb) e
theorem Jg(v:List Int)(h:v.length<=1000000):jG v=some (nz v):=by
 unfold jG sF;simp only[jn,a4L];rw[K4 v (λb x=>if x != 0 then b ++ [x] else b) id (λk b=>b.length<=k) Δ Ψ (λk hk b hb=>?_) (λb _=>?_)]
 .simp only[a4L,id];rw[foldl_filter];rfl
 .simp only[zQ,hk,zY,wd,x8 hk,a4L];by_cases q:(v[k] != 0)=true
  .rw[zc (Ω q),zc q,B5 Δ Ξ,a4L,p9];exact⟨rfl,Ξ⟩
  .rw[za (Ω q),za q,p9];exact⟨rfl,Δ⟩
 .simp only[zal,zab,zj,wf];rfl
theorem BW(v:List Int)(h:v.length<=1000000):gx v=some (nz v):=by
 unfold gx;simp only[jn];rw[K4 v (λb x=>if x != 0 then b ++ [x] else b) id (λk b=>b.length<=k) Δ Ψ (λk hk b hb=>?_) (λb _=>?_)]
 .simp only[a4L,id];rw[foldl_filter];rfl
 .simp only[zQ,hk,zY,wd,x8 hk,a4L];by_cases q:(v[k] != 0)=true
  .rw[zc q,zc q,B5 Δ Ξ,a4L,p9];exact⟨rfl,Ξ⟩
  .rw[za q,za q,p9];exact⟨rfl,Δ⟩
 .simp only[zal,zab,zj,wf];rfl
theorem uk(l:List Int)(h:Int)(hl:l.length<=1000000):gA l h=some (bx l h:Int):=by
 unfold gA;simp only[jn];rw[Ep l (λ(b:Int) x=>if (x==h&&h != 0) then b+1 else b) id (λk b=>0<=b/\b<=k) Δ Ψ (λk hk b hb=>?_) (λb _=>?_)]
 .simp only[a4L,id];rw[yp];simp
 .simp only[zQ,hk,zY,wd,x8 hk,a4L];by_cases q:(l[k]==h&&h != 0)=true
  .rw[zc q,zc q,p9,E3 (n:=b+1) Δ Δ];exact⟨rfl,Δ⟩
  .rw[za q,za q,p9];exact⟨rfl,Δ⟩
 .simp only[zal,zab,zj,wf];rfl
noncomputable def ld(s:a7)(h:Int):Nat:=((lv s).map λx=>bx (outs s x) h).sum
theorem NT{s:a7}(hR:wN (sO s)){k:Nat}(hk:k<(lv s).length):(lv s)[k]<=9223372036854775807:=by
 have:=lT hR (zk hk);omega
section
variable{s:a7}(hR:wN (sO s))
include hR
theorem TS{h:Int}(hh:h<=9223372036854775807):nr s h=some (outs s h):=by
 obtain⟨e,a,_⟩:=Y8 hR hh;unfold nr;rw[a,a4L,Jg _ (by have:=GD hR h hh;simp only;omega)];rfl
theorem Jl{h:Int}(hh:h<=9223372036854775807):vL (sO s) h=some (outs s h):=by
 unfold vL;rw[mw s Ω7 hh];obtain⟨e,a,c⟩:=Y8 hR hh;rw[a];simp only[ww,a4L];by_cases q:e=0
 .subst q;rw[za Ψ,BW _ (by have:=GD hR h hh;simp only[oo];omega)];rfl
 .rw[zc (Ω q),Oi hR hh (λf=>q (c.2 f))]
theorem LF(h:Int):ld s h<=96:=by
 have:=HJ (λx=>bx (outs s x) h) 4 (lv s) λx hx=>ul (MI _ _) (mM hR x (by have:=lT hR hx;omega));have:=J5 hR;unfold ld;omega
theorem a2L(h:Int):AU s h=some (ld s h:Int):=by
 unfold AU ph;simp only[jn,a4L];rw[show H0 s=_ from fv hR,a4L];have hl:=J5 hR;rw[K4 (lv s) (λ(b:Int) x=>b+(bx (outs s x) h:Int)) id (λk b=>0<=b/\b<=4*k) Δ Ψ (λk hk b hb=>?_) (λb _=>?_)]
 .simp only[a4L,id];have:=tW (λx=>bx (outs s x) h) (lv s) 0;rw[show ((0:Nat):Int)=0 from rfl] at this;rw[this,m7];rfl
 .have ho:=TS hR (NT hR hk);have f:=mM hR _ (NT hR hk);have ht:=MI (outs s (lv s)[k]) h;simp only[zQ,hk,zY,wd,x8 hk,a4L,ho];rw[K4 (outs s (lv s)[k]) (λ(b:Int) x=>if (x==h&&h != 0) then b+1 else b) id (λj c=>b<=c/\c<=b+j) Δ Ψ (λj hj c hc=>?_) (λc _=>?_)]
  .simp only[a4L,id];rw[yp,p9];exact⟨rfl,Δ⟩
  .simp only[zQ,hj,zY,wd,x8 hj,a4L];have e:=XL (zk hj);by_cases q:(outs s (lv s)[k])[j]=h
   .have a:((outs s (lv s)[k])[j]==h&&h != 0)=true:=by simp only[zo,wl,zcr];omega
    rw[a,zc (Ω q),zc rfl,p9,E3 (n:=c+1) Δ Δ];exact⟨rfl,Δ⟩
   .have a:((outs s (lv s)[k])[j]==h&&h != 0)=false:=by rw[zbj];simp only[ne_eq,zo,wl,zcr];omega
    rw[a,za (Ω q),p9];exact⟨rfl,Ξ⟩
  .simp only[zal,zab,zj,wf];rfl
 .simp only[zal,zab,zj,wf];rfl
theorem Xd(h:Int):GS (sO s) h=some (ld s h:Int):=by
 unfold GS;simp only[jn,qB hR,a4L];have hl:=J5 hR;rw[Ep (lv s) (λ(b:Int) x=>b+(bx (outs s x) h:Int)) id (λk b=>0<=b/\b<=4*k) Δ Ψ (λk hk b hb=>?_) (λb _=>?_)]
 .simp only[a4L,id];have:=tW (λx=>bx (outs s x) h) (lv s) 0;rw[show ((0:Nat):Int)=0 from rfl] at this;rw[this,m7];rfl
 .have a:=mM hR _ (NT hR hk);have ht:=MI (outs s (lv s)[k]) h;simp only[zQ,hk,zY,wd,x8 hk,a4L,Jl hR (NT hR hk)];rw[uk _ _ Δ,a4L,p9,E3 Δ Δ];exact⟨rfl,Δ⟩
 .simp only[zal,zab,zj,wf];rfl
end
section
variable{s:a7}(hR:wN (sO s))(hF:FB s)
include hR hF
end
theorem uP{α:Type}(p:α->Bool):∀l:List α,l.length=(l.filter p).length+(l.filter λx => !p x).length
 | []=>rfl
 | x::l=>by
  have:=uP p l;by_cases h:p x
  .simp[h];omega
  .simp[h];omega
theorem a2O{s:a7}(hR:wN (sO s)){l:List Int}(hp:l.Perm (bt 0 s.S.a8))(hs:l.Pairwise (λa b=>sk s.S.a8 a<sk s.S.a8 b)):lv s=l:=by
 obtain⟨_,c,f⟩:=lg hR;exact pA (key:=sk s.S.a8) (c.trans hp.symm) (f.imp λh=>Δ) (hs.imp λh=>Δ) λa ha b hb e=>HD hR (c.mem_iff.1 ha) (c.mem_iff.1 hb) e
inductive sY (s:a7) (l:List Int):Int->Prop
 | base {h:Int}:h∈l->h∈lv s->sY s l h
 | step {a b:Int}:sY s l a->b∈outs s a->b∈lv s->sY s l b
open Classical in
noncomputable def Ie (s:a7) (l:List Int):List Int:=(lv s).filter λh=>decide (sY s l h)
open Classical in
noncomputable def H4 (s:a7) (l:List Int):List Int:=(lv s).filter λh=>decide (¬sY s l h)
def Cl(s:a7)(l:List Int):Prop:=∀a∈l,∀b∈outs s a,b∈lv s->b∈l
def LB(l:List Int):Prop:=∀x∈l,x<=9223372036854775807
theorem sY.live{s:a7}{l:List Int}{h:Int}(q:sY s l h):h∈lv s:=by cases q <;> assumption
open Classical in
theorem bK {s:a7} {l:List Int} {h:Int}:h∈Ie s l↔sY s l h:=by
 unfold Ie;rw[zy];exact⟨λq=>zbh q.2,λq=>⟨q.live,zB q⟩⟩
theorem Ou{s:a7}(hR:wN (sO s))(l:List Int):(Ie s l).length<=24:=ul (wt ..) (J5 hR)
theorem a1A(s:a7)(l:List Int):Cl s (Ie s l):=λa ha b hb hl=>bK.2 (.step (bK.1 ha) hb hl)
theorem sY.least{s:a7}{l m:List Int}(hc:Cl s m)(hl:∀x∈l,x∈lv s->x∈m){h:Int}(q:sY s l h):h∈m:=by
 induction q with
 | base a c=>exact hl _ a c
 | step _ a c ih=>exact hc _ ih _ a c
theorem sY.mono{s:a7}{l m:List Int}(hl:∀x∈l,x∈lv s->sY s m x){h:Int}(q:sY s l h):sY s m h:=by
 induction q with
 | base a c=>exact hl _ a c
 | step _ a c ih=>exact .step ih a c
theorem EG{s:a7}{l m:List Int}(h:∀x,sY s l x↔sY s m x):Ie s l=Ie s m:=by
 unfold Ie;exact za4 λx _=>zbc.2 (h x)
theorem filter_lt{α:Type}{p q:α->Bool}:∀ {l:List α},(∀x∈l,p x=true->q x=true)->∀x∈l,q x=true->p x=false->(l.filter p).length<(l.filter q).length
 | [],_,x,hx,_,_=>by cases hx
 | y::l,h,x,hx,e,f=>by
  have m:(l.filter p).length<=(l.filter q).length:=by
   have h':∀x∈l,p x=true->q x=true:=λx hx=>h x (zx _ hx);clear h hx;induction l with
   | nil=>simp
   | cons z l ih=>
    have:=ih λx hx=>h' x (zx _ hx);have hz:=h' z (zm ..);simp only[my];by_cases a:p z=true
    .rw[zc a,zc (hz a)];simp only[zl];omega
    .rw[za a];split <;> (try simp only[zl]) <;> omega
  rcases zV.1 hx with rfl | c
  .simp only[my,e,f,wd,zj,wf,zl];omega
  .have:=filter_lt (λx hx=>h x (zx _ hx)) x c e f;have hy:=h y (zm ..);simp only[my];by_cases a:p y=true
   .rw[zc a,zc (hy a)];simp only[zl];omega
   .rw[za a];split <;> (try simp only[zl]) <;> omega
theorem jZ{l m:List Int}(hn:l.Nodup)(h:∀x∈l,x∈m):l.length<=m.length:=by
 induction l generalizing m with
 | nil=>simp
 | cons x l ih=>
  rw[zax] at hn;have hx:=h x (zm ..);have:=ih (m:=m.erase x) hn.2 λy hy=>(List.mem_erase_of_ne (λe=>hn.1 (by subst e;exact hy))).2 (h y (zx _ hy));rw[List.length_erase_of_mem hx] at this;have:0<m.length:=List.length_pos_of_mem hx;simp only[zl];omega
section
variable{s:a7}(hR:wN (sO s))
include hR
theorem PY{h:Int}(hh:h<=9223372036854775807):cL s h=some (decide (h∈lv s)):=by
 obtain⟨e,a,c⟩:=Y8 hR hh;unfold cL;rw[a,a4L];congr 1;rw[zao,wl,zG];exact c
abbrev Mk(m:List (Int × Bool))(x:Int):Prop:=(C0 m x).getD false=true
noncomputable def OU(s:a7)(m:List (Int × Bool)):Nat:=((lv s).filter λx => !(C0 m x).getD false).length
omit hR in
theorem xu (m:List (Int × Bool)) (x y:Int):Mk (r7 m x true) y↔y=x\/Mk m y:=by
 unfold Mk;rw[rQ];by_cases q:y=x
 .simp[q]
 .simp[q]
omit hR in
theorem Yv {m:List (Int × Bool)} {x:Int} (hx:x∈lv s) (hm:¬Mk m x):OU s (r7 m x true)<OU s m:=by
 unfold OU;refine filter_lt (λy _ h=>?_) x hx (by simpa[Mk] using hm) ?_
 .by_cases q:Mk m y
  .have:=(xu m x y).2 (.inr q);unfold Mk at this;rw[this] at h;cases h
  .simpa[Mk] using q
 .have:=(xu m x x).2 (.inl rfl);unfold Mk at this;rw[this];rfl
structure KP (s:a7) (l:List Int) (q:o9) (m:List (Int × Bool)):Prop where
 nd:q.L.Nodup
 cap:q.Cap=((lv s).length:Int)
 mK:∀x∈q.L,Mk m x
 rc:∀x,Mk m x->sY s l x
omit hR in
theorem KP.room {l:List Int} {q:o9} {m:List (Int × Bool)} (h:KP s l q m) {x:Int} (hx:x∈lv s) (hm:¬Mk m x):q.L.length<(lv s).length:=by
 have:(x::q.L).length<=(lv s).length:=jZ (zax.2 ⟨λk=>hm (h.mK x k),h.nd⟩) λy hy=>by
  rcases zV.1 hy with rfl | k
  .exact hx
  .exact (h.rc y (h.mK y k)).live
 simp only[zl] at this;omega
omit hR in
theorem XR {q:o9} {x:Int} (h:(q.L.length:Int)<q.Cap) (a:q.L.length<=1000):V9 q x=some (⟨q.L ++ [x],q.Cap⟩,0):=by
 unfold V9 Q0 W0;rw[a4L,za Ξ];have:=jN (xs:=q.L) (i:=0) (j:=q.L.length) Δ (zq _);rw[show ((0:Nat):Int)=0 from rfl] at this;rw[this];simp only[zM,zby,a4L];rw[B5 Δ Ξ];rfl
omit hR in
theorem a1n {x:Int} {r:List Int} {c:Int} (u:r.length<=1000):dw ⟨x::r,c⟩=some (⟨r,c⟩,x,0):=by
 unfold dw iQ Q0 W0;simp only[a4L,zl];have e:(if (if (((r.length+1:Nat):Int))<1 then (((r.length+1:Nat):Int)) else 1) > 0 then (if (((r.length+1:Nat):Int))<1 then (((r.length+1:Nat):Int)) else 1) else 0:Int)=((1:Nat):Int):=by
  rw[za (show ¬(((r.length+1:Nat):Int)<1) by omega)];rfl
 rw[e];have a:=jN (xs:=x::r) (i:=0) (j:=1) Δ Ψ;have q:=jN (xs:=x::r) (i:=1) (j:=r.length+1) Δ Ψ;rw[show ((0:Nat):Int)=0 from rfl] at a;rw[a,q];simp only[a4L];have f:List.drop 0 (List.take 1 (x::r)) = [x]:=Ψ
 have m:List.drop 1 (List.take (r.length+1) (x::r))=r:=Ψ
 rw[f,m];rfl
abbrev Ju(s:a7)(xs:List Int):Int × o9 × (List (Int × Bool))->Option ((Int × o9 × (List (Int × Bool))) ⊕ (o9 × (List (Int × Bool)))):=
 λ(s114,s115,s116)=>
   if (decide (s114<(xs.length:Int))) then
     (ix xs s114).bind λv126=>
     (cL s v126).bind λv127=>
     if (v127==true) then
      if (!((C0 s116 v126).getD (false:Bool))) then
       (V9 s115 v126).bind λv128=>
       some (.inl (z8 (s114+1),v128.1,(r7 s116 v126 true)))
      else
      some (.inl (z8 (s114+1),s115,s116))
     else
     some (.inl (z8 (s114+1),s115,s116))
   else
   some (.inr (s115,s116))
theorem ED{l xs:List Int}{q:o9}{m:List (Int × Bool)}(E:LB xs)(hlen:xs.length<=1000000)(h0:KP s l q m)(hr:∀x∈xs,x∈lv s->sY s l x) :
  ∃u r,lp (Ju s xs) (0,q,m)=some (u,r)/\KP s l u r/\(∀x,Mk r x↔Mk m x\/x∈xs/\x∈lv s)/\(∀x,Mk r x->Mk m x\/x∈u.L)/\(∀x∈q.L,x∈u.L)/\2*OU s r+u.L.length<=2*OU s m+q.L.length:=by
 have:=gu (f:=Ju s xs) (t0:=(q,m)) xs.length (λk t=>KP s l t.1 t.2/\(∀x,Mk t.2 x↔Mk m x\/x∈xs.take k/\x∈lv s)/\(∀x,Mk t.2 x->Mk m x\/x∈t.1.L)/\(∀x∈q.L,x∈t.1.L)/\2*OU s t.2+t.1.L.length<=2*OU s m+q.L.length)
  (λt=>KP s l t.1 t.2/\(∀x,Mk t.2 x↔Mk m x\/x∈xs/\x∈lv s)/\(∀x,Mk t.2 x->Mk m x\/x∈t.1.L)/\(∀x∈q.L,x∈t.1.L)/\2*OU s t.2+t.1.L.length<=2*OU s m+q.L.length) Δ
  ⟨h0,λx=>Ψ,λx h=>.inl h,λx h=>h,zq _⟩ (λk t hk A=>?_) (λt A=>?_)
 .obtain⟨⟨u,r⟩,H,K⟩:=this;exact⟨u,r,H,K⟩
 .obtain⟨w,c⟩:=t;obtain⟨p1,p2,y,z,F⟩:=A;simp only at p1 p2 y z F;left;have B:=E _ (zk hk);have ht:∀x,x∈xs.take (k+1)↔x∈xs.take k\/x=xs[k]:=λx=>by rw[zn hk,zC,zR]
  simp only[Ju,zQ,hk,zY,wd,x8 hk,a4L,PY hR B];by_cases hv:xs[k]∈lv s
  .rw[zc (Ω hv)];by_cases hm:Mk c xs[k]
   .rw[za (by rw[show (C0 c xs[k]).getD false=true from hm];decide),p9];refine⟨(w,c),rfl,p1,λx=>?_,y,z,F⟩;rw[p2,ht];constructor
    .rintro (a | ⟨a,b⟩);·exact .inl a
     .exact .inr ⟨.inl a,b⟩
    .rintro (a | ⟨a | rfl,b⟩);·exact .inl a
     .exact .inr ⟨a,b⟩
     .exact (p2 _).1 hm
   .have C:(C0 c xs[k]).getD false=false:=by simpa[Mk] using hm
    have hroom:=p1.room hv hm;have G:=J5 hR;rw[zc (by rw[C];decide),XR (by rw[p1.cap];omega) Δ,a4L,p9];refine⟨(⟨w.L ++ [xs[k]],w.Cap⟩,r7 c xs[k] true),rfl,⟨?_,p1.cap,λx hx=>?_,λx hx=>?_⟩,λx=>?_,λx hx=>?_,λx hx=>?_,?_⟩
    .simp only;rw[zb6];refine⟨p1.nd,Ψ,λa ha b hb e=>?_⟩;rw[zR] at hb;subst hb;subst e;exact hm (p1.mK _ ha)
    .simp only[zC,zR] at hx;rw[xu];rcases hx with a | a
     .exact .inr (p1.mK x a)
     .exact .inl a
    .rcases (xu c xs[k] x).1 hx with rfl | a
     .exact hr _ (zk hk) hv
     .exact p1.rc x a
    .simp only;rw[xu,p2,ht];constructor
     .rintro (rfl | a | ⟨a,b⟩);·exact .inr ⟨.inr rfl,hv⟩
      .exact .inl a
      .exact .inr ⟨.inl a,b⟩
     .rintro (a | ⟨a | a,b⟩);·exact .inr (.inl a)
      .exact .inr (.inr ⟨a,b⟩)
      .exact .inl a
    .simp only[zC,zR];rcases (xu c xs[k] x).1 hx with a | a
     .exact .inr (.inr a)
     .rcases y x a with b | b
      .exact .inl b
      .exact .inr (.inl b)
    .simp only[zC];exact .inl (z x hx)
    .have:=Yv hv hm;simp only[zD,zJ];omega
  .rw[za (Ω hv),p9];refine⟨(w,c),rfl,p1,λx=>?_,y,z,F⟩;rw[p2,ht];constructor
   .rintro (a | ⟨a,b⟩);·exact .inl a
    .exact .inr ⟨.inl a,b⟩
   .rintro (a | ⟨a | rfl,b⟩);·exact .inl a
    .exact .inr ⟨a,b⟩
    .exact absurd b hv
 .obtain⟨w,c⟩:=t;refine⟨(w,c),?_,?_⟩;·simp only[Ju,zal,zab,zj,wf]
  .simpa using A
theorem ES(hF:FB s){l:List Int}(hl:LB l)(hlen:l.length<=1000000):∃m,fG s l=some m/\∀x,Mk m x↔sY s l x:=by
 unfold fG gS;simp only[jn,fv hR,a4L];have E:=J5 hR;obtain⟨V,S,e0,i0,i1,i2,i3,i4⟩:=ED hR (l:=l) (xs:=l) (q:=⟨[],((lv s).length:Int)⟩) (m:=[]) hl hlen ⟨List.nodup_nil,rfl,(λx hx=>by cases hx),(λx hx=>by simp[Mk,C0] at hx)⟩ (λx u w=>.base u w);rw[show lp _ _=_ from e0,a4L];simp only;have hu:OU s []<=24:=ul (wt ..) E;obtain⟨m,u,w⟩:=jX (s0:=(V,S)) (f:=λ((A,B):o9 × (List (Int × Bool)))=>
    (Q0 A).bind λN=>
    if (decide (N > 0)) then
     (dw A).bind λC=>
     (nr s C.2.1).bind λP=>
      (lp (Ju s P) (0,C.1,B)).bind λz=>
      (some (.inl (z.1,z.2)):Option ((o9 × List (Int × Bool)) ⊕ List (Int × Bool)))
    else
    some (.inr B)) (λt=>KP s l t.1 t.2/\(∀x∈l,x∈lv s->Mk t.2 x)/\∀a,Mk t.2 a->a∈t.1.L\/∀b∈outs s a,b∈lv s->Mk t.2 b) (λm=>∀x,Mk m x↔sY s l x) (λt=>2*OU s t.2+t.1.L.length)
   ⟨i0,λx u w=>(i1 x).2 (.inr ⟨u,w⟩),λa ha=>.inl ((i2 a ha).resolve_left (by simp[Mk,C0]))⟩ (by show 2*OU s S+V.L.length<_;simp only[zT] at i4;omega) (by
   rintro⟨q,m⟩ ⟨p1,p2,K⟩;simp only at p1 p2 K |-;have Q:=jZ p1.nd λx hx=>(p1.rc x (p1.mK x hx)).live;unfold Q0;rw[a4L];cases e:q.L with
   | nil=>
    right;refine⟨m,by rw[za Ψ],λx=>⟨p1.rc x,λh=>?_⟩⟩;induction h with
    | base a b=>exact p2 _ a b
    | step _ a b ih=>
     rcases K _ ih with c | c
     .rw[e] at c;cases c
     .exact c _ a b
   | cons a r=>
    left;have G:q=⟨a::r,q.Cap⟩:=by rw[<-e]
    have F:a∈lv s:=(p1.rc a (p1.mK a (by rw[e];exact zm ..))).live;have ha:a<=9223372036854775807:=by have:=lT hR F;omega
    have hnd:=p1.nd;rw[e] at hnd Q;simp only[zl] at Q;obtain⟨T,R,e1,j0,H,j2,j3,j4⟩:=ED hR (l:=l) (xs:=outs s a) (q:=⟨r,q.Cap⟩) (m:=m) (λx hx=>XK hR hF ha hx) (by have:=mM hR a ha;omega) ⟨(zax.1 hnd).2,p1.cap,λx hx=>p1.mK x (by rw[e];exact zx _ hx),p1.rc⟩ (λx u w=>.step (p1.rc a (p1.mK a (by rw[e];exact zm ..))) u w);refine⟨(T,R),?_,⟨j0,λx u w=>(H x).2 (.inl (p2 x u w)),λb hb=>?_⟩,?_⟩
    .rw[zc Ψ,G,a1n Δ,a4L];simp only;rw[TS hR ha,a4L,e1,a4L]
    .simp only at hb |-;rcases j2 b hb with c | c
     .rcases K b c with d | d
      .rw[e] at d;rcases zV.1 d with rfl | d
       .exact .inr λy u w=>(H y).2 (.inr ⟨u,w⟩)
       .exact .inl (j3 b d)
      .exact .inr λy u w=>(H y).2 (.inl (d y u w))
     .exact .inl c
    .show 2*OU s R+T.L.length<2*OU s m+(a::r).length;simp only[zl] at j4 |-;omega)
 refine⟨m,?_,w⟩;rw[show lp _ _=_ from u];rfl
end
theorem SH(l:List Int)(x:Int)(hl:l.length<=1000000):∃r:Int,Y1 l x=some r/\(0<=r↔x∈l):=by
 unfold Y1;simp only[jn];by_cases h:x∈l
 .obtain⟨i,hi,e⟩:=List.mem_iff_getElem.1 h;obtain⟨j,⟨hj,ej⟩,a⟩:=dP (p:=λi=>∃hi:i<l.length,l[i]=x) ⟨i,hi,e⟩;refine⟨(j:Int),?_,by simp[h]⟩;refine dU l.length (λk=>k<=j) Δ (rg _) (λk hk c=>?_) (λc=>Δ);simp only[zQ,hk,zY,wd,x8 hk,a4L];rcases zE k j with q | q
  .refine .inl ⟨?_,q⟩;rw[za (by
    rw[wl];intro e;have:=a k ⟨hk,e.symm⟩;omega),p9]
  .have:k=j:=by omega
   subst this;exact .inr ⟨_,by rw[zc (Ω ej.symm)],rfl⟩
 .refine⟨-1,?_,by simp[h]⟩;refine dU l.length (λk=>True) Δ trivial (λk hk c=>.inl ⟨?_,trivial⟩) (λc=>⟨.inr (),Ψ,rfl⟩);simp only[zQ,hk,zY,wd,x8 hk,a4L];rw[za (by
   rw[wl];intro e;exact h (e▸zk hk)),p9]
theorem contains_eq(l:List Int)(x:Int)(hl:l.length<=1000000):I3 l x=some (decide (x∈l)):=by
 obtain⟨r,a,c⟩:=SH l x hl;unfold I3;rw[a,a4L];congr 1;exact zbc.2 c
theorem uZ(l:List Int)(x:Int)(hl:l.length<=1000000):oY l x=some (decide (x≠0/\x∈l)):=by
 unfold oY;rw[uk l x hl,a4L];congr 1;rw[zbc,<-fP];omega
open Classical in
theorem Kv (all l:List Int) (b:Bool) (ha:all.length<=1000000) (hl:l.length<=1000000) (h0:∀x∈all,x≠0):mU all l b=some (all.filter λx=>decide (x∈l)==b):=by
 unfold mU;simp only[jn];rw[K4 all (λacc x=>if decide (x∈l)==b then acc ++ [x] else acc) id (λk acc=>acc.length<=k) Δ Ψ (λk hk acc hb=>?_) (λb _=>?_)]
 .simp only[a4L,id];rw[foldl_filter];rfl
 .simp only[zQ,hk,zY,wd,x8 hk,a4L,uZ _ _ hl];have e:decide (all[k]≠0/\all[k]∈l)=decide (all[k]∈l):=zbc.2 ⟨λq=>q.2,λq=>⟨h0 _ (zk hk),q⟩⟩;rw[e];by_cases q:(decide (all[k]∈l)==b)=true
  .rw[zc q,zc q,B5 Δ Ξ,a4L,p9];exact⟨rfl,Ξ⟩
  .rw[za q,za q,p9];exact⟨rfl,Δ⟩
 .simp only[zal,zab,zj,wf];rfl
section
variable{s:a7}(hR:wN (sO s))
include hR
theorem NU:∀x∈lv s,x≠0:=λx hx=>by have:=lT hR hx;omega
open Classical in
theorem ND (hF:FB s) {l:List Int} (hl:LB l) (hlen:l.length<=1000000):ki s l=some (Ie s l):=by
 obtain⟨m,c,a⟩:=ES hR hF hl hlen;unfold ki Y9 js;rw[c,a4L];simp only[jn,fv hR,a4L];have e:=J5 hR;rw[K4 (lv s) (λacc x=>if decide (sY s l x) then acc ++ [x] else acc) id (λk acc=>acc.length<=k) Δ Ψ (λk hk acc hb=>?_) (λb _=>?_)]
 .simp only[a4L,id];rw[foldl_filter];rfl
 .simp only[zQ,hk,zY,wd,x8 hk,a4L];by_cases q:sY s l (lv s)[k]
  .rw[zc ((a _).2 q),zc (Ω q),B5 Δ Ξ,a4L,p9];exact⟨rfl,Ξ⟩
  .rw[za (λk=>q ((a _).1 k)),za (Ω q),p9];exact⟨rfl,Δ⟩
 .simp only[zal,zab,zj,wf];rfl
open Classical in
theorem Xl (hF:FB s) {l:List Int} (hl:LB l) (hlen:l.length<=1000000):pf s l=some (H4 s l):=by
 obtain⟨m,c,a⟩:=ES hR hF hl hlen;unfold pf Z0 jt;rw[c,a4L];simp only[jn,fv hR,a4L];have f:=J5 hR;rw[K4 (lv s) (λacc x=>if decide (¬sY s l x) then acc ++ [x] else acc) id (λk acc=>acc.length<=k) Δ Ψ (λk hk acc hb=>?_) (λb _=>?_)]
 .simp only[a4L,id];rw[foldl_filter];rfl
 .simp only[zQ,hk,zY,wd,x8 hk,a4L];by_cases q:sY s l (lv s)[k]
  .have e:(C0 m (lv s)[k]).getD false=true:=(a _).2 q;rw[za (by rw[e];decide),za (Ω q),p9];exact⟨rfl,Δ⟩
  .have e:(C0 m (lv s)[k]).getD false=false:=by
    have:¬Mk m (lv s)[k]:=λk=>q ((a _).1 k);simpa[Mk] using this
   rw[zc (by rw[e];decide),zc (Ω q),B5 Δ Ξ,a4L,p9];exact⟨rfl,Ξ⟩
 .simp only[zal,zab,zj,wf];rfl
def grow(s:a7)(all seen:List Int):List Int:=all.filter λx=>decide (x∈seen++seen.flatMap (outs s))
def bP(s:a7)(all seen:List Int):Nat->List Int
 | 0=>seen
 | k+1=>grow s all (bP s all seen k)
omit hR in
theorem tX (all seen:List Int) (k:Nat):bP s all seen (k+1)=grow s all (bP s all seen k):=rfl
omit hR in
theorem uY {all seen:List Int} {x:Int}:x∈grow s all seen↔x∈all/\(x∈seen\/∃a∈seen,x∈outs s a):=by
 unfold grow;rw[zy,zG,zC,mt]
open Classical in
omit hR in
theorem Sz (l:List Int):bP s (lv s) ((lv s).filter λx=>decide (x∈l)==true) (lv s).length=Ie s l:=by
 have m:∀k x,x∈bP s (lv s) ((lv s).filter λx=>decide (x∈l)==true) k->sY s l x:=by
  intro k;induction k with
  | zero=>
   intro x hx;have:=zy.1 (show x∈(lv s).filter λx=>decide (x∈l)==true from hx);exact .base (Ω this.2) this.1
  | succ k ih=>
   intro x hx;rw[tX,uY] at hx;rcases hx.2 with q | ⟨a,F,A⟩
   .exact ih x q
   .exact .step (ih a F) A hx.1
 have r:∀k x,x∈bP s (lv s) ((lv s).filter λx=>decide (x∈l)==true) k->x∈lv s:=λk x hx=>(m k x hx).live;have c:∀k,∃p:Int->Bool,bP s (lv s) ((lv s).filter λx=>decide (x∈l)==true) k=(lv s).filter p:=by
  intro k;cases k with
  | zero=>exact⟨_,rfl⟩
  | succ k=>exact⟨_,rfl⟩
 have e:∀k x,x∈bP s (lv s) ((lv s).filter λx=>decide (x∈l)==true) k->x∈bP s (lv s) ((lv s).filter λx=>decide (x∈l)==true) (k+1):=λk x hx=>uY.2 ⟨r k x hx,.inl hx⟩;have key:∀k,Cl s (bP s (lv s) ((lv s).filter λx=>decide (x∈l)==true) k)\/k<=(bP s (lv s) ((lv s).filter λx=>decide (x∈l)==true) k).length:=by
  intro k;induction k with
  | zero=>exact .inr (rg _)
  | succ k ih=>
   by_cases hc:Cl s (bP s (lv s) ((lv s).filter λx=>decide (x∈l)==true) k)
   .left;have:∀x,x∈bP s (lv s) ((lv s).filter λx=>decide (x∈l)==true) (k+1)↔x∈bP s (lv s) ((lv s).filter λx=>decide (x∈l)==true) k:=λx=>⟨λhx=>by
     rw[tX,uY] at hx;rcases hx.2 with q | ⟨a,F,A⟩
     .exact q
     .exact hc a F x A hx.1,e k x⟩
    intro a ha b hb f;exact (this b).2 (hc a ((this a).1 ha) b hb f)
   .right;have hk:=ih.resolve_left hc;obtain⟨b,u,w,y⟩:∃b,b∈lv s/\b∈bP s (lv s) ((lv s).filter λx=>decide (x∈l)==true) (k+1)/\b∉bP s (lv s) ((lv s).filter λx=>decide (x∈l)==true) k:=by
     refine so λq=>hc λa ha b hb f=>so λA=>q ⟨b,f,uY.2 ⟨f,.inr ⟨a,ha,hb⟩⟩,A⟩
    obtain⟨p,hp⟩:=c k;obtain⟨G,E⟩:=c (k+1);have hi:=e k;rw[hp] at hi y hk;rw[E] at hi w |-;have:=filter_lt (p:=p) (q:=G) (l:=lv s) (λx hx h=>(zy.1 (hi x (zy.2 ⟨hx,h⟩))).2) b u (zy.1 w).2 (by
     cases h:p b;·rfl
     .exact absurd (zy.2 ⟨u,h⟩) y)
    omega
 have hcl:Cl s (bP s (lv s) ((lv s).filter λx=>decide (x∈l)==true) (lv s).length):=by
  rcases key (lv s).length with q | q
  .exact q
  .obtain⟨p,hp⟩:=c (lv s).length;rw[hp] at q |-;have:(lv s).filter p=lv s:=zaz.2 λx hx=>by
    cases h:p x
    .have:=filter_lt (p:=p) (q:=λ_=>true) (l:=lv s) (λ_ _ _=>rfl) x hx rfl h;rw[zaz.2 (λ_ _=>rfl)] at this;omega
    .rfl
   rw[this];exact λ_ _ _ _ h=>h
 have hbase:∀k x,x∈l->x∈lv s->x∈bP s (lv s) ((lv s).filter λx=>decide (x∈l)==true) k:=by
  intro k;induction k with
  | zero=>intro x B C;exact zy.2 ⟨C,Ω B⟩
  | succ k ih=>intro x B C;exact e k x (ih x B C)
 have z:∀x,x∈bP s (lv s) ((lv s).filter λx=>decide (x∈l)==true) (lv s).length↔sY s l x:=λx=>⟨m _ x,λq=>sY.least hcl (hbase _) q⟩;obtain⟨p,hp⟩:=c (lv s).length;rw[hp];unfold Ie;refine za4 λx hx=>?_;have:=z x;rw[hp,zy] at this;rw[zao,zG,<-this];exact⟨λh=>⟨hx,h⟩,λh=>h.2⟩
open Classical in
theorem Ee {l:List Int} (hlen:l.length<=1000000):mT (sO s) l=some (Ie s l):=by
 unfold mT;have c:=J5 hR;rw[qB hR,a4L,Kv _ _ _ Δ hlen (NU hR),a4L];simp only[jn];have r:∀k,(bP s (lv s) ((lv s).filter λx=>decide (x∈l)==true) k).length<=24/\∀x∈bP s (lv s) ((lv s).filter λx=>decide (x∈l)==true) k,x∈lv s:=by
  intro k;cases k with
  | zero=>exact⟨ul (wt ..) c,λx hx=>(zy.1 (show x∈(lv s).filter λx=>decide (x∈l)==true from hx)).1⟩
  | succ k=>exact⟨ul (wt ..) c,λx hx=>(zy.1 (show x∈(lv s).filter _ from hx)).1⟩
 refine fu (p:=λk=>(bP s (lv s) ((lv s).filter λx=>decide (x∈l)==true) k,(k:Int))) rfl (lv s).length (λ_=>True) Δ trivial (λk hk _=>.inl ⟨?_,trivial⟩) (λ_=>⟨_,by simp only[zal,zab,zj,wf];rfl,by rw[Sz l]⟩);obtain⟨e,f⟩:=r k;simp only[zQ,hk,zY,wd];rw[P4 Δ Δ,a4L];generalize q:bP s (lv s) ((lv s).filter λx=>decide (x∈l)==true) k=S at e f;have a:∀x∈S,x<=9223372036854775807:=λx hx=>by have:=lT hR (f x hx);omega
 have hflat:∀T:List Int,T.length<=24->(∀x∈T,x<=9223372036854775807)->(T.flatMap (outs s)).length<=96:=λT u m=>by
  rw[List.length_flatMap];have:=HJ (λx=>(outs s x).length) 4 T λx hx=>mM hR x (m x hx);omega
 rw[K4 S (λacc x=>acc++outs s x) id (λj acc=>acc.length<=S.length+4*j) Δ Ψ (λj hj acc hb=>?_) (λb _=>?_)]
 .simp only[a4L,id];rw[gq,Kv _ _ _ Δ (by
   have:=hflat S e a;simp only[zD];omega) (NU hR),a4L,p9,tX,q]
  unfold grow;congr 3;refine za4 λx _=>?_;rw[zao];simp
 .have ho:=mM hR _ (a _ (zk hj));simp only[zQ,hj,zY,wd,x8 hj,a4L,Jl hR (a _ (zk hj))];rw[B5 Δ Δ,a4L,p9];exact⟨rfl,Ξ⟩
 .simp only[zal,zab,zj,wf];rfl
end
abbrev Tb:=List c8
abbrev O2(p:c8):o7:=⟨p.State,p.Key,p.Val⟩
def pt(t:Tb)(j:Nat):c8:=t.getD j ⟨0,0,0⟩
variable {j i n:Nat}{k v:Int}{s:a7}
theorem yu{t:Tb}(h:j<t.length):pt t j=t[j]:=by unfold pt;rw[zg,zd h];rfl
theorem Ek{t:Tb}(h:j<t.length):ix t (j:Int)=some (pt t j):=by rw[x8 h,yu h]
theorem Cd{t:Tb}(h:i<t.length)(p:c8)(j:Nat):pt (t.set i p) j=if j=i then p else pt t j:=by
 unfold pt;rw[zg,zg,List.getElem?_set];by_cases e:i=j
 .subst e;simp[h]
 .rw[za e,za (zav e)]
def hm(n:Nat)(k:Int):Nat:=(z8 ((z8 (5*k))+1) % (n:Int)).toNat
theorem SE(h:1<=n)(k:Int):hm n k<n:=by
 unfold hm;have a:=Int.emod_nonneg (z8 ((z8 (5*k))+1)) (show (n:Int)≠0 by omega);have c:=Int.emod_lt_of_pos (z8 ((z8 (5*k))+1)) (show (0:Int)<n by omega);omega
theorem AG(h:1<=n)(c:n<=1000)(k:Int):cD n k=some (hm n k:Int):=by
 unfold cD hm;rw[za Ξ];generalize z8 ((z8 (5*k))+1)=a;have hp:=Int.emod_nonneg a (show (n:Int)≠0 by omega);have hl:=Int.emod_lt_of_pos a (show (0:Int)<n by omega);unfold rem;rw[za Δ,a4L,Int.toNat_of_nonneg hp];rw[Int.tmod_eq_emod];split;·rw[show a % (n:Int)-((0:Nat):Int)=a % n by simp,za Ξ]
 .have:((n:Int).natAbs:Int)=n:=by simp
  rw[this];rw[zc Ξ,E3 Δ Δ];congr 1;omega
def pos(n:Nat)(k:Int)(d:Nat):Nat:=(hm n k+d) % n
theorem iP(h:1<=n)(k:Int)(d:Nat):pos n k d<n:=Nat.mod_lt _ h
theorem Zw(h:1<=n)(a:n<=8):n=1\/n=2\/n=3\/n=4\/n=5\/n=6\/n=7\/n=8:=Δ
theorem Tu{m:Nat}(h:1<=n)(a:n<=8)(hm:m<n)(hi:i<n):∃d,d<n/\(m+d) % n=i:=by
 refine⟨(i+n-m) % n,Nat.mod_lt _ h,?_⟩;rcases Zw h a with rfl | rfl | rfl | rfl | rfl | rfl | rfl | rfl <;> omega
theorem Xs{m d d':Nat}(h:1<=n)(a:n<=8)(hd:d<n)(c:d'<n)(e:(m+d) % n=(m+d') % n):d=d':=by
 rcases Zw h a with rfl | rfl | rfl | rfl | rfl | rfl | rfl | rfl <;> omega
theorem Jr(h:1<=n)(a:n<=8)(k:Int)(hi:i<n):∃d,d<n/\pos n k d=i:=Tu h a (SE h k) hi
theorem XP(h:1<=n)(c:n<=8){d d':Nat}(hd:d<n)(a:d'<n)(e:pos n k d=pos n k d'):d=d':=Xs h c hd a e
structure HR (t:Tb):Prop where
 l1:1<=t.length
 l8:t.length<=8
 st:∀i,i<t.length->((pt t i).State=0\/(pt t i).State=1\/(pt t i).State=2)/\((pt t i).State≠1->(pt t i).Key=0/\(pt t i).Val=0)
 uq:∀i j,i<t.length->j<t.length->(pt t i).State=1->(pt t j).State=1->(pt t i).Key=(pt t j).Key->i=j
 rd:∀i,i<t.length->(pt t i).State=1->∀d,d<t.length->(∀d',d'<=d->pos t.length (pt t i).Key d'≠i)->(pt t (pos t.length (pt t i).Key d)).State≠0
def Fk(t:Tb)(k:Int)(i:Nat):Prop:=i<t.length/\(pt t i).State=1/\(pt t i).Key=k
instance(t:Tb)(k:Int)(i:Nat):Decidable (Fk t k i):=by unfold Fk;infer_instance
theorem step_eq(h:1<=n)(a:n<=1000)(k:Int){d:Nat}(hd:d<n):rem (z8 ((hm n k:Int)+d)) n=some ((pos n k d:Nat):Int):=by
 have:=SE h k;rw[E3 Δ Δ,pj Δ Δ];unfold pos;simp[Int.natCast_emod]
theorem Eb{t:Tb}(w:1<=t.length)(H:t.length<=8)(k:Int) :
  (∃d,d<t.length/\(∀j,j<d->(pt t (pos t.length k j)).State≠0/\¬Fk t k (pos t.length k j))/\Fk t k (pos t.length k d)/\bg t k=some ((pos t.length k d:Nat):Int)) \/
  (∃d,d<=t.length/\(∀j,j<d->(pt t (pos t.length k j)).State≠0/\¬Fk t k (pos t.length k j))/\(d=t.length\/(pt t (pos t.length k d)).State=0)/\bg t k=some (-1)):=by
 unfold bg;simp only[jn,jy,a4L];generalize C:(lp (S:=Int) (E:=Int ⊕ Unit) _ 0)=q;have body:∀d:Nat,d<t.length->(if (decide ((d:Int)<(t.length:Int))) then
    (cD (t.length:Int) k).bind λu=>
    (rem (z8 (u+d)) (t.length:Int)).bind λm=>
    (ix t m).bind λc=>
    if (c.State==0) then
     some (.inr (.inr ()))
    else
    if ((c.State==1)&&(c.Key==k)) then
     some (.inr (.inl m))
    else
    some (.inl (z8 ((d:Int)+1)))
   else
   some (.inr (.inr ())):Option (Int ⊕ (Int ⊕ Unit)))=if (pt t (pos t.length k d)).State=0 then some (.inr (.inr ())) else if Fk t k (pos t.length k d) then some (.inr (.inl ((pos t.length k d:Nat):Int))) else some (.inl ((d+1:Nat):Int)):=λd hd=>by
  have hp:=iP w k d;rw[zc (Ω hd),AG w Δ,a4L,step_eq w Δ k hd,a4L,Ek hp,a4L,p9 Δ];by_cases a:(pt t (pos t.length k d)).State=0
  .rw[zc (Ω a),zc a]
  .rw[za (Ω a),za a];by_cases b:Fk t k (pos t.length k d)
   .rw[zc (by simp[b.2.1,b.2.2]),zc b]
   .rw[za (by simp;exact λw F=>b ⟨hp,w,F⟩),za b]
 have key:=IV (f:=λ(r:Int)=>if (decide (r<(t.length:Int))) then
    (cD (t.length:Int) k).bind λu=>
    (rem (z8 (u+r)) (t.length:Int)).bind λm=>
    (ix t m).bind λc=>
    if (c.State==0) then
     some (.inr (.inr ()))
    else
    if ((c.State==1)&&(c.Key==k)) then
     some (.inr (.inl m))
    else
    some (.inl (z8 (r+1)))
   else
   some (.inr (.inr ()))) t.length (λd=>∀j,j<d->(pt t (pos t.length k j)).State≠0/\¬Fk t k (pos t.length k j))
   (λ(e:Int ⊕ Unit)=>(∃d,d<t.length/\(∀j,j<d->(pt t (pos t.length k j)).State≠0/\¬Fk t k (pos t.length k j))/\Fk t k (pos t.length k d)/\e = .inl ((pos t.length k d:Nat):Int)) \/
    (∃d,d<=t.length/\(∀j,j<d->(pt t (pos t.length k j)).State≠0/\¬Fk t k (pos t.length k j))/\(d=t.length\/(pt t (pos t.length k d)).State=0)/\e = .inr ())) Δ (λj hj=>Δ)
   (λd hd y=>by
    rw[body d hd];by_cases a:(pt t (pos t.length k d)).State=0
    .rw[zc a];exact .inr ⟨_,rfl,.inr ⟨d,Δ,y,.inr a,rfl⟩⟩
    .rw[za a];by_cases b:Fk t k (pos t.length k d)
     .rw[zc b];exact .inr ⟨_,rfl,.inl ⟨d,hd,y,b,rfl⟩⟩
     .rw[za b];refine .inl ⟨rfl,λj hj=>?_⟩;rcases zE j d with q | q
      .exact y j q
      .have:j=d:=by omega
       subst this;exact⟨a,b⟩)
   (λy=>⟨.inr (),Ψ,.inr ⟨t.length,zq _,y,.inl rfl,rfl⟩⟩)
 obtain⟨e,he,G⟩:=key;rw[he] at C;subst C;rcases G with ⟨d,z,A,B,rfl⟩ | ⟨d,z,A,B,rfl⟩;·exact .inl ⟨d,z,A,B,rfl⟩
 .exact .inr ⟨d,z,A,B,rfl⟩
theorem oy{t:Tb}(hR:HR t)(hi:Fk t k i):bg t k=some (i:Int):=by
 obtain⟨di,f,c⟩:=Jr hR.l1 hR.l8 k hi.1;have road:∀d,d<di->(pt t (pos t.length k d)).State≠0:=λd hd=>by
  have:=hR.rd i hi.1 hi.2.1 d Δ (λd' y e=>by
   rw[hi.2.2] at e;have:=XP hR.l1 hR.l8 Δ f (e.trans c.symm);omega)
  rwa [hi.2.2] at this
 rcases Eb hR.l1 hR.l8 k with ⟨d,w,m,a,r⟩ | ⟨d,w,m,a,r⟩;·rw[r,hR.uq _ i (iP hR.l1 k d) hi.1 a.2.1 hi.2.1 (by rw[a.2.2,hi.2.2])]
 .exfalso;rcases zE di d with q | q
  .exact (m di q).2 (by rw[c];exact hi)
  .rcases a with rfl | a
   .omega
   .rcases zE d di with u | u
    .exact road d u a
    .have:d=di:=by omega
     subst this;rw[c,hi.2.1] at a;cases a
theorem kY{t:Tb}(m:1<=t.length)(q:t.length<=8)(hi:∀i,¬Fk t k i):bg t k=some (-1):=by
 rcases Eb m q k with ⟨d,e,f,a,c⟩ | ⟨d,e,f,a,c⟩;·exact absurd a (hi _)
 .exact c
theorem yn(t:Tb)(k:Int):(∃i,Fk t k i)\/∀i,¬Fk t k i:=by
 by_cases h:∃i,Fk t k i
 .exact .inl h
 .exact .inr λi hi=>h ⟨i,hi⟩
theorem Db{t:Tb}(a:t.length<=1000)(hi:i<t.length)(p:c8):ez t (i:Int) p=some (t.set i p):=by
 unfold ez G9;rw[P4 Δ Δ,a4L,x8 hi,a4L,zO]
inductive yP (t:Tb) (k v:Int):Tb × Int->Prop
 | old (i:Nat) (hi:Fk t k i):yP t k v (t.set i ⟨1,k,v⟩,0)
 | new (d:Nat) (hn:∀i,¬Fk t k i) (hd:d<t.length) (hb:∀j,j<d->(pt t (pos t.length k j)).State=1) (hf:(pt t (pos t.length k d)).State≠1):yP t k v (t.set (pos t.length k d) ⟨1,k,v⟩,0)
 | full (hn:∀i,¬Fk t k i) (ha:∀i,i<t.length->(pt t i).State=1):yP t k v (t,8)
theorem put_eq{t:Tb}(hR:HR t)(k v:Int):∃r,jU t k v=some r/\yP t k v r:=by
 have m:=hR.l1;have B:=hR.l8;unfold jU;rcases yn t k with ⟨i,hi⟩ | hn
 .rw[oy hR hi,a4L,zc Ψ,Db Δ hi.1];exact⟨_,rfl,.old i hi⟩
 .rw[kY m B hn,a4L,za Θ];simp only[jn,jy,a4L];have key:=IV (f:=λ(c:Int)=>
   if (decide (c<(t.length:Int))) then
    (cD (t.length:Int) k).bind λy=>
    (rem (z8 (y+c)) (t.length:Int)).bind λu=>
    (ix t u).bind λz=>
    if (z.State != 1) then
     (ez t u (⟨1,k,v⟩:c8)).bind λA=>
     some (Sum.inr (.inl (A,(0:Int))))
    else
    some (.inl (z8 (c+1)))
   else
   some (.inr (.inr ()))) t.length (λd=>∀j,j<d->(pt t (pos t.length k j)).State=1)
   (λ(e:(Tb × Int) ⊕ Unit)=>(∃r,e = .inl r/\yP t k v r)\/(e = .inr ()/\yP t k v (t,8))) Δ (λj hj=>Δ)
   (λd hd w=>by
    have hp:=iP m k d;rw[zc (Ω hd),AG m Δ,a4L,step_eq m Δ k hd,a4L,Ek hp,a4L];by_cases a:(pt t (pos t.length k d)).State=1
    .rw[za (Ω a),p9 Δ];refine .inl ⟨rfl,λj hj=>?_⟩;rcases zE j d with q | q
     .exact w j q
     .have:j=d:=by omega
      subst this;exact a
    .rw[zc (Ω a),Db Δ hp,a4L];exact .inr ⟨_,rfl,.inl ⟨_,rfl,.new d hn hd w a⟩⟩)
   (λw=>⟨.inr (),Ψ,.inr ⟨rfl,.full hn λi hi=>by
    obtain⟨d,hd,rfl⟩:=Jr m B k hi;exact w d hd⟩⟩)
  obtain⟨e,he,C⟩:=key;rw[he,a4L];rcases C with ⟨r,rfl,hr⟩ | ⟨rfl,hr⟩;·exact⟨r,rfl,hr⟩
  .exact⟨_,rfl,hr⟩
theorem LC{t:Tb}(hR:HR t)(hi:Fk t k i):Q5 t k=some ((pt t i).Val,0):=by
 unfold Q5;rw[oy hR hi,a4L,za Ψ,Ek hi.1,a4L]
theorem LA{t:Tb}(hR:HR t)(hi:∀i,¬Fk t k i):Q5 t k=some (0,9):=by
 unfold Q5;rw[kY hR.l1 hR.l8 hi,a4L,zc Θ]
theorem rE{t:Tb}(hR:HR t)(hi:Fk t k i):bf t k=some (t.set i ⟨2,0,0⟩,(pt t i).Val,0):=by
 have:=hR.l8;unfold bf;rw[oy hR hi,a4L,za Ψ,Db Δ hi.1,a4L,Ek hi.1,a4L]
theorem rD{t:Tb}(hR:HR t)(hi:∀i,¬Fk t k i):bf t k=some (t,0,9):=by
 unfold bf;rw[kY hR.l1 hR.l8 hi,a4L,zc Θ]
theorem HR.set{t:Tb}(hR:HR t)(hi:i<t.length){p:c8}(h0:p.State=1\/p=⟨2,0,0⟩)
  (hu:p.State=1->∀j,j≠i->¬Fk t p.Key j)(hr:p.State=1->∀d,d<t.length->(∀d',d'<=d->pos t.length p.Key d'≠i)->(pt t (pos t.length p.Key d)).State≠0):HR (t.set i p):=by
 have m:p.State≠0:=by
  rcases h0 with h | rfl
  .omega
  .simp
 refine⟨Ω hR.l1,Ω hR.l8,λj hj=>?_,λj r hj f s1 s2 hk=>?_,λj hj s1 d hd a=>?_⟩ <;> simp only[zas] at *
 .rw[Cd hi];split
  .rcases h0 with h | rfl
   .exact⟨.inr (.inl h),λq=>absurd h q⟩
   .exact⟨.inr (.inr rfl),λ_=>⟨rfl,rfl⟩⟩
  .exact hR.st j hj
 .rw[Cd hi] at s1 s2 hk;rw[Cd hi] at hk;by_cases c:j=i <;> by_cases e:r=i
  .rw[c,e]
  .rw[zc c] at s1 hk;rw[za e] at s2 hk;exact absurd ⟨f,s2,hk.symm⟩ (hu s1 r e)
  .rw[za c] at s1 hk;rw[zc e] at s2 hk;exact absurd ⟨hj,s1,hk⟩ (hu s2 j c)
  .rw[za c] at s1 hk;rw[za e] at s2 hk;exact hR.uq j r hj f s1 s2 hk
 .simp only[Cd hi] at s1 a |-;by_cases c:j=i
  .simp only[zc c] at s1 a |-;split;·exact m
   .exact hr s1 d hd (by rw[<-c];exact a)
  .simp only[za c] at s1 a |-;split;·exact m
   .exact hR.rd j hj s1 d hd a
theorem ue{t:Tb}(hR:HR t){k v:Int}{r:Tb × Int}(h:yP t k v r):HR r.1:=by
 cases h with
 | old i hi=>
  refine hR.set hi.1 (.inl rfl) (λ_ j hj q=>hj (hR.uq j i q.1 hi.1 q.2.1 hi.2.1 (q.2.2.trans hi.2.2.symm))) λ_ d hd a=>?_;have:=hR.rd i hi.1 hi.2.1 d hd (by rw[hi.2.2];exact a);rwa [hi.2.2] at this
 | new d hn hd hb hf=>
  refine hR.set (iP hR.l1 k d) (.inl rfl) (λ_ j _=>hn j) λ_ d' c a=>?_;rcases zE d' d with q | q
  .have:=hb d' q;simp only;omega
  .exact absurd rfl (a d q)
 | full hn ha=>exact hR
theorem kV{t:Tb}(hR:HR t)(hi:i<t.length):HR (t.set i ⟨2,0,0⟩):=hR.set hi (.inr rfl) (λq=>Γ) λq=>by cases q
theorem Za{t:Tb}(h:j<t.length):ix (t.map O2) (j:Int)=some (O2 (pt t j)):=by rw[dI,Ek h];rfl
theorem Ul{t:Tb}(m:t.length<=1000)(hi:Fk t k i)(hf:∀j,j<i->¬Fk t k j):fE (t.map O2) k=some (i:Int):=by
 unfold fE;simp only[jn];refine dU t.length (λj=>j<=i) Δ (rg _) (λj hj f=>?_) (λf=>by have:=hi.1;omega);rw[zc (Ω hj),Za hj,a4L];by_cases e:j=i
 .subst e;exact .inr ⟨.inl (j:Int),by rw[zc (by simp[O2,hi.2.1,hi.2.2])],rfl⟩
 .have:=hf j Δ;refine .inl ⟨by rw[za (by simp[O2];exact λa c=>this ⟨hj,a,c⟩),p9 Δ],Δ⟩
theorem Uk{t:Tb}(f:t.length<=1000)(hf:∀j,¬Fk t k j):fE (t.map O2) k=some (-1):=by
 unfold fE;simp only[jn];refine dU t.length (λj=>True) Δ trivial (λj hj e=>?_) (λe=>⟨.inr (),Ψ,rfl⟩);rw[zc (Ω hj),Za hj,a4L];refine .inl ⟨by rw[za (by simp[O2];exact λa c=>hf j ⟨hj,a,c⟩),p9 Δ],trivial⟩
theorem Si{t:Tb}(h:∃i,Fk t k i):∃i,Fk t k i/\∀j,j<i->¬Fk t k j:=by
 obtain⟨i,a,c⟩:=dP h;exact⟨i,a,λj hj q=>by have:=c j q;omega⟩
theorem EO{t:Tb}{i:Nat}(a:t.length<=1000)(hi:i<t.length)(p:c8):dy (t.map O2) (i:Int) (O2 p)=some ((t.set i p).map O2):=by
 unfold dy;rw[P4 Δ Ξ,a4L,Za hi,a4L,zO,zbt]
theorem JW:Cq=cD:=rfl
theorem Zs(a:1<=n)(c:n<=8)(k:Int)(d:Nat):rem (z8 (((pos n k d:Nat):Int)+1)) n=some ((pos n k (d+1):Nat):Int):=by
 have:=iP a k d;rw[E3 Δ Δ,pj Δ Δ];unfold pos;congr 1;have:((hm n k+d) % n+1) % n=(hm n k+(d+1)) % n:=by rw[Nat.mod_add_mod];rfl
 rw[<-this];simp[Int.natCast_emod]
theorem Js(a:1<=n)(k:Int):pos n k 0=hm n k:=by
 unfold pos;rw[zam,zca (SE a k)]
def Has(t:Tb)(k v:Int):Prop:=∃i,Fk t k i/\(pt t i).Val=v
theorem a0L{t:Tb}:(∀v,¬Has t k v)↔∀i,¬Fk t k i:=by
 constructor;·intro h i hi;exact h _ ⟨i,hi,rfl⟩
 .rintro h v ⟨i,hi,_⟩;exact h i hi
theorem a0M(t:Tb)(k:Int):(∃v,Has t k v)\/∀v,¬Has t k v:=by
 by_cases h:∃v,Has t k v
 .exact .inl h
 .exact .inr λv hv=>h ⟨v,hv⟩
theorem Has.fn{t:Tb}(hR:HR t){c:Int}(h:Has t k v)(h':Has t k c):v=c:=by
 obtain⟨i,a,rfl⟩:=h;obtain⟨j,b,rfl⟩:=h';rw[hR.uq i j a.1 b.1 a.2.1 b.2.1 (a.2.2.trans b.2.2.symm)]
theorem NI{t:Tb}(hR:HR t)(h:Has t k v):Q5 t k=some (v,0):=by
 obtain⟨i,a,rfl⟩:=h;exact LC hR a
theorem PT{t:Tb}(hR:HR t)(h:∀v,¬Has t k v):Q5 t k=some (0,9):=LA hR (a0L.1 h)
theorem Gl{t:Tb}{i:Nat}(hi:i<t.length){k v:Int}(p:c8)(h:∀j,j≠i->Fk t p.Key j->p.State≠1)(k' q:Int) :
  Has (t.set i p) k' q↔(p.State=1/\p.Key=k'/\p.Val=q)\/∃j,j≠i/\Fk t k' j/\(pt t j).Val=q:=by
 unfold Has Fk;simp only[zas,Cd hi];constructor
 .rintro⟨j,⟨m,a,c⟩,f⟩;by_cases e:j=i
  .rw[zc e] at a c f;exact .inl ⟨a,c,f⟩
  .rw[za e] at a c f;exact .inr ⟨j,e,⟨m,a,c⟩,f⟩
 .rintro (⟨m,a,c⟩ | ⟨j,e,⟨m,a,c⟩,f⟩);·exact⟨i,by simp[hi,m,a,c]⟩
  .exact⟨j,by simp[e,m,a,c,f]⟩
theorem GO{t:Tb}(hR:HR t){k v:Int}{r:Tb × Int}(h:yP t k v r)(h0:r.2=0)(k' f:Int):Has r.1 k' f↔(k'=k/\f=v)\/(k'≠k/\Has t k' f):=by
 cases h with
 | old i hi=>
  rw[Gl (k:=k) (v:=v) hi.1 _ (λj hj q=>absurd (hR.uq j i q.1 hi.1 q.2.1 hi.2.1 (q.2.2.trans hi.2.2.symm)) hj)];constructor
  .rintro (⟨_,rfl,rfl⟩ | ⟨j,e,a,c⟩);·exact .inl ⟨rfl,rfl⟩
   .refine .inr ⟨λq=>?_,j,a,c⟩;subst q;exact e (hR.uq j i a.1 hi.1 a.2.1 hi.2.1 (a.2.2.trans hi.2.2.symm))
  .rintro (⟨rfl,rfl⟩ | ⟨e,j,a,c⟩);·exact .inl ⟨rfl,rfl,rfl⟩
   .refine .inr ⟨j,λq=>?_,a,c⟩;subst q;exact e (a.2.2.symm.trans hi.2.2)
 | new d hn hd hb hf=>
  rw[Gl (k:=k) (v:=v) (iP hR.l1 k d) _ (λj hj q=>absurd q (hn j))];constructor
  .rintro (⟨_,rfl,rfl⟩ | ⟨j,e,a,c⟩);·exact .inl ⟨rfl,rfl⟩
   .refine .inr ⟨λq=>?_,j,a,c⟩;subst q;exact hn j a
  .rintro (⟨rfl,rfl⟩ | ⟨e,j,a,c⟩);·exact .inl ⟨rfl,rfl,rfl⟩
   .refine .inr ⟨j,λq=>?_,a,c⟩;subst q;exact hf a.2.1
 | full hn ha=>cases h0
theorem Br{t:Tb}(hR:HR t)(hi:Fk t k i)(k' f:Int):Has (t.set i ⟨2,0,0⟩) k' f↔k'≠k/\Has t k' f:=by
 rw[Gl (k:=k) (v:=0) hi.1 _ (λj hj q=>Ψ)];constructor
 .rintro (⟨h,_⟩ | ⟨j,e,a,c⟩);·cases h
  .refine⟨λq=>?_,j,a,c⟩;subst q;exact e (hR.uq j i a.1 hi.1 a.2.1 hi.2.1 (a.2.2.trans hi.2.2.symm))
 .rintro⟨e,j,a,c⟩;refine .inr ⟨j,λq=>?_,a,c⟩;subst q;exact e (a.2.2.symm.trans hi.2.2)
def keys(t:Tb):List Int:=(t.filter (·.State==1)).map (·.Key)
theorem Bv{α β:Type}(p:α->Bool)(f:α->β)(l:List α)(k:Nat)(h:k<l.length):((l.take (k+1)).filter p).map f=((l.take k).filter p).map f++(if p l[k] then [f l[k]] else []):=by
 rw[zn h,zar,n7];congr 1;simp only[my,zcp];split <;> rfl
theorem keys_eq{t:Tb}(h:t.length<=1000):mA t=some (keys t):=by
 unfold mA keys;simp only[jn];refine N7 t.length (λk l=>l=((t.take k).filter (·.State==1)).map (·.Key)) Δ Ψ ?_ (λl hl=>⟨_,by simp;rfl,by rw[hl,zM]⟩);rintro k l hk rfl;left;rw[Bv _ _ _ _ hk];rw[zc (Ω hk),x8 hk,a4L,p9 Δ];have a:(List.map (·.Key) (List.filter (·.State==1) (List.take k t))).length<=1000:=by
  rw[zX];exact ul (wt ..) Ξ
 by_cases c:(t[k].State==1)=true
 .rw[zc c,zc c,B5 Δ Ωw,a4L];exact⟨_,rfl,rfl⟩
 .rw[za c,za c];exact⟨_,rfl,Ψ⟩
theorem Un{t:Tb}(h:t.length<=1000):vN (t.map O2)=some (keys t):=by
 unfold vN keys;simp only[jn];refine N7 t.length (λk l=>l=((t.take k).filter (·.State==1)).map (·.Key)) Δ Ψ ?_ (λl hl=>⟨_,by simp;rfl,by rw[hl,zM]⟩);rintro k l hk rfl;left;rw[Bv _ _ _ _ hk];rw[zc (Ω hk),dI,x8 hk,ww,a4L,p9 Δ];have a:(List.map (·.Key) (List.filter (·.State==1) (List.take k t))).length<=1000:=by
  rw[zX];exact ul (wt ..) Ξ
 by_cases c:(t[k].State==1)=true
 .rw[zc (by simpa[O2] using c),zc c,B5 Δ Ωw,a4L];exact⟨_,rfl,rfl⟩
 .rw[za (by simpa[O2] using c),za c];exact⟨_,rfl,Ψ⟩
theorem Hq{t:Tb}(hR:HR t)(k:Int):fE (t.map O2) k=bg t k:=by
 have e:=hR.l8;rcases yn t k with ⟨i,hi⟩ | hn
 .rw[oy hR hi];obtain⟨f,a,c⟩:=Si ⟨i,hi⟩;rw[Ul Δ a c,hR.uq f i a.1 hi.1 a.2.1 hi.2.1 (a.2.2.trans hi.2.2.symm)]
 .rw[kY hR.l1 hR.l8 hn,Uk Δ hn]
theorem Um{t:Tb}(hR:HR t)(k:Int):rZ (t.map O2) k=Q5 t k:=by
 unfold rZ Q5;rw[Hq hR];rcases yn t k with ⟨i,hi⟩ | hn;·rw[oy hR hi,a4L,a4L,za Ψ,za Ψ,Za hi.1,Ek hi.1];rfl
 .rw[kY hR.l1 hR.l8 hn];rfl
theorem Ui{t:Tb}(hR:HR t)(k:Int):mV (t.map O2) k=(bf t k).map λr=>(r.1.map O2,r.2):=by
 have a:=hR.l8;rcases yn t k with ⟨i,hi⟩ | hn
 .rw[rE hR hi];unfold mV;rw[Hq hR,oy hR hi,a4L,za Ψ];have:=EO (t:=t) Δ hi.1 ⟨2,0,0⟩;dsimp only[O2] at this;rw[this,a4L,Za hi.1];rfl
 .rw[rD hR hn];unfold mV;rw[Hq hR,kY hR.l1 hR.l8 hn];rfl
theorem a3r{t:Tb}(hR:HR t)(k v:Int){r:Tb × Int}(h:yP t k v r):AS (t.map O2) k v=some (r.1.map O2,r.2):=by
 have c:=hR.l1;have z:=hR.l8;unfold AS;rw[Hq hR];have hw:∀i,i<t.length->dy (t.map O2) (i:Int) ⟨1,k,v⟩=some ((t.set i ⟨1,k,v⟩).map O2):=λi hi=>EO (t:=t) Δ hi ⟨1,k,v⟩;cases h with
 | old i hi=>
  rw[oy hR hi,a4L,zc Ψ,hw i hi.1];rfl
 | new d hn hd hb hf=>
  rw[kY c z hn,a4L,za Θ,zX,JW,AG c Δ,a4L];simp only[jn];rw[<-Js c k];obtain⟨e,he,A⟩:=Gw (f:=λ((a,m):Int × Int)=>
   if (decide (m<(t.length:Int))) then
    (ix (t.map O2) a).bind λu=>
    if (u.State != 1) then
     (dy (t.map O2) a (⟨1,k,v⟩:o7)).bind λw=>
     some (Sum.inr (Sum.inl (β:=Unit) (w,(0:Int))))
    else
    (rem (z8 (a+1)) (t.length:Int)).bind λy=>
    some (Sum.inl (y,z8 (m+1)))
   else
   some (Sum.inr (Sum.inr ()))) (λd=>(((pos t.length k d:Nat):Int),(d:Int))) d (λ_=>True) (λe=>e = .inl ((t.set (pos t.length k d) ⟨1,k,v⟩).map O2,0)) Δ trivial (λj hj _=>by
    have hp:=iP c k j;dsimp only;rw[zc Ξ,Za hp,a4L,za (by simpa[O2] using hb j hj),Zs c z,a4L,p9 Δ];exact .inl ⟨rfl,trivial⟩) (λ_=>by
    have hp:=iP c k d;dsimp only;rw[zc (Ω hd),Za hp,a4L,zc (by simpa[O2] using hf),hw _ hp];exact⟨_,rfl,rfl⟩)
  have q:lp _ (((pos t.length k 0:Nat):Int),(0:Int))=some e:=he;rw[q,A];rfl
 | full hn ha=>
  rw[kY c z hn,a4L,za Θ,zX,JW,AG c Δ,a4L];simp only[jn];rw[<-Js c k];obtain⟨e,he,A⟩:=Gw (f:=λ((a,m):Int × Int)=>
   if (decide (m<(t.length:Int))) then
    (ix (t.map O2) a).bind λu=>
    if (u.State != 1) then
     (dy (t.map O2) a (⟨1,k,v⟩:o7)).bind λw=>
     some (Sum.inr (Sum.inl (β:=Unit) (w,(0:Int))))
    else
    (rem (z8 (a+1)) (t.length:Int)).bind λy=>
    some (Sum.inl (y,z8 (m+1)))
   else
   some (Sum.inr (Sum.inr ()))) (λd=>(((pos t.length k d:Nat):Int),(d:Int))) t.length (λ_=>True) (λe=>e = .inr ()) Δ trivial (λj hj _=>by
    have hp:=iP c k j;dsimp only;rw[zc Ξ,Za hp,a4L,za (by simpa[O2] using ha _ hp),Zs c z,a4L,p9 Δ];exact .inl ⟨rfl,trivial⟩) (λ_=>⟨.inr (),Ψ,rfl⟩)
  have q:lp _ (((pos t.length k 0:Nat):Int),(0:Int))=some e:=he;rw[q,A];rfl
theorem Ce{t:Tb}{r:Tb × Int}(h:yP t k v r):r.1.length=t.length:=by cases h <;> simp
theorem jW(t:Tb):(keys t).length=t.countP (·.State==1):=by
 unfold keys;rw[zX,zbq]
theorem vj{t:Tb}(h:i<t.length)(p:c8):(keys (t.set i p)).length+(if (pt t i).State=1 then 1 else 0)=(keys t).length+if p.State=1 then 1 else 0:=by
 rw[jW,jW,List.countP_set h,yu h];simp only[wl];have:(if t[i].State=1 then 1 else 0)<=t.countP λc=>c.State==1:=by
  split
  .rename_i e;exact zbr.2 ⟨t[i],zk h,Ω e⟩
  .exact rg _
 omega
theorem PZ{t:Tb}(h:∀i,i<t.length->(pt t i).State=1):(keys t).length=t.length:=by
 rw[jW,List.countP_eq_length];intro a ha;obtain⟨i,hi,rfl⟩:=zbk ha;have:=h i hi;rw[yu hi] at this;simpa using this
theorem Xh{t:Tb}(hi:i<t.length)(h:(pt t i).State≠1):(keys t).length<t.length:=by
 have a:(keys t).length<=t.length:=by rw[jW];exact za3
 rcases zE (keys t).length t.length with q | q
 .exact q
 .exfalso;have e:(keys t).length=t.length:=by omega
  rw[jW,List.countP_eq_length] at e;have:=e t[i] (zk hi);rw[yu hi] at h;exact h (Ω this)
structure TM {V:Type} (φ:V->Int->Prop) (t:Tb) (m:List (Int × V)):Prop where
 R:HR t
 nd:(m.map (·.1)).Nodup
 len:(keys t).length=m.length
 has:∀k,(∀v,Has t k v->∃u,C0 m k=some u/\φ u v)/\((C0 m k).isSome=true->∃v,Has t k v)
theorem TM.some{V:Type}{φ:V->Int->Prop}{t:Tb}{m:List (Int × V)}(h:TM φ t m)(k:Int):(∃v u,Has t k v/\C0 m k=some u/\φ u v)\/(C0 m k=none/\∀v,¬Has t k v):=by
 rcases a0M t k with ⟨v,hv⟩ | hn
 .obtain⟨u,a,c⟩:=(h.has k).1 v hv;exact .inl ⟨v,u,hv,a,c⟩
 .refine .inr ⟨?_,hn⟩;cases e:C0 m k with
  | none=>rfl
  | some u=>
   obtain⟨v,hv⟩:=(h.has k).2 (by rw[e];rfl);exact absurd hv (hn v)
theorem TM.put{V:Type}{φ:V->Int->Prop}{t:Tb}{m:List (Int × V)}(h:TM φ t m)(k v:Int)(u:V)(hφ:φ u v):∃r,jU t k v = .some r/\r.1.length=t.length/\((r.2=0/\TM φ r.1 (r7 m k u)/\((C0 m k).isSome=true\/m.length<t.length))\/(r=(t,8)/\(C0 m k)=none/\m.length=t.length)):=by
 obtain⟨r,hr,hp⟩:=put_eq h.R k v;refine⟨r,hr,Ce hp,?_⟩;have y:=ue h.R hp;by_cases h0:r.2=0
 .left;have hh:=GO h.R hp h0;have f:∀k',(∀w,Has r.1 k' w->∃x,C0 (r7 m k u) k' = .some x/\φ x w)/\((C0 (r7 m k u) k').isSome=true->∃w,Has r.1 k' w):=λk'=>by
   rw[rQ];by_cases e:k'=k
   .subst e;rw[zc rfl];refine⟨λw hw=>?_,λ_=>⟨v,(hh _ _).2 (.inl ⟨rfl,rfl⟩)⟩⟩;rcases (hh _ _).1 hw with ⟨_,rfl⟩ | ⟨q,_⟩;·exact⟨u,rfl,hφ⟩
    .exact absurd rfl q
   .rw[za e];refine⟨λw hw=>?_,λq=>?_⟩
    .rcases (hh _ _).1 hw with ⟨q,_⟩ | ⟨_,q⟩;·exact absurd q e
     .exact (h.has k').1 w q
    .obtain⟨w,hw⟩:=(h.has k').2 q;exact⟨w,(hh _ _).2 (.inr ⟨e,hw⟩)⟩
  have hlen:(keys r.1).length=(r7 m k u).length/\((C0 m k).isSome=true\/m.length<t.length):=by
   rw[Tv];cases hp with
   | old i hi=>
    have a:(C0 m k).isSome=true:=by
     obtain⟨x,a,_⟩:=(h.has k).1 _ ⟨i,hi,rfl⟩;rw[a];rfl
    have:=vj hi.1 ⟨1,k,v⟩;rw[zc hi.2.1,zc rfl,h.len] at this;rw[zc a];exact⟨Ωg,.inl a⟩
   | new d hn hd hb hf=>
    have a:(C0 m k)=none:=by
     rcases h.some k with ⟨w,x,hw,_⟩ | ⟨q,_⟩
     .obtain⟨i,hi,_⟩:=hw;exact absurd hi (hn i)
     .exact q
    have c:=iP h.R.l1 k d;have:=vj c ⟨1,k,v⟩;rw[za hf,zc rfl,h.len] at this;rw[a];have z:=Xh c hf;rw[h.len] at z;exact⟨Ω this,.inr z⟩
   | full hn ha=>cases h0
  exact⟨h0,⟨y,LL h.nd k u,hlen.1,f⟩,hlen.2⟩
 .right;cases hp with
  | old i hi=>exact absurd rfl h0
  | new d hn hd hb hf=>exact absurd rfl h0
  | full hn ha=>
   refine⟨rfl,?_,?_⟩
   .rcases h.some k with ⟨w,x,hw,_⟩ | ⟨q,_⟩
    .obtain⟨i,hi,_⟩:=hw;exact absurd hi (hn i)
    .exact q
   .rw[<-h.len,PZ ha]
theorem TM.drop{V:Type}{φ:V->Int->Prop}{t:Tb}{m:List (Int × V)}(h:TM φ t m)(k:Int):(∃r v u,bf t k = .some (r,v,0)/\r.length=t.length/\C0 m k = .some u/\φ u v/\TM φ r (xr m k))\/(bf t k = .some (t,0,9)/\C0 m k=none/\xr m k=m):=by
 rcases yn t k with ⟨i,hi⟩ | hn
 .left;obtain⟨u,a,c⟩:=(h.has k).1 _ ⟨i,hi,rfl⟩;refine⟨_,_,u,rE h.R hi,Ψ,a,c,kV h.R hi.1,(Tp m k).nodup h.nd,?_,λk'=>?_⟩
  .have:=vj hi.1 ⟨2,0,0⟩;rw[zc hi.2.1,za Θ,h.len] at this;rw[To,a];simp only[Option.isSome_some,wd];omega
  .have hh:=Br h.R hi;rw[Qf h.nd];by_cases e:k'=k
   .subst e;rw[zc rfl];exact⟨λw hw=>absurd rfl ((hh _ _).1 hw).1,λq=>Γ⟩
   .rw[za e];refine⟨λw hw=>(h.has k').1 w ((hh _ _).1 hw).2,λq=>?_⟩;obtain⟨w,hw⟩:=(h.has k').2 q;exact⟨w,(hh _ _).2 ⟨e,hw⟩⟩
 .right;have a:C0 m k=none:=by
   rcases h.some k with ⟨w,x,hw,_⟩ | ⟨q,_⟩
   .obtain⟨i,hi,_⟩:=hw;exact absurd hi (hn i)
   .exact q
  refine⟨rD h.R hn,a,?_⟩;have:∀(l:List (Int × V)),C0 l k=none->xr l k=l:=by
   intro l;induction l with
   | nil=>intro _;rfl
   | cons p l ih=>
    intro q;unfold C0 at q;unfold xr;by_cases e:k=p.1
    .rw[zc (Ω e)] at q;cases q
    .rw[za (Ω e)] at q;rw[za (Ω e),ih q]
  exact this m a
theorem a01(a:1<=n)(c:n<=8):vd (n:Int)=some (List.replicate n ⟨0,0,0⟩):=by
 unfold vd;rw[za Ξ,mJ Δ Δ];rfl
theorem Cc:pt (List.replicate n ⟨0,0,0⟩) j=⟨0,0,0⟩:=by
 unfold pt;rw[zg,List.getElem?_replicate];split <;> rfl
theorem a10{V:Type}(φ:V->Int->Prop){n:Nat}(a:1<=n)(c:n<=8):TM φ (List.replicate n ⟨0,0,0⟩) []:=by
 refine⟨⟨Ω a,Ω c,λi hi=>?_,λi j hi hj s=>?_,λi hi s=>?_⟩,Ψ,?_,λk=>⟨λv hv=>?_,λq=>Γ⟩⟩;·rw[Cc];exact⟨.inl rfl,λ_=>⟨rfl,rfl⟩⟩
 .rw[Cc] at s;cases s
 .rw[Cc] at s;cases s
 .rw[jW,List.countP_replicate];rfl
 .obtain⟨i,hi,_⟩:=hv;have:=hi.2.1;rw[Cc] at this;cases this
abbrev pp(p:w7):E8:=⟨p.Key,p.Val⟩
def du(t:Tb):List w7:=(t.filter (·.State==1)).map λp=>⟨p.Key,p.Val⟩
theorem vi(t:Tb):keys t=(du t).map (·.Key):=by
 unfold keys du;rw[List.map_map];rfl
theorem cH(t:Tb):(du t).length=(keys t).length:=by rw[vi,zX]
theorem lW{t:Tb}(h:t.length<=8):(du t).length<=8:=by
 rw[cH,jW];exact ul za3 h
theorem jk{t:Tb}{p:w7}:p∈du t↔Has t p.Key p.Val:=by
 unfold du Has;rw[zP];constructor
 .rintro⟨q,f,rfl⟩;obtain⟨c,a⟩:=zy.1 f;obtain⟨i,hi,rfl⟩:=zbk c;refine⟨i,⟨hi,?_,?_⟩,?_⟩ <;> rw[yu hi]
  simpa using a
 .rintro⟨i,⟨hi,c,a⟩,e⟩;rw[yu hi] at c a e;refine⟨t[i],zy.2 ⟨zk hi,Ω c⟩,?_⟩;cases p;simp at a e |-;exact⟨a,e⟩
theorem GN{t:Tb}(hR:HR t)(h:j<(du t).length):Q5 t (du t)[j].Key=some ((du t)[j].Val,0):=NI hR (jk.1 (zk h))
theorem YO{E R:Type}{x:Option E}{r:E}{κ:E->Option R}{y:Option R}(h:x=some r)(hy:κ r=y):((x.bind λe=>some e).bind κ)=y:=by rw[h];exact hy
theorem TY{t:Tb}(hR:HR t):kX t=some (du t):=by
 have a:=hR.l8;have hp:=lW a;unfold kX E1 ef gN;simp only[jn,a4L];rw[keys_eq Δ,a4L];refine YO (cP (gu (du t).length (λk l=>l=(du t).take k) (λe=>e=du t) Δ Ψ ?_ ?_)) rfl
 .rintro k l hk rfl;refine .inl ⟨_,?_,rfl⟩;dsimp only;rw[zc Δz,x8 ΩN,a4L];have e:(keys t)[k]'ΩN=(du t)[k].Key:=by simp[vi]
  rw[e,GN hR hk,a4L,zc (by trivial),B5 Δ Ξ,a4L,p9 Δ,zn hk]
 .rintro l rfl;exact⟨_,by rw[<-cH];simp;rfl,Ψ⟩
theorem EJ{t:Tb}(hR:HR t):mW (t.map O2)=some ((du t).map pp):=by
 have a:=hR.l8;have hp:=lW a;unfold mW;simp only[jn];rw[Un Δ,a4L];refine N7 (du t).length (λk l=>l=((du t).take k).map pp) Δ Ψ ?_ (λl hl=>⟨_,by rw[<-cH];simp;rfl,by rw[hl,zM]⟩);rintro k l hk rfl;refine .inl ⟨_,?_,rfl⟩;rw[zc Δz,x8 ΩN,a4L];have e:(keys t)[k]'ΩN=(du t)[k].Key:=by simp[vi]
 rw[e,Um hR,GN hR hk,a4L,B5 Δ Ξ,a4L,p9 Δ,zn hk,n7];rfl
def own(t:Tb)(h:Int):Nat:=(du t).countP λp=>(h != 0)&&(p.Val==h)
theorem TT{t:Tb}(hR:HR t)(h:Int):kW t h=some (own t h:Int):=by
 have a:=hR.l8;have hp:=lW a;unfold kW E0 ef gM;simp only[jn,a4L];rw[keys_eq Δ,a4L];refine YO (r:=(du t).filter λp=>(h != 0)&&(p.Val==h)) (cP (gu (du t).length (λk l=>l=((du t).take k).filter λp=>(h != 0)&&(p.Val==h)) (λe=>e=(du t).filter λp=>(h != 0)&&(p.Val==h)) Δ Ψ ?_ ?_)) (by unfold own;rw[zbq])
 .rintro k l hk rfl;refine .inl ⟨((du t).take (k+1)).filter λp=>(h != 0)&&(p.Val==h),?_,rfl⟩;dsimp only;rw[zc Δz,x8 ΩN,a4L];have e:(keys t)[k]'ΩN=(du t)[k].Key:=by simp[vi]
  have f:(((du t).take k).filter λp=>(h != 0)&&(p.Val==h)).length<=8:=ul (wt ..) Ξ;rw[e,GN hR hk,a4L,p9 Δ,zn hk,zar,my,zcp];by_cases c:((h != 0)&&((du t)[k].Val==h))=true
  .rw[zc c,zc c,B5 Δ Ωw,a4L]
  .rw[za c,za c,t6]
 .rintro l rfl;exact⟨_,by rw[<-cH];simp;rfl,Ψ⟩
theorem QB{t:Tb}(hR:HR t)(h:Int):sa (t.map O2) h=some (own t h:Int):=by
 have e:=hR.l8;have hp:=lW e;unfold sa;simp only[jn];rw[EJ hR,a4L,zX];refine oJ (λs=>∃k:Nat,k<=(du t).length/\s.2=(k:Int)/\s.1=((((du t).take k).countP λp=>(h != 0)&&(p.Val==h):Nat):Int)) (λs=>(du t).length+1-s.2.toNat) ⟨0,Δ,rfl,Ψ⟩ Ξ ?_;rintro⟨_,_⟩ ⟨k,hk,rfl,rfl⟩;dsimp only;by_cases a:k<(du t).length
 .left;rw[zc (Ω a),dI,x8 a,ww,a4L,p9 (n:=k) Δ];have f:(((du t).take k).countP λp=>(h != 0)&&(p.Val==h))<=8:=ul za3 Ξ;have hstep:(((du t).take (k+1)).countP λp=>(h != 0)&&(p.Val==h))=(((du t).take k).countP λp=>(h != 0)&&(p.Val==h))+if ((h != 0)&&((du t)[k].Val==h))=true then 1 else 0:=by
   rw[zn a,List.countP_append,List.countP_cons,List.countP_nil,m7]
  by_cases c:((h != 0)&&((du t)[k].Val==h))=true
  .rw[zc (by simp only[zo] at c |-;exact⟨c.2,c.1⟩),p9 Δ];rw[zc c] at hstep;exact⟨_,rfl,⟨k+1,Δ,rfl,by rw[hstep]⟩,Ξ⟩
  .rw[za (by simp only[zo] at c |-;exact λq=>c ⟨q.2,q.1⟩)];rw[za c] at hstep;exact⟨_,rfl,⟨k+1,Δ,rfl,by rw[hstep];rfl⟩,Ξ⟩
 .right;have:k=(du t).length:=by omega
  subst this;exact⟨_,by rw[za Ψ],by rw[zM];rfl⟩
theorem MD{t:Tb}(hR:HR t)(k v:Int):∃r,V0 t k v=some r/\HR r.1/\r.1.length=t.length /\
  ((k=0/\r=(t,0,2))\/(k≠0/\v=0/\((∃i,Fk t k i/\r=(t.set i ⟨2,0,0⟩,(pt t i).Val,0))\/((∀i,¬Fk t k i)/\r=(t,0,0)))) \/
   (k≠0/\v≠0/\((∃i,Fk t k i/\r=(t.set i ⟨1,k,v⟩,(pt t i).Val,0))\/(∃d,(∀i,¬Fk t k i)/\d<t.length/\(pt t d).State≠1/\yP t k v (t.set d ⟨1,k,v⟩,0)/\r=(t.set d ⟨1,k,v⟩,0,0))\/((∀i,¬Fk t k i)/\(∀i,i<t.length->(pt t i).State=1)/\r=(t,0,8))))):=by
 unfold V0;by_cases hk:k=0
 .rw[zc (Ω hk)];exact⟨_,rfl,hR,rfl,.inl ⟨hk,rfl⟩⟩
 .rw[za (Ω hk)];obtain⟨g,f,a⟩:∃g,Q5 t k=some g/\((∃i,Fk t k i/\g=((pt t i).Val,0))\/((∀i,¬Fk t k i)/\g=(0,9))):=by
   rcases yn t k with ⟨i,hi⟩ | hn;·exact⟨_,LC hR hi,.inl ⟨i,hi,rfl⟩⟩
   .exact⟨_,LA hR hn,.inr ⟨hn,rfl⟩⟩
  rw[f,a4L];by_cases hv:v=0
  .rw[zc (Ω hv)];rcases a with ⟨i,hi,rfl⟩ | ⟨hn,rfl⟩
   .rw[rE hR hi,a4L];exact⟨_,rfl,kV hR hi.1,Ψ,.inr (.inl ⟨hk,hv,.inl ⟨i,hi,rfl⟩⟩)⟩
   .rw[rD hR hn,a4L];exact⟨_,rfl,hR,rfl,.inr (.inl ⟨hk,hv,.inr ⟨hn,rfl⟩⟩)⟩
  .rw[za (Ω hv)];obtain⟨r,hr,hp⟩:=put_eq hR k v;rw[hr,a4L];have c:=ue hR hp;have hl:=Ce hp;have e:=hp;cases hp with
   | old i hi=>
    rcases a with ⟨j,hj,rfl⟩ | ⟨hn,rfl⟩
    .rw[hR.uq j i hj.1 hi.1 hj.2.1 hi.2.1 (hj.2.2.trans hi.2.2.symm)];exact⟨_,rfl,c,hl,.inr (.inr ⟨hk,hv,.inl ⟨i,hi,rfl⟩⟩)⟩
    .exact absurd hi (hn i)
   | new d hn hd hb hf=>
    rcases a with ⟨j,hj,rfl⟩ | ⟨_,rfl⟩;·exact absurd hj (hn j)
    .exact⟨_,rfl,c,hl,.inr (.inr ⟨hk,hv,.inr (.inl ⟨_,hn,iP hR.l1 k d,hf,e,rfl⟩)⟩)⟩
   | full hn ha=>exact⟨_,rfl,hR,rfl,.inr (.inr ⟨hk,hv,.inr (.inr ⟨hn,ha,rfl⟩)⟩)⟩
theorem QD{t:Tb}(hR:HR t)(k v:Int):∃r,V0 t k v=some r/\HR r.1/\r.1.length=t.length/\AT (t.map O2) k v=some (r.1.map O2,r.2) /\
  ((k=0/\r=(t,0,2))\/(k≠0/\v=0/\((∃i,Fk t k i/\r=(t.set i ⟨2,0,0⟩,(pt t i).Val,0))\/((∀i,¬Fk t k i)/\r=(t,0,0)))) \/
   (k≠0/\v≠0/\((∃i,Fk t k i/\r=(t.set i ⟨1,k,v⟩,(pt t i).Val,0))\/(∃d,(∀i,¬Fk t k i)/\d<t.length/\(pt t d).State≠1/\yP t k v (t.set d ⟨1,k,v⟩,0)/\r=(t.set d ⟨1,k,v⟩,0,0))\/((∀i,¬Fk t k i)/\(∀i,i<t.length->(pt t i).State=1)/\r=(t,0,8))))):=by
 unfold V0 AT;by_cases hk:k=0
 .rw[zc (Ω hk),zc (Ω hk)];exact⟨_,rfl,hR,rfl,rfl,.inl ⟨hk,rfl⟩⟩
 .rw[za (Ω hk),za (Ω hk),Um hR];obtain⟨g,f,a⟩:∃g,Q5 t k=some g/\((∃i,Fk t k i/\g=((pt t i).Val,0))\/((∀i,¬Fk t k i)/\g=(0,9))):=by
   rcases yn t k with ⟨i,hi⟩ | hn;·exact⟨_,LC hR hi,.inl ⟨i,hi,rfl⟩⟩
   .exact⟨_,LA hR hn,.inr ⟨hn,rfl⟩⟩
  rw[f,a4L,a4L];by_cases hv:v=0
  .rw[zc (Ω hv),zc (Ω hv),Ui hR];rcases a with ⟨i,hi,rfl⟩ | ⟨hn,rfl⟩
   .rw[rE hR hi,a4L];exact⟨_,rfl,kV hR hi.1,Ψ,rfl,.inr (.inl ⟨hk,hv,.inl ⟨i,hi,rfl⟩⟩)⟩
   .rw[rD hR hn,a4L];exact⟨_,rfl,hR,rfl,rfl,.inr (.inl ⟨hk,hv,.inr ⟨hn,rfl⟩⟩)⟩
  .rw[za (Ω hv),za (Ω hv)];obtain⟨r,hr,hp⟩:=put_eq hR k v;rw[hr,a4L,a3r hR k v hp,a4L];have c:=ue hR hp;have hl:=Ce hp;have e:=hp;cases hp with
   | old i hi=>
    rcases a with ⟨j,hj,rfl⟩ | ⟨hn,rfl⟩
    .rw[hR.uq j i hj.1 hi.1 hj.2.1 hi.2.1 (hj.2.2.trans hi.2.2.symm)];exact⟨_,rfl,c,hl,rfl,.inr (.inr ⟨hk,hv,.inl ⟨i,hi,rfl⟩⟩)⟩
    .exact absurd hi (hn i)
   | new d hn hd hb hf=>
    rcases a with ⟨j,hj,rfl⟩ | ⟨_,rfl⟩;·exact absurd hj (hn j)
    .exact⟨_,rfl,c,hl,rfl,.inr (.inr ⟨hk,hv,.inr (.inl ⟨_,hn,iP hR.l1 k d,hf,e,rfl⟩)⟩)⟩
   | full hn ha=>exact⟨_,rfl,hR,rfl,rfl,.inr (.inr ⟨hk,hv,.inr (.inr ⟨hn,ha,rfl⟩)⟩)⟩
theorem EC(t:Tb)(h:Int):own t h=t.countP λp=>(p.State==1)&&((h != 0)&&(p.Val==h)):=by
 unfold own du;rw[List.countP_map,List.countP_filter];congr 1;funext p
 simp[Bool.and_comm]
theorem On{t:Tb}(hi:i<t.length)(p:c8)(h:Int):own (t.set i p) h+(if (((pt t i).State==1)&&((h != 0)&&((pt t i).Val==h)))=true then 1 else 0)=own t h+if ((p.State==1)&&((h != 0)&&(p.Val==h)))=true then 1 else 0:=by
 rw[EC,EC,List.countP_set hi,yu hi];have:(if ((t[i].State==1)&&((h != 0)&&(t[i].Val==h)))=true then 1 else 0)<=t.countP λp=>(p.State==1)&&((h != 0)&&(p.Val==h)):=by
  split
  .rename_i e;exact zbr.2 ⟨t[i],zk hi,e⟩
  .exact rg _
 omega
theorem LP{t:Tb}(a:t.length<=8)(h:Int):own t h<=8:=ul za3 (lW a)
theorem KJ{t:Tb}(hR:HR t)(ks:List Int)(T:ks.length<=1000):∃a c,ba t ks=some (a,c)/\HR a/\a.length=t.length/\c.length<=ks.length/\iz (t.map O2) ks=some (a.map O2,c) /\
  (∀k v,Has a k v↔k∉ks/\Has t k v)/\(keys a).length+c.length=(keys t).length/\(∀k v,k∈ks->Has t k v->v∈c)/\∀y,own a y+bx c y=own t y:=by
 have key:∀n,n<=ks.length->∃a c,HR a/\a.length=t.length/\c.length<=n/\(∀k v,Has a k v↔k∉ks.take n/\Has t k v)/\(keys a).length+c.length=(keys t).length/\(∀k v,k∈ks.take n->Has t k v->v∈c)/\(∀y,own a y+bx c y=own t y) /\
   ∃f:Nat->Tb × List Int,f 0=(t,[])/\f n=(a,c)/\∀j,(hj:j<n)->HR (f j).1/\(f j).2.length<=j/\((∃i,∃hjk:j<ks.length,Fk (f j).1 ks[j] i/\f (j+1)=((f j).1.set i ⟨2,0,0⟩,(f j).2 ++ [(pt (f j).1 i).Val]))\/((∀i,∀hjk:j<ks.length,¬Fk (f j).1 ks[j] i)/\f (j+1)=f j)):=by
  intro n;induction n with
  | zero=>exact λ_=>⟨t,[],hR,rfl,Ψ,Ψ,Ψ,Ψ,λy=>by unfold bx;split <;> simp,λ_=>(t,[]),rfl,rfl,λj hj=>Δ⟩
  | succ n ih=>
   intro hn;obtain⟨a,c,w,H,K,z,Q,B,N,f,E,fn,fs⟩:=ih Δ;have F:n<ks.length:=Δ
   have r:∀k,k∈ks.take (n+1)↔k∈ks.take n\/k=ks[n]:=λk=>by
    rw[zn F,zC,zR]
   rcases yn a ks[n] with ⟨i,hi⟩ | m
   .have hd:=Br w hi;refine⟨a.set i ⟨2,0,0⟩,c ++ [(pt a i).Val],kV w hi.1,Ω H,Ξ,λk v=>?_,?_,λk v hk hv=>?_,λy=>?_,λj=>if j=n+1 then (a.set i ⟨2,0,0⟩,c ++ [(pt a i).Val]) else f j,by simp[E],Ψ,λj hj=>?_⟩
    .rw[hd,z,r];constructor;·rintro⟨u,A,V⟩;exact⟨λq=>q.elim A u,V⟩
     .rintro⟨u,A⟩;exact⟨λq=>u (.inr q),λq=>u (.inl q),A⟩
    .have:=vj hi.1 ⟨2,0,0⟩;rw[zc hi.2.1,za Θ] at this;simp only[zD,zl,zT];omega
    .rw[zC];rcases (r k).1 hk with q | q
     .exact .inl (B k v q hv)
     .subst q;by_cases G:ks[n]∈ks.take n
      .exact .inl (B _ v G hv)
      .have:=(z _ _).2 ⟨G,hv⟩;rw[this.fn w ⟨i,hi,rfl⟩];exact .inr Ψ
    .have:=On hi.1 ⟨2,0,0⟩ y;have S:=N y;rw[P0];have e:bx [(pt a i).Val] y=if (((pt a i).State==1)&&((y != 0)&&((pt a i).Val==y)))=true then 1 else 0:=by
      rw[hi.2.1];unfold bx;by_cases y0:y=0
      .simp[y0]
      .by_cases e:(pt a i).Val=y
       .simp[y0,e]
       .simp[y0,e]
     rw[e];rw[za (show ¬((((2:Int)==1)&&((y != 0)&&((0:Int)==y)))=true) by simp)] at this;omega
    .rcases zE j n with q | q
     .have:=fs j q;dsimp only;rw[za Δ,za Δ];exact this
     .have:j=n:=by omega
      subst this;dsimp only;rw[za Δ,zc rfl,fn];exact⟨w,K,.inl ⟨i,F,hi,rfl⟩⟩
   .refine⟨a,c,w,H,Δ,λk v=>?_,Q,λk v hk hv=>?_,N,λj=>if j=n+1 then (a,c) else f j,by simp[E],Ψ,λj hj=>?_⟩
    .rw[z,r];constructor
     .rintro⟨u,A⟩;refine⟨λq=>q.elim u λq=>?_,A⟩;subst q;obtain⟨i,hi,_⟩:=(z _ _).2 ⟨u,A⟩;exact m i hi
     .rintro⟨u,A⟩;exact⟨λq=>u (.inl q),A⟩
    .rcases (r k).1 hk with q | q
     .exact B k v q hv
     .subst q;by_cases G:ks[n]∈ks.take n
      .exact B _ v G hv
      .obtain⟨i,hi,_⟩:=(z _ _).2 ⟨G,hv⟩;exact absurd hi (m i)
    .rcases zE j n with q | q
     .have:=fs j q;dsimp only;rw[za Δ,za Δ];exact this
     .have:j=n:=by omega
      subst this;dsimp only;rw[za Δ,zc rfl,fn];exact⟨w,K,.inr ⟨λi _=>m i,rfl⟩⟩
 obtain⟨a,c,w,H,K,z,Q,B,N,f,E,fn,fs⟩:=key ks.length (zq _);rw[zM] at z B;refine⟨a,c,?_,w,H,K,?_,z,Q,B,N⟩
 .unfold ba;simp only[jn];refine fu (λj=>((f j).1,(j:Int),(f j).2)) (by rw[E];rfl) ks.length (λ_=>True) Δ trivial (λj hj _=>?_) (λ_=>⟨(a,c),by dsimp only;rw[za Ψ,fn],rfl⟩);obtain⟨C,R,P⟩:=fs j hj;left;refine⟨?_,trivial⟩;dsimp only;rw[zc (Ω hj),x8 hj,a4L,p9 Δ];rcases P with ⟨i,_,hi,e⟩ | ⟨m,e⟩
  .rw[rE C hi,a4L,e];dsimp only;rw[zc Θ,B5 Δ Ξ,a4L]
  .rw[rD C (λi=>m i hj),a4L,e];dsimp only;rw[za Θ]
 .unfold iz;simp only[jn];refine fu (λj=>((f j).1.map O2,(j:Int),(f j).2)) (by rw[E];rfl) ks.length (λ_=>True) Δ trivial (λj hj _=>?_) (λ_=>⟨(a.map O2,c),by dsimp only;rw[za Ψ,fn],rfl⟩);obtain⟨C,R,P⟩:=fs j hj;left;refine⟨?_,trivial⟩;dsimp only;rw[zc (Ω hj),x8 hj,a4L,p9 Δ,Ui C];rcases P with ⟨i,_,hi,e⟩ | ⟨m,e⟩
  .rw[rE C hi,ww,a4L,e];dsimp only;rw[zc Θ,B5 Δ Ξ,a4L]
  .rw[rD C (λi=>m i hj),ww,a4L,e];dsimp only;rw[za Θ]
inductive dj (s:a7) (t:Tb) (l:List Int):Int->Prop
 | base {h:Int}:h∈l->h∈lv s->dj s t l h
 | step {a b:Int}:dj s t l a->b∈outs s a->b∈lv s->dj s t l b
 | pair {k v:Int}:Has t k v->dj s t l k->v∈lv s->dj s t l v
open Classical in
noncomputable def HZ (s:a7) (t:Tb) (l:List Int):List Int:=(lv s).filter λh=>decide (dj s t l h)
open Classical in
noncomputable def fls (s:a7) (t:Tb) (l:List Int):List Int:=(lv s).filter λh=>decide (¬dj s t l h)
noncomputable def Ca(s:a7)(t:Tb)(l:List Int):List Int:=((du t).filter λp=>decide (p.Key∈l/\p.Key∈lv s/\p.Val∈lv s)).map (·.Val)
def TB(t:Tb):Prop:=∀p∈t,p.Key<=9223372036854775807/\p.Val<=9223372036854775807
def MR(s:a7)(t:Tb)(l:List Int):Prop:=∀k v,Has t k v->k∈l->k∈lv s->v∈lv s->v∈l
theorem TB.has{t:Tb}(h:TB t)(q:Has t k v):k<=9223372036854775807/\v<=9223372036854775807:=by
 obtain⟨i,⟨a,_,c⟩,e⟩:=q;rw[yu a] at c e;have:=h _ (zk a);rw[c,e] at this;exact this
theorem dj.live{t:Tb}{l:List Int}{h:Int}(q:dj s t l h):h∈lv s:=by cases q <;> assumption
open Classical in
theorem oz  {t:Tb} {l:List Int} {h:Int}:h∈HZ s t l↔dj s t l h:=by
 unfold HZ;rw[zy];exact⟨λq=>zbh q.2,λq=>⟨q.live,zB q⟩⟩
theorem Gc(hR:wN (sO s))(t:Tb)(l:List Int):(HZ s t l).length<=24:=ul (wt ..) (J5 hR)
theorem a0A(hR:wN (sO s))(t:Tb)(l:List Int):LB (HZ s t l):=λx hx=>by have:=lT hR (oz.1 hx).live;omega
theorem a1B(hR:wN (sO s))(l:List Int):LB (Ie s l):=λx hx=>by have:=lT hR (bK.1 hx).live;omega
theorem a0z(s:a7)(t:Tb)(l:List Int):Cl s (HZ s t l):=λa ha b hb hl=>oz.2 (.step (oz.1 ha) hb hl)
theorem dj.least{s:a7}{t:Tb}{l m:List Int}(hc:Cl s m)(hp:MR s t m)(hl:∀x∈l,x∈lv s->x∈m){h:Int}(q:dj s t l h):h∈m:=by
 induction q with
 | base a c=>exact hl _ a c
 | step _ a c ih=>exact hc _ ih _ a c
 | pair a c e ih=>exact hp _ _ a ih c.live e
theorem dj.mono{s:a7}{t u:Tb}{l m:List Int}(ht:∀k v,Has t k v->Has u k v)(hl:∀x∈l,x∈lv s->dj s u m x){h:Int}(q:dj s t l h):dj s u m h:=by
 induction q with
 | base a c=>exact hl _ a c
 | step _ a c ih=>exact .step ih a c
 | pair a _ e ih=>exact .pair (ht _ _ a) ih e
theorem sY.a4i{s:a7}(t:Tb){l:List Int}{h:Int}(q:sY s l h):dj s t l h:=by
 induction q with
 | base a c=>exact .base a c
 | step _ a c ih=>exact .step ih a c
theorem vB{t:Tb}{l:List Int}:v∈Ca s t l↔∃k,Has t k v/\k∈l/\k∈lv s/\v∈lv s:=by
 unfold Ca;rw[zP];constructor
 .rintro⟨p,hp,rfl⟩;obtain⟨a,c⟩:=zy.1 hp;exact⟨p.Key,jk.1 a,zbh c⟩
 .rintro⟨k,a,c⟩;exact⟨⟨k,v⟩,zy.2 ⟨jk.2 a,zB c⟩,rfl⟩
theorem GI{t:Tb}{l:List Int}:(∀v∈Ca s t l,v∈l)↔MR s t l:=by
 constructor;·exact λh k v a c e f=>h v (vB.2 ⟨k,a,c,e,f⟩)
 .intro h v hv;obtain⟨k,a,c,e,f⟩:=vB.1 hv;exact h k v a c e f
theorem GJ{s:a7}{t:Tb}(hT:HR t)(l:List Int):(Ca s t l).length<=8:=by
 unfold Ca;rw[zX];exact ul (wt ..) (lW hT.l8)
theorem a1h(hR:wN (sO s))(t:Tb)(l:List Int):LB (Ca s t l):=λx hx=>by
 obtain⟨_,_,_,_,h⟩:=vB.1 hx;have:=lT hR h;omega
noncomputable def L6(s:a7)(t:Tb)(l:List Int):Nat->List Int
 | 0=>Ie s l
 | k+1=>Ie s (L6 s t l k++Ca s t (L6 s t l k))
section
variable{s:a7}{t:Tb}{l:List Int}
theorem xK(k:Nat):L6 s t l (k+1)=Ie s (L6 s t l k++Ca s t (L6 s t l k)):=rfl
theorem nt(k:Nat):∃m,L6 s t l k=Ie s m:=by
 cases k with
 | zero=>exact⟨_,rfl⟩
 | succ k=>exact⟨_,rfl⟩
theorem Yb(k:Nat):Cl s (L6 s t l k):=by
 obtain⟨m,e⟩:=nt (s:=s) (t:=t) (l:=l) k;rw[e];exact a1A s m
theorem Qy(k:Nat){x:Int}(h:x∈L6 s t l k):x∈lv s:=by
 obtain⟨m,e⟩:=nt (s:=s) (t:=t) (l:=l) k;rw[e] at h;exact (bK.1 h).live
theorem JY(k:Nat){x:Int}(h:x∈L6 s t l k):x∈L6 s t l (k+1):=bK.2 (.base (zC.2 (.inl h)) (Qy k h))
theorem Qx(k:Nat):∀x∈l,x∈lv s->x∈L6 s t l k:=by
 induction k with
 | zero=>exact λx a c=>bK.2 (.base a c)
 | succ k ih=>exact λx a c=>JY k (ih x a c)
theorem Ur(k:Nat):∀x∈L6 s t l k,dj s t l x:=by
 induction k with
 | zero=>exact λx h=>(bK.1 h).a4i t
 | succ k ih=>
  intro x h;have:=bK.1 h;induction this with
  | base a e=>
   rcases zC.1 a with q | q
   .exact ih _ q
   .obtain⟨k',f,m,u,r⟩:=vB.1 q;exact .pair f (ih _ m) r
  | step h0 a e c=>exact .step (c (bK.2 h0)) a e
theorem EI{k:Nat}(h:MR s t (L6 s t l k)):L6 s t l k=HZ s t l:=by
 obtain⟨m,e⟩:=nt (s:=s) (t:=t) (l:=l) k;have hm:∀x,sY s m x↔dj s t l x:=λx=>by
  rw[<-bK,<-e];exact⟨Ur k x,λq=>q.least (Yb k) h (Qx k)⟩
 rw[e];unfold Ie HZ;exact za4 λx _=>zbc.2 (hm x)
theorem Mu{k:Nat}(h:MR s t (L6 s t l k)):L6 s t l (k+1)=L6 s t l k:=by
 obtain⟨m,e⟩:=nt (s:=s) (t:=t) (l:=l) k;rw[xK];have h':=GI.2 h;rw[e] at h' |-;refine EG λx=>⟨λq=>?_,λq=>.base (zC.2 (.inl (bK.2 q))) q.live⟩;refine q.mono λy hy _=>?_;rcases zC.1 hy with c | c
 .exact bK.1 c
 .exact bK.1 (h' y c)
theorem xJ{k:Nat}(h:¬MR s t (L6 s t l k)):((du t).filter λp=>decide (p.Val∈L6 s t l k)).length<((du t).filter λp=>decide (p.Val∈L6 s t l (k+1))).length:=by
 obtain⟨v,hv,hn⟩:∃v,v∈Ca s t (L6 s t l k)/\v∉L6 s t l k:=so λq=>h (GI.1 λv hv=>so λe=>q ⟨v,hv,e⟩);obtain⟨k',a,f,m,c⟩:=vB.1 hv;refine filter_lt (λp _ hp=>?_) ⟨k',v⟩ (jk.2 a) ?_ ?_
 .rw[zG] at hp |-;exact JY k hp
 .rw[zG];exact bK.2 (.base (zC.2 (.inr hv)) c)
 .exact zH hn
theorem wj(s:a7)(t:Tb)(l:List Int):∃n,n<=(du t).length/\MR s t (L6 s t l n)/\∀j,j<n->¬MR s t (L6 s t l j):=by
 have key:∀k,(∃j,j<=k/\MR s t (L6 s t l j))\/k<((du t).filter λp=>decide (p.Val∈L6 s t l (k+1))).length:=by
  intro k;induction k with
  | zero=>
   by_cases h:MR s t (L6 s t l 0)
   .exact .inl ⟨0,zq _,h⟩
   .have:=xJ h;exact .inr Δ
  | succ k ih=>
   rcases ih with ⟨j,e,c⟩ | ih;·exact .inl ⟨j,Δ,c⟩
   .by_cases h:MR s t (L6 s t l (k+1))
    .exact .inl ⟨k+1,zq _,h⟩
    .have:=xJ h;exact .inr Δ
 obtain⟨j,e,c⟩:∃j,j<=(du t).length/\MR s t (L6 s t l j):=by
  rcases key (du t).length with q | q
  .exact q
  .have:=wt (λp:w7=>decide (p.Val∈L6 s t l ((du t).length+1))) (du t);omega
 obtain⟨n,hn,a⟩:=dP (p:=λj=>MR s t (L6 s t l j)) ⟨j,c⟩;exact⟨n,ul (a j c) e,hn,λi hi q=>by have:=a i q;omega⟩
end
noncomputable def Up(s:a7)(t:Tb)(l:List Int):Nat:=Classical.choose (wj s t l)
theorem Uq(s:a7)(t:Tb)(l:List Int):Up s t l<=(du t).length:=(za1 (wj s t l)).1
theorem JX(s:a7)(t:Tb)(l:List Int):MR s t (L6 s t l (Up s t l)):=(za1 (wj s t l)).2.1
theorem OD(s:a7)(t:Tb)(l:List Int){j:Nat}(h:j<Up s t l):¬MR s t (L6 s t l j):=(za1 (wj s t l)).2.2 j h
section
variable{s:a7}(hR:wN (sO s)){t:Tb}(hT:HR t)(hTB:TB t)
include hR hT hTB
omit hT hTB in
theorem Eo {h:Int} (hh:h<=9223372036854775807):jQ h s=some (decide (h∈lv s)):=by
 obtain⟨e,a,c⟩:=Y8 hR hh;unfold jQ;rw[a,a4L];congr 1;rw[zao,wl,zG];exact c
omit hT hTB in
theorem BO {h:Int} (hh:h<=9223372036854775807):mX (sO s) h=some (decide (h∈lv s)):=by
 obtain⟨e,a,c⟩:=Y8 hR hh;unfold mX;rw[mw s Ω7 hh,a];simp only[ww,a4L];congr 1;rw[zao,wl,zG];exact c
theorem Ol{l:List Int}(hl:l.length<=1000000):uR s t l=some (Ca s t l):=by
 unfold uR;simp only[jn,TY hT,a4L];have m:=lW hT.l8;rw[K4 ((du t)) (λb p=>b++(if decide (p.Key∈l/\p.Key∈lv s/\p.Val∈lv s) then [p.Val] else [])) id (λk b=>b.length<=k) Δ Ψ (λk hk b hb=>?_) (λb _=>?_)]
 .simp only[a4L,id];rw[gq];congr 1;unfold Ca;rw[zbz];generalize du t=P;induction P with
  | nil=>rfl
  | cons p P ih=>
   rw[zba,my,ih];by_cases q:p.Key∈l/\p.Key∈lv s/\p.Val∈lv s
   .simp[q]
   .simp[q]
 .have a:=hTB.has (jk.1 (zk hk));simp only[zQ,hk,zY,wd,x8 hk,a4L,contains_eq _ _ hl];rw[Eo hR a.1,Eo hR a.2];by_cases c:(du t)[k].Key∈l
  .rw[zB c];simp only[qr,iv,a4L,zag];by_cases e:(du t)[k].Key∈lv s
   .rw[zB e];simp only[qr,iv,a4L,zag];by_cases f:(du t)[k].Val∈lv s
    .rw[zc (Ω f),B5 Δ Ξ,a4L,p9,zc (by simp[c,e,f])];exact⟨rfl,Ξ⟩
    .rw[za (Ω f),p9,za (by simp[f]),t6];exact⟨rfl,Δ⟩
   .rw[zH e];simp only[show ((false==true):Bool)=false from rfl,BZ,a4L,zbi,zj,wf];rw[p9,za (by simp[e]),t6];exact⟨rfl,Δ⟩
  .rw[zH c];simp only[show ((false==true):Bool)=false from rfl,BZ,a4L,zbi,zj,wf];rw[p9,za (by simp[c]),t6];exact⟨rfl,Δ⟩
 .simp only[zal,zab,zj,wf];rfl
theorem PU{l:List Int}(hl:l.length<=1000000):qN (sO s) (t.map O2) l=some (Ca s t l):=by
 unfold qN;simp only[jn,EJ hT,a4L];have r:=lW hT.l8;rw[K4 ((du t)) (λb p=>b++(if decide (p.Key∈l/\p.Key∈lv s/\p.Val∈lv s) then [p.Val] else [])) id (λk b=>b.length<=k) Δ Ψ (λk hk b hb=>?_) (λb _=>?_)]
 .simp only[a4L,id];rw[gq];congr 1;unfold Ca;rw[zbz];generalize du t=P;induction P with
  | nil=>rfl
  | cons p P ih=>
   rw[zba,my,ih];by_cases q:p.Key∈l/\p.Key∈lv s/\p.Val∈lv s
   .simp[q]
   .simp[q]
 .have a:=hTB.has (jk.1 (zk hk));have m:k<((du t).map pp).length:=by simpa using hk
  have eix:ix ((du t).map pp) (k:Int)=some (pp (du t)[k]):=by rw[dI,x8 hk];rfl
  simp only[zX,zQ,hk,zY,wd,eix,a4L,uZ _ _ hl,pp];rw[BO hR a.1,BO hR a.2];simp only[a4L];by_cases c:(du t)[k].Key∈lv s
  .rw[zB c];simp only[qr,iv,a4L,zag];have h0:=NU hR _ c;by_cases e:(du t)[k].Key∈l
   .rw[zB (show (du t)[k].Key≠0/\(du t)[k].Key∈l from ⟨h0,e⟩)];simp only[qr,iv,a4L,zag];by_cases f:(du t)[k].Val∈lv s
    .rw[zc (Ω f),B5 Δ Ξ,a4L,p9,zc (by simp[c,e,f])];exact⟨rfl,Ξ⟩
    .rw[za (Ω f),p9,za (by simp[f]),t6];exact⟨rfl,Δ⟩
   .rw[zH (show ¬((du t)[k].Key≠0/\(du t)[k].Key∈l) from λq=>e q.2)];simp only[show ((false==true):Bool)=false from rfl,BZ,a4L,zbi,zj,wf];rw[p9,za (by simp[e]),t6];exact⟨rfl,Δ⟩
  .rw[zH c];simp only[show ((false==true):Bool)=false from rfl,BZ,a4L,zbi,zj,wf];rw[p9,za (by simp[c]),t6];exact⟨rfl,Δ⟩
 .simp only[zX,zal,zab,zj,wf];rfl
theorem Sy(hF:FB s){l:List Int}(hl:LB l)(hlen:l.length<=1000000):rH s t l=some (HZ s t l,(Up s t l:Int)):=by
 unfold rH;rw[ND hR hF hl hlen,a4L];simp only[jn];have hn:=Uq s t l;have E:=lW hT.l8;have hstep:∀k,∃m,L6 s t l k=Ie s m:=nt;refine fu (p:=λk=>(L6 s t l k,(k:Int))) rfl (Up s t l) (λ_=>True) Δ trivial (λk hk _=>.inl ⟨?_,trivial⟩) (λ_=>?_)
 .obtain⟨m,hm⟩:=hstep k;have C:(L6 s t l k).length<=24:=by rw[hm];exact Ou hR m
  have w:LB (L6 s t l k):=by rw[hm];exact a1B hR m
  have z:=OD s t l hk;simp only;rw[Ol hR hT hTB Δ,a4L];have ho:=GJ (s:=s) hT (L6 s t l k);obtain⟨j,⟨hj,u⟩,f⟩:=dP (p:=λj=>∃hj:j<(Ca s t (L6 s t l k)).length,(Ca s t (L6 s t l k))[j]∉L6 s t l k) (by
   refine so λq=>z (GI.1 λv hv=>so λA=>?_);obtain⟨j,hj,e⟩:=List.mem_iff_getElem.1 hv;exact q ⟨j,hj,by rw[e];exact A⟩)
  refine dU (Ca s t (L6 s t l k)).length (λi=>i<=j) Δ (rg _) (λi hi B=>?_) (λB=>Δ);simp only[zQ,hi,zY,wd,x8 hi,a4L];rw[contains_eq _ _ Δ,a4L];rcases zE i j with q | q
  .refine .inl ⟨?_,q⟩;have:(Ca s t (L6 s t l k))[i]∈L6 s t l k:=so λA=>by have:=f i ⟨hi,A⟩;omega
   rw[za (by simp[this]),p9]
  .have:i=j:=by omega
   subst this;refine .inr ⟨.inl (L6 s t l (k+1),((k+1:Nat):Int)),?_,rfl⟩;rw[zc (by simp[u]),B5 Δ Δ,a4L,ND hR hF (λx hx=>by
    rcases zC.1 hx with q | q
    .exact a1h hR t _ x q
    .exact w x q) Ξ,a4L,p9,xK]
   rw[EG (l:=Ca s t (L6 s t l k)++L6 s t l k) (m:=L6 s t l k++Ca s t (L6 s t l k)) λx=>⟨λq=>q.mono λy hy c=>.base (zC.2 (zC.1 hy).symm) c,λq=>q.mono λy hy c=>.base (zC.2 (zC.1 hy).symm) c⟩]
 .have a:=JX s t l;have r:=EI a;refine⟨(HZ s t l,(Up s t l:Int)),?_,rfl⟩;simp only;rw[r] at a |-;have hfl:=Gc hR t l;rw[Ol hR hT hTB Δ,a4L];have ho:=GJ (s:=s) hT (HZ s t l);refine dU (Ca s t (HZ s t l)).length (λ_=>True) Δ trivial (λi hi _=>.inl ⟨?_,trivial⟩) (λ_=>⟨.inr (),Ψ,rfl⟩);have:=GI.2 a _ (zk hi);simp only[zQ,hi,zY,wd,x8 hi,a4L];rw[contains_eq _ _ Δ,a4L,za (by simp[this]),p9]
theorem Ka{l:List Int}(hlen:l.length<=1000000):pa (sO s) (t.map O2) l=some (HZ s t l,(Up s t l:Int)):=by
 unfold pa;rw[Ee hR hlen,a4L];simp only[jn];have hn:=Uq s t l;have A:=lW hT.l8;have a:∀k,mT (sO s) (L6 s t l k++Ca s t (L6 s t l k))=some (L6 s t l (k+1))/\(L6 s t l k).length<=24/\(Ca s t (L6 s t l k)).length<=8/\qN (sO s) (t.map O2) (L6 s t l k)=some (Ca s t (L6 s t l k)):=λk=>by
  obtain⟨m,hm⟩:=nt (s:=s) (t:=t) (l:=l) k;have u:(L6 s t l k).length<=24:=by rw[hm];exact Ou hR m
  have ho:=GJ (s:=s) hT (L6 s t l k);exact⟨by rw[Ee hR Ξ,xK],u,ho,PU hR hT hTB Δ⟩
 refine fu (p:=λk=>(L6 s t l k,(k:Int))) rfl (Up s t l) (λ_=>True) Δ trivial (λk hk _=>.inl ⟨?_,trivial⟩) (λ_=>?_)
 .obtain⟨f,y,z,r⟩:=a k;obtain⟨_,q,_,_⟩:=a (k+1);have w:L6 s t l (k+1)≠L6 s t l k:=λe=>by
   have:=xJ (OD s t l hk);rw[e] at this;omega
  simp only;rw[zc Ξ,P4 Δ Δ,a4L,r,a4L,B5 Δ Δ,a4L,f,a4L,MQ _ _ Δ,a4L,za (Ω w),p9]
 .obtain⟨f,y,z,r⟩:=a (Up s t l);obtain⟨_,q,_,_⟩:=a (Up s t l+1);have c:=JX s t l;refine⟨.inl (HZ s t l,(Up s t l:Int)),?_,rfl⟩;simp only;rw[zc Ξ,P4 Δ Δ,a4L,r,a4L,B5 Δ Δ,a4L,f,a4L,MQ _ _ Δ,a4L,zc (Ω (Mu c)),EI c]
theorem Se(hF:FB s){l:List Int}(hl:LB l)(hlen:l.length<=1000000):uQ s t l=some (HZ s t l):=by
 unfold uQ;rw[Sy hR hT hTB hF hl hlen];rfl
theorem Lp{l:List Int}(hlen:l.length<=1000000):vQ (sO s) (t.map O2) l=some (HZ s t l):=by
 unfold vQ;rw[Ka hR hT hTB hlen];rfl
omit hT hTB hR in
theorem XX {l:List Int} {x:Int}:sY s (HZ s t l) x↔dj s t l x:=by
 constructor
 .intro q;exact oz.1 (sY.least (a0z s t l) (λx h _=>h) q)
 .exact λq=>.base (oz.2 q) q.live
theorem Sk(hF:FB s){l:List Int}(hl:LB l)(hlen:l.length<=1000000):qt s t l=some (fls s t l):=by
 unfold qt;rw[Se hR hT hTB hF hl hlen,a4L,Xl hR hF (a0A hR t l) (by have:=Gc hR t l;omega),a4L];congr 1;unfold H4 fls;exact za4 λx _=>zbc.2 (not_congr XX)
open Classical in
theorem Lt {l:List Int} (hlen:l.length<=1000000):vT (sO s) (t.map O2) l=some (fls s t l):=by
 unfold vT;have a:=J5 hR;have hfl:=Gc hR t l;rw[Lp hR hT hTB hlen,a4L,qB hR,a4L];simp only[jn];rw[K4 (lv s) (λacc x=>if decide (¬dj s t l x) then acc ++ [x] else acc) id (λk acc=>acc.length<=k) Δ Ψ (λk hk acc hb=>?_) (λb _=>?_)]
 .simp only[a4L,id];rw[foldl_filter];rfl
 .simp only[zQ,hk,zY,wd,x8 hk,a4L];rw[uZ _ _ Δ,a4L];have h0:=NU hR _ (zk hk);by_cases q:dj s t l (lv s)[k]
  .have e:(lv s)[k]∈HZ s t l:=oz.2 q;rw[za (by simp[e,h0]),za (Ω q),p9];exact⟨rfl,Δ⟩
  .have e:(lv s)[k]∉HZ s t l:=λh=>q (oz.1 h);rw[zc (by simp[e]),zc (Ω q),B5 Δ Ξ,a4L,p9];exact⟨rfl,Ξ⟩
 .simp only[zal,zab,zj,wf];rfl
end
section
variable(s:a7)(hF:FB s)(t:Tb)(hTB:TB t)
include hF hTB
end
def ce(s:a7)(i:Nat):c5:=s.S.a8.getD i ⟨0,0,z0⟩
variable {s:a7}{i:Nat}{h:Int}{j:Nat}
theorem I0(h:i<s.S.a8.length):ce s i=s.S.a8[i]:=by
 unfold ce;rw[zg,zd h];rfl
theorem IN(h:i<s.S.a8.length):ix s.S.a8 (i:Int)=some (ce s i):=by rw[x8 h,I0 h]
def Th(c:c5):Prop:=c.State=1\/c.State=2
instance(c:c5):Decidable (Th c):=by unfold Th;infer_instance
structure Dm (s:a7) (o:u0):Prop where
 s1:1<=o.Serial
 s2:o.Serial<=s.Serial
 st:0<=o.Strong
 wk:0<=o.Weak
 p1 : -1<=o.Prog
 p2:o.Prog<=5
 fl:o.Fields.length<=4
structure SR (s:a7):Prop where
 len:s.S.a8.length<=24
 l0:0<=s.S.Last
 l9:s.S.Last<=9
 V3:0<=s.Serial
 cell:∀i,i<s.S.a8.length->0<=(ce s i).State/\(ce s i).State<=3/\0<=(ce s i).Gen/\(ce s i).Gen<=s.S.Last
 no:∀i,i<s.S.a8.length->¬Th (ce s i)->OZ (oo (ce s i).Val)
 ok:∀i,i<s.S.a8.length->Th (ce s i)->Dm s (ce s i).Val
 dif:∀i j,i<s.S.a8.length->j<s.S.a8.length->Th (ce s i)->Th (ce s j)->(ce s i).Val.Serial=(ce s j).Val.Serial->i=j
theorem A6:wN (sO s)↔SR s:=by
 constructor
 .intro h;refine⟨fI h,h.l0,h.l9,h.V3,λi hi=>?_,λi hi hn=>?_,λi hi ht=>?_,λi j hi hj a b e=>?_⟩;·rw[I0 hi];exact Hu h i hi
  .rw[I0 hi] at hn |-;have:=h.no i Ωx;simp only[sO,rx] at this;exact this hn
  .rw[I0 hi] at ht |-;obtain⟨a,b,c,d,e,f,g⟩:=Uy h i hi ht;exact⟨a,b,c,d,e,f,g⟩
  .rw[I0 hi] at a e;rw[I0 hj] at b e;exact Ux h hi hj a b e
 .intro h;refine⟨by rw[F0];exact h.len,h.l0,h.l9,h.V3,λi hi=>?_,λi hi hn=>?_,λi hi ht=>?_,λi hi k hk a b=>?_⟩
  .rw[F0] at hi;have:=h.cell i hi;rw[I0 hi] at this;simpa[sO,cO] using this
  .rw[F0] at hi;have:=h.no i hi;rw[I0 hi] at this;simp only[sO,rx] at hn |-;exact this hn
  .rw[F0] at hi;have:=h.ok i hi;rw[I0 hi] at this;simp only[sO,rx] at ht |-;obtain⟨a,b,c,d,e,f,g⟩:=this ht;exact⟨a,b,c,d,e,f,g⟩
  .rw[F0] at hi;have m:k<s.S.a8.length:=by omega
   have:=h.dif i k hi m;rw[I0 hi,I0 m] at this;simp only[sO,rx,cO,oo] at a b |-;intro e;have:=this a b e.symm;omega
def At(s:a7)(h:Int)(i:Nat):Prop:=i<s.S.a8.length/\(ce s i).State=1/\h=1+(i:Int)+32*(ce s i).Gen
def aY(s:a7)(h:Int)(i:Nat):Prop:=i<s.S.a8.length/\Th (ce s i)/\h=1+(i:Int)+32*(ce s i).Gen
theorem At.d(q:At s h i):aY s h i:=⟨q.1,.inl q.2.1,q.2.2⟩
theorem aY.one(hR:SR s)(q:aY s h i)(a:aY s h j):i=j:=by
 obtain⟨c,_,e⟩:=q;obtain⟨f,_,m⟩:=a;have:=hR.len;omega
theorem aY.Us(hR:SR s)(q:aY s h i):1<=h/\h<=320:=by
 obtain⟨a,_,c⟩:=q;have:=hR.len;have:=hR.cell i a;have:=hR.l9;omega
theorem IZ:h∈bt 0 s.S.a8↔∃i,At s h i:=by
 rw[qy];constructor
 .rintro⟨i,hi,a,c⟩;refine⟨i,hi,by rw[I0 hi];exact a,?_⟩;rw[I0 hi,c,m7]
 .rintro⟨i,hi,a,c⟩;rw[I0 hi] at a c;exact⟨i,hi,a,by rw[c,m7]⟩
theorem iV(hR:SR s):h∈lv s↔∃i,At s h i:=by rw[xp (A6.2 hR),IZ]
theorem tV(hR:SR s):wM s.S h i↔aY s h i:=by
 constructor
 .rintro⟨hi,a,e,m,f⟩;unfold sX at a;refine⟨hi,by rw[I0 hi];exact f,?_⟩;rw[I0 hi];omega
 .rintro⟨hi,a,e⟩;have l:=hR.len;have l9:=hR.l9;have c:=hR.cell i hi;rw[I0 hi] at a e c;exact⟨hi,by unfold sX;omega,Δ,Δ,a⟩
theorem V5(hR:SR s)(q:At s h i):ob s h=(ce s i).Val:=by
 obtain⟨j,hj,a,c,_,e⟩:=Gx (A6.2 hR) ((iV hR).2 ⟨i,q⟩);have:j=i:=aY.one hR ⟨hj,by rw[I0 hj];exact .inl a,by rw[I0 hj];exact c⟩ q.d;subst this;rw[e,I0 hj]
theorem a0f(hR:SR s)(q:At s h i):B3 s h=some ((ce s i).Val,0):=by
 rw[BR (A6.2 hR) ((iV hR).2 ⟨i,q⟩),V5 hR q]
theorem Rx(hR:SR s)(q:At s h i):sk s.S.a8 h=(ce s i).Val.Serial:=by
 have:=hR.len;have hi:=q.1;rw[q.2.2,Km hi Δ,I0 hi]
theorem oa(hR:SR s)(q:aY s h i):z6 s.S h=some ((i:Int),0):=rG ((tV hR).2 q)
theorem tK(hR:SR s)(hh:h<=9223372036854775807)(q:∀i,¬aY s h i):z6 s.S h=some (-1,if h=0 then 2 else 3):=xi hh λi hi=>q i ((tV hR).1 hi)
theorem Tk{s':a7}(hR:SR s)(c:SR s')(P:Int->Bool)(hm:∀h,(∃i,At s' h i)↔(∃i,At s h i)/\P h=true)(hk:∀h i j,At s' h i->At s h j->(ce s' i).Val.Serial=(ce s j).Val.Serial):lv s'=(lv s).filter P:=by
 have e:∀h∈lv s,P h=true->sk s'.S.a8 h=sk s.S.a8 h:=λh hh hp=>by
  obtain⟨j,hj⟩:=(iV hR).1 hh;obtain⟨i,hi⟩:=(hm h).2 ⟨⟨j,hj⟩,hp⟩;rw[Rx c hi,Rx hR hj,hk h i j hi hj]
 refine a2O (A6.2 c) ?_ ?_
 .rw[List.perm_ext_iff_of_nodup ((vn (A6.2 hR)).filter _) (oD 0 _ (by have:=c.len;omega))];intro h;rw[zy,iV hR,IZ,hm h]
 .refine ((lg (A6.2 hR)).2.2.filter P).imp_of_mem λ{a b} ha hb f=>?_;rw[zy] at ha hb;rw[e a ha.1 ha.2,e b hb.1 hb.2];exact f
theorem Xn{s':a7}(hR:SR s)(f:SR s')(hl:s'.S.a8.length=s.S.a8.length)(e:∀i,i<s.S.a8.length->((ce s' i).State=1↔(ce s i).State=1)/\(ce s' i).Gen=(ce s i).Gen/\(ce s' i).Val.Serial=(ce s i).Val.Serial):lv s'=lv s:=by
 have ha:∀h i,At s' h i↔At s h i:=λh i=>by
  unfold At;rw[hl];constructor
  .rintro⟨a,b,c⟩;obtain⟨x,y,z⟩:=e i a;exact⟨a,x.1 b,by rw[<-y];exact c⟩
  .rintro⟨a,b,c⟩;obtain⟨x,y,z⟩:=e i a;exact⟨a,x.2 b,by rw[y];exact c⟩
 rw[Tk hR f (λ_=>true) (λh=>by simp only[and_true];exact⟨λ⟨i,q⟩=>⟨i,(ha h i).1 q⟩,λ⟨i,q⟩=>⟨i,(ha h i).2 q⟩⟩) (λh i j q m=>by
  have:=aY.one hR ((ha h i).1 q).d m.d;subst this;exact (e i m.1).2.2)]
 simp
def putAt(s:a7)(i:Nat)(o:u0):a7:=⟨⟨s.S.a8.set i ⟨(ce s i).State,(ce s i).Gen,o⟩,s.S.Last⟩,s.Serial⟩
theorem R5(s:a7)(i:Nat)(o:u0):(putAt s i o).S.a8.length=s.S.a8.length:=by simp[putAt]
theorem mz{α:Type}{l:List α}(hi:i<l.length)(c d:α)(j:Nat):(l.set i c).getD j d=if j=i then c else l.getD j d:=by
 rw[zg,zg,List.getElem?_set];by_cases h:j=i
 .subst h;rw[zc rfl,zc hi,zc rfl];rfl
 .rw[za (zav h),za h]
theorem oc(hi:i<s.S.a8.length)(o:u0)(j:Nat):ce (putAt s i o) j=if j=i then ⟨(ce s i).State,(ce s i).Gen,o⟩ else ce s j:=mz hi _ _ j
theorem CR(hi:i<s.S.a8.length)(o:u0)(j:Nat):(ce (putAt s i o) j).State=(ce s j).State/\(ce (putAt s i o) j).Gen=(ce s j).Gen:=by
 rw[oc hi];split;·rename_i q;subst q;exact⟨rfl,rfl⟩
 .exact⟨rfl,rfl⟩
theorem Aw(hi:i<s.S.a8.length)(o:u0):aY (putAt s i o) h j↔aY s h j:=by
 unfold aY Th;rw[R5,(CR hi o j).1,(CR hi o j).2]
theorem Bk(hi:i<s.S.a8.length)(o:u0):At (putAt s i o) h j↔At s h j:=by
 unfold At;rw[R5,(CR hi o j).1,(CR hi o j).2]
theorem HA(hR:SR s)(q:aY s h i)(o:u0):O8 s h o=some (putAt s i o,0):=by
 obtain⟨hi,e⟩:=Kk (v:=o) hR.len ((tV hR).2 q);unfold O8;rw[e];simp[putAt,I0 hi]
theorem SR.put{s:a7}(hR:SR s){i:Nat}(hi:i<s.S.a8.length)(ht:Th (ce s i)){o:u0}(hs:o.Serial=(ce s i).Val.Serial)(ho:Dm s o):SR (putAt s i o):=by
 have c:=CR hi o;have f:∀j,(ce (putAt s i o) j).Val.Serial=(ce s j).Val.Serial:=λj=>by
  rw[oc hi];split;·rename_i q;subst q;exact hs
  .rfl
 refine⟨by rw[R5];exact hR.len,hR.l0,hR.l9,hR.V3,λj hj=>?_,λj hj hn=>?_,λj hj hn=>?_,λj k hj hk a b e=>?_⟩
 .rw[R5] at hj;rw[(c j).1,(c j).2];exact hR.cell j hj
 .rw[R5] at hj;unfold Th at hn;rw[(c j).1] at hn;rw[oc hi];split;·rename_i q;subst q;exact absurd ht hn
  .exact hR.no j hj hn
 .rw[R5] at hj;unfold Th at hn;rw[(c j).1] at hn;rw[oc hi];split;·exact⟨ho.s1,ho.s2,ho.st,ho.wk,ho.p1,ho.p2,ho.fl⟩
  .have:=hR.ok j hj hn;exact⟨this.s1,this.s2,this.st,this.wk,this.p1,this.p2,this.fl⟩
 .rw[R5] at hj hk;unfold Th at a b;rw[(c j).1] at a;rw[(c k).1] at b;rw[f,f] at e;exact hR.dif j k hj hk a b e
theorem Ti(hR:SR s)(hi:i<s.S.a8.length){o:u0}(hs:o.Serial=(ce s i).Val.Serial)(a:SR (putAt s i o)):lv (putAt s i o)=lv s:=by
 refine Xn hR a (R5 ..) λj hj=>?_;rw[oc hi];split;·rename_i q;subst q;exact⟨Iff.rfl,rfl,hs⟩
 .exact⟨Iff.rfl,rfl,rfl⟩
theorem a1c(hR:SR s)(q:At s h i){o:u0}(a:SR (putAt s i o)){k:Int}(hk:k<=9223372036854775807):ob (putAt s i o) k=if k=h then o else ob s k:=by
 by_cases e:k=h
 .subst e;rw[zc rfl,V5 a ((Bk q.1 o).2 q),oc q.1,zc rfl]
 .rw[za e];by_cases hl:∃j,At s k j
  .obtain⟨j,hj⟩:=hl;rw[V5 a ((Bk q.1 o).2 hj),V5 hR hj,oc q.1,za];intro f;subst f;exact e (hj.2.2.trans q.2.2.symm)
  .rw[tv (A6.2 hR) hk (λc=>hl ((iV hR).1 c)),tv (A6.2 a) hk λc=>hl (by
    obtain⟨j,hj⟩:=(iV a).1 c;exact⟨j,(Bk q.1 o).1 hj⟩)]
def G4(h:Int):Nat:=((h-1) % 32).toNat
theorem aY.G4(hR:SR s)(q:aY s h i):G4 h=i:=by
 obtain⟨a,_,c⟩:=q;have:=hR.len;unfold Sh.G4;omega
def eK(s:a7)(h:Int)(o:u0):a7:=putAt s (G4 h) o
theorem C8(hR:SR s)(hh:h∈lv s):At s h (G4 h):=by
 obtain⟨i,hi⟩:=(iV hR).1 hh;rw[hi.d.G4 hR];exact hi
theorem N5(hR:SR s)(hh:h∈lv s):Dm s (ob s h):=by
 have q:=C8 hR hh;rw[V5 hR q];exact hR.ok _ q.1 (.inl q.2.1)
theorem L5(hR:SR s)(hh:h∈lv s):1<=h/\h<=320:=(C8 hR hh).d.Us hR
theorem sM(hR:SR s):(0:Int)∉lv s:=λh=>by have:=L5 hR h;omega
section
variable{s:a7}(hR:SR s){h:Int}(hh:h∈lv s){o:u0}(hs:o.Serial=(ob s h).Serial)(ho:Dm s o)
include hR hh hs ho
theorem de:SR (eK s h o):=by
 have q:=C8 hR hh;exact hR.put q.1 (.inl q.2.1) (by rw[hs,V5 hR q]) ho
theorem iS:lv (eK s h o)=lv s:=by
 have q:=C8 hR hh;exact Ti hR q.1 (by rw[hs,V5 hR q]) (de hR hh hs ho)
theorem gG{k:Int}(hk:k<=9223372036854775807):ob (eK s h o) k=if k=h then o else ob s k:=a1c hR (C8 hR hh) (de hR hh hs ho) hk
theorem wq:O8 s h o=some (eK s h o,0):=HA hR (C8 hR hh).d o
theorem MC{k:Int}{i:Nat}:aY (eK s h o) k i↔aY s k i:=Aw (C8 hR hh).1 o
theorem Hz(i:Nat):ce (eK s h o) i=if i=G4 h then ⟨(ce s i).State,(ce s i).Gen,o⟩ else ce s i:=by
 unfold eK;rw[oc (C8 hR hh).1];split;·rename_i q;rw[q]
 .rfl
end
abbrev ET(o:u0)(n:Int):u0:=⟨o.Serial,n,o.Weak,o.Prog,o.Started,o.Fields⟩
structure yO (s s':a7):Prop where
 sr:SR s'
 len:s'.S.a8.length=s.S.a8.length
 last:s'.S.Last=s.S.Last
 V3:s'.Serial=s.Serial
 lv:lv s'=lv s
 ad:∀k i,aY s' k i↔aY s k i
 ob:∀k,k<=9223372036854775807->∃n,ob s' k=(ET (ob s k) (n))
 ce:∀i,i<s.S.a8.length->(ce s' i).State=(ce s i).State/\(ce s' i).Gen=(ce s i).Gen/\(ce s' i).Val.Weak=(ce s i).Val.Weak/\(ce s' i).Val.Fields=(ce s i).Val.Fields/\((ce s i).State≠1->ce s' i=ce s i)
theorem yO.refl{s:a7}(hR:SR s):yO s s:=⟨hR,rfl,rfl,rfl,rfl,λ_ _=>Iff.rfl,λk _=>⟨_,rfl⟩,λi _=>⟨rfl,rfl,rfl,rfl,λ_=>rfl⟩⟩
theorem yO.trans{a b c:a7}(h:yO a b)(q:yO b c):yO a c:=by
 refine⟨q.sr,q.len.trans h.len,q.last.trans h.last,q.V3.trans h.V3,q.lv.trans h.lv,λk i=>(q.ad k i).trans (h.ad k i),λk hk=>?_,λi hi=>?_⟩
 .obtain⟨n,e⟩:=h.ob k hk;obtain⟨m,f⟩:=q.ob k hk;exact⟨m,by rw[f,e]⟩
 .obtain⟨r,u,w,y,z⟩:=h.ce i hi;obtain⟨A,B,C,E,F⟩:=q.ce i (by rw[h.len];exact hi);refine⟨A.trans r,B.trans u,C.trans w,E.trans y,λhn=>?_⟩;rw[F (by rw[r];exact hn),z hn]
theorem yO.outs{s s':a7}(k:yO s s'){h:Int}(hh:h<=9223372036854775807):outs s' h=outs s h:=by
 obtain⟨n,e⟩:=k.ob h hh;unfold Sh.outs;rw[e]
theorem yO.ld{s s':a7}(hR:SR s)(k:yO s s')(h:Int):ld s' h=ld s h:=by
 unfold Sh.ld;rw[k.lv];congr 1;refine we λx hx=>?_;rw[k.outs (by have:=L5 hR hx;omega)]
theorem Xj{s:a7}(hR:SR s){h:Int}(hh:h∈lv s){n:Int}(hn:0<=n):yO s (eK s h (ET (ob s h) (n))):=by
 have ho:Dm s (ET (ob s h) (n)):=by
  have:=N5 hR hh;exact⟨this.s1,this.s2,hn,this.wk,this.p1,this.p2,this.fl⟩
 have q:=C8 hR hh;refine⟨de hR hh rfl ho,R5 ..,rfl,rfl,iS hR hh rfl ho,λk i=>MC (o:=(ET (ob s h) (n))) hR hh rfl ho,λk hk=>?_,λi hi=>?_⟩
 .rw[gG (o:=(ET (ob s h) (n))) hR hh rfl ho hk];split;·rename_i e;subst e;exact⟨n,rfl⟩
  .exact⟨_,rfl⟩
 .rw[Hz (o:=(ET (ob s h) (n))) hR hh rfl ho];split
  .rename_i e;subst e;rw[V5 hR q];exact⟨rfl,rfl,rfl,rfl,λhn=>absurd q.2.1 hn⟩
  .exact⟨rfl,rfl,rfl,rfl,λ_=>rfl⟩
def SB(s:a7):Prop:=∀c∈s.S.a8,c.Val.Strong<=9223372036854775807
theorem a2F{s:a7}:FB s↔∀i,i<s.S.a8.length->∀x∈(ce s i).Val.Fields,x<=9223372036854775807:=by
 constructor
 .intro h i hi x hx;rw[I0 hi] at hx;exact h _ (zk hi) x hx
 .intro h c hc x hx;obtain⟨i,hi,rfl⟩:=zbk hc;exact h i hi x (by rw[I0 hi];exact hx)
theorem a3t{s:a7}:SB s↔∀i,i<s.S.a8.length->(ce s i).Val.Strong<=9223372036854775807:=by
 constructor
 .intro h i hi;rw[I0 hi];exact h _ (zk hi)
 .intro h c hc;obtain⟨i,hi,rfl⟩:=zbk hc;have:=h i hi;rwa [I0 hi] at this
noncomputable def inr(s:a7)(t:Tb)(h:Int):Nat:=ld s h+own t h
noncomputable def EM(s:a7)(t:Tb)(h:Int):Int:=if h∈lv s then (ob s h).Strong-(inr s t h:Int) else 0
noncomputable def WZ(s:a7)(t:Tb):List Int:=(lv s).filter λh=>decide (0<EM s t h\/12<=(ob s h).Strong)
def YJ(s:a7)(t:Tb)(l:List Int):Prop:=∀h∈lv s,(ob s h).Strong<12->EM s t h=(bx l h:Int)
noncomputable instance(s:a7)(t:Tb)(l:List Int):Decidable (YJ s t l):=Classical.propDecidable _
section
variable{s:a7}(hR:wN (sO s)){t:Tb}(hT:HR t)
include hR hT
theorem SI(h:Int):lD s t h=some (inr s t h:Int):=by
 unfold lD;have a:=LF hR h;have c:=LP hT.l8 h;rw[a2L hR,a4L,TT hT,a4L,E3 Δ Δ];unfold inr;simp
theorem LG(h:Int):se (sO s) (t.map O2) h=some (inr s t h:Int):=by
 unfold se;have a:=LF hR h;have c:=LP hT.l8 h;rw[Xd hR,a4L,QB hT,a4L,E3 Δ Δ];unfold inr;simp
theorem SJ(h:Int):inr s t h<=104:=by
 have a:=LF hR h;have c:=LP hT.l8 h;unfold inr;omega
omit hT in
theorem xX (a:SB s) {h:Int} (hh:h∈lv s):0<=(ob s h).Strong/\(ob s h).Strong<=9223372036854775807:=by
 obtain⟨i,hi⟩:=(iV (A6.1 hR)).1 hh;rw[V5 (A6.1 hR) hi];refine⟨((A6.1 hR).ok i hi.1 (.inl hi.2.1)).st,?_⟩;rw[I0 hi.1];exact a _ (zk _)
theorem Ya(f:SB s){h:Int}(hh:h<=9223372036854775807):pE s t h=some (EM s t h):=by
 unfold pE;obtain⟨e,c,a⟩:=Y8 hR hh;rw[c,a4L];by_cases q:h∈lv s
 .have:=a.2 q;subst this;have r:=SJ hR hT h;have u:=xX hR f q;rw[za Ψ,SI hR hT,a4L,E3 Ωy Ωy];unfold EM;rw[zc q]
 .rw[zc (Ω (λm=>q (a.1 m)))];unfold EM;rw[za q]
theorem Qt(f:SB s){h:Int}(hh:h<=9223372036854775807):vW (sO s) (t.map O2) h=some (EM s t h):=by
 unfold vW;obtain⟨e,c,a⟩:=Y8 hR hh;rw[mw s Ω7 hh,c,ww,a4L];by_cases q:h∈lv s
 .have:=a.2 q;subst this;have r:=SJ hR hT h;have u:=xX hR f q;rw[za Ψ,LG hR hT,a4L];simp only[oo];rw[E3 Δ Δ];unfold EM;rw[zc q]
 .rw[zc (Ω (λm=>q (a.1 m)))];unfold EM;rw[za q]
omit hT in
theorem MG {h:Int} (hh:h<=9223372036854775807):sf (sO s) h=some (decide (12<=(ob s h).Strong)):=by
 unfold sf cI;obtain⟨e,a,c⟩:=Y8 hR hh;rw[mw s Ω7 hh,a,ww,a4L,a4L];rfl
omit hT in
theorem Zh {k:Nat} (hk:k<(lv s).length):(lv s)[k]<=9223372036854775807:=by
 have:=lT hR (zk hk);omega
theorem WY(m:SB s):pC s t=some (WZ s t):=by
 unfold pC;simp only[jn];have f:=J5 hR;rw[fv hR,a4L,K4 (lv s) (λb x=>if decide (0<EM s t x\/12<=(ob s x).Strong) then b ++ [x] else b) id (λk b=>b.length<=k) Δ Ψ (λk hk b r=>?_) (λb _=>Ψ),a4L]
 .rw[foldl_filter];rfl
 .have hm:=zk hk;have e:=Zh hR hk;simp only[zQ,hk,zY,wd,x8 hk,a4L];rw[BR hR hm,a4L];unfold pD qo J8;rw[Ya hR hT m e,a4L,a4L];by_cases q:0<EM s t (lv s)[k]
  .rw[zB (show EM s t (lv s)[k] > 0 from q)];simp only[show ((true==false):Bool)=false from rfl,BZ,a4L,Bool.true_or,wd];rw[B5 Δ Ξ,a4L,p9,zc (zB (.inl q))];exact⟨rfl,Ξ⟩
  .rw[zH (show ¬EM s t (lv s)[k] > 0 from q)];simp only[qr,iv,a4L,zbv];by_cases a:12<=(ob s (lv s)[k]).Strong
   .rw[zc (zB a),B5 Δ Ξ,a4L,p9,zc (zB (.inr a))];exact⟨rfl,Ξ⟩
   .rw[za (Ω a),p9,za (by simp only[zI];exact λc=>c.elim q a)];exact⟨rfl,Δ⟩
theorem PW(m:SB s):vV (sO s) (t.map O2)=some (WZ s t):=by
 unfold vV;simp only[jn];have f:=J5 hR;rw[qB hR,a4L,K4 (lv s) (λb x=>if decide (0<EM s t x\/12<=(ob s x).Strong) then b ++ [x] else b) id (λk b=>b.length<=k) Δ Ψ (λk hk b r=>?_) (λb _=>Ψ),a4L]
 .rw[foldl_filter];rfl
 .have a:=Zh hR hk;simp only[zQ,hk,zY,wd,x8 hk,a4L];rw[Qt hR hT m a,a4L];by_cases q:0<EM s t (lv s)[k]
  .rw[zB (show EM s t (lv s)[k] > 0 from q)];simp only[show ((true==false):Bool)=false from rfl,BZ,a4L,Bool.true_or,wd];rw[B5 Δ Ξ,a4L,p9,zc (zB (.inl q))];exact⟨rfl,Ξ⟩
  .rw[zH (show ¬EM s t (lv s)[k] > 0 from q)];simp only[qr,iv,a4L,zbv];rw[MG hR a,a4L];by_cases e:12<=(ob s (lv s)[k]).Strong
   .rw[zc (zB e),B5 Δ Ξ,a4L,p9,zc (zB (.inr e))];exact⟨rfl,Ξ⟩
   .rw[za (Ω e),p9,za (by simp only[zI];exact λc=>c.elim q e)];exact⟨rfl,Δ⟩
omit hT in
theorem NL:(WZ s t).length<=24:=ul (wt ..) (J5 hR)
omit hR hT in
theorem AF {h:Int}:h∈WZ s t↔h∈lv s/\(0<EM s t h\/12<=(ob s h).Strong):=by
 unfold WZ;rw[zy,zI]
omit hT in
theorem a0O:LB (WZ s t):=λx hx=>by have:=lT hR (AF.1 hx).1;omega
theorem Lz(hTB:TB t)(hF:FB s)(a:SB s):dB s t=some (fls s t (WZ s t)):=by
 unfold dB;have:=NL hR (t:=t);rw[WY hR hT a,a4L,Sk hR hT hTB hF (a0O hR) Δ];rfl
theorem Ge(hTB:TB t)(a:SB s):iA (sO s) (t.map O2)=some (fls s t (WZ s t)):=by
 unfold iA;have:=NL hR (t:=t);rw[PW hR hT a,a4L,Lt hR hT hTB Δ];rfl
end
abbrev TQ:=n0
def UQ(q:TQ)(t:p8):TQ × Int:=if q.Cap<=q.L.length then (q,4) else (⟨q.L ++ [t],q.Cap⟩,0)
def MJ(q:TQ):TQ × p8 × Int:=match q.L with
 | []=>(q,⟨0,0,0⟩,10)
 | t::l=>(⟨l,q.Cap⟩,t,0)
theorem Zu{q:TQ}(t:p8)(h:q.L.length<=1000):rn q t=some (UQ q t):=by
 unfold UQ;unfold rn X9 N2 I8;simp only[a4L];by_cases c:q.Cap<=q.L.length
 .rw[zc (Ω c),zc c,a4L]
 .rw[za (Ω c),za c];have e:cut q.L 0 (q.L.length:Int)=some q.L:=by
   have:=jN (xs:=q.L) (i:=0) (j:=q.L.length) (rg _) (zq _);simpa using this
  rw[e,a4L,a4L,B5 Δ Ξ,a4L,a4L]
theorem HK{q:TQ}:eI q=some (MJ q):=by
 unfold MJ;unfold eI dc bw N2 I8;simp only[a4L];cases hl:q.L with
 | nil=>
  have e:cut ([]:List p8) 0 0=some []:=rfl;simp[e]
 | cons t l=>
  have hm:(if (if (((t::l).length:Nat):Int)<1 then (((t::l).length:Nat):Int) else 1) > 0 then (if (((t::l).length:Nat):Int)<1 then (((t::l).length:Nat):Int) else 1) else 0)=1:=by
   rw[za (show ¬(((t::l).length:Nat):Int)<1 by simp;omega)];simp
  rw[hm];have a:cut (t::l) 0 1=some [t]:=by
   have:=jN (xs:=t::l) (i:=0) (j:=1) (rg _) Ψ;simpa using this
  have c:cut (t::l) 1 (((t::l).length:Nat):Int)=some l:=by
   have:=jN (xs:=t::l) (i:=1) (j:=(t::l).length) Ψ (zq _);simpa using this
  rw[a,c];simp[ix]
theorem Yp{q:TQ}{w:Int}(h:q.L.length<=1000):kz q w=some (q.L.any λt=>t.Kind==2&&t.At==w):=by
 unfold kz AY;simp only[jn,a4L];refine dU q.L.length (λk=>(q.L.take k).any (λt=>t.Kind==2&&t.At==w)=false) Δ Ψ ?_ (λhl=>⟨.inr (),Ψ,by rw[zM] at hl;rw[hl]⟩);intro k hk a;simp only[zQ,hk,zY,wd,x8 hk,a4L];rw[zn hk,List.any_append,a,zbv];by_cases c:(q.L[k].Kind==2)=true
 .rw[c,zc Θ];by_cases d:(q.L[k].At==w)=true
  .right;rw[d,zc rfl];refine⟨.inl true,rfl,?_⟩;simp only[sm];symm
   rw[List.any_eq_true];exact⟨_,zk hk,by rw[c,d];rfl⟩
  .have d:(q.L[k].At==w)=false:=by simpa using d
   left;rw[d,za Θ,p9];exact⟨rfl,by simp[d]⟩
 .have c:(q.L[k].Kind==2)=false:=by simpa using c
  left;rw[c,za Θ,p9];exact⟨rfl,by simp[c]⟩
def Dk(t:p8):y4:=⟨t.Kind,t.At,t.Prog⟩
def sW(q:TQ):C6:=⟨q.L.map Dk,q.Cap⟩
theorem Zq{q:TQ}(t:p8)(h:q.L.length<=1000):lr (sW q) (Dk t)=some (sW (UQ q t).1,(UQ q t).2):=by
 unfold lr UQ;have hl:(sW q).L.length=q.L.length:=by simp[sW]
 by_cases c:q.Cap<=q.L.length
 .rw[zc (by simp[hl];exact c),zc c]
 .rw[za (by simp[hl];exact Int.not_le.1 c),za c,P4 Δ (by rw[hl];omega),a4L,B5 Δ (by simp[hl];omega),a4L];simp[sW]
theorem a1y{q:TQ}:vX (sW q)=some (sW (MJ q).1,Dk (MJ q).2.1,(MJ q).2.2):=by
 unfold vX MJ;obtain⟨L,C⟩:=q;cases L with
 | nil=>simp[sW,Dk]
 | cons t l=>
  rw[za (by simp[sW];omega)];have e:cut (sW ⟨t::l,C⟩).L 1 (((sW ⟨t::l,C⟩).L.length:Nat):Int)=some (l.map Dk):=by
   have:=jN (xs:=(sW ⟨t::l,C⟩).L) (i:=1) (j:=(sW ⟨t::l,C⟩).L.length) (by simp[sW]) (zq _);rw[show (1:Int)=((1:Nat):Int) from rfl,this,zM];simp[sW]
  rw[e];simp[ix,sW]
theorem XV{q:TQ}{w:Int}(h:q.L.length<=1000):mY (sW q) w=some (q.L.any λt=>t.Kind==2&&t.At==w):=by
 unfold mY;have hl:(sW q).L.length=q.L.length:=by simp[sW]
 simp only[jn,hl];refine dU q.L.length (λk=>(q.L.take k).any (λt=>t.Kind==2&&t.At==w)=false) Δ Ψ ?_ (λhl=>⟨.inr (),Ψ,by rw[zM] at hl;rw[hl]⟩);intro k hk a;have e:ix (sW q).L (k:Int)=some (Dk q.L[k]):=by rw[show (sW q).L=q.L.map Dk from rfl,dI,x8 hk];rfl
 simp only[zQ,hk,zY,wd,e,a4L];rw[zn hk,List.any_append,a,zbv];by_cases c:(q.L[k].Kind==2&&q.L[k].At==w)=true
 .right;rw[show ((Dk q.L[k]).Kind==2&&(Dk q.L[k]).At==w)=true from c,zc rfl];refine⟨.inl true,rfl,?_⟩;simp only[sm];symm
  rw[List.any_eq_true];exact⟨_,zk hk,c⟩
 .have c:(q.L[k].Kind==2&&q.L[k].At==w)=false:=by simpa using c
  left;rw[show ((Dk q.L[k]).Kind==2&&(Dk q.L[k]).At==w)=false from c,za Θ,p9];exact⟨rfl,by simp[c]⟩
end Go.Sh
