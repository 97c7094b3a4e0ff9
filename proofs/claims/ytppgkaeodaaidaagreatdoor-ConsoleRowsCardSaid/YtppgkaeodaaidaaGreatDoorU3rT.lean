/- A part. -/
import Derived.Test.YtppgkaeodaaidaaGreatDoorU3rSh1
import Derived.Test.YtppgkaeodaaidaaGreatDoorU3rPwE
import Derived.Test.YtppgkaeodaaidaaGreatDoorU3rSh
set_option linter.unusedVariables false
set_option linter.unusedSimpArgs false
set_option linter.unusedSectionVars false
namespace Go.Sh
theorem qO(s:ByteArray):(fR s).length=s.size:=by simp
theorem G1(l:List UInt8):fR (p8 l)=l:=by simp
theorem Pb(s:ByteArray):p8 (fR s)=s:=by cases s;simp
theorem G5(l:List UInt8):(p8 l).size=l.length:=by simp[ByteArray.size]
theorem GX{s:ByteArray}{p:Nat}{b:UInt8}(h:(fR s)[p]? = some b):s.get! p=b/\p<s.size:=by
 obtain⟨h1,h2⟩:=zw.1 h;have h3:p<s.size:=by simpa using h1
 refine⟨?_,h3⟩;rw[<-h2];simp[ByteArray.get!,h3,getElem!_pos]
theorem qN{s:ByteArray}{p:Nat}(h:p<s.size):(fR s)[p]? = some (s.get! p):=by
 have h1:p<(fR s).length:=by simpa using h
 rw[zc h1];simp[ByteArray.get!,h,getElem!_pos]
theorem EP{s:ByteArray}{p:Nat}{b:UInt8}(hp:(fR s)[p]? = some b)(h:b.toNat<128):dec s p=(b.toNat,1):=by
 have h0:=(GX hp).1;show Go.Utf8.decode s p=_;unfold Go.Utf8.decode;simp only[zai,h0];rw[zb h]
theorem KG{s:ByteArray}{p:Nat}{b:UInt8}(hp:(fR s)[p]? = some b)(h:128<=b.toNat) :
  128<=(dec s p).1/\1<=(dec s p).2/\∀i,i<(dec s p).2->∃c,(fR s)[p+i]? = some c/\128<=c.toNat:=by
 obtain⟨h0,hs⟩:=GX hp;have one:∀i,i<1->∃c,(fR s)[p+i]? = some c/\128<=c.toNat:=λi hi=>by
  obtain rfl:i=0:=by omega
  exact⟨b,hp,h⟩
 have at_:∀k,(decide (p+k<s.size)&&(s.get! (p+k)).toNat / 64==2)=true->∃c,(fR s)[p+k]? = some c/\128<=c.toNat:=λk hk=>by
  simp only[zk,t8,we] at hk;exact⟨_,qN hk.1,by omega⟩
 show 128<=(Go.Utf8.decode s p).1/\1<=(Go.Utf8.decode s p).2/\∀i,i<(Go.Utf8.decode s p).2->_;unfold Go.Utf8.decode;simp only[zai,h0];rw[za (by omega)];split
 .rename_i q;split
  .rename_i q2;refine⟨q2,by simp,λi hi=>?_⟩;have q:=(zk _ _▸q).2;have:i=0\/i=1:=by simp at hi;omega
   rcases this with rfl | rfl
   .exact⟨b,hp,h⟩
   .exact at_ 1 q
  .exact⟨by simp[Go.Utf8.runeError],by simp,one⟩
 split
 .rename_i q;split
  .rename_i q2;simp only[zk] at q;refine⟨?_,by simp,λi hi=>?_⟩
   .simp only[zk,t8] at q2;show 128<=_;omega
   have:i=0\/i=1\/i=2:=by simp at hi;omega
   rcases this with rfl | rfl | rfl
   .exact⟨b,hp,h⟩
   .exact at_ 1 (by rw[zk];exact q.1.2)
   .exact at_ 2 (by rw[zk];exact q.2)
  .exact⟨by simp[Go.Utf8.runeError],by simp,one⟩
 split
 .rename_i q;split
  .rename_i q2;simp only[zk] at q;refine⟨?_,by simp,λi hi=>?_⟩
   .simp only[zk,t8] at q2;show 128<=_;omega
   have:i=0\/i=1\/i=2\/i=3:=by simp at hi;omega
   rcases this with rfl | rfl | rfl | rfl
   .exact⟨b,hp,h⟩
   .exact at_ 1 (by rw[zk];exact q.1.1.2)
   .exact at_ 2 (by rw[zk];exact q.1.2)
   .exact at_ 3 (by rw[zk];exact q.2)
  .exact⟨by simp[Go.Utf8.runeError],by simp,one⟩
 .exact⟨by simp[Go.Utf8.runeError],by simp,one⟩
def NY(b:UInt8):Bool:=decide (48<=b.toNat)&&decide (b.toNat<=57)
def uR(l:List UInt8):Int:=l.foldl (λn b=>n*10+((b.toNat:Int)-48)) 0
theorem An(l:List UInt8)(b:UInt8):uR (l ++ [b])=uR l*10+((b.toNat:Int)-48):=by
 unfold uR;rw[za5];rfl
theorem Rn(l:List UInt8)(h:∀b∈l,NY b=true):0<=uR l/\uR l<10 ^ l.length:=by
 generalize hn:l.length=n;induction n generalizing l with
 | zero=>
  obtain rfl:=zH hn;exact⟨by decide,by decide⟩
 | succ n ih=>
  have hne:l ≠ []:=λe=>by rw[e] at hn;cases hn
  rw[<-List.dropLast_concat_getLast hne,An];have h1:=ih l.dropLast (λb hb=>h b (List.dropLast_subset _ hb)) (by simp[hn]);have h2:=h _ (List.getLast_mem hne);unfold NY at h2;simp only[zk,t8] at h2;have:(10:Int) ^ (n+1)=10 ^ n*10:=rfl;omega
def Bq(l:List UInt8):Option Int:=if 1<=l.length/\l.length<=9/\l.all NY=true then some (uR l) else none
def qt(l:List UInt8):Int × Bool:=match l with
 | []=>(0,false)
 | b::r=>if b=45 then (match Bq r with
  | some n=>(-n,true)
  | none=>(0,false)) else (match Bq (b::r) with
  | some n=>(n,true)
  | none=>(0,false))
theorem YG{k:Nat}(h:k<=9):(10:Int) ^ k<=1000000000:=by
 have:k=0\/k=1\/k=2\/k=3\/k=4\/k=5\/k=6\/k=7\/k=8\/k=9:=by omega
 rcases this with rfl | rfl | rfl | rfl | rfl | rfl | rfl | rfl | rfl | rfl <;> decide
theorem Tl{s:ByteArray}{p:Nat}(h:p<s.size):∃b,(fR s)[p]? = some b/\((dec s p).1<128->(dec s p).1=b.toNat/\(dec s p).2=1)/\(b.toNat<128->(dec s p).1=b.toNat)/\1<=(dec s p).2:=by
 refine⟨_,qN h,?_⟩;rcases zD (s.get! p).toNat 128 with q | q
 .rw[EP (qN h) q];exact⟨λ_=>⟨rfl,rfl⟩,λ_=>rfl,zt _⟩
 .obtain⟨h1,h2,_⟩:=KG (qN h) q;exact⟨λq2=>by omega,λq2=>by omega,h2⟩
theorem Ef{b:UInt8}{n:Nat}(hn:n<256):b=UInt8.ofNat n↔b.toNat=n:=by
 constructor
 .rintro rfl;simp[zcg hn]
 .intro h;apply UInt8.toNat_inj.1;rw[h];simp[zcg hn]
def Xx(l:List UInt8)(d:Nat)(sg:Int):Prop:=(d=0/\sg=1/\l[0]? ≠ some 45)\/(d=1/\sg = -1/\l[0]? = some 45)
theorem wL{l:List UInt8}{d:Nat}{sg:Int}(h:Xx l d sg):qt l=match Bq (l.drop d) with
  | some n=>(sg*n,true)
  | none=>(0,false):=by
 cases l with
 | nil=>
  rcases h with ⟨rfl,rfl,h⟩ | ⟨_,_,h⟩;·rfl
  .cases h
 | cons b r=>
  rcases h with ⟨rfl,rfl,h⟩ | ⟨rfl,rfl,h⟩
  .have:b≠45:=λe=>h (by rw[e];rfl);unfold qt;simp only[za this,List.drop_zero];cases Bq (b::r);·rfl
   .simp only[Int.one_mul]
  .have:b=45:=rg h;unfold qt;simp only[zb this,List.drop_succ_cons,List.drop_zero];cases Bq r;·rfl
   .simp only[Int.neg_mul,Int.one_mul]
theorem Hc(b:UInt8):NY b=true↔48<=b.toNat/\b.toNat<=57:=by
 unfold NY;rw[zk,zK,zK]
theorem Ns{l:List UInt8}{k:Nat}{b:UInt8}(h:l[k]? = some b):l.take (k+1)=l.take k ++ [b]:=by
 obtain⟨h1,h2⟩:=zw.1 h;rw[zu h1,h2]
structure JM (l:List UInt8) (d k:Nat):Prop where
 k9:k<=9
 le:d+k<=l.length
 all:∀b∈(l.drop d).take k,NY b=true
theorem JM.len{l:List UInt8}{d k:Nat}(h:JM l d k):((l.drop d).take k).length=k:=by
 have:=h.le;simp;omega
theorem JM.bd{l:List UInt8}{d k:Nat}(h:JM l d k):0<=uR ((l.drop d).take k)/\uR ((l.drop d).take k)<1000000000:=by
 have h1:=Rn _ h.all;rw[h.len] at h1;have h2:=YG h.k9;omega
theorem JM.up{l:List UInt8}{d k:Nat}(h:JM l d k){b:UInt8}(hb:l[d+k]? = some b)(hD:NY b=true)(h9:k≠9):JM l d (k+1)/\(l.drop d).take (k+1)=(l.drop d).take k ++ [b]:=by
 have h1:=(zw.1 hb).1;have e:(l.drop d)[k]? = some b:=by rw[pu];exact hb
 have e:=Ns e;refine⟨⟨by have:=h.k9;omega,by omega,λc hc=>?_⟩,e⟩;rw[e] at hc;rcases zy.1 hc with q | q
 .exact h.all c q
 .rw[zJ.1 q];exact hD
theorem JM.no{l:List UInt8}{d k:Nat}(h:JM l d k){b:UInt8}(hb:l[d+k]? = some b)(hD:NY b=false\/k=9):Bq (l.drop d)=none:=by
 have h1:=(zw.1 hb).1;unfold Bq;rw[za];rintro⟨_,h9,ha⟩;rw[zci] at h9;rcases hD with q | q
 .have e:(l.drop d)[k]? = some b:=by rw[pu];exact hb
  rw[zd.1 ha b (zg e)] at q;cases q
 .omega
theorem JM.yes{l:List UInt8}{d k:Nat}(h:JM l d k)(he:d+k=l.length)(hk:k≠0):Bq (l.drop d)=some (uR ((l.drop d).take k)):=by
 have:(l.drop d).take k=l.drop d:=za3 (by simp;omega);have ha:=h.all;rw[this] at ha |-;unfold Bq;have:=h.k9;rw[zb ⟨by simp;omega,by simp;omega,zd.2 ha⟩]
theorem XT(s:ByteArray)(hs:s.size<1000000000):aG s=some (qt (fR s)):=by
 have hl:=qO s;generalize hL:fR s=l at hl;unfold aG;simp only[jn];refine vj (λ(x:Int × Int × Int × Nat)=>∃d k,x.1=uR ((l.drop d).take k)/\x.2.1=(k:Int)/\x.2.2.2=d+k/\JM l d k/\(Xx l d x.2.2.1\/d=0/\k=0/\x.2.2.1=1)) (λx=>s.size-x.2.2.2) ⟨0,0,rfl,rfl,rfl,⟨by omega,by omega,λb hb=>by simp at hb⟩,.inr ⟨rfl,rfl,rfl⟩⟩ (by simp only;omega) ?_;rintro⟨n,kk,sg,p⟩ ⟨d,k,h1,h2,h3,hR,hG⟩;simp only at h1 h2 h3 hG;subst h1;subst h2;subst h3;have hbd:=hR.bd;have hle:=hR.le;have h9:=hR.k9;by_cases hp:d+k<s.size
 .obtain⟨b,hb,q1,q2,q3⟩:=Tl hp;rw[hL] at hb;rw[zb (by simpa using hp)];by_cases c0:d+k=0/\(dec s (d+k)).1=45
  .obtain⟨c1,c2⟩:=c0;obtain⟨e1,e2⟩:=q1 (by omega);have hd:d=0:=by omega
   have hk:k=0:=by omega
   subst hd;subst hk;have e3:b=45:=(Ef (n:=45) (by decide)).2 (by omega);refine .inl ⟨_,zb (by simp[c2]),⟨1,0,?_,rfl,by simp[e2],⟨by omega,by omega,λb hb=>by simp at hb⟩,.inl (.inr ⟨rfl,rfl,by rw[hb,e3]⟩)⟩,by simp only[e2];omega⟩;simp[uR]
  have hS:Xx l d sg:=by
   rcases hG with q | ⟨rfl,rfl,rfl⟩
   .exact q
   refine .inl ⟨rfl,rfl,λe=>?_⟩;rw[hb] at e;have e4:b.toNat=45:=(Ef (n:=45) (by decide)).1 (rg e);exact c0 ⟨rfl,by rw[q2 (by omega)];exact e4⟩
  rw[za (by simp only[zk,we];omega)];by_cases c1:NY b=true/\k≠9
  .obtain⟨hD,k9⟩:=c1;have hDb:=(Hc b).1 hD;have e1:=q2 (by omega);obtain⟨_,e2⟩:=q1 (by omega);obtain⟨u1,u2⟩:=hR.up hb hD k9;refine .inl ⟨_,za (by simp only[zae,t8,we];omega),⟨d,k+1,?_,?_,?_,u1,.inl hS⟩,by simp only[e2];omega⟩
   .simp only;rw[u2,An];have hw:IntKind.i32.wrap (((dec s (d+k)).1:Int)-48)=(b.toNat:Int)-48:=by
     have:∀n:Int,0<=n->n<=57->IntKind.i32.wrap n=n:=λn h0 h1=>by
      rw[IntKind.wrap_i32];omega
     rw[e1,this _ (by omega) (by omega)]
    rw[hw,F9 (n:=uR _*10) (by omega) (by omega),F9 (n:=(b.toNat:Int)-48) (by omega) (by omega),F9 (by omega) (by omega)]
   .simp only;rw[o9]
   .simp only;rw[e2];omega
  .refine .inr ⟨_,zb (by
    simp only[zae,t8,we];by_cases c2:k=9
    .right;omega
    have c3:¬NY b=true:=λq=>c1 ⟨q,c2⟩;rw[Hc] at c3;left;rcases zD (dec s (d+k)).1 128 with q | q
    .have:=(q1 q).1;omega
    .omega),?_⟩
   rw[wL hS,hR.no hb (by
    by_cases c2:k=9
    .exact .inr c2
    exact .inl (by simpa using λq=>c1 ⟨q,c2⟩))]
   rfl
 .rw[za (by simpa using hp)];refine .inr ⟨_,rfl,?_⟩;simp only;by_cases hk:k=0
  .subst hk;rw[zb (by rfl)];rcases hG with q | ⟨rfl,_,rfl⟩
   .rw[wL q,List.drop_eq_nil_of_le (by omega)];rfl
   .obtain rfl:l = []:=zH (by omega);rfl
  .rw[za (by simpa using hk)];have hS:Xx l d sg:=by
    rcases hG with q | ⟨_,q,_⟩
    .exact q
    .exact absurd q hk
   rw[wL hS,hR.yes (by omega) hk];simp only;rw[F9 (by rcases hS with ⟨_,rfl,_⟩ | ⟨_,rfl,_⟩ <;> omega) (by rcases hS with ⟨_,rfl,_⟩ | ⟨_,rfl,_⟩ <;> omega),Int.mul_comm]
theorem QS{s:ByteArray}{i j:Nat}(h:i<=j)(hj:j<=s.size):yg s (i:Int) (j:Int)=some (p8 (((fR s).take j).drop i)):=by
 unfold yg;rw[zb ⟨by omega,by omega,by omega⟩];simp
theorem gh{a b:ByteArray}(h:a.size+b.size<=9223372036854775807):kq a b=some (p8 (fR a++fR b)):=by
 unfold kq;rw[zb h]
theorem vT:∀(k u:Nat),(CN k u).length<=k
 | 0,_=>zt _
 | k+1,u=>by
  unfold CN;split;·simp
  .have:=vT k (u / 10);simp;omega
theorem Nk{n:Int}(h0 : -9223372036854775808<=n)(h1:n<=9223372036854775807):∃l,nV n=some (p8 l)/\l.length<=21:=by
 unfold nV;rw[zb ⟨h0,h1⟩];refine⟨_,rfl,?_⟩;split
 .have:=vT 20 n.natAbs;simp;omega
 .have:=vT 20 n.toNat;omega
theorem Xd(n:Int):rem n 10=some (n.tmod 10):=by
 unfold rem;rw[za (by decide)]
set_option maxRecDepth 100000 in
theorem Ic:pf=some true:=by kernel_rfl
def xN:List UInt8->List (List UInt8)
 | []=>[[]]
 | b::l=>if b=10 then []::xN l else match xN l with
  | x::xs=>(b::x)::xs
  | []=>[[b]]
theorem Nn:∀ {l:List UInt8},(∀b∈l,b≠10)->xN l = [l]
 | [],_=>rfl
 | b::l,h=>by
  have e:=Nn (l:=l) λc hc=>h c (zo _ hc);rw[xN,za (h b (zh ..)),e]
theorem Ie{m:List UInt8}:∀ {a:List UInt8},(∀b∈a,b≠10)->xN (a++10::m)=a::xN m
 | [],_=>by simp[xN]
 | b::a,h=>by
  have e:=Ie (m:=m) (a:=a) λc hc=>h c (zo _ hc);rw[zb6,xN,za (h b (zh ..)),e]
theorem Ln(s:ByteArray):Go.Lib.indexB s (p8 [10])=Go.Lib.indexByte (fR s) 10:=Go.Lib.one s (p8 [10]) rfl
theorem No:∀(n:Nat) (s:ByteArray),s.size<=n->(Go.Lib.splitB (p8 [10]) 0 (Go.Lib.countB s (p8 [10])) s).map fR=xN (fR s):=by
 intro n;induction n with
 | zero=>
  intro s hs;have e:fR s = []:=zH (by have:=qO s;omega);have hi:Go.Lib.indexB s (p8 [10]) = -1:=by rw[Ln,e];rfl
  rw[Go.Lib.countB_miss _ _ hi,Go.Lib.splitB_zero,e];simp[xN,e]
 | succ n ih=>
  intro s hs;rcases Go.Lib.indexB_cases s (p8 [10]) with hi | ⟨i,hi,hle⟩
  .rw[Go.Lib.countB_miss _ _ hi,Go.Lib.splitB_zero];rw[Ln] at hi;have hno:=Go.Lib.indexByte_none hi;rw[Nn λb hb e=>by
    obtain⟨k,hk⟩:=za2 hb;exact hno k (by rw[hk,e])]
   rfl
  .have h1:(1:Nat)<=(p8 [10]:ByteArray).size:=zt 1;rw[Go.Lib.countB_hit s _ i h1 hi,zba,Go.Lib.splitB_hit _ _ _ _ i hi];have hsz:(p8 [10]:ByteArray).size=1:=rfl;rw[hsz] at hle |-;have hsz2:(s.extract (i+1) s.size).size<=n:=by
    rw[ByteArray.size_extract];omega
   rw[ww,ih _ hsz2];rw[Ln] at hi;obtain⟨g1,g2⟩:=Go.Lib.indexByte_some hi;have e1:fR (s.extract 0 (i+0))=(fR s).take i:=by rw[Go.Pw.qd,G1];simp
   have e2:fR (s.extract (i+1) s.size)=(fR s).drop (i+1):=by
    rw[Go.Pw.qd,G1,za3 (by have:=qO s;omega)]
   rw[e1,e2];have hl:=(zw.1 g1);obtain⟨hl1,hl2⟩:=hl;have e3:fR s=(fR s).take i++10::(fR s).drop (i+1):=by
    have:=zbh hl1;rw[hl2] at this;rw[<-this,zcd]
   conv=>rhs;rw[e3]
   rw[Ie λb hb e=>by
    obtain⟨k,hk⟩:=za2 hb;rw[List.getElem?_take] at hk;split at hk
    .rename_i q;exact g2 k q (by rw[hk,e])
    .cases hk]
theorem JC{s:ByteArray}(h:s.size<1000000000):tT s (p8 [10])=some ((xN (fR s)).map p8):=by
 unfold tT;rw[zb ⟨by omega,zt 1⟩,<-No s.size s (zt _),zcm];congr 1;conv=>lhs;rw[<-List.map_id (Go.Lib.splitB _ _ _ _)]
 exact zO λx _=>(Pb x).symm
def Eu(b:UInt8):Bool:=b==9||b==13||b==32
def Q4(w:List UInt8)(r:List (List UInt8)):List (List UInt8):=if w = [] then r else r ++ [w]
def ao:List UInt8->List (List UInt8)->List UInt8->List (List UInt8)
 | w,r,[]=>Q4 w r
 | w,r,b::l=>if Eu b=true then ao [] (Q4 w r) l else ao (w ++ [b]) r l
theorem KX{x:List UInt8}:∀(w:List UInt8) (r:List (List UInt8)) (l:List UInt8),(∀b∈x,Eu b=false)->ao w r (x++l)=ao (w++x) r l:=by
 induction x with
 | nil=>intro w r l _;rw[pm];rfl
 | cons b x ih=>
  intro w r l h;rw[zb6,ao,h b (zh ..),za (by decide),ih _ _ _ λc hc=>h c (zo _ hc),p0];rfl
theorem Lu{b:UInt8}(h:128<=b.toNat):Eu b=false:=by
 unfold Eu;rw[Bool.or_eq_false_iff,Bool.or_eq_false_iff];refine⟨⟨?_,?_⟩,?_⟩ <;> (rw[beq_eq_false_iff_ne];rintro rfl;revert h;decide)
theorem Lv{b:UInt8}:Eu b=true↔(b.toNat=9\/b.toNat=13\/b.toNat=32):=by
 unfold Eu;rw[zae,zae,we,we,we,show (9:UInt8)=UInt8.ofNat 9 from rfl,show (13:UInt8)=UInt8.ofNat 13 from rfl,show (32:UInt8)=UInt8.ofNat 32 from rfl,Ef (by decide),Ef (by decide),Ef (by decide),or_assoc]
def Yw(l:List UInt8)(sp:s7)(x:List UInt8):Prop:=∃i j:Nat,sp.start=i/\sp.end_=j/\i<=j/\j<=l.length/\x=(l.take j).drop i
def JP(l:List UInt8)(sp:List s7)(r:List (List UInt8)):Prop:=sp.length=r.length/\∀(k:Nat) s x,sp[k]? = some s->r[k]? = some x->Yw l s x
theorem JP.snoc{l:List UInt8}{sp:List s7}{r:List (List UInt8)}(h:JP l sp r){s:s7}{x:List UInt8}(hs:Yw l s x):JP l (sp ++ [s]) (r ++ [x]):=by
 refine⟨by rw[zx,zx,h.1];rfl,λk s' x' h1 h2=>?_⟩;rcases Nat.lt_trichotomy k sp.length with q | q | q
 .rw[zN q] at h1;rw[zN (by rw[<-h.1];exact q)] at h2;exact h.2 k s' x' h1 h2
 .subst q;rw[zM (zt _),Nat.sub_self] at h1;rw[h.1,zM (zt _),Nat.sub_self] at h2;cases h1;cases h2;exact hs
 .rw[qr (by simp;omega)] at h1;cases h1
theorem oa{l:List UInt8}{i p:Nat}{x:List UInt8}(hi:i<=p)(hx:(l.drop p).take x.length=x)(hl:p+x.length<=l.length):(l.take (p+x.length)).drop i=(l.take p).drop i++x:=by
 rw[List.take_add,hx,List.drop_append_of_le_length (by rw[q9];omega)]
theorem Yk(n:Nat):Z1 (n:Int)=some (decide (n=9\/n=13\/n=32)):=by
 unfold Z1;congr 1;rw[zbs];simp only[zae,we,t8];omega
theorem EG{n:Nat}(h:n<1000000000):vN .i64 (n:Int)<0:=by
 unfold vN;have e:((BitVec.ofInt IntKind.i64.bits (-1) ^^^ BitVec.ofInt IntKind.i64.bits (n:Int)).toNat:Int)=18446744073709551615-n:=by
  show ((BitVec.ofInt 64 (-1) ^^^ BitVec.ofInt 64 (n:Int)).toNat:Int)=_;have h1:BitVec.ofInt 64 (-1)=BitVec.allOnes 64:=by decide
  have h2:BitVec.ofInt 64 (n:Int)=BitVec.ofNat 64 n:=BitVec.ofInt_natCast 64 n;rw[h1,h2,BitVec.allOnes_xor,BitVec.toNat_not,BitVec.toNat_ofNat,zcg (by omega)];omega
 rw[e,IntKind.wrap_i64];omega
theorem IQ(s:ByteArray)(hs:s.size<1000000000):D6 s=some ((ao [] [] (fR s)).map p8):=by
 have hl:=qO s;unfold D6;simp only[jn];generalize hL:fR s=l at hl;have tail:∀(sp:List s7) (r:List (List UInt8)),JP l sp r->sp.length<=1000000001->((mk 16 (sp.length:Int) (ByteArray.empty:ByteArray)).bind λv16=>
    (lp (S:=Int × (List ByteArray)) (E:=(List ByteArray)) (λ((s28,s29):Int × (List ByteArray))=>
     if (decide (s28<(sp.length:Int))) then
      (ix sp s28).bind λv32=>
      (yg s v32.start v32.end_).bind λv33=>
      (ix s29 s28).bind λv34=>
      some (.inl (z6 (s28+1),(s29.set (s28).toNat v33)))
     else
     some (.inr s29)) (0,v16)).bind λe27=>some e27)=some (r.map p8):=by
  intro sp r h hn;rw[jU (by omega) (by omega),YK];refine Y2 sp.length (λk t=>t.length=sp.length/\t.take k=(r.take k).map p8) (by omega) ⟨by simp,by simp⟩ (λk t hk ht=>.inl ?_) λt ht=>⟨_,za (by simp),?_⟩
  .have hr:k<r.length:=by rw[<-h.1];exact hk
   obtain⟨i,j,e1,e2,e3,e4,e5⟩:=h.2 k sp[k] r[k] (zc hk) (zc hr);have hc:yg s sp[k].start sp[k].end_=some (p8 r[k]):=by
    rw[e1,e2,QS e3 (by omega),hL,e5]
   have htl:k<t.length:=by rw[ht.1];exact hk
   refine⟨t.set k (p8 r[k]),?_,by rw[zao];exact ht.1,?_⟩
   .dsimp only;rw[zb (by simpa using hk),u9 hk,YK,hc,YK,u9 htl,YK,o9];rfl
   .rw[zu (by rw[zao];exact htl),List.getElem_set_self,List.take_set_of_le (zt _),ht.2,zu hr,zaf];rfl
  .have:=ht.2;rw[<-ht.1,zY,ht.1,h.1,zY] at this;rw[this]
 refine vj (λ(x:Int × Nat × List s7)=>∃(w:List UInt8) (r:List (List UInt8)),JP l x.2.2 r/\x.2.2.length<=x.2.1/\x.2.1<=l.length/\ao [] [] l=ao w r (l.drop x.2.1)/\((x.1<0/\w = [])\/(∃i:Nat,x.1=i/\i<x.2.1/\w=(l.take x.2.1).drop i))) (λx=>s.size-x.2.1) ⟨[],[],⟨rfl,λk s x h=>by simp at h⟩,zt _,ut _,rfl,.inl ⟨by decide,rfl⟩⟩ (by simp only;omega) ?_;rintro⟨a,p,sp⟩ ⟨w,r,h1,h2,h3,h4,h5⟩;simp only at h1 h2 h3 h4 h5;by_cases hp:p<s.size
 .have hbk:=qN hp;generalize hbb:s.get! p=b at hbk;rw[hL] at hbk;have hx:∃x:List UInt8,(dec s p).2=x.length/\1<=x.length/\p+x.length<=l.length/\(l.drop p).take x.length=x/\((x = [b]/\(dec s p).1=b.toNat)\/(128<=(dec s p).1/\Eu b=false/\∀c∈x,Eu c=false)):=by
   rcases zD b.toNat 128 with q | q
   .refine⟨[b],?_,zt _,by simp only[wd];omega,?_,.inl ⟨rfl,?_⟩⟩;·rw[EP (b:=b) (by rw[hL];exact hbk) q];rfl
    .obtain⟨q1,q2⟩:=zw.1 hbk;rw[zbh q1,q2];rfl
    .rw[EP (b:=b) (by rw[hL];exact hbk) q]
   .obtain⟨g1,g2,g3⟩:=KG (b:=b) (by rw[hL];exact hbk) q;rw[hL] at g3;have hle:p+(dec s p).2<=l.length:=by
     obtain⟨c,hc,_⟩:=g3 ((dec s p).2-1) (by omega);have:=(zw.1 hc).1;omega
    have hxl:((l.drop p).take (dec s p).2).length=(dec s p).2:=by rw[q9,zci];omega
    refine⟨(l.drop p).take (dec s p).2,hxl.symm,by rw[hxl];exact g2,by rw[hxl];exact hle,by rw[hxl],.inr ⟨g1,Lu q,λc hc=>?_⟩⟩;obtain⟨k,hk⟩:=za2 hc;have hkl:=(zw.1 hk).1;rw[hxl] at hkl;rw[List.getElem?_take,zb hkl,pu] at hk;obtain⟨c',hc',h128⟩:=g3 k hkl;rw[hk] at hc';cases hc';exact Lu h128
  obtain⟨x,x1,x2,x3,x4,x5⟩:=hx;have hdr:l.drop p=x++l.drop (p+x.length):=by
   conv=>lhs;rw[<-zcd x.length (l.drop p),x4,List.drop_drop]
  simp only[zA hp,zR,Yk,YK,x1];by_cases hB:(dec s p).1=9\/(dec s p).1=13\/(dec s p).1=32
  .have hx':x = [b]/\(dec s p).1=b.toNat:=by
    rcases x5 with q | ⟨q,_⟩
    .exact q
    .omega
   obtain⟨rfl,hb1⟩:=hx';have hBb:Eu b=true:=Lv.2 (by omega);rw[zA hB];simp only[zR];have h4':ao [] [] l=ao [] (Q4 w r) (l.drop (p+1)):=by
    rw[h4,hdr,List.singleton_append,ao,zb hBb];rfl
   rcases h5 with ⟨ha,rfl⟩ | ⟨i,rfl,hi,rfl⟩
   .rw[zI (by omega)];refine .inl ⟨_,rfl,⟨[],r,h1,by simp only;omega,by simp only;omega,?_,.inl ⟨ha,rfl⟩⟩,by simp only[wd];omega⟩;rw[h4'];rfl
   .rw[zA (by omega)];simp only[zR];rw[C4 (by decide) (by simp only[wd];omega),YK];have hne:(l.take p).drop i ≠ []:=λe=>by
     have:=zaa List.length e;rw[zci,q9] at this;simp at this;omega
    refine .inl ⟨_,rfl,⟨[],r ++ [(l.take p).drop i],h1.snoc ⟨i,p,rfl,rfl,by omega,by omega,rfl⟩,by simp only[zx,wd];omega,by simp only[wd];omega,?_,.inl ⟨EG (by omega),rfl⟩⟩,by simp only[wd];omega⟩;rw[h4'];unfold Q4;rw[za hne];rfl
  .rw[zI hB];simp only[zm,zZ];have hxn:∀c∈x,Eu c=false:=by
    rcases x5 with ⟨rfl,q⟩ | ⟨_,_,q⟩
    .intro c hc;rw[zJ.1 hc];cases hc2:Eu b;·rfl
     .have:=Lv.1 hc2;omega
    .exact q
   have h4':ao [] [] l=ao (w++x) r (l.drop (p+x.length)):=by
    rw[h4,hdr,KX _ _ _ hxn]
   rcases h5 with ⟨ha,rfl⟩ | ⟨i,rfl,hi,rfl⟩
   .rw[zA ha];simp only[zR];refine .inl ⟨_,rfl,⟨x,r,h1,by simp only;omega,by simp only;omega,?_,.inr ⟨p,rfl,by simp only;omega,?_⟩⟩,by simp only;omega⟩;·rw[h4'];rfl
    .simp only;rw[oa (zt _) x4 x3,List.drop_of_length_le (by rw[q9];omega)];rfl
   .rw[zI (by omega)];simp only[zm,zZ];refine .inl ⟨_,rfl,⟨(l.take p).drop i++x,r,h1,by simp only;omega,by simp only;omega,h4',.inr ⟨i,rfl,by simp only;omega,?_⟩⟩,by simp only;omega⟩;simp only;rw[oa (by omega) x4 x3]
 .rw[zI hp];simp only[zm,zZ];have hpe:p=l.length:=by omega
  refine .inr ⟨_,rfl,?_⟩;simp only;rw[hpe,List.drop_length] at h4;rw[h4];rcases h5 with ⟨ha,rfl⟩ | ⟨i,rfl,hi,rfl⟩
  .rw[zI (by omega)];simp only[zm,zZ];exact tail sp r h1 (by omega)
  .rw[zA (by omega)];simp only[zR];rw[C4 (by decide) (by simp only[wd];omega),YK];have hne:(l.take p).drop i ≠ []:=λe=>by
    have:=zaa List.length e;rw[zci,q9] at this;simp at this;omega
   have:=tail (sp ++ [⟨(i:Int),(s.size:Int)⟩]) (r ++ [(l.take p).drop i]) (h1.snoc ⟨i,s.size,rfl,rfl,by omega,by omega,by rw[hpe,hl]⟩) (by simp only[zx,wd];omega);rw[this];unfold ao Q4;rw[za hne]
def py(h:Int):Prop:=1<=h/\(h-1) % 32<24/\(h-1) / 32<=9
instance(h:Int):Decidable (py h):=by unfold py;infer_instance
theorem wx{h:Int}(q:py h):1<=h/\h<=320:=by unfold py at q;omega
theorem nr{i g:Int}(h1:0<=i)(h2:i<24)(h3:0<=g)(h4:g<=9):cr i g=some (1+i+32*g):=by
 unfold cr;rw[za (by simp;omega)];rw[show z6 (i*1)=i by rw[gj];omega,show z6 (1+i)=1+i by rw[gj];omega,show z6 (g*32)=32*g by rw[gj];omega,show z6 (1+i+32*g)=1+i+32*g by rw[gj];omega]
theorem nC{i g:Int}:jZ i g=some (if 0<=i/\i<24/\0<=g/\g<=9 then 1+i+32*g else 0):=by
 unfold jZ;split;·rename_i h;rw[za (by simp at h;omega)]
 .rename_i h;have h:0<=i/\i<24/\0<=g/\g<=9:=by simp at h;omega
  rw[zb h];rw[show z6 (1+i)=1+i by rw[gj];omega,show z6 (32*g)=32*g by rw[gj];omega,show z6 (1+i+32*g)=1+i+32*g by rw[gj];omega]
theorem mF{h:Int}(hh:h<=9223372036854775807):dc h=some (if py h then ((h-1) % 32,(h-1) / 32,true) else (-1,-1,false)):=by
 unfold dc;split
 .rename_i q;rw[za (by unfold py;simp at q;omega)]
 .rename_i q;have q:1<=h:=by simpa using q
  rw[F9 (n:=h-1),lY (by omega) (by omega),YK,vo (by omega) (by omega) (by omega),YK,vo (by omega) (by omega) (by omega),YK,Int.ediv_one];split
  .rename_i q2;rw[za (by unfold py;simp at q2;omega)]
  .rename_i q2;rw[zb (by unfold py;simp at q2;omega)]
theorem gK{h:Int}(hh:h<=9223372036854775807):eX h=some (if py h then (h-1) % 32 else -1):=by
 unfold eX;rw[mF hh,YK];split <;> rfl
theorem jv{h:Int}(hh:h<=9223372036854775807):gJ h=some (if py h then (h-1) / 32 else -1):=by
 unfold gJ;rw[mF hh,YK];split <;> rfl
theorem rQ{h:Int}:oQ h=some (decide (py h)):=by
 unfold oQ;split
 .rename_i q;rw[zI (by unfold py;simp at q;omega)]
 .rename_i q;have q:1<=h/\h<=400:=by simp at q;omega
  rw[F9 (n:=h-1),lY (by omega) (by omega),YK,vo (by omega) (by omega) (by omega),YK,nC,YK];congr 1;by_cases k:py h
  .rw[zA k,zb (by unfold py at k;omega)];simp;omega
  .rw[zI k,za (by unfold py at k;omega)];simp;omega
theorem nE{h:Int}:nD h=some (if py h then (h-1) % 32 else -1):=by
 unfold nD;rw[rQ,YK];by_cases k:py h
 .have:=wx k;rw[zA k,za (by simp),zb k,F9 (n:=h-1),lY (by omega) (by omega),YK]
 .rw[zI k,zb (by simp),za k]
theorem FM{h:Int}:BD h=some (if py h then (h-1) / 32 else -1):=by
 unfold BD;rw[rQ,YK];by_cases k:py h
 .have:=wx k;rw[zA k,za (by simp),zb k,F9 (n:=h-1),vo (by omega) (by omega) (by omega),YK]
 .rw[zI k,zb (by simp),za k]
abbrev z0:p7:=⟨0,0,0,0,false,[]⟩
structure Yv (s:c5):Prop where
 len:s.a8.length<=24
 l0:0<=s.Last
 l9:s.Last<=9
 cell:∀i (h:i<s.a8.length),0<=s.a8[i].State/\s.a8[i].State<=3/\0<=s.a8[i].Gen/\s.a8[i].Gen<=s.Last
theorem kK{s:c5}{i:Int}{k:Nat}{c:b7}(hi:i=k)(hk:k<s.a8.length)(hl:s.a8.length<=24):D0 s i c=some ⟨s.a8.set k c,s.Last⟩:=by
 subst hi;unfold D0 y8;rw[V0 (by omega) (by omega),YK,u9 hk,YK,zU]
theorem Cg{s:c5}(hR:Yv s)(v:p7) :
  (∃i,∃h:i<s.a8.length,s.a8[i].State=0/\(∀j (hj:j<i),s.a8[j].State≠0)/\E9 s v=some (⟨s.a8.set i ⟨1,s.a8[i].Gen,v⟩,s.Last⟩,1+i+32*s.a8[i].Gen,0)) \/
  ((∀i (h:i<s.a8.length),s.a8[i].State≠0)/\E9 s v=some (s,0,4)):=by
 have hlen:=hR.len;by_cases q:∃i,∃h:i<s.a8.length,s.a8[i].State=0
 .obtain⟨i,⟨hi,h0⟩,hmin⟩:=bR (p:=λi=>∃h:i<s.a8.length,s.a8[i].State=0) q;left;refine⟨i,hi,h0,λj hj=>λe=>by have:=hmin j ⟨by omega,e⟩;omega,?_⟩;unfold E9;simp only[jn,P0,YK];have hc:=hR.cell i hi;refine dX s.a8.length (λk=>k<=i) (by omega) (by omega) (λk hk hP=>?_) (λhP=>by omega);rcases zD k i with g | g
  .refine .inl ⟨?_,g⟩;have:s.a8[k].State≠0:=λe=>by have:=hmin k ⟨hk,e⟩;omega
   simp only[zQ,hk,zW,zR,u9 hk,YK];rw[za (by simpa using this),o9]
  .have:k=i:=by omega
   subst this;refine .inr ⟨.inl _,?_,rfl⟩;simp only[zQ,hk,zW,zR,u9 hk,YK,h0,kK rfl hk hlen];rw[nr (by omega) (by omega) hc.2.2.1 (by have:=hR.l9;omega)];simp
 .right;refine⟨λi h e=>q ⟨i,h,e⟩,?_⟩;unfold E9;simp only[jn,P0,YK];refine dX s.a8.length (λk=>True) (by omega) trivial (λk hk _=>?_) (λhP=>⟨.inr (),by simp,rfl⟩);refine .inl ⟨?_,trivial⟩;have:s.a8[k].State≠0:=λe=>q ⟨k,hk,e⟩;simp only[zQ,hk,zW,zR,u9 hk,YK];rw[za (by simpa using this),o9]
def sN(s:c5)(h:Int)(i:Nat):Prop:=∃hi:i<s.a8.length,py h/\(h-1) % 32=i/\s.a8[i].Gen=(h-1) / 32/\(s.a8[i].State=1\/s.a8[i].State=2)
theorem da(s:c5){h:Int}(hh:h<=9223372036854775807) :
  (∃i,sN s h i/\w7 s h=some ((i:Int),0))\/((∀i,¬sN s h i)/\w7 s h=some (-1,if h=0 then 2 else 3)):=by
 unfold w7;by_cases h0:h=0
 .right;subst h0;exact⟨λi ⟨_,h1,_⟩=>by unfold py at h1;omega,by simp⟩
 .rw[za (by simpa using h0),gK hh,YK,za h0];by_cases hd:py h
  .rw[zb hd];have hd':=hd;unfold py at hd';obtain⟨k,hk⟩:∃k:Nat,(h-1) % 32=k:=⟨((h-1) % 32).toNat,by omega⟩;rw[hk];by_cases hl:k<s.a8.length
   .rw[za (by simp;omega),u9 hl,YK,jv hh,YK,zb hd];by_cases g:s.a8[k].Gen=(h-1) / 32/\(s.a8[k].State=1\/s.a8[k].State=2)
    .left;refine⟨k,⟨hl,hd,hk,g⟩,?_⟩;rw[za];simp;omega
    .right;refine⟨λi ⟨hi,_,h2,h3⟩=>?_,?_⟩
     .have:i=k:=by omega
      subst this;exact g h3
     .rw[zb];simp;omega
   .right;refine⟨λi ⟨hi,_,h2,h3⟩=>by omega,?_⟩;rw[zb (by simp;omega)]
  .right;refine⟨λi ⟨hi,h1,_⟩=>hd h1,?_⟩;rw[za hd,zb (by simp)]
theorem oC{s:c5}{h:Int}{i:Nat}(hf:sN s h i):w7 s h=some ((i:Int),0):=by
 have hh:=wx hf.2.1;rcases da s (h:=h) (by omega) with ⟨j,h1,h2⟩ | ⟨h1,_⟩
 .obtain⟨_,_,e1,_⟩:=hf;obtain⟨_,_,e2,_⟩:=h1;have:i=j:=by omega
  subst this;exact h2
 .exact absurd hf (h1 i)
theorem tc{s:c5}{h:Int}(hh:h<=9223372036854775807)(hf:∀i,¬sN s h i):w7 s h=some (-1,if h=0 then 2 else 3):=by
 rcases da s hh with ⟨j,h1,_⟩ | ⟨_,h2⟩;·exact absurd h1 (hf j)
 .exact h2
theorem eW(h:Int):(if h=0 then 2 else 3:Int)≠0:=by split <;> omega
theorem CU{s:c5}{h:Int}{i:Nat}(hf:sN s h i):∃hi:i<s.a8.length,C5 s h=some (if s.a8[i].State=2 then (z0,3) else (s.a8[i].Val,0)):=by
 refine⟨hf.1,?_⟩;unfold C5;rw[oC hf,YK,za (by simp),u9 hf.1,YK];split <;> rename_i q
 .rw[zb (by simpa using q)]
 .rw[za (by simpa using q)]
theorem Le{s:c5}{h:Int}(hh:h<=9223372036854775807)(hf:∀i,¬sN s h i):C5 s h=some (z0,if h=0 then 2 else 3):=by
 unfold C5;rw[tc hh hf,YK,zb (by simpa using eW h)]
theorem DT{s:c5}{h:Int}{v:p7}{i:Nat}(hl:s.a8.length<=24)(hf:sN s h i):∃hi:i<s.a8.length,K7 s h v=some (⟨s.a8.set i ⟨s.a8[i].State,s.a8[i].Gen,v⟩,s.Last⟩,0):=by
 refine⟨hf.1,?_⟩;unfold K7;rw[oC hf,YK,za (by simp),u9 hf.1,YK,kK rfl hf.1 hl,YK]
theorem Nj{s:c5}{h:Int}{v:p7}(hh:h<=9223372036854775807)(hf:∀i,¬sN s h i):K7 s h v=some (s,if h=0 then 2 else 3):=by
 unfold K7;rw[tc hh hf,YK,zb (by simpa using eW h)]
def oo(o:p7):R4:=⟨o.Serial,o.Strong,o.Weak,o.Prog,o.Started,o.Fields⟩
def cO(c:b7):I6:=⟨c.State,c.Gen,oo c.Val⟩
def sO(s:a7):y9:=⟨s.S.a8.map cO,s.S.Last,s.Serial⟩
def Sm(s:a7):Prop:=s.S.a8.length<=30/\∀i (h:i<s.S.a8.length),s.S.a8[i].Val.Fields.length<=10
instance(s:a7):Decidable (Sm s):=by unfold Sm;infer_instance
def yb(i:Nat)(c:I6):O8:=⟨c.State,c.Gen,(i:Int)⟩
def pl(t:y9):H4:=⟨t.a8.mapIdx yb,t.Last⟩
theorem iY(t:y9)(h:t.a8.length<=1000):W9 t=some (pl t):=by
 unfold W9;simp only[jn];refine Y2 t.a8.length (λk acc=>acc=(t.a8.mapIdx yb).take k) (by omega) (by simp) (λk acc hk hP=>?_) (λacc hP=>?_)
 .subst hP;refine .inl ⟨_,?_,rfl⟩;simp only[zQ,hk,zW,zR,u9 hk,YK];rw[C4 (by omega) (by simp;omega),YK,o9];have e:(t.a8.mapIdx yb).take (k+1)=(t.a8.mapIdx yb).take k ++ [yb k t.a8[k]]:=by
   rw[List.take_add_one,zc (by simpa using hk)];simp
  rw[e];rfl
 .subst hP;rw[za3 (by simp)];exact⟨t.a8.mapIdx yb,by simp only[za7,zan,zm,zZ],rfl⟩
def NS(c:I6):Prop:=c.State=1\/c.State=2
instance(c:I6):Decidable (NS c):=by unfold NS;infer_instance
def VQ(t:y9)(o:R4):Prop:=1<=o.Serial/\o.Serial<=t.Serial/\0<=o.Strong/\0<=o.Weak /\ -1<=o.Prog/\o.Prog<=5/\o.Fields.length<=4
def Iq(o:R4):Prop:=o.Serial=0/\o.Strong=0/\o.Weak=0/\o.Prog=0/\o.Started=false/\o.Fields.length=0
structure sP (t:y9):Prop where
 len:t.a8.length<=24
 l0:0<=t.Last
 l9:t.Last<=9
 R9:0<=t.Serial
 cell:∀i (h:i<t.a8.length),0<=t.a8[i].State/\t.a8[i].State<=3/\0<=t.a8[i].Gen/\t.a8[i].Gen<=t.Last
 no:∀i (h:i<t.a8.length),¬NS t.a8[i]->Iq t.a8[i].Val
 ok:∀i (h:i<t.a8.length),NS t.a8[i]->VQ t t.a8[i].Val
 dif:∀i (h:i<t.a8.length) k (hk:k<i),NS t.a8[i]->NS t.a8[k]->t.a8[k].Val.Serial≠t.a8[i].Val.Serial
theorem DW{c:Int->Int->Option Int}{xs:List Int}(key:Int->Int)(hc:∀x y,∃r,c x y=some r/\(r<0↔key x<key y))(hl:xs.length<4611686018427387904) :
  ∃ys,nX c xs=some ys/\ys.Perm xs/\ys.Pairwise (λa b=>key a<=key b):=by
 have hO:=DY key hc;have hs:∃ys,nX c xs=some ys:=by
  unfold nX;rw[zb hl];split <;> exact⟨_,rfl⟩
 obtain⟨ys,hs⟩:=hs;obtain⟨h1,h2⟩:=Dx hO.2 xs;rw[(Ai hO hs).2] at h1 h2;refine⟨ys,hs,h1,h2.imp λ{a b} h=>?_⟩;obtain⟨r,e1,e2⟩:=hc b a;have h:decide ((c b a).getD 0<0)=false:=h;rw[e1] at h;have:=of_decide_eq_false h;simp only[zX,e2] at this;omega
def aq:Nat->List b7->List Int
 | _,[]=>[]
 | k,c::r=>(if c.State=1 then [1+(k:Int)+32*c.Gen] else [])++aq (k+1) r
theorem oJ(c:b7):∀(k:Nat) (xs:List b7),aq k (xs ++ [c])=aq k xs++(if c.State=1 then [1+((k+xs.length:Nat):Int)+32*c.Gen] else [])
 | k,[]=>by simp[aq]
 | k,x::r=>by
  simp only[zb6,aq,oJ c (k+1) r,p0,zj];rw[show k+1+r.length=k+(r.length+1) by omega]
theorem jO:∀(k:Nat) (xs:List b7),(aq k xs).length<=xs.length
 | _,[]=>by simp[aq]
 | k,c::r=>by
  have:=jO (k+1) r;simp only[aq,zx,zj];split <;> simp <;> omega
theorem nu{h:Int}:∀ {k:Nat} {xs:List b7},h∈aq k xs↔∃i,∃hi:i<xs.length,xs[i].State=1/\h=1+((k+i:Nat):Int)+32*xs[i].Gen
 | k,[]=>by simp[aq]
 | k,c::r=>by
  simp only[aq,zy,nu (k:=k+1) (xs:=r)];constructor
  .rintro (q | ⟨i,hi,q1,q2⟩)
   .by_cases hc:c.State=1
    .rw[zb hc] at q;exact⟨0,by simp,by simpa using hc,by simpa using q⟩
    .rw[za hc] at q;cases q
   .exact⟨i+1,by simpa using hi,by simpa using q1,by simp only[List.getElem_cons_succ];rw[q2,show k+1+i=k+(i+1) by omega]⟩
  .rintro⟨i,hi,q1,q2⟩;cases i with
   | zero=>
    left;simp only[List.getElem_cons_zero] at q1 q2;rw[zb q1];simp[q2]
   | succ i=>
    right;simp only[List.getElem_cons_succ] at q1 q2;exact⟨i,by simpa using hi,q1,by rw[q2,show k+1+i=k+(i+1) by omega]⟩
def sk(cs:List b7)(h:Int):Int:=match cs[((h-1) % 32).toNat]? with
 | some c=>c.Val.Serial
 | none=>0
theorem DV{cs:List b7}{i:Nat}{g:Int}(h:i<cs.length)(h32:cs.length<=32):sk cs (1+(i:Int)+32*g)=cs[i].Val.Serial:=by
 unfold sk;have:((1+(i:Int)+32*g-1) % 32).toNat=i:=by omega
 rw[this,zc h]
structure XG (cs:List b7):Prop where
 len:cs.length<=24
 gen:∀i (h:i<cs.length),0<=cs[i].Gen/\cs[i].Gen<=9
theorem yM{s:a7}(hR:XG s.S.a8):∃l,E3 s=some l/\l.Perm (aq 0 s.S.a8)/\l.Pairwise (λa b=>sk s.S.a8 a<=sk s.S.a8 b):=by
 have hlen:=hR.len;unfold E3;simp only[jn];have hh:=jO 0 s.S.a8;have hloop:∃e:List (Int × Int) × List Int,lp (S:=Int × (List (Int × Int)) × (List Int)) (E:=((List (Int × Int)) × (List Int))) (λ((s23,s24,s25):Int × (List (Int × Int)) × (List Int))=>
   if (decide (s23<(s.S.a8.length:Int))) then
    ((ix s.S.a8 s23).bind λv35=>
     if (v35.State==1) then
      (cr s23 v35.Gen).bind λv36=>
      (app 8 s25 [v36]).bind λv37=>
      some (.inl (z6 (s23+1),(o5 s24 v36 v35.Val.Serial),v37))
     else
     some (.inl (z6 (s23+1),s24,s25)))
   else
   some (.inr (s24,s25))) (0,[],[])=some e/\e.2=aq 0 s.S.a8/\∀h∈e.2,z7 e.1 h=some (sk s.S.a8 h):=by
  refine fB (T:=List (Int × Int) × List Int) s.S.a8.length (λk e=>e.2=aq 0 (s.S.a8.take k)/\∀h∈e.2,z7 e.1 h=some (sk s.S.a8 h)) (λe:List (Int × Int) × List Int=>e.2=aq 0 s.S.a8/\∀h∈e.2,z7 e.1 h=some (sk s.S.a8 h)) (by omega) ⟨by simp[aq],by simp⟩ (λk e hk hP=>?_) (λe hP=>?_)
  .obtain⟨h1,h2⟩:=hP;obtain⟨m,l⟩:=e;simp only at h1 h2;left;have hc:=hR.gen k hk;have hl:l.length<=24:=by rw[h1];have:=jO 0 (s.S.a8.take k);simp at this;omega
   have et:s.S.a8.take (k+1)=s.S.a8.take k ++ [s.S.a8[k]]:=by rw[List.take_add_one,zc hk];rfl
   have el:(s.S.a8.take k).length=k:=by simp;omega
   by_cases q:s.S.a8[k].State=1
   .refine⟨(o5 m (1+(k:Int)+32*s.S.a8[k].Gen) s.S.a8[k].Val.Serial,l ++ [1+(k:Int)+32*s.S.a8[k].Gen]),?_,?_,?_⟩
    .simp only[zQ,hk,zW,zR,u9 hk,YK,q,pi];rw[nr (by omega) (by omega) hc.1 hc.2,YK,C4 (by omega) (by simp;omega),YK,o9]
    .simp only;rw[et,oJ,zb q,el,h1,zag]
    .intro h hh;simp only[zy,zJ] at hh |-;rw[oK];rcases hh with hh | rfl
     .split;·rename_i e;rw[e,DV hk (by omega)]
      .exact h2 h hh
     .rw[zb rfl,DV hk (by omega)]
   .refine⟨(m,l),?_,?_,h2⟩
    .simp only[zQ,hk,zW,zR,u9 hk,YK];rw[za (by simpa using q),o9]
    .simp only;rw[et,oJ,za q,h1,pm]
  .obtain⟨h1,h2⟩:=hP;obtain⟨m,l⟩:=e;refine⟨(m,l),by simp only[za7,zan,zm,zZ],?_,h2⟩;simpa using h1
 obtain⟨⟨m,l⟩,e1,e2,e3⟩:=hloop;rw[show lp _ _=_ from e1,YK];simp only at e2 e3 |-;subst e2;obtain⟨ys,q1,q2,q3⟩:=DW (c:=λp q=>dC p q m) (xs:=aq 0 s.S.a8) (λh=>(z7 m h).getD 0) (λx y=>by
  unfold dC bK cmp_isNaN_int;simp only[YK,za0,zm,zZ];generalize (z7 m x).getD 0=a;generalize (z7 m y).getD 0=b;by_cases h1:a<b
  .rw[zA h1];exact⟨-1,rfl,by simp[h1]⟩
  .rw[zI h1];by_cases h2:a > b
   .rw[zA h2];exact⟨1,rfl,by simp[h1]⟩
   .rw[zI h2];exact⟨0,rfl,by simp[h1]⟩) (by omega)
 refine⟨ys,by rw[q1];rfl,q2,q3.imp_of_mem λ{a b} ha hb hab=>?_⟩;rw[e3 a (q2.mem_iff.1 ha),e3 b (q2.mem_iff.1 hb)] at hab;simpa using hab
theorem ml{key:Int->Int}:∀ {l m:List Int},l.Perm m->l.Pairwise (λa b=>key a<=key b)->m.Pairwise (λa b=>key a<=key b)->(∀a∈l,∀b∈l,key a=key b->a=b)->l=m
 | [],m,hp,_,_,_=>(List.nil_perm.1 hp).symm
 | a::l,[],hp,_,_,_=>by simp at hp
 | a::l,b::m,hp,h1,h2,hk=>by
  have ha:=t6.1 h1;have hb:=t6.1 h2;have e:a=b:=by
   have m1:b∈a::l:=hp.mem_iff.2 (zh ..);have m2:a∈b::m:=hp.mem_iff.1 (zh ..);rcases zL.1 m1 with q | q
   .exact q.symm
   .rcases zL.1 m2 with q' | q'
    .exact q'
    .exact hk a (zh ..) b m1 (Int.le_antisymm (ha.1 b q) (hb.1 a q'))
  subst e;rw[ml (List.perm_cons a |>.1 hp) ha.2 hb.2 λx hx y hy=>hk x (zo _ hx) y (zo _ hy)]
theorem C2(s:a7):(sO s).a8.length=s.S.a8.length:=by simp[sO]
theorem HX(s:a7)(i:Int):ix (sO s).a8 i=(ix s.S.a8 i).map cO:=fW cO s.S.a8 i
theorem bX(t:y9):(pl t).a8.length=t.a8.length:=by simp[pl]
theorem Dy{t:y9}{k:Nat}(h:k<t.a8.length):ix (pl t).a8 k=some (yb k t.a8[k]):=by
 rw[u9 (by simpa[pl] using h)];simp[pl]
theorem ta(s:a7){h:Int}(hh:h<=9223372036854775807):T5 (pl (sO s)) h=w7 s.S h:=by
 unfold T5 w7;rw[nE,gK hh,FM,jv hh];simp only[YK,bX,C2];generalize (if py h then (h-1) % 32 else -1:Int)=v;generalize (if py h then (h-1) / 32 else -1:Int)=g;split;·rfl
 .split;·rfl
  .rename_i q;have q:0<=v/\v<s.S.a8.length:=by simp at q;omega
   obtain⟨k,rfl⟩:∃k:Nat,v=k:=⟨v.toNat,by omega⟩;have hk:k<s.S.a8.length:=by omega
   rw[Dy (by rw[C2];exact hk),u9 hk];simp only[YK,yb,sO,sm,cO]
theorem Ni(s:a7)(hl:s.S.a8.length<=24){h:Int}(hh:h<=9223372036854775807)(o:p7):P5 (sO s) h (oo o)=(K8 s h o).map λp=>(sO p.1,p.2):=by
 unfold P5 K8;rw[iY _ (by rw[C2];omega),YK,ta s hh];rcases da s.S hh with ⟨i,hf,e⟩ | ⟨hf,e⟩
 .obtain⟨hi,e2⟩:=DT (v:=o) hl hf;rw[e,e2];simp only[YK,za0,zm,zZ,wl];unfold fk;rw[V0 (by omega) (by rw[C2];omega),YK,u9 (by rw[C2];exact hi),YK];simp[sO,cO,oo,zb3]
 .rw[e,Nj hh hf];simp only[YK];rw[zb (by simpa using eW h)];rfl
theorem jA{s:a7}(h:sP (sO s)):s.S.a8.length<=24:=by have:=h.len;rwa [C2] at this
theorem BT{s:a7}(h:sP (sO s))(i:Nat)(hi:i<s.S.a8.length):0<=s.S.a8[i].State/\s.S.a8[i].State<=3/\0<=s.S.a8[i].Gen/\s.S.a8[i].Gen<=s.S.Last:=by
 have:=h.cell i (by rw[C2];exact hi);simpa[sO,cO] using this
theorem BU{s:a7}(h:sP (sO s)):XG s.S.a8:=⟨jA h,λi hi=>by have:=BT h i hi;have h9:s.S.Last<=9:=h.l9;omega⟩
theorem MW{s:a7}(h:sP (sO s))(i:Nat)(hi:i<s.S.a8.length)(ht:s.S.a8[i].State=1\/s.S.a8[i].State=2):VQ (sO s) (oo s.S.a8[i].Val):=by
 have:=h.ok i (by rw[C2];exact hi);simp only[sO,sm,cO,NS] at this;exact this ht
theorem MV{s:a7}(h:sP (sO s)){i j:Nat}(hi:i<s.S.a8.length)(hj:j<s.S.a8.length)(a:s.S.a8[i].State=1\/s.S.a8[i].State=2)(b:s.S.a8[j].State=1\/s.S.a8[j].State=2)(e:s.S.a8[i].Val.Serial=s.S.a8[j].Val.Serial):i=j:=by
 have key:∀i (hi:i<s.S.a8.length) j (hj:j<i),(s.S.a8[i].State=1\/s.S.a8[i].State=2)->(s.S.a8[j].State=1\/s.S.a8[j].State=2)->s.S.a8[j].Val.Serial≠s.S.a8[i].Val.Serial:=λi hi j hj a b=>by
  have:=h.dif i (by rw[C2];exact hi) j hj;simp only[sO,sm,cO,NS,oo] at this;exact this a b
 rcases Nat.lt_trichotomy i j with q | q | q
 .exact absurd e (key j hj i q b a)
 .exact q
 .exact absurd e.symm (key i hi j q a b)
theorem jN{s:a7}(hR:sP (sO s)){x:Int}(hx:x∈aq 0 s.S.a8):∃i,∃hi:i<s.S.a8.length,s.S.a8[i].State=1/\x=1+(i:Int)+32*s.S.a8[i].Gen/\sN s.S x i/\sk s.S.a8 x=s.S.a8[i].Val.Serial/\y4 s x=some (s.S.a8[i].Val,0):=by
 obtain⟨i,hi,h1,h2⟩:=nu.1 hx;rw[zag] at h2;have hl:=(jA hR);have hc:=(BU hR).gen i hi;have hf:sN s.S x i:=⟨hi,by unfold py;omega,by omega,by omega,.inl h1⟩;refine⟨i,hi,h1,h2,hf,by rw[h2];exact DV hi (by omega),?_⟩;obtain⟨_,e⟩:=CU hf;unfold y4;rw[e,za (by omega)];rfl
theorem KZ{s:a7}{x:Int}{i:Nat}(hf:sN s.S x i)(h1:∀hi:i<s.S.a8.length,s.S.a8[i].State=1):x∈aq 0 s.S.a8:=by
 obtain⟨hi,q1,q2,q3,_⟩:=hf;refine nu.2 ⟨i,hi,h1 hi,?_⟩;unfold py at q1;rw[zag];omega
theorem Ca{s:a7}(hR:sP (sO s)){x y:Int}(hx:x∈aq 0 s.S.a8)(hy:y∈aq 0 s.S.a8)(e:sk s.S.a8 x=sk s.S.a8 y):x=y:=by
 obtain⟨i,hi,a1,a2,_,a4,_⟩:=jN hR hx;obtain⟨j,hj,b1,b2,_,b4,_⟩:=jN hR hy;have:=(MV hR) hi hj (.inl a1) (.inl b1) (by rw[<-a4,<-b4];exact e);subst this;rw[a2,b2]
theorem lB:∀(k:Nat) (cs:List b7),k+cs.length<=32->(aq k cs).Nodup
 | _,[],_=>List.nodup_nil
 | k,c::r,h=>by
  simp only[zj] at h;unfold aq;rw[zb5];refine⟨by split <;> simp,lB (k+1) r (by omega),λa ha b hb e=>?_⟩;split at ha
  .simp only[zJ] at ha;subst ha;subst e;obtain⟨i,hi,h1,h2⟩:=nu.1 hb;have:((1+(k:Int)+32*c.Gen)-1) % 32=((1+((k+1+i:Nat):Int)+32*r[i].Gen)-1) % 32:=by rw[h2]
   omega
  .cases ha
theorem Hg{s:a7}(hR:sP (sO s)):∃l,E3 s=some l/\l.Perm (aq 0 s.S.a8)/\l.Pairwise (λa b=>sk s.S.a8 a<sk s.S.a8 b):=by
 obtain⟨l,h1,h2,h3⟩:=yM (BU hR);refine⟨l,h1,h2,?_⟩;have hn:l.Nodup:=h2.nodup_iff.2 (lB 0 _ (by have:=(jA hR);omega));have:=List.Pairwise.and h3 hn;refine this.imp_of_mem λ{a b} ha hb ⟨q1,q2⟩=>?_;rcases Int.lt_or_eq_of_le q1 with q | q
 .exact q
 .exact absurd (Ca hR (h2.mem_iff.1 ha) (h2.mem_iff.1 hb) q) q2
theorem rv:∀(k:Nat) (cs:List b7) (i:Nat) (c:b7) (hi:i<cs.length),cs[i].State≠1->c.State=1->(aq k (cs.set i c)).Perm ((1+((k+i:Nat):Int)+32*c.Gen)::aq k cs)
 | _,[],i,_,hi,_,_=>by simp at hi
 | k,d::r,0,c,hi,h1,h2=>by
  simp only[List.getElem_cons_zero] at h1;simp only[List.set_cons_zero,aq,zb h2,za h1,zbr,zai];exact List.Perm.refl _
 | k,d::r,i+1,c,hi,h1,h2=>by
  simp only[List.getElem_cons_succ] at h1;simp only[List.set_cons_succ,aq];have:=rv (k+1) r i c (by simpa using hi) h1 h2;rw[show k+1+i=k+(i+1) by omega] at this;exact (List.Perm.append_left _ this).trans List.perm_middle
theorem Ve{cs:List b7}{i:Nat}{c:b7}{x:Int}(h:((x-1) % 32).toNat≠i):sk (cs.set i c) x=sk cs x:=by
 unfold sk;rw[zbz (by omega)]
theorem Fs{s:a7}(hR:sP (sO s)){i:Nat}(hi:i<s.S.a8.length)(h0:s.S.a8[i].State=0)(o:p7)(ho:o.Serial=s.Serial+1){l:List Int}(hl:E3 s=some l) :
  E3 ⟨⟨s.S.a8.set i ⟨1,s.S.a8[i].Gen,o⟩,s.S.Last⟩,s.Serial+1⟩=some (l ++ [1+(i:Int)+32*s.S.a8[i].Gen]):=by
 obtain⟨l',e,l1,l2⟩:=Hg hR;rw[hl] at e;cases e;have hlen:=jA hR;have hsl:XG (s.S.a8.set i ⟨1,s.S.a8[i].Gen,o⟩):=⟨by simpa using hlen,λj hj=>by
  rw[zb7];have:=(BU hR).gen;split;·exact this i hi
  .exact this j (by simpa using hj)⟩
 obtain⟨m,m1,m2,m3⟩:=yM (s:=⟨⟨s.S.a8.set i ⟨1,s.S.a8[i].Gen,o⟩,s.S.Last⟩,s.Serial+1⟩) hsl;have hp:=rv 0 s.S.a8 i ⟨1,s.S.a8[i].Gen,o⟩ hi (by omega) rfl;rw[zag] at hp;have hold:∀x∈l,sk (s.S.a8.set i ⟨1,s.S.a8[i].Gen,o⟩) x=sk s.S.a8 x/\sk s.S.a8 x<=s.Serial:=λx hx=>by
  obtain⟨j,hj,a1,a2,a3,a4,_⟩:=jN hR (l1.mem_iff.1 hx);refine⟨Ve ?_,?_⟩
  .obtain⟨_,_,q,_⟩:=a3;intro e;have:j=i:=by omega
   subst this;omega
  .rw[a4];exact (MW hR j hj (.inl a1)).2.1
 have hnew:sk (s.S.a8.set i ⟨1,s.S.a8[i].Gen,o⟩) (1+(i:Int)+32*s.S.a8[i].Gen)=s.Serial+1:=by
  rw[DV (by simpa using hi) (by simp;omega)];simp[ho]
 rw[m1];congr 1;refine ml (key:=sk (s.S.a8.set i ⟨1,s.S.a8[i].Gen,o⟩)) ?_ m3 ?_ ?_
 .refine m2.trans (hp.trans ?_);refine List.Perm.trans (List.Perm.cons _ l1.symm) ?_;exact (List.perm_append_singleton _ _).symm
 .rw[za8];refine⟨l2.imp_of_mem λ{a b} ha hb hab=>?_,by simp,λa ha b hb=>?_⟩;·rw[(hold a ha).1,(hold b hb).1];omega
  .rw[zJ] at hb;subst hb;rw[hnew,(hold a ha).1];have:=(hold a ha).2;omega
 .have hm:∀a∈m,a∈l\/a=1+(i:Int)+32*s.S.a8[i].Gen:=λa ha=>by
   have:=hp.mem_iff.1 (m2.mem_iff.1 ha);rcases zL.1 this with q | q
   .exact .inr q
   .exact .inl (l1.mem_iff.2 q)
  intro a ha b hb hab;rcases hm a ha with qa | rfl <;> rcases hm b hb with qb | rfl
  .rw[(hold a qa).1,(hold b qb).1] at hab;exact Ca hR (l1.mem_iff.1 qa) (l1.mem_iff.1 qb) hab
  .rw[(hold a qa).1,hnew] at hab;have:=(hold a qa).2;omega
  .rw[(hold b qb).1,hnew] at hab;have:=(hold b qb).2;omega
  .rfl
theorem WL(n last:Int):∃a,gw n last=some a/\BF n last=some (sO a)/\sP (sO a)/\a.S.a8.length<=24/\∀i (h:i<a.S.a8.length),a.S.a8[i].Val.Fields.length<=4:=by
 unfold gw BF Y6 HG;by_cases h:0<=n/\n<=24/\0<=last/\last<=9
 .obtain⟨h1,h2,h3,h4⟩:=h;obtain⟨k,rfl⟩:∃k:Nat,n=k:=⟨n.toNat,by omega⟩;rw[za (by simp;omega),za (by simp;omega),jU (by omega) (by omega),jU (by omega) (by omega)];simp only[YK,zby];rw[jU (by omega) (by omega)];refine⟨_,rfl,?_,?_,by simp;omega,λi h=>by simp⟩;·simp[sO,cO,oo]
  .refine⟨by simp[sO];omega,h3,h4,by simp[sO],λi h=>?_,λi h=>?_,λi h q=>?_,λi h k hk q=>?_⟩;·simp[sO,cO];omega
   .simp[sO,cO,oo,Iq]
   .exfalso;simp[sO,cO,oo,NS] at q
   .exfalso;simp[sO,cO,oo,NS] at q
 .rw[zb (by simp;omega),zb (by simp;omega)];simp only[YK,zV];rw[show mk 80 ((0:Nat):Int) (⟨0,0,⟨0,0,0,0,false,[]⟩⟩:I6)=some [] from rfl];refine⟨_,rfl,rfl,⟨by simp[sO],by simp[sO],by simp[sO],by simp[sO],?_,?_,?_,?_⟩,by simp,λi h=>by simp at h⟩ <;> (intro i h;simp[sO] at h)
noncomputable def lv(s:a7):List Int:=(E3 s).getD []
def ob(s:a7)(h:Int):p7:=((y4 s h).getD (z0,0)).1
def outs(s:a7)(h:Int):List Int:=nz (ob s h).Fields
def FB(s:a7):Prop:=∀c∈s.S.a8,∀x∈c.Val.Fields,x<=9223372036854775807
section
variable{s:a7}(hR:sP (sO s))
include hR
theorem iS:E3 s=some (lv s)/\(lv s).Perm (aq 0 s.S.a8)/\(lv s).Pairwise (λa b=>sk s.S.a8 a<sk s.S.a8 b):=by
 obtain⟨l,h1,h2,h3⟩:=Hg hR;have:lv s=l:=by unfold lv;rw[h1];rfl
 rw[this];exact⟨h1,h2,h3⟩
theorem df:E3 s=some (lv s):=(iS hR).1
theorem tl{h:Int}:h∈lv s↔h∈aq 0 s.S.a8:=(iS hR).2.1.mem_iff
theorem M7:(lv s).length<=24:=by
 rw[(iS hR).2.1.length_eq];exact rx (jO 0 s.S.a8) (jA hR)
theorem rE:(lv s).Nodup:=(iS hR).2.1.nodup_iff.2 (lB 0 _ (by have:=(jA hR);omega))
theorem wH{h:Int}(hh:h∈lv s):y4 s h=some (ob s h,0):=by
 obtain⟨i,hi,_,_,_,_,e⟩:=jN hR ((tl hR).1 hh);unfold ob;rw[e];rfl
theorem Bo{h:Int}(hh:h∈lv s):∃i,∃hi:i<s.S.a8.length,s.S.a8[i].State=1/\h=1+(i:Int)+32*s.S.a8[i].Gen/\sN s.S h i/\ob s h=s.S.a8[i].Val:=by
 obtain⟨i,hi,h1,h2,h3,_,e⟩:=jN hR ((tl hR).1 hh);refine⟨i,hi,h1,h2,h3,?_⟩;unfold ob;rw[e];rfl
theorem nA{h:Int}(hh:h∈lv s):1<=h/\h<=320:=by
 obtain⟨i,hi,_,_,hf,_⟩:=Bo hR hh;exact wx hf.2.1
theorem RU{h:Int}(hh:h<=9223372036854775807)(hn:h∉lv s):∃e,e≠0/\y4 s h=some (z0,e):=by
 rcases da s.S hh with ⟨i,hf,_⟩ | ⟨hf,_⟩
 .obtain⟨hi,e⟩:=CU hf;unfold y4;rw[e];by_cases h2:s.S.a8[i].State=2
  .rw[zb h2];exact⟨3,by decide,rfl⟩
  .exact absurd ((tl hR).2 (KZ hf λ_=>hf.2.2.2.2.resolve_right h2)) hn
 .unfold y4;rw[Le hh hf];exact⟨_,eW h,rfl⟩
theorem pQ{h:Int}(hh:h<=9223372036854775807)(hn:h∉lv s):ob s h=z0:=by
 obtain⟨e,_,h1⟩:=RU hR hh hn;unfold ob;rw[h1];rfl
theorem aI{h:Int}(hh:h<=9223372036854775807):∃e,y4 s h=some (ob s h,e)/\(e=0↔h∈lv s):=by
 by_cases q:h∈lv s
 .exact⟨0,wH hR q,by simp[q]⟩
 .obtain⟨e,h0,h1⟩:=RU hR hh q;refine⟨e,?_,by simp[h0,q]⟩;rw[h1,pQ hR hh q]
theorem Qs{h:Int}(hh:h<=9223372036854775807)(hn:h∉lv s):outs s h = []:=by
 unfold outs;rw[pQ hR hh hn];rfl
theorem Hs(h:Int)(hh:h<=9223372036854775807):(ob s h).Fields.length<=4:=by
 by_cases q:h∈lv s
 .obtain⟨i,hi,h1,_,_,e⟩:=Bo hR q;rw[e];exact (MW hR i hi (.inl h1)).2.2.2.2.2.2
 .rw[pQ hR hh q];exact ut _
theorem wU(h:Int)(hh:h<=9223372036854775807):(outs s h).length<=4:=rx (LY _) (Hs hR h hh)
theorem Qr(hF:FB s){h x:Int}(hh:h<=9223372036854775807)(hx:x∈outs s h):x<=9223372036854775807:=by
 by_cases q:h∈lv s
 .obtain⟨i,hi,h1,_,_,e⟩:=Bo hR q;unfold outs at hx;rw[e] at hx;exact hF _ (zl hi) x (lK.1 hx).1
 .rw[Qs hR hh q] at hx;cases hx
end
theorem Qt{s:a7}{h x:Int}(hx:x∈outs s h):x≠0:=(lK.1 hx).2
theorem rk(s:a7)(hl:s.S.a8.length<=1000){h:Int}(hh:h<=9223372036854775807):M1 (sO s) h=(y4 s h).map λp=>(oo p.1,p.2):=by
 unfold M1 y4 C5 vp;rw[iY _ (by rw[C2];exact hl),YK,ta s hh];rcases da s.S hh with ⟨i,hf,e⟩ | ⟨hf,e⟩
 .rw[e];have hi:=hf.1;simp only[YK,za0,zm,zZ];rw[Dy (by rw[C2];exact hi),u9 hi];simp only[YK,yb,sO,sm,cO];split;·rfl
  .simp only[YK,za0,zm,zZ];rw[u9 (by simpa using hi)];simp[cO,oo]
 .rw[e];simp only[YK];have hne:((if h=0 then 2 else 3:Int) != 0)=true:=by simpa using eW h
  simp only[hne,zR,YK];rfl
theorem Nl{s:a7}(hR:sP (sO s)){l:List Int}(hl:∀x∈l,x∈lv s)(hn:l.length<=100) :
  ∃m,qy (sO s) l=some m/\m.Perm l/\m.Pairwise (λa b=>sk s.S.a8 a<=sk s.S.a8 b):=by
 have hfind:∀x∈l,∃i:Nat,∃hi:i<s.S.a8.length,T5 (pl (sO s)) x=some ((i:Int),0)/\s.S.a8[i].Val.Serial=sk s.S.a8 x:=λx hx=>by
  obtain⟨i,hi,_,_,hf,h4,_⟩:=jN hR ((tl hR).1 (hl x hx));refine⟨i,hi,?_,h4.symm⟩;rw[ta s (by have:=wx hf.2.1;omega),oC hf]
 unfold qy;rw[V0 (by omega) (by omega),YK];simp only[jn];let K:List Int->Nat->Int:=λo a=>sk s.S.a8 (o.getD a 0)
 have hplain:=iY (sO s) (by rw[C2];have:=jA hR;omega);have inner:∀(n:Nat) (o:List Int),n<l.length->o.Perm l->(∀a b,a<b->b<=n->b≠n->K o a<=K o b) ->
   ∃o',lp (S:=Int × (List Int)) (E:=(List Int)) (λ((s58,s59):Int × (List Int))=>
      if (decide (s58 > 0)) then
       (W9 (sO s)).bind λv62=>
       (ix s59 (z6 (s58-1))).bind λv63=>
       (T5 v62 v63).bind λv64=>
       (ix s59 s58).bind λv65=>
       (T5 v62 v65).bind λv66=>
       (z8 (((decide (v64.1<0))||(decide (v66.1<0)))==false) (⟨0,0,⟨0,0,0,0,false,[]⟩⟩:I6) (ix (sO s).a8 v64.1)).bind λv67=>
       (z8 (((decide (v64.1<0))||(decide (v66.1<0)))==false) (⟨0,0,⟨0,0,0,0,false,[]⟩⟩:I6) (ix (sO s).a8 v66.1)).bind λv68=>
       if (((decide (v64.1<0))||(decide (v66.1<0)))||(decide (v67.Val.Serial<=v68.Val.Serial))) then
        some (.inr s59)
       else
       (ix (s59.set (s58).toNat v63) (z6 (s58-1))).bind λv69=>
       some (.inl (z6 (s58-1),((s59.set (s58).toNat v63).set (z6 (s58-1)).toNat v65)))
      else
      some (.inr s59)) ((n:Int),o)=some o'/\o'.Perm l/\∀a b,a<b->b<=n->K o' a<=K o' b:=by
  intro n o hn' hp hk;have hbn:(n:Int).toNat<4611686018427387904:=by rw[zU];omega
  refine lG (s0:=((n:Int),o)) (λq=>∃k:Nat,q.1=(k:Int)/\k<=n/\q.2.Perm l/\∀a b,a<b->b<=n->b≠k->K q.2 a<=K q.2 b) (λo'=>o'.Perm l/\∀a b,a<b->b<=n->K o' a<=K o' b) (λq=>q.1.toNat) ⟨n,rfl,zt _,hp,hk⟩ hbn ?_;rintro⟨_,o⟩ ⟨k,rfl,hkn,hp,hk⟩;simp only at hp hk |-;have hol:o.length=l.length:=hp.length_eq;rcases md k with rfl | hpos
  .right;refine⟨o,by rw[za (by simp)],hp,λa b h1 h2=>hk a b h1 h2 (by omega)⟩
  .obtain⟨j,rfl⟩:∃j,k=j+1:=⟨k-1,by omega⟩;have hj1:j+1<o.length:=by omega
   have hj:j<o.length:=by omega
   have ew:z6 (((j+1:Nat):Int)-1)=(j:Int):=by rw[F9 (by omega) (by omega)];omega
   obtain⟨ia,hia,fa,ka⟩:=hfind o[j] (hp.mem_iff.1 (zl hj));obtain⟨ib,hib,fb,kb⟩:=hfind o[j+1] (hp.mem_iff.1 (zl hj1));have ea:ix (sO s).a8 (ia:Int)=some (cO s.S.a8[ia]):=by rw[HX,u9 hia];rfl
   have eb:ix (sO s).a8 (ib:Int)=some (cO s.S.a8[ib]):=by rw[HX,u9 hib];rfl
   have hneg:((decide ((ia:Int)<0))||(decide ((ib:Int)<0)))=false:=by simp
   have hpos':decide (((j+1:Nat):Int) > 0)=true:=by simp
   simp only[hpos',zR,hplain,ew,u9 hj,u9 hj1,YK,fa,fb,hneg,pi,fM,ea,eb,zbq,cO,oo,ka,kb,zU];have Kj:K o j=sk s.S.a8 o[j]:=by simp[K,List.getD,zc hj]
   have Kj1:K o (j+1)=sk s.S.a8 o[j+1]:=by simp[K,List.getD,zc hj1]
   by_cases hle:sk s.S.a8 o[j]<=sk s.S.a8 o[j+1]
   .right;refine⟨o,by rw[zb (by simpa using hle)],hp,λa b h1 h2=>?_⟩;by_cases e:b=j+1
    .subst e;rcases zD a j with q | q
     .have:=hk a j q (by omega) (by omega);omega
     .have:a=j:=by omega
      subst this;omega
    .exact hk a b h1 h2 e
   .left;refine⟨_,by rw[za (by simpa using hle),u9 (by simpa using hj)];rfl,⟨j,rfl,by omega,?_,λa b h1 h2 h3=>?_⟩,by show (j:Int).toNat<((j+1:Nat):Int).toNat;omega⟩;·exact (List.set_set_perm hj1 hj).trans hp
    .have hK:∀c,K ((o.set (j+1) o[j]).set j o[j+1]) c=if c=j then K o (j+1) else if c=j+1 then K o j else K o c:=λc=>by
      simp only[K,List.getD,List.getElem?_set,zao];by_cases c1:c=j
      .subst c1;simp[hj,zc hj1]
      .by_cases c2:c=j+1
       .subst c2;simp[hj1,zc hj]
       .rw[za (by omega),za (by omega),za c1,za c2]
     show K ((o.set (j+1) o[j]).set ((j:Nat):Int).toNat o[j+1]) a<=K ((o.set (j+1) o[j]).set ((j:Nat):Int).toNat o[j+1]) b;rw[zU,hK,hK];by_cases a1:a=j
     .subst a1;rw[zb rfl];by_cases b2:b=a+1
      .subst b2;rw[za (by omega),zb rfl];omega
      .rw[za (by omega),za b2];exact hk (a+1) b (by omega) h2 b2
     .rw[za a1];by_cases a2:a=j+1
      .subst a2;rw[zb rfl,za (by omega),za (by omega)];exact hk j b (by omega) h2 (by omega)
      .rw[za a2,za h3];by_cases b2:b=j+1
       .subst b2;rw[zb rfl];exact hk a j (by omega) (by omega) (by omega)
       .rw[za b2];exact hk a b h1 h2 b2
 have outer:∃m,(lp (S:=Int × (List Int)) (E:=(List Int)) (λ((s38,s39):Int × (List Int))=>
   if (decide (s38<(s39.length:Int))) then
     (lp (S:=Int × (List Int)) (E:=(List Int)) (λ((s58,s59):Int × (List Int))=>
      if (decide (s58 > 0)) then
       (W9 (sO s)).bind λv62=>
       (ix s59 (z6 (s58-1))).bind λv63=>
       (T5 v62 v63).bind λv64=>
       (ix s59 s58).bind λv65=>
       (T5 v62 v65).bind λv66=>
       (z8 (((decide (v64.1<0))||(decide (v66.1<0)))==false) (⟨0,0,⟨0,0,0,0,false,[]⟩⟩:I6) (ix (sO s).a8 v64.1)).bind λv67=>
       (z8 (((decide (v64.1<0))||(decide (v66.1<0)))==false) (⟨0,0,⟨0,0,0,0,false,[]⟩⟩:I6) (ix (sO s).a8 v66.1)).bind λv68=>
       if (((decide (v64.1<0))||(decide (v66.1<0)))||(decide (v67.Val.Serial<=v68.Val.Serial))) then
        some (.inr s59)
       else
       (ix (s59.set (s58).toNat v63) (z6 (s58-1))).bind λv69=>
       some (.inl (z6 (s58-1),((s59.set (s58).toNat v63).set (z6 (s58-1)).toNat v65)))
      else
      some (.inr s59)) (s38,s39)).bind λe57=>
     some (.inl (z6 (s38+1),e57))
   else
   some (.inr s39)) (1,l))=some m/\m.Perm l/\m.Pairwise (λa b=>sk s.S.a8 a<=sk s.S.a8 b):=by
  have hb1:l.length+1-(1:Int).toNat<4611686018427387904:=by omega
  refine lG (s0:=((1:Int),l)) (λq=>∃k:Nat,q.1=(k:Int)/\(k<=l.length\/k=1)/\1<=k/\q.2.Perm l/\∀a b,a<b->b<k->K q.2 a<=K q.2 b) (λ(o':List Int)=>o'.Perm l/\o'.Pairwise (λa b=>sk s.S.a8 a<=sk s.S.a8 b)) (λq=>l.length+1-q.1.toNat) ⟨1,rfl,.inr rfl,by omega,List.Perm.refl _,λa b h1 h2=>by omega⟩ hb1 ?_;rintro⟨_,o⟩ ⟨k,rfl,hkl,hk1,hp,hk⟩;simp only at hp hk |-;have hol:o.length=l.length:=hp.length_eq;rcases zD k l.length with h1 | h1
  .left;obtain⟨o',e1,e2,e3⟩:=inner k o h1 hp λa b x1 x2 x3=>hk a b x1 (by omega);refine⟨(((k+1:Nat):Int),o'),?_,⟨k+1,rfl,by omega,by omega,e2,λa b x1 x2=>e3 a b x1 (by omega)⟩,by show l.length+1-((k+1:Nat):Int).toNat<l.length+1-(k:Int).toNat;omega⟩;rw[zb (by simp;omega),e1,YK,o9 (by omega)]
  .right;refine⟨o,by rw[za (by simp;omega)],hp,?_⟩;rw[List.pairwise_iff_getElem];intro i j hi hj hij;have:=hk i j hij (by omega);simpa[K,List.getD,zc hi,zc hj] using this
 obtain⟨m,e1,e2,e3⟩:=outer;exact⟨m,by rw[show lp _ _=_ from e1];rfl,e2,e3⟩
theorem TY{s:a7}(hR:sP (sO s)):xf (sO s)=some (lv s):=by
 have hlen:=jA hR;unfold xf;simp only[jn];have hloop:lp (S:=Int × (List Int)) (E:=(List Int)) (λ((s18,s19):Int × (List Int))=>
   if (decide (s18<((sO s).a8.length:Int))) then
     (ix (sO s).a8 s18).bind λv27=>
     if (v27.State==1) then
      (jZ s18 v27.Gen).bind λv28=>
      (app 8 s19 [v28]).bind λv29=>
      some (.inl (z6 (s18+1),v29))
     else
     some (.inl (z6 (s18+1),s19))
   else
   some (.inr s19)) (0,[])=some (aq 0 s.S.a8):=by
  refine eN (fB (T:=List Int) s.S.a8.length (λk l=>l=aq 0 (s.S.a8.take k)) (λe=>e=aq 0 s.S.a8) (by omega) (by simp[aq]) (λk l hk hP=>?_) (λl hP=>?_))
  .subst hP;left;have hc:=(BU hR).gen k hk;have hl:=jO 0 (s.S.a8.take k);have et:s.S.a8.take (k+1)=s.S.a8.take k ++ [s.S.a8[k]]:=by rw[List.take_add_one,zc hk];rfl
   have el:(s.S.a8.take k).length=k:=by simp;omega
   refine⟨_,?_,rfl⟩;simp only[C2,zQ,hk,zW,zR,HX,u9 hk,wl,YK,cO];rw[et,oJ,el,zag];by_cases q:s.S.a8[k].State=1
   .rw[zb (by simpa using q),zb q,nC,YK,zb (by omega),C4 (by omega) (by simp;omega),YK,o9]
   .rw[za (by simpa using q),za q,o9,pm]
  .subst hP;refine⟨_,by simp only[C2,za7,zan,zm,zZ];rfl,by simp⟩
 rw[show lp _ _=_ from hloop,YK];obtain⟨m,h1,h2,h3⟩:=Nl hR (l:=aq 0 s.S.a8) (λx hx=>(tl hR).2 hx) (by have:=jO 0 s.S.a8;omega);rw[h1,YK];congr 1;obtain⟨_,l2,l3⟩:=iS hR;exact ml (key:=sk s.S.a8) (h2.trans l2.symm) h3 (l3.imp λh=>by omega) λa ha b hb e=>Ca hR (h2.mem_iff.1 ha) (h2.mem_iff.1 hb) e
theorem Dp(v:List Int)(h:v.length<=1000000):gx v=some (nz v):=by
 unfold gx pd;simp only[jn,YK];rw[O6 v (λb x=>if x != 0 then b ++ [x] else b) id (λk b=>b.length<=k) (by omega) (by simp) (λk hk b hb=>?_) (λb _=>?_)]
 .simp only[YK,id];rw[foldl_filter];rfl
 .simp only[zQ,hk,zW,zR,u9 hk,YK];by_cases q:(v[k] != 0)=true
  .rw[zb (by simpa using q),zb q,C4 (by omega) (by simp;omega),YK,o9];exact⟨rfl,by simp;omega⟩
  .rw[za (by simpa using q),za q,o9];exact⟨rfl,by omega⟩
 .simp only[za7,zan,zm,zZ];rfl
theorem Fz(v:List Int)(h:v.length<=1000000):ke v=some (nz v):=by
 unfold ke;simp only[jn];rw[O6 v (λb x=>if x != 0 then b ++ [x] else b) id (λk b=>b.length<=k) (by omega) (by simp) (λk hk b hb=>?_) (λb _=>?_)]
 .simp only[YK,id];rw[foldl_filter];rfl
 .simp only[zQ,hk,zW,zR,u9 hk,YK];by_cases q:(v[k] != 0)=true
  .rw[zb q,zb q,C4 (by omega) (by simp;omega),YK,o9];exact⟨rfl,by simp;omega⟩
  .rw[za q,za q,o9];exact⟨rfl,by omega⟩
 .simp only[za7,zan,zm,zZ];rfl
theorem xy(l:List Int)(h:Int)(hl:l.length<=1000000):kf l h=some (aE l h:Int):=by
 unfold kf;simp only[jn];rw[Jc l (λ(b:Int) x=>if (x==h&&h != 0) then b+1 else b) id (λk b=>0<=b/\b<=k) (by omega) (by simp) (λk hk b hb=>?_) (λb _=>?_)]
 .simp only[YK,id];rw[uh];simp
 .simp only[zQ,hk,zW,zR,u9 hk,YK];by_cases q:(l[k]==h&&h != 0)=true
  .rw[zb q,zb q,o9,F9 (n:=b+1) (by omega) (by omega)];exact⟨rfl,by omega⟩
  .rw[za q,za q,o9];exact⟨rfl,by omega⟩
 .simp only[za7,zan,zm,zZ];rfl
noncomputable def jw(s:a7)(h:Int):Nat:=((lv s).map λx=>aE (outs s x) h).sum
theorem RT{s:a7}(hR:sP (sO s)){k:Nat}(hk:k<(lv s).length):(lv s)[k]<=9223372036854775807:=by
 have:=nA hR (zl hk);omega
section
variable{s:a7}(hR:sP (sO s))
include hR
theorem Mr{h:Int}(hh:h<=9223372036854775807):ki s h=some (outs s h):=by
 obtain⟨e,h1,_⟩:=aI hR hh;unfold ki;rw[h1,YK,Dp _ (by have:=Hs hR h hh;simp only;omega)];rfl
theorem Lq(h:Int):jw s h<=96:=by
 have:=Gb (λx=>aE (outs s x) h) 4 (lv s) λx hx=>rx (Nz _ _) (wU hR x (by have:=nA hR hx;omega));have:=M7 hR;unfold jw;omega
theorem Wr(h:Int):vx s h=some (jw s h:Int):=by
 unfold vx lX;simp only[jn,YK];rw[show E3 s=_ from df hR,YK];have hl:=M7 hR;rw[O6 (lv s) (λ(b:Int) x=>b+(aE (outs s x) h:Int)) id (λk b=>0<=b/\b<=4*k) (by omega) (by simp) (λk hk b hb=>?_) (λb _=>?_)]
 .simp only[YK,id];have:=wj (λx=>aE (outs s x) h) (lv s) 0;rw[show ((0:Nat):Int)=0 from rfl] at this;rw[this,zag];rfl
 .have ho:=Mr hR (RT hR hk);have hol:=wU hR _ (RT hR hk);have ht:=Nz (outs s (lv s)[k]) h;simp only[zQ,hk,zW,zR,u9 hk,YK,ho];rw[O6 (outs s (lv s)[k]) (λ(b:Int) x=>if (x==h&&h != 0) then b+1 else b) id (λj c=>b<=c/\c<=b+j) (by omega) (by simp) (λj hj c hc=>?_) (λc _=>?_)]
  .simp only[YK,id];rw[uh,o9];exact⟨rfl,by omega⟩
  .simp only[zQ,hj,zW,zR,u9 hj,YK];have hne:=Qt (zl hj);by_cases q:(outs s (lv s)[k])[j]=h
   .have e2:((outs s (lv s)[k])[j]==h&&h != 0)=true:=by simp only[zk,we,bne_iff_ne];omega
    rw[e2,zb (by simpa using q),zb rfl,o9,F9 (n:=c+1) (by omega) (by omega)];exact⟨rfl,by omega⟩
   .have e2:((outs s (lv s)[k])[j]==h&&h != 0)=false:=by rw[zbe];simp only[ne_eq,zk,we,bne_iff_ne];omega
    rw[e2,za (by simpa using q),o9];exact⟨rfl,by simp;omega⟩
  .simp only[za7,zan,zm,zZ];rfl
 .simp only[za7,zan,zm,zZ];rfl
end
section
variable{s:a7}(hR:sP (sO s))(hF:FB s)
include hR hF
end
theorem qY{α:Type}(p:α->Bool):∀l:List α,l.length=(l.filter p).length+(l.filter λx => !p x).length
 | []=>rfl
 | x::l=>by
  have:=qY p l;by_cases h:p x
  .simp[h];omega
  .simp[h];omega
theorem Ww{s:a7}(hR:sP (sO s)){l:List Int}(hp:l.Perm (aq 0 s.S.a8))(hs:l.Pairwise (λa b=>sk s.S.a8 a<sk s.S.a8 b)):lv s=l:=by
 obtain⟨_,l2,l3⟩:=iS hR;exact ml (key:=sk s.S.a8) (l2.trans hp.symm) (l3.imp λh=>by omega) (hs.imp λh=>by omega) λa ha b hb e=>Ca hR (l2.mem_iff.1 ha) (l2.mem_iff.1 hb) e
inductive qH (s:a7) (l:List Int):Int->Prop
 | base {h:Int}:h∈l->h∈lv s->qH s l h
 | step {a b:Int}:qH s l a->b∈outs s a->b∈lv s->qH s l b
open Classical in
noncomputable def FN (s:a7) (l:List Int):List Int:=(lv s).filter λh=>decide (qH s l h)
open Classical in
noncomputable def lst (s:a7) (l:List Int):List Int:=(lv s).filter λh=>decide (¬qH s l h)
def Cl(s:a7)(l:List Int):Prop:=∀a∈l,∀b∈outs s a,b∈lv s->b∈l
def LB(l:List Int):Prop:=∀x∈l,x<=9223372036854775807
theorem qH.live{s:a7}{l:List Int}{h:Int}(q:qH s l h):h∈lv s:=by cases q <;> assumption
open Classical in
theorem dv {s:a7} {l:List Int} {h:Int}:h∈FN s l↔qH s l h:=by
 unfold FN;rw[zB];exact⟨λq=>zbd q.2,λq=>⟨q.live,zA q⟩⟩
theorem QI{s:a7}(hR:sP (sO s))(l:List Int):(FN s l).length<=24:=rx (wt ..) (M7 hR)
theorem UQ(s:a7)(l:List Int):Cl s (FN s l):=λa ha b hb hl=>dv.2 (.step (dv.1 ha) hb hl)
theorem qH.least{s:a7}{l m:List Int}(hc:Cl s m)(hl:∀x∈l,x∈lv s->x∈m){h:Int}(q:qH s l h):h∈m:=by
 induction q with
 | base h1 h2=>exact hl _ h1 h2
 | step _ h1 h2 ih=>exact hc _ ih _ h1 h2
theorem qH.mono{s:a7}{l m:List Int}(hl:∀x∈l,x∈lv s->qH s m x){h:Int}(q:qH s l h):qH s m h:=by
 induction q with
 | base h1 h2=>exact hl _ h1 h2
 | step _ h1 h2 ih=>exact .step ih h1 h2
theorem Jo{s:a7}{l m:List Int}(h:∀x,qH s l x↔qH s m x):FN s l=FN s m:=by
 unfold FN;exact zbb λx _=>zbm.2 (h x)
theorem filter_lt{α:Type}{p q:α->Bool}:∀ {l:List α},(∀x∈l,p x=true->q x=true)->∀x∈l,q x=true->p x=false->(l.filter p).length<(l.filter q).length
 | [],_,x,hx,_,_=>by cases hx
 | y::l,h,x,hx,h1,h2=>by
  have hle:(l.filter p).length<=(l.filter q).length:=by
   have h':∀x∈l,p x=true->q x=true:=λx hx=>h x (zo _ hx);clear h hx;induction l with
   | nil=>simp
   | cons z l ih=>
    have:=ih λx hx=>h' x (zo _ hx);have hz:=h' z (zh ..);simp only[m7];by_cases a:p z=true
    .rw[zb a,zb (hz a)];simp only[zj];omega
    .rw[za a];split <;> (try simp only[zj]) <;> omega
  rcases zL.1 hx with rfl | hx'
  .simp only[m7,h1,h2,zR,zm,zZ,zj];omega
  .have:=filter_lt (λx hx=>h x (zo _ hx)) x hx' h1 h2;have hy:=h y (zh ..);simp only[m7];by_cases a:p y=true
   .rw[zb a,zb (hy a)];simp only[zj];omega
   .rw[za a];split <;> (try simp only[zj]) <;> omega
theorem gQ{l m:List Int}(hn:l.Nodup)(h:∀x∈l,x∈m):l.length<=m.length:=by
 induction l generalizing m with
 | nil=>simp
 | cons x l ih=>
  rw[zau] at hn;have hx:=h x (zh ..);have:=ih (m:=m.erase x) hn.2 λy hy=>(List.mem_erase_of_ne (λe=>hn.1 (by subst e;exact hy))).2 (h y (zo _ hy));rw[List.length_erase_of_mem hx] at this;have:0<m.length:=List.length_pos_of_mem hx;simp only[zj];omega
section
variable{s:a7}(hR:sP (sO s))
include hR
theorem IX{h:Int}(hh:h<=9223372036854775807):bg s h=some (decide (h∈lv s)):=by
 obtain⟨e,h1,h2⟩:=aI hR hh;unfold bg;rw[h1,YK];congr 1;rw[zbs,we,zK];exact h2
abbrev Mk(m:List (Int × Bool))(x:Int):Prop:=(z7 m x).getD false=true
noncomputable def Il(s:a7)(m:List (Int × Bool)):Nat:=((lv s).filter λx => !(z7 m x).getD false).length
omit hR in
theorem tv (m:List (Int × Bool)) (x y:Int):Mk (o5 m x true) y↔y=x\/Mk m y:=by
 unfold Mk;rw[oK];by_cases q:y=x
 .simp[q]
 .simp[q]
omit hR in
theorem Rh {m:List (Int × Bool)} {x:Int} (hx:x∈lv s) (hm:¬Mk m x):Il s (o5 m x true)<Il s m:=by
 unfold Il;refine filter_lt (λy _ h=>?_) x hx (by simpa[Mk] using hm) ?_
 .by_cases q:Mk m y
  .have:=(tv m x y).2 (.inr q);unfold Mk at this;rw[this] at h;cases h
  .simpa[Mk] using q
 .have:=(tv m x x).2 (.inl rfl);unfold Mk at this;rw[this];rfl
structure Ey (s:a7) (l:List Int) (q:l7) (m:List (Int × Bool)):Prop where
 nd:q.L.Nodup
 cap:q.Cap=((lv s).length:Int)
 jV:∀x∈q.L,Mk m x
 rc:∀x,Mk m x->qH s l x
omit hR in
theorem Ey.room {l:List Int} {q:l7} {m:List (Int × Bool)} (h:Ey s l q m) {x:Int} (hx:x∈lv s) (hm:¬Mk m x):q.L.length<(lv s).length:=by
 have:(x::q.L).length<=(lv s).length:=gQ (zau.2 ⟨λk=>hm (h.jV x k),h.nd⟩) λy hy=>by
  rcases zL.1 hy with rfl | k
  .exact hx
  .exact (h.rc y (h.jV y k)).live
 simp only[zj] at this;omega
omit hR in
theorem QA {q:l7} {x:Int} (h:(q.L.length:Int)<q.Cap) (h2:q.L.length<=1000):Q8 q x=some (⟨q.L ++ [x],q.Cap⟩,0):=by
 unfold Q8 M0 Q9;rw[YK,za (by simp;omega)];have:=lh (xs:=q.L) (i:=0) (j:=q.L.length) (by omega) (zt _);rw[show ((0:Nat):Int)=0 from rfl] at this;rw[this];simp only[zY,List.drop_zero,YK];rw[C4 (by omega) (by simp;omega)];rfl
omit hR in
theorem UE {x:Int} {r:List Int} {c:Int} (h2:r.length<=1000):bE ⟨x::r,c⟩=some (⟨r,c⟩,x,0):=by
 unfold bE fG M0 Q9;simp only[YK,zj];have e:(if (if (((r.length+1:Nat):Int))<1 then (((r.length+1:Nat):Int)) else 1) > 0 then (if (((r.length+1:Nat):Int))<1 then (((r.length+1:Nat):Int)) else 1) else 0:Int)=((1:Nat):Int):=by
  rw[za (show ¬(((r.length+1:Nat):Int)<1) by omega)];rfl
 rw[e];have h1:=lh (xs:=x::r) (i:=0) (j:=1) (by omega) (by simp);have h3:=lh (xs:=x::r) (i:=1) (j:=r.length+1) (by omega) (by simp);rw[show ((0:Nat):Int)=0 from rfl] at h1;rw[h1,h3];simp only[YK];have e1:List.drop 0 (List.take 1 (x::r)) = [x]:=by simp
 have e2:List.drop 1 (List.take (r.length+1) (x::r))=r:=by simp
 rw[e1,e2];rfl
abbrev DC(s:a7)(xs:List Int):Int × l7 × (List (Int × Bool))->Option ((Int × l7 × (List (Int × Bool))) ⊕ (l7 × (List (Int × Bool)))):=
 λ(s114,s115,s116)=>
   if (decide (s114<(xs.length:Int))) then
     (ix xs s114).bind λv126=>
     (bg s v126).bind λv127=>
     if (v127==true) then
      if (!((z7 s116 v126).getD (false:Bool))) then
       (Q8 s115 v126).bind λv128=>
       some (.inl (z6 (s114+1),v128.1,(o5 s116 v126 true)))
      else
      some (.inl (z6 (s114+1),s115,s116))
     else
     some (.inl (z6 (s114+1),s115,s116))
   else
   some (.inr (s115,s116))
theorem yY{l xs:List Int}{q:l7}{m:List (Int × Bool)}(hxs:LB xs)(hlen:xs.length<=1000000)(h0:Ey s l q m)(hr:∀x∈xs,x∈lv s->qH s l x) :
  ∃q' m',lp (DC s xs) (0,q,m)=some (q',m')/\Ey s l q' m'/\(∀x,Mk m' x↔Mk m x\/x∈xs/\x∈lv s)/\(∀x,Mk m' x->Mk m x\/x∈q'.L)/\(∀x∈q.L,x∈q'.L)/\2*Il s m'+q'.L.length<=2*Il s m+q.L.length:=by
 have:=fB (f:=DC s xs) (t0:=(q,m)) xs.length (λk t=>Ey s l t.1 t.2/\(∀x,Mk t.2 x↔Mk m x\/x∈xs.take k/\x∈lv s)/\(∀x,Mk t.2 x->Mk m x\/x∈t.1.L)/\(∀x∈q.L,x∈t.1.L)/\2*Il s t.2+t.1.L.length<=2*Il s m+q.L.length)
  (λt=>Ey s l t.1 t.2/\(∀x,Mk t.2 x↔Mk m x\/x∈xs/\x∈lv s)/\(∀x,Mk t.2 x->Mk m x\/x∈t.1.L)/\(∀x∈q.L,x∈t.1.L)/\2*Il s t.2+t.1.L.length<=2*Il s m+q.L.length) (by omega)
  ⟨h0,λx=>by simp,λx h=>.inl h,λx h=>h,zt _⟩ (λk t hk hP=>?_) (λt hP=>?_)
 .obtain⟨⟨q',m'⟩,h1,h2⟩:=this;exact⟨q',m',h1,h2⟩
 .obtain⟨q1,m1⟩:=t;obtain⟨p1,p2,p3,p4,p5⟩:=hP;simp only at p1 p2 p3 p4 p5;left;have hle:=hxs _ (zl hk);have ht:∀x,x∈xs.take (k+1)↔x∈xs.take k\/x=xs[k]:=λx=>by rw[zu hk,zy,zJ]
  simp only[DC,zQ,hk,zW,zR,u9 hk,YK,IX hR hle];by_cases hv:xs[k]∈lv s
  .rw[zb (by simpa using hv)];by_cases hm:Mk m1 xs[k]
   .rw[za (by rw[show (z7 m1 xs[k]).getD false=true from hm];decide),o9];refine⟨(q1,m1),rfl,p1,λx=>?_,p3,p4,p5⟩;rw[p2,ht];constructor
    .rintro (a | ⟨a,b⟩);·exact .inl a
     .exact .inr ⟨.inl a,b⟩
    .rintro (a | ⟨a | rfl,b⟩);·exact .inl a
     .exact .inr ⟨a,b⟩
     .exact (p2 _).1 hm
   .have hm':(z7 m1 xs[k]).getD false=false:=by simpa[Mk] using hm
    have hroom:=p1.room hv hm;have hl24:=M7 hR;rw[zb (by rw[hm'];decide),QA (by rw[p1.cap];omega) (by omega),YK,o9];refine⟨(⟨q1.L ++ [xs[k]],q1.Cap⟩,o5 m1 xs[k] true),rfl,⟨?_,p1.cap,λx hx=>?_,λx hx=>?_⟩,λx=>?_,λx hx=>?_,λx hx=>?_,?_⟩
    .simp only;rw[zb5];refine⟨p1.nd,by simp,λa ha b hb e=>?_⟩;rw[zJ] at hb;subst hb;subst e;exact hm (p1.jV _ ha)
    .simp only[zy,zJ] at hx;rw[tv];rcases hx with a | a
     .exact .inr (p1.jV x a)
     .exact .inl a
    .rcases (tv m1 xs[k] x).1 hx with rfl | a
     .exact hr _ (zl hk) hv
     .exact p1.rc x a
    .simp only;rw[tv,p2,ht];constructor
     .rintro (rfl | a | ⟨a,b⟩);·exact .inr ⟨.inr rfl,hv⟩
      .exact .inl a
      .exact .inr ⟨.inl a,b⟩
     .rintro (a | ⟨a | a,b⟩);·exact .inr (.inl a)
      .exact .inr (.inr ⟨a,b⟩)
      .exact .inl a
    .simp only[zy,zJ];rcases (tv m1 xs[k] x).1 hx with a | a
     .exact .inr (.inr a)
     .rcases p3 x a with b | b
      .exact .inl b
      .exact .inr (.inl b)
    .simp only[zy];exact .inl (p4 x hx)
    .have:=Rh hv hm;simp only[zx,wd];omega
  .rw[za (by simpa using hv),o9];refine⟨(q1,m1),rfl,p1,λx=>?_,p3,p4,p5⟩;rw[p2,ht];constructor
   .rintro (a | ⟨a,b⟩);·exact .inl a
    .exact .inr ⟨.inl a,b⟩
   .rintro (a | ⟨a | rfl,b⟩);·exact .inl a
    .exact .inr ⟨a,b⟩
    .exact absurd b hv
 .obtain⟨q1,m1⟩:=t;refine⟨(q1,m1),?_,?_⟩;·simp only[DC,za7,zan,zm,zZ]
  .simpa using hP
theorem Aj(hF:FB s){l:List Int}(hl:LB l)(hlen:l.length<=1000000):∃m,dw s l=some m/\∀x,Mk m x↔qH s l x:=by
 unfold dw eM;simp only[jn,df hR,YK];have h24:=M7 hR;obtain⟨q0,m0,e0,i0,i1,i2,i3,i4⟩:=yY hR (l:=l) (xs:=l) (q:=⟨[],((lv s).length:Int)⟩) (m:=[]) hl hlen ⟨List.nodup_nil,rfl,(λx hx=>by cases hx),(λx hx=>by simp[Mk,z7] at hx)⟩ (λx h1 h2=>.base h1 h2);rw[show lp _ _=_ from e0,YK];simp only;have hu:Il s []<=24:=rx (wt ..) h24;obtain⟨m,h1,h2⟩:=lG (s0:=(q0,m0)) (f:=λ((s70,s71):l7 × (List (Int × Bool)))=>
    (M0 s70).bind λv74=>
    if (decide (v74 > 0)) then
     (bE s70).bind λv75=>
     (ki s v75.2.1).bind λv76=>
      (lp (DC s v76) (0,v75.1,s71)).bind λe97=>
      (some (.inl (e97.1,e97.2)):Option ((l7 × List (Int × Bool)) ⊕ List (Int × Bool)))
    else
    some (.inr s71)) (λt=>Ey s l t.1 t.2/\(∀x∈l,x∈lv s->Mk t.2 x)/\∀a,Mk t.2 a->a∈t.1.L\/∀b∈outs s a,b∈lv s->Mk t.2 b) (λm=>∀x,Mk m x↔qH s l x) (λt=>2*Il s t.2+t.1.L.length)
   ⟨i0,λx h1 h2=>(i1 x).2 (.inr ⟨h1,h2⟩),λa ha=>.inl ((i2 a ha).resolve_left (by simp[Mk,z7]))⟩ (by show 2*Il s m0+q0.L.length<_;simp only[zV] at i4;omega) (by
   rintro⟨q,m⟩ ⟨p1,p2,p3⟩;simp only at p1 p2 p3 |-;have hq:=gQ p1.nd λx hx=>(p1.rc x (p1.jV x hx)).live;unfold M0;rw[YK];cases hqL:q.L with
   | nil=>
    right;refine⟨m,by rw[za (by simp)],λx=>⟨p1.rc x,λh=>?_⟩⟩;induction h with
    | base a b=>exact p2 _ a b
    | step _ a b ih=>
     rcases p3 _ ih with c | c
     .rw[hqL] at c;cases c
     .exact c _ a b
   | cons a r=>
    left;have hqe:q=⟨a::r,q.Cap⟩:=by rw[<-hqL]
    have hal:a∈lv s:=(p1.rc a (p1.jV a (by rw[hqL];exact zh ..))).live;have ha:a<=9223372036854775807:=by have:=nA hR hal;omega
    have hnd:=p1.nd;rw[hqL] at hnd hq;simp only[zj] at hq;obtain⟨q',m',e1,j0,j1,j2,j3,j4⟩:=yY hR (l:=l) (xs:=outs s a) (q:=⟨r,q.Cap⟩) (m:=m) (λx hx=>Qr hR hF ha hx) (by have:=wU hR a ha;omega) ⟨(zau.1 hnd).2,p1.cap,λx hx=>p1.jV x (by rw[hqL];exact zo _ hx),p1.rc⟩ (λx h1 h2=>.step (p1.rc a (p1.jV a (by rw[hqL];exact zh ..))) h1 h2);refine⟨(q',m'),?_,⟨j0,λx h1 h2=>(j1 x).2 (.inl (p2 x h1 h2)),λb hb=>?_⟩,?_⟩
    .rw[zb (by simp),hqe,UE (by omega),YK];simp only;rw[Mr hR ha,YK,e1,YK]
    .simp only at hb |-;rcases j2 b hb with c | c
     .rcases p3 b c with d | d
      .rw[hqL] at d;rcases zL.1 d with rfl | d
       .exact .inr λy h1 h2=>(j1 y).2 (.inr ⟨h1,h2⟩)
       .exact .inl (j3 b d)
      .exact .inr λy h1 h2=>(j1 y).2 (.inl (d y h1 h2))
     .exact .inl c
    .show 2*Il s m'+q'.L.length<2*Il s m+(a::r).length;simp only[zj] at j4 |-;omega)
 refine⟨m,?_,h2⟩;rw[show lp _ _=_ from h1];rfl
end
theorem Lp(l:List Int)(x:Int)(hl:l.length<=1000000):∃r:Int,T7 l x=some r/\(0<=r↔x∈l):=by
 unfold T7;simp only[jn];by_cases h:x∈l
 .obtain⟨i,hi,e⟩:=List.mem_iff_getElem.1 h;obtain⟨j,⟨hj,ej⟩,hmin⟩:=bR (p:=λi=>∃hi:i<l.length,l[i]=x) ⟨i,hi,e⟩;refine⟨(j:Int),?_,by simp[h]⟩;refine dX l.length (λk=>k<=j) (by omega) (ut _) (λk hk hP=>?_) (λhP=>by omega);simp only[zQ,hk,zW,zR,u9 hk,YK];rcases zD k j with q | q
  .refine .inl ⟨?_,q⟩;rw[za (by
    rw[we];intro e;have:=hmin k ⟨hk,e.symm⟩;omega),o9]
  .have:k=j:=by omega
   subst this;exact .inr ⟨_,by rw[zb (by simpa using ej.symm)],rfl⟩
 .refine⟨-1,?_,by simp[h]⟩;refine dX l.length (λk=>True) (by omega) trivial (λk hk hP=>.inl ⟨?_,trivial⟩) (λhP=>⟨.inr (),by simp,rfl⟩);simp only[zQ,hk,zW,zR,u9 hk,YK];rw[za (by
   rw[we];intro e;exact h (e▸zl hk)),o9]
theorem contains_eq(l:List Int)(x:Int)(hl:l.length<=1000000):F3 l x=some (decide (x∈l)):=by
 obtain⟨r,h1,h2⟩:=Lp l x hl;unfold F3;rw[h1,YK];congr 1;exact zbm.2 h2
theorem Li(l:List Int)(x:Int)(hl:l.length<=1000000):BH l x=some (decide (x≠0/\x∈l)):=by
 unfold BH;rw[xy l x hl,YK];congr 1;rw[zbm,<-dD];omega
section
variable{s:a7}(hR:sP (sO s))
include hR
open Classical in
theorem GU (hF:FB s) {l:List Int} (hl:LB l) (hlen:l.length<=1000000):gY s l=some (FN s l):=by
 obtain⟨m,h1,h2⟩:=Aj hR hF hl hlen;unfold gY U6 fZ;rw[h1,YK];simp only[jn,df hR,YK];have h24:=M7 hR;rw[O6 (lv s) (λacc x=>if decide (qH s l x) then acc ++ [x] else acc) id (λk acc=>acc.length<=k) (by omega) (by simp) (λk hk acc hb=>?_) (λb _=>?_)]
 .simp only[YK,id];rw[foldl_filter];rfl
 .simp only[zQ,hk,zW,zR,u9 hk,YK];by_cases q:qH s l (lv s)[k]
  .rw[zb ((h2 _).2 q),zb (by simpa using q),C4 (by omega) (by simp;omega),YK,o9];exact⟨rfl,by simp;omega⟩
  .rw[za (λk=>q ((h2 _).1 k)),za (by simpa using q),o9];exact⟨rfl,by omega⟩
 .simp only[za7,zan,zm,zZ];rfl
open Classical in
theorem PL (hF:FB s) {l:List Int} (hl:LB l) (hlen:l.length<=1000000):lW s l=some (lst s l):=by
 obtain⟨m,h1,h2⟩:=Aj hR hF hl hlen;unfold lW U7 ga;rw[h1,YK];simp only[jn,df hR,YK];have h24:=M7 hR;rw[O6 (lv s) (λacc x=>if decide (¬qH s l x) then acc ++ [x] else acc) id (λk acc=>acc.length<=k) (by omega) (by simp) (λk hk acc hb=>?_) (λb _=>?_)]
 .simp only[YK,id];rw[foldl_filter];rfl
 .simp only[zQ,hk,zW,zR,u9 hk,YK];by_cases q:qH s l (lv s)[k]
  .have e:(z7 m (lv s)[k]).getD false=true:=(h2 _).2 q;rw[za (by rw[e];decide),za (by simpa using q),o9];exact⟨rfl,by omega⟩
  .have e:(z7 m (lv s)[k]).getD false=false:=by
    have:¬Mk m (lv s)[k]:=λk=>q ((h2 _).1 k);simpa[Mk] using this
   rw[zb (by rw[e];decide),zb (by simpa using q),C4 (by omega) (by simp;omega),YK,o9];exact⟨rfl,by simp;omega⟩
 .simp only[za7,zan,zm,zZ];rfl
end
abbrev Tb:=List b8
abbrev S9(p:b8):B6:=⟨p.State,p.Key,p.Val⟩
def pt(t:Tb)(j:Nat):b8:=t.getD j ⟨0,0,0⟩
theorem uk{t:Tb}{j:Nat}(h:j<t.length):pt t j=t[j]:=by unfold pt;rw[zf,zc h];rfl
theorem yJ{t:Tb}{j:Nat}(h:j<t.length):ix t (j:Int)=some (pt t j):=by rw[u9 h,uk h]
theorem wW{t:Tb}{i:Nat}(h:i<t.length)(p:b8)(j:Nat):pt (t.set i p) j=if j=i then p else pt t j:=by
 unfold pt;rw[zf,zf,List.getElem?_set];by_cases e:i=j
 .subst e;simp[h]
 .rw[za e,za (zar e)]
def hm(n:Nat)(k:Int):Nat:=(z6 ((z6 (5*k))+1) % (n:Int)).toNat
theorem Lm{n:Nat}(h:1<=n)(k:Int):hm n k<n:=by
 unfold hm;have h1:=Int.emod_nonneg (z6 ((z6 (5*k))+1)) (show (n:Int)≠0 by omega);have h2:=Int.emod_lt_of_pos (z6 ((z6 (5*k))+1)) (show (0:Int)<n by omega);omega
theorem vh{n:Nat}(h:1<=n)(h2:n<=1000)(k:Int):aZ n k=some (hm n k:Int):=by
 unfold aZ hm;rw[za (by simp;omega)];generalize z6 ((z6 (5*k))+1)=a;have hp:=Int.emod_nonneg a (show (n:Int)≠0 by omega);have hl:=Int.emod_lt_of_pos a (show (0:Int)<n by omega);unfold rem;rw[za (by omega),YK,Int.toNat_of_nonneg hp];rw[Int.tmod_eq_emod];split;·rw[show a % (n:Int)-((0:Nat):Int)=a % n by simp,za (by simp;omega)]
 .have:((n:Int).natAbs:Int)=n:=by simp
  rw[this];rw[zb (by simp;omega),F9 (by omega) (by omega)];congr 1;omega
def pos(n:Nat)(k:Int)(d:Nat):Nat:=(hm n k+d) % n
theorem fF{n:Nat}(h:1<=n)(k:Int)(d:Nat):pos n k d<n:=Nat.mod_lt _ h
theorem Sn{n:Nat}(h:1<=n)(h8:n<=8):n=1\/n=2\/n=3\/n=4\/n=5\/n=6\/n=7\/n=8:=by omega
theorem LV{n m i:Nat}(h:1<=n)(h8:n<=8)(hm:m<n)(hi:i<n):∃d,d<n/\(m+d) % n=i:=by
 refine⟨(i+n-m) % n,Nat.mod_lt _ h,?_⟩;rcases Sn h h8 with rfl | rfl | rfl | rfl | rfl | rfl | rfl | rfl <;> omega
theorem PT{n m d d':Nat}(h:1<=n)(h8:n<=8)(hd:d<n)(hd':d'<n)(e:(m+d) % n=(m+d') % n):d=d':=by
 rcases Sn h h8 with rfl | rfl | rfl | rfl | rfl | rfl | rfl | rfl <;> omega
theorem Dz{n:Nat}(h:1<=n)(h8:n<=8)(k:Int){i:Nat}(hi:i<n):∃d,d<n/\pos n k d=i:=LV h h8 (Lm h k) hi
theorem Qy{n:Nat}(h:1<=n)(h8:n<=8){k:Int}{d d':Nat}(hd:d<n)(hd':d'<n)(e:pos n k d=pos n k d'):d=d':=PT h h8 hd hd' e
structure HR (t:Tb):Prop where
 l1:1<=t.length
 l8:t.length<=8
 st:∀i,i<t.length->((pt t i).State=0\/(pt t i).State=1\/(pt t i).State=2)/\((pt t i).State≠1->(pt t i).Key=0/\(pt t i).Val=0)
 uq:∀i j,i<t.length->j<t.length->(pt t i).State=1->(pt t j).State=1->(pt t i).Key=(pt t j).Key->i=j
 rd:∀i,i<t.length->(pt t i).State=1->∀d,d<t.length->(∀d',d'<=d->pos t.length (pt t i).Key d'≠i)->(pt t (pos t.length (pt t i).Key d)).State≠0
def Fk(t:Tb)(k:Int)(i:Nat):Prop:=i<t.length/\(pt t i).State=1/\(pt t i).Key=k
instance(t:Tb)(k:Int)(i:Nat):Decidable (Fk t k i):=by unfold Fk;infer_instance
theorem step_eq{n:Nat}(h:1<=n)(h2:n<=1000)(k:Int){d:Nat}(hd:d<n):rem (z6 ((hm n k:Int)+d)) n=some ((pos n k d:Nat):Int):=by
 have:=Lm h k;rw[F9 (by omega) (by omega),lY (by omega) (by omega)];unfold pos;simp[Int.natCast_emod]
theorem yB{t:Tb}(h1:1<=t.length)(h8:t.length<=8)(k:Int) :
  (∃d,d<t.length/\(∀j,j<d->(pt t (pos t.length k j)).State≠0/\¬Fk t k (pos t.length k j))/\Fk t k (pos t.length k d)/\aa t k=some ((pos t.length k d:Nat):Int)) \/
  (∃d,d<=t.length/\(∀j,j<d->(pt t (pos t.length k j)).State≠0/\¬Fk t k (pos t.length k j))/\(d=t.length\/(pt t (pos t.length k d)).State=0)/\aa t k=some (-1)):=by
 unfold aa;simp only[jn,gm,YK];generalize hq:(lp (S:=Int) (E:=Int ⊕ Unit) _ 0)=q;have body:∀d:Nat,d<t.length->(if (decide ((d:Int)<(t.length:Int))) then
    (aZ (t.length:Int) k).bind λv14=>
    (rem (z6 (v14+d)) (t.length:Int)).bind λv15=>
    (ix t v15).bind λv16=>
    if (v16.State==0) then
     some (.inr (.inr ()))
    else
    if ((v16.State==1)&&(v16.Key==k)) then
     some (.inr (.inl v15))
    else
    some (.inl (z6 ((d:Int)+1)))
   else
   some (.inr (.inr ())):Option (Int ⊕ (Int ⊕ Unit)))=if (pt t (pos t.length k d)).State=0 then some (.inr (.inr ())) else if Fk t k (pos t.length k d) then some (.inr (.inl ((pos t.length k d:Nat):Int))) else some (.inl ((d+1:Nat):Int)):=λd hd=>by
  have hp:=fF h1 k d;rw[zb (by simpa using hd),vh h1 (by omega),YK,step_eq h1 (by omega) k hd,YK,yJ hp,YK,o9 (by omega)];by_cases a:(pt t (pos t.length k d)).State=0
  .rw[zb (by simpa using a),zb a]
  .rw[za (by simpa using a),za a];by_cases b:Fk t k (pos t.length k d)
   .rw[zb (by simp[b.2.1,b.2.2]),zb b]
   .rw[za (by simp;exact λh1 h2=>b ⟨hp,h1,h2⟩),za b]
 have key:=Di (f:=λ(s12:Int)=>if (decide (s12<(t.length:Int))) then
    (aZ (t.length:Int) k).bind λv14=>
    (rem (z6 (v14+s12)) (t.length:Int)).bind λv15=>
    (ix t v15).bind λv16=>
    if (v16.State==0) then
     some (.inr (.inr ()))
    else
    if ((v16.State==1)&&(v16.Key==k)) then
     some (.inr (.inl v15))
    else
    some (.inl (z6 (s12+1)))
   else
   some (.inr (.inr ()))) t.length (λd=>∀j,j<d->(pt t (pos t.length k j)).State≠0/\¬Fk t k (pos t.length k j))
   (λ(e:Int ⊕ Unit)=>(∃d,d<t.length/\(∀j,j<d->(pt t (pos t.length k j)).State≠0/\¬Fk t k (pos t.length k j))/\Fk t k (pos t.length k d)/\e = .inl ((pos t.length k d:Nat):Int)) \/
    (∃d,d<=t.length/\(∀j,j<d->(pt t (pos t.length k j)).State≠0/\¬Fk t k (pos t.length k j))/\(d=t.length\/(pt t (pos t.length k d)).State=0)/\e = .inr ())) (by omega) (λj hj=>by omega)
   (λd hd hP=>by
    rw[body d hd];by_cases a:(pt t (pos t.length k d)).State=0
    .rw[zb a];exact .inr ⟨_,rfl,.inr ⟨d,by omega,hP,.inr a,rfl⟩⟩
    .rw[za a];by_cases b:Fk t k (pos t.length k d)
     .rw[zb b];exact .inr ⟨_,rfl,.inl ⟨d,hd,hP,b,rfl⟩⟩
     .rw[za b];refine .inl ⟨rfl,λj hj=>?_⟩;rcases zD j d with q | q
      .exact hP j q
      .have:j=d:=by omega
       subst this;exact⟨a,b⟩)
   (λhP=>⟨.inr (),by simp,.inr ⟨t.length,zt _,hP,.inl rfl,rfl⟩⟩)
 obtain⟨e,he,hQ⟩:=key;rw[he] at hq;subst hq;rcases hQ with ⟨d,a1,a2,a3,rfl⟩ | ⟨d,a1,a2,a3,rfl⟩;·exact .inl ⟨d,a1,a2,a3,rfl⟩
 .exact .inr ⟨d,a1,a2,a3,rfl⟩
theorem lu{t:Tb}(hR:HR t){k:Int}{i:Nat}(hi:Fk t k i):aa t k=some (i:Int):=by
 obtain⟨di,hdi,hpi⟩:=Dz hR.l1 hR.l8 k hi.1;have road:∀d,d<di->(pt t (pos t.length k d)).State≠0:=λd hd=>by
  have:=hR.rd i hi.1 hi.2.1 d (by omega) (λd' hd' e=>by
   rw[hi.2.2] at e;have:=Qy hR.l1 hR.l8 (by omega) hdi (e.trans hpi.symm);omega)
  rwa [hi.2.2] at this
 rcases yB hR.l1 hR.l8 k with ⟨d,a1,a2,a3,a4⟩ | ⟨d,a1,a2,a3,a4⟩;·rw[a4,hR.uq _ i (fF hR.l1 k d) hi.1 a3.2.1 hi.2.1 (by rw[a3.2.2,hi.2.2])]
 .exfalso;rcases zD di d with q | q
  .exact (a2 di q).2 (by rw[hpi];exact hi)
  .rcases a3 with rfl | a3
   .omega
   .rcases zD d di with q' | q'
    .exact road d q' a3
    .have:d=di:=by omega
     subst this;rw[hpi,hi.2.1] at a3;cases a3
theorem iO{t:Tb}(h1:1<=t.length)(h8:t.length<=8){k:Int}(hi:∀i,¬Fk t k i):aa t k=some (-1):=by
 rcases yB h1 h8 k with ⟨d,a1,a2,a3,a4⟩ | ⟨d,a1,a2,a3,a4⟩;·exact absurd a3 (hi _)
 .exact a4
theorem uf(t:Tb)(k:Int):(∃i,Fk t k i)\/∀i,¬Fk t k i:=by
 by_cases h:∃i,Fk t k i
 .exact .inl h
 .exact .inr λi hi=>h ⟨i,hi⟩
theorem xH{t:Tb}{i:Nat}(h8:t.length<=1000)(hi:i<t.length)(p:b8):cu t (i:Int) p=some (t.set i p):=by
 unfold cu E2;rw[V0 (by omega) (by omega),YK,u9 hi,YK,zU]
inductive uD (t:Tb) (k v:Int):Tb × Int->Prop
 | old (i:Nat) (hi:Fk t k i):uD t k v (t.set i ⟨1,k,v⟩,0)
 | new (d:Nat) (hn:∀i,¬Fk t k i) (hd:d<t.length) (hb:∀j,j<d->(pt t (pos t.length k j)).State=1) (hf:(pt t (pos t.length k d)).State≠1):uD t k v (t.set (pos t.length k d) ⟨1,k,v⟩,0)
 | full (hn:∀i,¬Fk t k i) (ha:∀i,i<t.length->(pt t i).State=1):uD t k v (t,8)
theorem put_eq{t:Tb}(hR:HR t)(k v:Int):∃r,gL t k v=some r/\uD t k v r:=by
 have h1:=hR.l1;have h8:=hR.l8;unfold gL;rcases uf t k with ⟨i,hi⟩ | hn
 .rw[lu hR hi,YK,zb (by simp),xH (by omega) hi.1];exact⟨_,rfl,.old i hi⟩
 .rw[iO h1 h8 hn,YK,za (by decide)];simp only[jn,gm,YK];have key:=Di (f:=λ(s15:Int)=>
   if (decide (s15<(t.length:Int))) then
    (aZ (t.length:Int) k).bind λv17=>
    (rem (z6 (v17+s15)) (t.length:Int)).bind λv18=>
    (ix t v18).bind λv19=>
    if (v19.State != 1) then
     (cu t v18 (⟨1,k,v⟩:b8)).bind λv20=>
     some (Sum.inr (.inl (v20,(0:Int))))
    else
    some (.inl (z6 (s15+1)))
   else
   some (.inr (.inr ()))) t.length (λd=>∀j,j<d->(pt t (pos t.length k j)).State=1)
   (λ(e:(Tb × Int) ⊕ Unit)=>(∃r,e = .inl r/\uD t k v r)\/(e = .inr ()/\uD t k v (t,8))) (by omega) (λj hj=>by omega)
   (λd hd hP=>by
    have hp:=fF h1 k d;rw[zb (by simpa using hd),vh h1 (by omega),YK,step_eq h1 (by omega) k hd,YK,yJ hp,YK];by_cases a:(pt t (pos t.length k d)).State=1
    .rw[za (by simpa using a),o9 (by omega)];refine .inl ⟨rfl,λj hj=>?_⟩;rcases zD j d with q | q
     .exact hP j q
     .have:j=d:=by omega
      subst this;exact a
    .rw[zb (by simpa using a),xH (by omega) hp,YK];exact .inr ⟨_,rfl,.inl ⟨_,rfl,.new d hn hd hP a⟩⟩)
   (λhP=>⟨.inr (),by simp,.inr ⟨rfl,.full hn λi hi=>by
    obtain⟨d,hd,rfl⟩:=Dz h1 h8 k hi;exact hP d hd⟩⟩)
  obtain⟨e,he,hQ⟩:=key;rw[he,YK];rcases hQ with ⟨r,rfl,hr⟩ | ⟨rfl,hr⟩;·exact⟨r,rfl,hr⟩
  .exact⟨_,rfl,hr⟩
theorem Fi{t:Tb}(hR:HR t){k:Int}{i:Nat}(hi:Fk t k i):M6 t k=some ((pt t i).Val,0):=by
 unfold M6;rw[lu hR hi,YK,za (by simp),yJ hi.1,YK]
theorem Fh{t:Tb}(hR:HR t){k:Int}(hi:∀i,¬Fk t k i):M6 t k=some (0,9):=by
 unfold M6;rw[iO hR.l1 hR.l8 hi,YK,zb (by decide)]
theorem oA{t:Tb}(hR:HR t){k:Int}{i:Nat}(hi:Fk t k i):Z9 t k=some (t.set i ⟨2,0,0⟩,(pt t i).Val,0):=by
 have:=hR.l8;unfold Z9;rw[lu hR hi,YK,za (by simp),xH (by omega) hi.1,YK,yJ hi.1,YK]
theorem oz{t:Tb}(hR:HR t){k:Int}(hi:∀i,¬Fk t k i):Z9 t k=some (t,0,9):=by
 unfold Z9;rw[iO hR.l1 hR.l8 hi,YK,zb (by decide)]
theorem HR.set{t:Tb}(hR:HR t){i:Nat}(hi:i<t.length){p:b8}(h0:p.State=1\/p=⟨2,0,0⟩)
  (hu:p.State=1->∀j,j≠i->¬Fk t p.Key j)(hr:p.State=1->∀d,d<t.length->(∀d',d'<=d->pos t.length p.Key d'≠i)->(pt t (pos t.length p.Key d)).State≠0):HR (t.set i p):=by
 have hnz:p.State≠0:=by
  rcases h0 with h | rfl
  .omega
  .simp
 refine⟨by simpa using hR.l1,by simpa using hR.l8,λj hj=>?_,λj j' hj hj' s1 s2 hk=>?_,λj hj s1 d hd hne=>?_⟩ <;> simp only[zao] at *
 .rw[wW hi];split
  .rcases h0 with h | rfl
   .exact⟨.inr (.inl h),λq=>absurd h q⟩
   .exact⟨.inr (.inr rfl),λ_=>⟨rfl,rfl⟩⟩
  .exact hR.st j hj
 .rw[wW hi] at s1 s2 hk;rw[wW hi] at hk;by_cases e1:j=i <;> by_cases e2:j'=i
  .rw[e1,e2]
  .rw[zb e1] at s1 hk;rw[za e2] at s2 hk;exact absurd ⟨hj',s2,hk.symm⟩ (hu s1 j' e2)
  .rw[za e1] at s1 hk;rw[zb e2] at s2 hk;exact absurd ⟨hj,s1,hk⟩ (hu s2 j e1)
  .rw[za e1] at s1 hk;rw[za e2] at s2 hk;exact hR.uq j j' hj hj' s1 s2 hk
 .simp only[wW hi] at s1 hne |-;by_cases e1:j=i
  .simp only[zb e1] at s1 hne |-;split;·exact hnz
   .exact hr s1 d hd (by rw[<-e1];exact hne)
  .simp only[za e1] at s1 hne |-;split;·exact hnz
   .exact hR.rd j hj s1 d hd hne
theorem qw{t:Tb}(hR:HR t){k v:Int}{r:Tb × Int}(h:uD t k v r):HR r.1:=by
 cases h with
 | old i hi=>
  refine hR.set hi.1 (.inl rfl) (λ_ j hj q=>hj (hR.uq j i q.1 hi.1 q.2.1 hi.2.1 (q.2.2.trans hi.2.2.symm))) λ_ d hd hne=>?_;have:=hR.rd i hi.1 hi.2.1 d hd (by rw[hi.2.2];exact hne);rwa [hi.2.2] at this
 | new d hn hd hb hf=>
  refine hR.set (fF hR.l1 k d) (.inl rfl) (λ_ j _=>hn j) λ_ d' hd' hne=>?_;rcases zD d' d with q | q
  .have:=hb d' q;simp only;omega
  .exact absurd rfl (hne d q)
 | full hn ha=>exact hR
theorem iK{t:Tb}(hR:HR t){i:Nat}(hi:i<t.length):HR (t.set i ⟨2,0,0⟩):=hR.set hi (.inr rfl) (λq=>by cases q) λq=>by cases q
theorem RM{t:Tb}{j:Nat}(h:j<t.length):ix (t.map S9) (j:Int)=some (S9 (pt t j)):=by rw[fW,yJ h];rfl
theorem MN{t:Tb}(h8:t.length<=1000){k:Int}{i:Nat}(hi:Fk t k i)(hf:∀j,j<i->¬Fk t k j):fm (t.map S9) k=some (i:Int):=by
 unfold fm;simp only[jn];refine dX t.length (λj=>j<=i) (by omega) (ut _) (λj hj hP=>?_) (λhP=>by have:=hi.1;omega);rw[zb (by simpa using hj),RM hj,YK];by_cases e:j=i
 .subst e;exact .inr ⟨.inl (j:Int),by rw[zb (by simp[S9,hi.2.1,hi.2.2])],rfl⟩
 .have:=hf j (by omega);refine .inl ⟨by rw[za (by simp[S9];exact λh1 h2=>this ⟨hj,h1,h2⟩),o9 (by omega)],by omega⟩
theorem MM{t:Tb}(h8:t.length<=1000){k:Int}(hf:∀j,¬Fk t k j):fm (t.map S9) k=some (-1):=by
 unfold fm;simp only[jn];refine dX t.length (λj=>True) (by omega) trivial (λj hj hP=>?_) (λhP=>⟨.inr (),by simp,rfl⟩);rw[zb (by simpa using hj),RM hj,YK];refine .inl ⟨by rw[za (by simp[S9];exact λh1 h2=>hf j ⟨hj,h1,h2⟩),o9 (by omega)],trivial⟩
theorem KW{t:Tb}{k:Int}(h:∃i,Fk t k i):∃i,Fk t k i/\∀j,j<i->¬Fk t k j:=by
 obtain⟨i,h1,h2⟩:=bR h;exact⟨i,h1,λj hj q=>by have:=h2 j q;omega⟩
theorem Af{t:Tb}{i:Nat}(h8:t.length<=1000)(hi:i<t.length)(p:b8):fp (t.map S9) (i:Int) (S9 p)=some ((t.set i p).map S9):=by
 unfold fp;rw[V0 (by omega) (by simp;omega),YK,RM hi,YK,zU,zb3]
theorem DJ:DG=aZ:=rfl
theorem Sg{n:Nat}(h1:1<=n)(h8:n<=8)(k:Int)(d:Nat):rem (z6 (((pos n k d:Nat):Int)+1)) n=some ((pos n k (d+1):Nat):Int):=by
 have:=fF h1 k d;rw[F9 (by omega) (by omega),lY (by omega) (by omega)];unfold pos;congr 1;have:((hm n k+d) % n+1) % n=(hm n k+(d+1)) % n:=by rw[Nat.mod_add_mod];rfl
 rw[<-this];simp[Int.natCast_emod]
theorem DA{n:Nat}(h1:1<=n)(k:Int):pos n k 0=hm n k:=by
 unfold pos;rw[zai,zcg (Lm h1 k)]
def Has(t:Tb)(k v:Int):Prop:=∃i,Fk t k i/\(pt t i).Val=v
theorem TL{t:Tb}{k:Int}:(∀v,¬Has t k v)↔∀i,¬Fk t k i:=by
 constructor;·intro h i hi;exact h _ ⟨i,hi,rfl⟩
 .rintro h v ⟨i,hi,_⟩;exact h i hi
theorem TN(t:Tb)(k:Int):(∃v,Has t k v)\/∀v,¬Has t k v:=by
 by_cases h:∃v,Has t k v
 .exact .inl h
 .exact .inr λv hv=>h ⟨v,hv⟩
theorem Has.fn{t:Tb}(hR:HR t){k v v':Int}(h:Has t k v)(h':Has t k v'):v=v':=by
 obtain⟨i,a,rfl⟩:=h;obtain⟨j,b,rfl⟩:=h';rw[hR.uq i j a.1 b.1 a.2.1 b.2.1 (a.2.2.trans b.2.2.symm)]
theorem GY{t:Tb}(hR:HR t){k v:Int}(h:Has t k v):M6 t k=some (v,0):=by
 obtain⟨i,a,rfl⟩:=h;exact Fi hR a
theorem IW{t:Tb}(hR:HR t){k:Int}(h:∀v,¬Has t k v):M6 t k=some (0,9):=Fh hR (TL.1 h)
theorem Be{t:Tb}{i:Nat}(hi:i<t.length){k v:Int}(p:b8)(h:∀j,j≠i->Fk t p.Key j->p.State≠1)(k' v':Int) :
  Has (t.set i p) k' v'↔(p.State=1/\p.Key=k'/\p.Val=v')\/∃j,j≠i/\Fk t k' j/\(pt t j).Val=v':=by
 unfold Has Fk;simp only[zao,wW hi];constructor
 .rintro⟨j,⟨h1,h2,h3⟩,h4⟩;by_cases e:j=i
  .rw[zb e] at h2 h3 h4;exact .inl ⟨h2,h3,h4⟩
  .rw[za e] at h2 h3 h4;exact .inr ⟨j,e,⟨h1,h2,h3⟩,h4⟩
 .rintro (⟨h1,h2,h3⟩ | ⟨j,e,⟨h1,h2,h3⟩,h4⟩);·exact⟨i,by simp[hi,h1,h2,h3]⟩
  .exact⟨j,by simp[e,h1,h2,h3,h4]⟩
theorem BB{t:Tb}(hR:HR t){k v:Int}{r:Tb × Int}(h:uD t k v r)(h0:r.2=0)(k' v':Int):Has r.1 k' v'↔(k'=k/\v'=v)\/(k'≠k/\Has t k' v'):=by
 cases h with
 | old i hi=>
  rw[Be (k:=k) (v:=v) hi.1 _ (λj hj q=>absurd (hR.uq j i q.1 hi.1 q.2.1 hi.2.1 (q.2.2.trans hi.2.2.symm)) hj)];constructor
  .rintro (⟨_,rfl,rfl⟩ | ⟨j,e,h1,h2⟩);·exact .inl ⟨rfl,rfl⟩
   .refine .inr ⟨λq=>?_,j,h1,h2⟩;subst q;exact e (hR.uq j i h1.1 hi.1 h1.2.1 hi.2.1 (h1.2.2.trans hi.2.2.symm))
  .rintro (⟨rfl,rfl⟩ | ⟨e,j,h1,h2⟩);·exact .inl ⟨rfl,rfl,rfl⟩
   .refine .inr ⟨j,λq=>?_,h1,h2⟩;subst q;exact e (h1.2.2.symm.trans hi.2.2)
 | new d hn hd hb hf=>
  rw[Be (k:=k) (v:=v) (fF hR.l1 k d) _ (λj hj q=>absurd q (hn j))];constructor
  .rintro (⟨_,rfl,rfl⟩ | ⟨j,e,h1,h2⟩);·exact .inl ⟨rfl,rfl⟩
   .refine .inr ⟨λq=>?_,j,h1,h2⟩;subst q;exact hn j h1
  .rintro (⟨rfl,rfl⟩ | ⟨e,j,h1,h2⟩);·exact .inl ⟨rfl,rfl,rfl⟩
   .refine .inr ⟨j,λq=>?_,h1,h2⟩;subst q;exact hf h1.2.1
 | full hn ha=>cases h0
theorem vW{t:Tb}(hR:HR t){k:Int}{i:Nat}(hi:Fk t k i)(k' v':Int):Has (t.set i ⟨2,0,0⟩) k' v'↔k'≠k/\Has t k' v':=by
 rw[Be (k:=k) (v:=0) hi.1 _ (λj hj q=>by simp)];constructor
 .rintro (⟨h,_⟩ | ⟨j,e,h1,h2⟩);·cases h
  .refine⟨λq=>?_,j,h1,h2⟩;subst q;exact e (hR.uq j i h1.1 hi.1 h1.2.1 hi.2.1 (h1.2.2.trans hi.2.2.symm))
 .rintro⟨e,j,h1,h2⟩;refine .inr ⟨j,λq=>?_,h1,h2⟩;subst q;exact e (h1.2.2.symm.trans hi.2.2)
def keys(t:Tb):List Int:=(t.filter (·.State==1)).map (·.Key)
theorem EY{α β:Type}(p:α->Bool)(f:α->β)(l:List α)(k:Nat)(h:k<l.length):((l.take (k+1)).filter p).map f=((l.take k).filter p).map f++(if p l[k] then [f l[k]] else []):=by
 rw[zu h,zas,zaf];congr 1;simp only[m7,zcl];split <;> rfl
theorem keys_eq{t:Tb}(h:t.length<=1000):jM t=some (keys t):=by
 unfold jM keys;simp only[jn];refine Y2 t.length (λk l=>l=((t.take k).filter (·.State==1)).map (·.Key)) (by omega) (by simp) ?_ (λl hl=>⟨_,by simp;rfl,by rw[hl,zY]⟩);rintro k l hk rfl;left;rw[EY _ _ _ _ hk];rw[zb (by simpa using hk),u9 hk,YK,o9 (by omega)];have hle:(List.map (·.Key) (List.filter (·.State==1) (List.take k t))).length<=1000:=by
  rw[t7];exact rx (wt ..) (by simp;omega)
 by_cases c:(t[k].State==1)=true
 .rw[zb c,zb c,C4 (by omega) (by simp only[zj,zV];omega),YK];exact⟨_,rfl,rfl⟩
 .rw[za c,za c];exact⟨_,rfl,by simp⟩
theorem BP{t:Tb}(hR:HR t)(k:Int):fm (t.map S9) k=aa t k:=by
 have h8:=hR.l8;rcases uf t k with ⟨i,hi⟩ | hn
 .rw[lu hR hi];obtain⟨f,hf1,hf2⟩:=KW ⟨i,hi⟩;rw[MN (by omega) hf1 hf2,hR.uq f i hf1.1 hi.1 hf1.2.1 hi.2.1 (hf1.2.2.trans hi.2.2.symm)]
 .rw[iO hR.l1 hR.l8 hn,MM (by omega) hn]
theorem Sf{t:Tb}(hR:HR t)(k:Int):vt (t.map S9) k=M6 t k:=by
 unfold vt M6;rw[BP hR];rcases uf t k with ⟨i,hi⟩ | hn;·rw[lu hR hi,YK,YK,za (by simp),za (by simp),RM hi.1,yJ hi.1];rfl
 .rw[iO hR.l1 hR.l8 hn];rfl
theorem MK{t:Tb}(hR:HR t)(k:Int):nG (t.map S9) k=(Z9 t k).map λr=>(r.1.map S9,r.2):=by
 have h8:=hR.l8;rcases uf t k with ⟨i,hi⟩ | hn
 .rw[oA hR hi];unfold nG;rw[BP hR,lu hR hi,YK,za (by simp)];have:=Af (t:=t) (by omega) hi.1 ⟨2,0,0⟩;dsimp only[S9] at this;rw[this,YK,RM hi.1];rfl
 .rw[oz hR hn];unfold nG;rw[BP hR,iO hR.l1 hR.l8 hn];rfl
theorem Xg{t:Tb}(hR:HR t)(k v:Int){r:Tb × Int}(h:uD t k v r):BJ (t.map S9) k v=some (r.1.map S9,r.2):=by
 have h1:=hR.l1;have h8:=hR.l8;unfold BJ;rw[BP hR];have hw:∀i,i<t.length->fp (t.map S9) (i:Int) ⟨1,k,v⟩=some ((t.set i ⟨1,k,v⟩).map S9):=λi hi=>Af (t:=t) (by omega) hi ⟨1,k,v⟩;cases h with
 | old i hi=>
  rw[lu hR hi,YK,zb (by simp),hw i hi.1];rfl
 | new d hn hd hb hf=>
  rw[iO h1 h8 hn,YK,za (by decide),t7,DJ,vh h1 (by omega),YK];simp only[jn];rw[<-DA h1 k];obtain⟨e,he,hQ⟩:=Bn (f:=λ((s15,s16):Int × Int)=>
   if (decide (s16<(t.length:Int))) then
    (ix (t.map S9) s15).bind λv19=>
    if (v19.State != 1) then
     (fp (t.map S9) s15 (⟨1,k,v⟩:B6)).bind λv20=>
     some (Sum.inr (Sum.inl (β:=Unit) (v20,(0:Int))))
    else
    (rem (z6 (s15+1)) (t.length:Int)).bind λv21=>
    some (Sum.inl (v21,z6 (s16+1)))
   else
   some (Sum.inr (Sum.inr ()))) (λd=>(((pos t.length k d:Nat):Int),(d:Int))) d (λ_=>True) (λe=>e = .inl ((t.set (pos t.length k d) ⟨1,k,v⟩).map S9,0)) (by omega) trivial (λj hj _=>by
    have hp:=fF h1 k j;dsimp only;rw[zb (by simp;omega),RM hp,YK,za (by simpa[S9] using hb j hj),Sg h1 h8,YK,o9 (by omega)];exact .inl ⟨rfl,trivial⟩) (λ_=>by
    have hp:=fF h1 k d;dsimp only;rw[zb (by simpa using hd),RM hp,YK,zb (by simpa[S9] using hf),hw _ hp];exact⟨_,rfl,rfl⟩)
  have he':lp _ (((pos t.length k 0:Nat):Int),(0:Int))=some e:=he;rw[he',hQ];rfl
 | full hn ha=>
  rw[iO h1 h8 hn,YK,za (by decide),t7,DJ,vh h1 (by omega),YK];simp only[jn];rw[<-DA h1 k];obtain⟨e,he,hQ⟩:=Bn (f:=λ((s15,s16):Int × Int)=>
   if (decide (s16<(t.length:Int))) then
    (ix (t.map S9) s15).bind λv19=>
    if (v19.State != 1) then
     (fp (t.map S9) s15 (⟨1,k,v⟩:B6)).bind λv20=>
     some (Sum.inr (Sum.inl (β:=Unit) (v20,(0:Int))))
    else
    (rem (z6 (s15+1)) (t.length:Int)).bind λv21=>
    some (Sum.inl (v21,z6 (s16+1)))
   else
   some (Sum.inr (Sum.inr ()))) (λd=>(((pos t.length k d:Nat):Int),(d:Int))) t.length (λ_=>True) (λe=>e = .inr ()) (by omega) trivial (λj hj _=>by
    have hp:=fF h1 k j;dsimp only;rw[zb (by simp;omega),RM hp,YK,za (by simpa[S9] using ha _ hp),Sg h1 h8,YK,o9 (by omega)];exact .inl ⟨rfl,trivial⟩) (λ_=>⟨.inr (),by simp,rfl⟩)
  have he':lp _ (((pos t.length k 0:Nat):Int),(0:Int))=some e:=he;rw[he',hQ];rfl
theorem wX{t:Tb}{k v:Int}{r:Tb × Int}(h:uD t k v r):r.1.length=t.length:=by cases h <;> simp
theorem gN(t:Tb):(keys t).length=t.countP (·.State==1):=by
 unfold keys;rw[t7,zbt]
theorem rA{t:Tb}{i:Nat}(h:i<t.length)(p:b8):(keys (t.set i p)).length+(if (pt t i).State=1 then 1 else 0)=(keys t).length+if p.State=1 then 1 else 0:=by
 rw[gN,gN,List.countP_set h,uk h];simp only[we];have:(if t[i].State=1 then 1 else 0)<=t.countP λc=>c.State==1:=by
  split
  .rename_i e;exact zbu.2 ⟨t[i],zl h,by simpa using e⟩
  .exact ut _
 omega
theorem IY{t:Tb}(h:∀i,i<t.length->(pt t i).State=1):(keys t).length=t.length:=by
 rw[gN,List.countP_eq_length];intro a ha;obtain⟨i,hi,rfl⟩:=zbg ha;have:=h i hi;rw[uk hi] at this;simpa using this
theorem PH{t:Tb}{i:Nat}(hi:i<t.length)(h:(pt t i).State≠1):(keys t).length<t.length:=by
 have h1:(keys t).length<=t.length:=by rw[gN];exact zbi
 rcases zD (keys t).length t.length with q | q
 .exact q
 .exfalso;have e:(keys t).length=t.length:=by omega
  rw[gN,List.countP_eq_length] at e;have:=e t[i] (zl hi);rw[uk hi] at h;exact h (by simpa using this)
structure TM {V:Type} (φ:V->Int->Prop) (t:Tb) (m:List (Int × V)):Prop where
 R:HR t
 nd:(m.map (·.1)).Nodup
 len:(keys t).length=m.length
 has:∀k,(∀v,Has t k v->∃u,z7 m k=some u/\φ u v)/\((z7 m k).isSome=true->∃v,Has t k v)
theorem TM.some{V:Type}{φ:V->Int->Prop}{t:Tb}{m:List (Int × V)}(h:TM φ t m)(k:Int):(∃v u,Has t k v/\z7 m k=some u/\φ u v)\/(z7 m k=none/\∀v,¬Has t k v):=by
 rcases TN t k with ⟨v,hv⟩ | hn
 .obtain⟨u,h1,h2⟩:=(h.has k).1 v hv;exact .inl ⟨v,u,hv,h1,h2⟩
 .refine .inr ⟨?_,hn⟩;cases hq:z7 m k with
  | none=>rfl
  | some u=>
   obtain⟨v,hv⟩:=(h.has k).2 (by rw[hq];rfl);exact absurd hv (hn v)
theorem TM.put{V:Type}{φ:V->Int->Prop}{t:Tb}{m:List (Int × V)}(h:TM φ t m)(k v:Int)(u:V)(hφ:φ u v):∃r,gL t k v = .some r/\r.1.length=t.length/\((r.2=0/\TM φ r.1 (o5 m k u)/\((z7 m k).isSome=true\/m.length<t.length))\/(r=(t,8)/\(z7 m k)=none/\m.length=t.length)):=by
 obtain⟨r,hr,hp⟩:=put_eq h.R k v;refine⟨r,hr,wX hp,?_⟩;have hRr:=qw h.R hp;by_cases h0:r.2=0
 .left;have hh:=BB h.R hp h0;have hmem:∀k',(∀w,Has r.1 k' w->∃x,z7 (o5 m k u) k' = .some x/\φ x w)/\((z7 (o5 m k u) k').isSome=true->∃w,Has r.1 k' w):=λk'=>by
   rw[oK];by_cases e:k'=k
   .subst e;rw[zb rfl];refine⟨λw hw=>?_,λ_=>⟨v,(hh _ _).2 (.inl ⟨rfl,rfl⟩)⟩⟩;rcases (hh _ _).1 hw with ⟨_,rfl⟩ | ⟨q,_⟩;·exact⟨u,rfl,hφ⟩
    .exact absurd rfl q
   .rw[za e];refine⟨λw hw=>?_,λq=>?_⟩
    .rcases (hh _ _).1 hw with ⟨q,_⟩ | ⟨_,q⟩;·exact absurd q e
     .exact (h.has k').1 w q
    .obtain⟨w,hw⟩:=(h.has k').2 q;exact⟨w,(hh _ _).2 (.inr ⟨e,hw⟩)⟩
  have hlen:(keys r.1).length=(o5 m k u).length/\((z7 m k).isSome=true\/m.length<t.length):=by
   rw[LW];cases hp with
   | old i hi=>
    have h1:(z7 m k).isSome=true:=by
     obtain⟨x,h1,_⟩:=(h.has k).1 _ ⟨i,hi,rfl⟩;rw[h1];rfl
    have:=rA hi.1 ⟨1,k,v⟩;rw[zb hi.2.1,zb rfl,h.len] at this;rw[zb h1];exact⟨by simp only;omega,.inl h1⟩
   | new d hn hd hb hf=>
    have h1:(z7 m k)=none:=by
     rcases h.some k with ⟨w,x,hw,_⟩ | ⟨q,_⟩
     .obtain⟨i,hi,_⟩:=hw;exact absurd hi (hn i)
     .exact q
    have hlt:=fF h.R.l1 k d;have:=rA hlt ⟨1,k,v⟩;rw[za hf,zb rfl,h.len] at this;rw[h1];have h2:=PH hlt hf;rw[h.len] at h2;exact⟨by simpa using this,.inr h2⟩
   | full hn ha=>cases h0
  exact⟨h0,⟨hRr,Fy h.nd k u,hlen.1,hmem⟩,hlen.2⟩
 .right;cases hp with
  | old i hi=>exact absurd rfl h0
  | new d hn hd hb hf=>exact absurd rfl h0
  | full hn ha=>
   refine⟨rfl,?_,?_⟩
   .rcases h.some k with ⟨w,x,hw,_⟩ | ⟨q,_⟩
    .obtain⟨i,hi,_⟩:=hw;exact absurd hi (hn i)
    .exact q
   .rw[<-h.len,IY ha]
theorem TM.drop{V:Type}{φ:V->Int->Prop}{t:Tb}{m:List (Int × V)}(h:TM φ t m)(k:Int):(∃r v u,Z9 t k = .some (r,v,0)/\r.length=t.length/\z7 m k = .some u/\φ u v/\TM φ r (tp m k))\/(Z9 t k = .some (t,0,9)/\z7 m k=none/\tp m k=m):=by
 rcases uf t k with ⟨i,hi⟩ | hn
 .left;obtain⟨u,h1,h2⟩:=(h.has k).1 _ ⟨i,hi,rfl⟩;refine⟨_,_,u,oA h.R hi,by simp,h1,h2,iK h.R hi.1,(LP m k).nodup h.nd,?_,λk'=>?_⟩
  .have:=rA hi.1 ⟨2,0,0⟩;rw[zb hi.2.1,za (by decide),h.len] at this;rw[LO,h1];simp only[Option.isSome_some,zR];omega
  .have hh:=vW h.R hi;rw[Je h.nd];by_cases e:k'=k
   .subst e;rw[zb rfl];exact⟨λw hw=>absurd rfl ((hh _ _).1 hw).1,λq=>by cases q⟩
   .rw[za e];refine⟨λw hw=>(h.has k').1 w ((hh _ _).1 hw).2,λq=>?_⟩;obtain⟨w,hw⟩:=(h.has k').2 q;exact⟨w,(hh _ _).2 ⟨e,hw⟩⟩
 .right;have h1:z7 m k=none:=by
   rcases h.some k with ⟨w,x,hw,_⟩ | ⟨q,_⟩
   .obtain⟨i,hi,_⟩:=hw;exact absurd hi (hn i)
   .exact q
  refine⟨oz h.R hn,h1,?_⟩;have:∀(l:List (Int × V)),z7 l k=none->tp l k=l:=by
   intro l;induction l with
   | nil=>intro _;rfl
   | cons p l ih=>
    intro q;unfold z7 at q;unfold tp;by_cases e:k=p.1
    .rw[zb (by simpa using e)] at q;cases q
    .rw[za (by simpa using e)] at q;rw[za (by simpa using e),ih q]
  exact this m h1
theorem Ui{n:Nat}(h1:1<=n)(h8:n<=8):rq (n:Int)=some (List.replicate n ⟨0,0,0⟩):=by
 unfold rq;rw[za (by simp;omega),jU (by omega) (by omega)];rfl
theorem wV{n j:Nat}:pt (List.replicate n ⟨0,0,0⟩) j=⟨0,0,0⟩:=by
 unfold pt;rw[zf,List.getElem?_replicate];split <;> rfl
theorem Vq{V:Type}(φ:V->Int->Prop){n:Nat}(h1:1<=n)(h8:n<=8):TM φ (List.replicate n ⟨0,0,0⟩) []:=by
 refine⟨⟨by simpa using h1,by simpa using h8,λi hi=>?_,λi j hi hj s=>?_,λi hi s=>?_⟩,by simp,?_,λk=>⟨λv hv=>?_,λq=>by cases q⟩⟩;·rw[wV];exact⟨.inl rfl,λ_=>⟨rfl,rfl⟩⟩
 .rw[wV] at s;cases s
 .rw[wV] at s;cases s
 .rw[gN,List.countP_replicate];rfl
 .obtain⟨i,hi,_⟩:=hv;have:=hi.2.1;rw[wV] at this;cases this
def lO(t:Tb):List r9:=(t.filter (·.State==1)).map λp=>⟨p.Key,p.Val⟩
theorem wD(t:Tb):keys t=(lO t).map (·.Key):=by
 unfold keys lO;rw[zcm];rfl
theorem fY(t:Tb):(lO t).length=(keys t).length:=by rw[wD,t7]
theorem tE{t:Tb}(h:t.length<=8):(lO t).length<=8:=by
 rw[fY,gN];exact rx zbi h
theorem iW{t:Tb}{p:r9}:p∈lO t↔Has t p.Key p.Val:=by
 unfold lO Has;rw[zE];constructor
 .rintro⟨q,hq,rfl⟩;obtain⟨h1,h2⟩:=zB.1 hq;obtain⟨i,hi,rfl⟩:=zbg h1;refine⟨i,⟨hi,?_,?_⟩,?_⟩ <;> rw[uk hi]
  simpa using h2
 .rintro⟨i,⟨hi,h1,h2⟩,h3⟩;rw[uk hi] at h1 h2 h3;refine⟨t[i],zB.2 ⟨zl hi,by simpa using h1⟩,?_⟩;cases p;simp at h2 h3 |-;exact⟨h2,h3⟩
theorem HE{t:Tb}(hR:HR t){j:Nat}(h:j<(lO t).length):M6 t (lO t)[j].Key=some ((lO t)[j].Val,0):=GY hR (iW.1 (zl h))
theorem Rz{E R:Type}{x:Option E}{r:E}{κ:E->Option R}{y:Option R}(h:x=some r)(hy:κ r=y):((x.bind λe=>some e).bind κ)=y:=by rw[h];exact hy
theorem Mx{t:Tb}(hR:HR t):iN t=some (lO t):=by
 have h8:=hR.l8;have hp:=tE h8;unfold iN B4 cp eD;simp only[jn,YK];rw[keys_eq (by omega),YK];refine Rz (eN (fB (lO t).length (λk l=>l=(lO t).take k) (λe=>e=lO t) (by omega) (by simp) ?_ ?_)) rfl
 .rintro k l hk rfl;refine .inl ⟨_,?_,rfl⟩;dsimp only;rw[zb (by rw[<-fY];simpa using hk),u9 (by rw[<-fY];exact hk),YK];have e:(keys t)[k]'(by rw[<-fY];exact hk)=(lO t)[k].Key:=by simp[wD]
  rw[e,HE hR hk,YK,zb (by trivial),C4 (by omega) (by simp;omega),YK,o9 (by omega),zu hk]
 .rintro l rfl;exact⟨_,by rw[<-fY];simp;rfl,by simp⟩
def own(t:Tb)(h:Int):Nat:=(lO t).countP λp=>(h != 0)&&(p.Val==h)
theorem Mt{t:Tb}(hR:HR t)(h:Int):iM t h=some (own t h:Int):=by
 have h8:=hR.l8;have hp:=tE h8;unfold iM B3 cp eC;simp only[jn,YK];rw[keys_eq (by omega),YK];refine Rz (r:=(lO t).filter λp=>(h != 0)&&(p.Val==h)) (eN (fB (lO t).length (λk l=>l=((lO t).take k).filter λp=>(h != 0)&&(p.Val==h)) (λe=>e=(lO t).filter λp=>(h != 0)&&(p.Val==h)) (by omega) (by simp) ?_ ?_)) (by unfold own;rw[zbt])
 .rintro k l hk rfl;refine .inl ⟨((lO t).take (k+1)).filter λp=>(h != 0)&&(p.Val==h),?_,rfl⟩;dsimp only;rw[zb (by rw[<-fY];simpa using hk),u9 (by rw[<-fY];exact hk),YK];have e:(keys t)[k]'(by rw[<-fY];exact hk)=(lO t)[k].Key:=by simp[wD]
  have hle:(((lO t).take k).filter λp=>(h != 0)&&(p.Val==h)).length<=8:=rx (wt ..) (by simp;omega);rw[e,HE hR hk,YK,o9 (by omega),zu hk,zas,m7,zcl];by_cases c:((h != 0)&&((lO t)[k].Val==h))=true
  .rw[zb c,zb c,C4 (by omega) (by simp only[zj,zV];omega),YK]
  .rw[za c,za c,pm]
 .rintro l rfl;exact⟨_,by rw[<-fY];simp;rfl,by simp⟩
theorem FZ{t:Tb}(hR:HR t)(k v:Int):∃r,P9 t k v=some r/\HR r.1/\r.1.length=t.length /\
  ((k=0/\r=(t,0,2))\/(k≠0/\v=0/\((∃i,Fk t k i/\r=(t.set i ⟨2,0,0⟩,(pt t i).Val,0))\/((∀i,¬Fk t k i)/\r=(t,0,0)))) \/
   (k≠0/\v≠0/\((∃i,Fk t k i/\r=(t.set i ⟨1,k,v⟩,(pt t i).Val,0))\/(∃d,(∀i,¬Fk t k i)/\d<t.length/\(pt t d).State≠1/\uD t k v (t.set d ⟨1,k,v⟩,0)/\r=(t.set d ⟨1,k,v⟩,0,0))\/((∀i,¬Fk t k i)/\(∀i,i<t.length->(pt t i).State=1)/\r=(t,0,8))))):=by
 unfold P9;by_cases hk:k=0
 .rw[zb (by simpa using hk)];exact⟨_,rfl,hR,rfl,.inl ⟨hk,rfl⟩⟩
 .rw[za (by simpa using hk)];obtain⟨g,hg,hgv⟩:∃g,M6 t k=some g/\((∃i,Fk t k i/\g=((pt t i).Val,0))\/((∀i,¬Fk t k i)/\g=(0,9))):=by
   rcases uf t k with ⟨i,hi⟩ | hn;·exact⟨_,Fi hR hi,.inl ⟨i,hi,rfl⟩⟩
   .exact⟨_,Fh hR hn,.inr ⟨hn,rfl⟩⟩
  rw[hg,YK];by_cases hv:v=0
  .rw[zb (by simpa using hv)];rcases hgv with ⟨i,hi,rfl⟩ | ⟨hn,rfl⟩
   .rw[oA hR hi,YK];exact⟨_,rfl,iK hR hi.1,by simp,.inr (.inl ⟨hk,hv,.inl ⟨i,hi,rfl⟩⟩)⟩
   .rw[oz hR hn,YK];exact⟨_,rfl,hR,rfl,.inr (.inl ⟨hk,hv,.inr ⟨hn,rfl⟩⟩)⟩
  .rw[za (by simpa using hv)];obtain⟨r,hr,hp⟩:=put_eq hR k v;rw[hr,YK];have hRr:=qw hR hp;have hl:=wX hp;have hp':=hp;cases hp with
   | old i hi=>
    rcases hgv with ⟨j,hj,rfl⟩ | ⟨hn,rfl⟩
    .rw[hR.uq j i hj.1 hi.1 hj.2.1 hi.2.1 (hj.2.2.trans hi.2.2.symm)];exact⟨_,rfl,hRr,hl,.inr (.inr ⟨hk,hv,.inl ⟨i,hi,rfl⟩⟩)⟩
    .exact absurd hi (hn i)
   | new d hn hd hb hf=>
    rcases hgv with ⟨j,hj,rfl⟩ | ⟨_,rfl⟩;·exact absurd hj (hn j)
    .exact⟨_,rfl,hRr,hl,.inr (.inr ⟨hk,hv,.inr (.inl ⟨_,hn,fF hR.l1 k d,hf,hp',rfl⟩)⟩)⟩
   | full hn ha=>exact⟨_,rfl,hR,rfl,.inr (.inr ⟨hk,hv,.inr (.inr ⟨hn,ha,rfl⟩)⟩)⟩
theorem Jy{t:Tb}(hR:HR t)(k v:Int):∃r,P9 t k v=some r/\HR r.1/\r.1.length=t.length/\BK (t.map S9) k v=some (r.1.map S9,r.2) /\
  ((k=0/\r=(t,0,2))\/(k≠0/\v=0/\((∃i,Fk t k i/\r=(t.set i ⟨2,0,0⟩,(pt t i).Val,0))\/((∀i,¬Fk t k i)/\r=(t,0,0)))) \/
   (k≠0/\v≠0/\((∃i,Fk t k i/\r=(t.set i ⟨1,k,v⟩,(pt t i).Val,0))\/(∃d,(∀i,¬Fk t k i)/\d<t.length/\(pt t d).State≠1/\uD t k v (t.set d ⟨1,k,v⟩,0)/\r=(t.set d ⟨1,k,v⟩,0,0))\/((∀i,¬Fk t k i)/\(∀i,i<t.length->(pt t i).State=1)/\r=(t,0,8))))):=by
 unfold P9 BK;by_cases hk:k=0
 .rw[zb (by simpa using hk),zb (by simpa using hk)];exact⟨_,rfl,hR,rfl,rfl,.inl ⟨hk,rfl⟩⟩
 .rw[za (by simpa using hk),za (by simpa using hk),Sf hR];obtain⟨g,hg,hgv⟩:∃g,M6 t k=some g/\((∃i,Fk t k i/\g=((pt t i).Val,0))\/((∀i,¬Fk t k i)/\g=(0,9))):=by
   rcases uf t k with ⟨i,hi⟩ | hn;·exact⟨_,Fi hR hi,.inl ⟨i,hi,rfl⟩⟩
   .exact⟨_,Fh hR hn,.inr ⟨hn,rfl⟩⟩
  rw[hg,YK,YK];by_cases hv:v=0
  .rw[zb (by simpa using hv),zb (by simpa using hv),MK hR];rcases hgv with ⟨i,hi,rfl⟩ | ⟨hn,rfl⟩
   .rw[oA hR hi,YK];exact⟨_,rfl,iK hR hi.1,by simp,rfl,.inr (.inl ⟨hk,hv,.inl ⟨i,hi,rfl⟩⟩)⟩
   .rw[oz hR hn,YK];exact⟨_,rfl,hR,rfl,rfl,.inr (.inl ⟨hk,hv,.inr ⟨hn,rfl⟩⟩)⟩
  .rw[za (by simpa using hv),za (by simpa using hv)];obtain⟨r,hr,hp⟩:=put_eq hR k v;rw[hr,YK,Xg hR k v hp,YK];have hRr:=qw hR hp;have hl:=wX hp;have hp':=hp;cases hp with
   | old i hi=>
    rcases hgv with ⟨j,hj,rfl⟩ | ⟨hn,rfl⟩
    .rw[hR.uq j i hj.1 hi.1 hj.2.1 hi.2.1 (hj.2.2.trans hi.2.2.symm)];exact⟨_,rfl,hRr,hl,rfl,.inr (.inr ⟨hk,hv,.inl ⟨i,hi,rfl⟩⟩)⟩
    .exact absurd hi (hn i)
   | new d hn hd hb hf=>
    rcases hgv with ⟨j,hj,rfl⟩ | ⟨_,rfl⟩;·exact absurd hj (hn j)
    .exact⟨_,rfl,hRr,hl,rfl,.inr (.inr ⟨hk,hv,.inr (.inl ⟨_,hn,fF hR.l1 k d,hf,hp',rfl⟩)⟩)⟩
   | full hn ha=>exact⟨_,rfl,hR,rfl,rfl,.inr (.inr ⟨hk,hv,.inr (.inr ⟨hn,ha,rfl⟩)⟩)⟩
theorem yX(t:Tb)(h:Int):own t h=t.countP λp=>(p.State==1)&&((h != 0)&&(p.Val==h)):=by
 unfold own lO;rw[List.countP_map,List.countP_filter];congr 1;funext p
 simp[Bool.and_comm]
theorem HA{t:Tb}{i:Nat}(hi:i<t.length)(p:b8)(h:Int):own (t.set i p) h+(if (((pt t i).State==1)&&((h != 0)&&((pt t i).Val==h)))=true then 1 else 0)=own t h+if ((p.State==1)&&((h != 0)&&(p.Val==h)))=true then 1 else 0:=by
 rw[yX,yX,List.countP_set hi,uk hi];have:(if ((t[i].State==1)&&((h != 0)&&(t[i].Val==h)))=true then 1 else 0)<=t.countP λp=>(p.State==1)&&((h != 0)&&(p.Val==h)):=by
  split
  .rename_i e;exact zbu.2 ⟨t[i],zl hi,e⟩
  .exact ut _
 omega
theorem Ms{t:Tb}(h8:t.length<=8)(h:Int):own t h<=8:=rx zbi (tE h8)
theorem Ep{t:Tb}(hR:HR t)(ks:List Int)(hks:ks.length<=1000):∃a had,Z8 t ks=some (a,had)/\HR a/\a.length=t.length/\had.length<=ks.length/\ja (t.map S9) ks=some (a.map S9,had) /\
  (∀k v,Has a k v↔k∉ks/\Has t k v)/\(keys a).length+had.length=(keys t).length/\(∀k v,k∈ks->Has t k v->v∈had)/\∀y,own a y+aE had y=own t y:=by
 have key:∀n,n<=ks.length->∃a had,HR a/\a.length=t.length/\had.length<=n/\(∀k v,Has a k v↔k∉ks.take n/\Has t k v)/\(keys a).length+had.length=(keys t).length/\(∀k v,k∈ks.take n->Has t k v->v∈had)/\(∀y,own a y+aE had y=own t y) /\
   ∃f:Nat->Tb × List Int,f 0=(t,[])/\f n=(a,had)/\∀j,(hj:j<n)->HR (f j).1/\(f j).2.length<=j/\((∃i,∃hjk:j<ks.length,Fk (f j).1 ks[j] i/\f (j+1)=((f j).1.set i ⟨2,0,0⟩,(f j).2 ++ [(pt (f j).1 i).Val]))\/((∀i,∀hjk:j<ks.length,¬Fk (f j).1 ks[j] i)/\f (j+1)=f j)):=by
  intro n;induction n with
  | zero=>exact λ_=>⟨t,[],hR,rfl,by simp,by simp,by simp,by simp,λy=>by unfold aE;split <;> simp,λ_=>(t,[]),rfl,rfl,λj hj=>by omega⟩
  | succ n ih=>
   intro hn;obtain⟨a,had,h1,h2,h3,h4,h5,h6,h7,f,f0,fn,fs⟩:=ih (by omega);have hlt:n<ks.length:=by omega
   have htk:∀k,k∈ks.take (n+1)↔k∈ks.take n\/k=ks[n]:=λk=>by
    rw[zu hlt,zy,zJ]
   rcases uf a ks[n] with ⟨i,hi⟩ | hno
   .have hd:=vW h1 hi;refine⟨a.set i ⟨2,0,0⟩,had ++ [(pt a i).Val],iK h1 hi.1,by simpa using h2,by simp;omega,λk v=>?_,?_,λk v hk hv=>?_,λy=>?_,λj=>if j=n+1 then (a.set i ⟨2,0,0⟩,had ++ [(pt a i).Val]) else f j,by simp[f0],by simp,λj hj=>?_⟩
    .rw[hd,h4,htk];constructor;·rintro⟨q1,q2,q3⟩;exact⟨λq=>q.elim q2 q1,q3⟩
     .rintro⟨q1,q2⟩;exact⟨λq=>q1 (.inr q),λq=>q1 (.inl q),q2⟩
    .have:=rA hi.1 ⟨2,0,0⟩;rw[zb hi.2.1,za (by decide)] at this;simp only[zx,zj,zV];omega
    .rw[zy];rcases (htk k).1 hk with q | q
     .exact .inl (h6 k v q hv)
     .subst q;by_cases q':ks[n]∈ks.take n
      .exact .inl (h6 _ v q' hv)
      .have:=(h4 _ _).2 ⟨q',hv⟩;rw[this.fn h1 ⟨i,hi,rfl⟩];exact .inr (by simp)
    .have:=HA hi.1 ⟨2,0,0⟩ y;have h7':=h7 y;rw[L1];have e:aE [(pt a i).Val] y=if (((pt a i).State==1)&&((y != 0)&&((pt a i).Val==y)))=true then 1 else 0:=by
      rw[hi.2.1];unfold aE;by_cases y0:y=0
      .simp[y0]
      .by_cases e:(pt a i).Val=y
       .simp[y0,e]
       .simp[y0,e]
     rw[e];rw[za (show ¬((((2:Int)==1)&&((y != 0)&&((0:Int)==y)))=true) by simp)] at this;omega
    .rcases zD j n with q | q
     .have:=fs j q;dsimp only;rw[za (by omega),za (by omega)];exact this
     .have:j=n:=by omega
      subst this;dsimp only;rw[za (by omega),zb rfl,fn];exact⟨h1,h3,.inl ⟨i,hlt,hi,rfl⟩⟩
   .refine⟨a,had,h1,h2,by omega,λk v=>?_,h5,λk v hk hv=>?_,h7,λj=>if j=n+1 then (a,had) else f j,by simp[f0],by simp,λj hj=>?_⟩
    .rw[h4,htk];constructor
     .rintro⟨q1,q2⟩;refine⟨λq=>q.elim q1 λq=>?_,q2⟩;subst q;obtain⟨i,hi,_⟩:=(h4 _ _).2 ⟨q1,q2⟩;exact hno i hi
     .rintro⟨q1,q2⟩;exact⟨λq=>q1 (.inl q),q2⟩
    .rcases (htk k).1 hk with q | q
     .exact h6 k v q hv
     .subst q;by_cases q':ks[n]∈ks.take n
      .exact h6 _ v q' hv
      .obtain⟨i,hi,_⟩:=(h4 _ _).2 ⟨q',hv⟩;exact absurd hi (hno i)
    .rcases zD j n with q | q
     .have:=fs j q;dsimp only;rw[za (by omega),za (by omega)];exact this
     .have:j=n:=by omega
      subst this;dsimp only;rw[za (by omega),zb rfl,fn];exact⟨h1,h3,.inr ⟨λi _=>hno i,rfl⟩⟩
 obtain⟨a,had,h1,h2,h3,h4,h5,h6,h7,f,f0,fn,fs⟩:=key ks.length (zt _);rw[zY] at h4 h6;refine⟨a,had,?_,h1,h2,h3,?_,h4,h5,h6,h7⟩
 .unfold Z8;simp only[jn];refine jT (λj=>((f j).1,(j:Int),(f j).2)) (by rw[f0];rfl) ks.length (λ_=>True) (by omega) trivial (λj hj _=>?_) (λ_=>⟨(a,had),by dsimp only;rw[za (by simp),fn],rfl⟩);obtain⟨g1,g2,g3⟩:=fs j hj;left;refine⟨?_,trivial⟩;dsimp only;rw[zb (by simpa using hj),u9 hj,YK,o9 (by omega)];rcases g3 with ⟨i,_,hi,e⟩ | ⟨hno,e⟩
  .rw[oA g1 hi,YK,e];dsimp only;rw[zb (by decide),C4 (by omega) (by simp;omega),YK]
  .rw[oz g1 (λi=>hno i hj),YK,e];dsimp only;rw[za (by decide)]
 .unfold ja;simp only[jn];refine jT (λj=>((f j).1.map S9,(j:Int),(f j).2)) (by rw[f0];rfl) ks.length (λ_=>True) (by omega) trivial (λj hj _=>?_) (λ_=>⟨(a.map S9,had),by dsimp only;rw[za (by simp),fn],rfl⟩);obtain⟨g1,g2,g3⟩:=fs j hj;left;refine⟨?_,trivial⟩;dsimp only;rw[zb (by simpa using hj),u9 hj,YK,o9 (by omega),MK g1];rcases g3 with ⟨i,_,hi,e⟩ | ⟨hno,e⟩
  .rw[oA g1 hi,wl,YK,e];dsimp only;rw[zb (by decide),C4 (by omega) (by simp;omega),YK]
  .rw[oz g1 (λi=>hno i hj),wl,YK,e];dsimp only;rw[za (by decide)]
inductive cK (s:a7) (t:Tb) (l:List Int):Int->Prop
 | base {h:Int}:h∈l->h∈lv s->cK s t l h
 | step {a b:Int}:cK s t l a->b∈outs s a->b∈lv s->cK s t l b
 | pair {k v:Int}:Has t k v->cK s t l k->v∈lv s->cK s t l v
open Classical in
noncomputable def IS (s:a7) (t:Tb) (l:List Int):List Int:=(lv s).filter λh=>decide (cK s t l h)
open Classical in
noncomputable def Wj (s:a7) (t:Tb) (l:List Int):List Int:=(lv s).filter λh=>decide (¬cK s t l h)
noncomputable def Cz(s:a7)(t:Tb)(l:List Int):List Int:=((lO t).filter λp=>decide (p.Key∈l/\p.Key∈lv s/\p.Val∈lv s)).map (·.Val)
def TB(t:Tb):Prop:=∀p∈t,p.Key<=9223372036854775807/\p.Val<=9223372036854775807
def Ir(s:a7)(t:Tb)(l:List Int):Prop:=∀k v,Has t k v->k∈l->k∈lv s->v∈lv s->v∈l
theorem TB.has{t:Tb}(h:TB t){k v:Int}(q:Has t k v):k<=9223372036854775807/\v<=9223372036854775807:=by
 obtain⟨i,⟨h1,_,h2⟩,h3⟩:=q;rw[uk h1] at h2 h3;have:=h _ (zl h1);rw[h2,h3] at this;exact this
theorem cK.live{s:a7}{t:Tb}{l:List Int}{h:Int}(q:cK s t l h):h∈lv s:=by cases q <;> assumption
open Classical in
theorem re {s:a7} {t:Tb} {l:List Int} {h:Int}:h∈IS s t l↔cK s t l h:=by
 unfold IS;rw[zB];exact⟨λq=>zbd q.2,λq=>⟨q.live,zA q⟩⟩
theorem GS{s:a7}(hR:sP (sO s))(t:Tb)(l:List Int):(IS s t l).length<=24:=rx (wt ..) (M7 hR)
theorem Tz{s:a7}(hR:sP (sO s))(t:Tb)(l:List Int):LB (IS s t l):=λx hx=>by have:=nA hR (re.1 hx).live;omega
theorem UR{s:a7}(hR:sP (sO s))(l:List Int):LB (FN s l):=λx hx=>by have:=nA hR (dv.1 hx).live;omega
theorem Ty(s:a7)(t:Tb)(l:List Int):Cl s (IS s t l):=λa ha b hb hl=>re.2 (.step (re.1 ha) hb hl)
theorem cK.least{s:a7}{t:Tb}{l m:List Int}(hc:Cl s m)(hp:Ir s t m)(hl:∀x∈l,x∈lv s->x∈m){h:Int}(q:cK s t l h):h∈m:=by
 induction q with
 | base h1 h2=>exact hl _ h1 h2
 | step _ h1 h2 ih=>exact hc _ ih _ h1 h2
 | pair h1 h2 h3 ih=>exact hp _ _ h1 ih h2.live h3
theorem cK.mono{s:a7}{t u:Tb}{l m:List Int}(ht:∀k v,Has t k v->Has u k v)(hl:∀x∈l,x∈lv s->cK s u m x){h:Int}(q:cK s t l h):cK s u m h:=by
 induction q with
 | base h1 h2=>exact hl _ h1 h2
 | step _ h1 h2 ih=>exact .step ih h1 h2
 | pair h1 _ h3 ih=>exact .pair (ht _ _ h1) ih h3
theorem qH.Yj{s:a7}(t:Tb){l:List Int}{h:Int}(q:qH s l h):cK s t l h:=by
 induction q with
 | base h1 h2=>exact .base h1 h2
 | step _ h1 h2 ih=>exact .step ih h1 h2
theorem rP{s:a7}{t:Tb}{l:List Int}{v:Int}:v∈Cz s t l↔∃k,Has t k v/\k∈l/\k∈lv s/\v∈lv s:=by
 unfold Cz;rw[zE];constructor
 .rintro⟨p,hp,rfl⟩;obtain⟨h1,h2⟩:=zB.1 hp;exact⟨p.Key,iW.1 h1,zbd h2⟩
 .rintro⟨k,h1,h2⟩;exact⟨⟨k,v⟩,zB.2 ⟨iW.2 h1,zA h2⟩,rfl⟩
theorem FE{s:a7}{t:Tb}{l:List Int}:(∀v∈Cz s t l,v∈l)↔Ir s t l:=by
 constructor;·exact λh k v h1 h2 h3 h4=>h v (rP.2 ⟨k,h1,h2,h3,h4⟩)
 .intro h v hv;obtain⟨k,h1,h2,h3,h4⟩:=rP.1 hv;exact h k v h1 h2 h3 h4
theorem Hw{s:a7}{t:Tb}(hT:HR t)(l:List Int):(Cz s t l).length<=8:=by
 unfold Cz;rw[t7];exact rx (wt ..) (tE hT.l8)
theorem Uy{s:a7}(hR:sP (sO s))(t:Tb)(l:List Int):LB (Cz s t l):=λx hx=>by
 obtain⟨_,_,_,_,h⟩:=rP.1 hx;have:=nA hR h;omega
noncomputable def R6(s:a7)(t:Tb)(l:List Int):Nat->List Int
 | 0=>FN s l
 | k+1=>FN s (R6 s t l k++Cz s t (R6 s t l k))
section
variable{s:a7}{t:Tb}{l:List Int}
theorem Jt(k:Nat):R6 s t l (k+1)=FN s (R6 s t l k++Cz s t (R6 s t l k)):=rfl
theorem sq(k:Nat):∃m,R6 s t l k=FN s m:=by
 cases k with
 | zero=>exact⟨_,rfl⟩
 | succ k=>exact⟨_,rfl⟩
theorem QM(k:Nat):Cl s (R6 s t l k):=by
 obtain⟨m,e⟩:=sq (s:=s) (t:=t) (l:=l) k;rw[e];exact UQ s m
theorem Jr(k:Nat){x:Int}(h:x∈R6 s t l k):x∈lv s:=by
 obtain⟨m,e⟩:=sq (s:=s) (t:=t) (l:=l) k;rw[e] at h;exact (dv.1 h).live
theorem DK(k:Nat){x:Int}(h:x∈R6 s t l k):x∈R6 s t l (k+1):=dv.2 (.base (zy.2 (.inl h)) (Jr k h))
theorem Jq(k:Nat):∀x∈l,x∈lv s->x∈R6 s t l k:=by
 induction k with
 | zero=>exact λx h1 h2=>dv.2 (.base h1 h2)
 | succ k ih=>exact λx h1 h2=>DK k (ih x h1 h2)
theorem MP(k:Nat):∀x∈R6 s t l k,cK s t l x:=by
 induction k with
 | zero=>exact λx h=>(dv.1 h).Yj t
 | succ k ih=>
  intro x h;have:=dv.1 h;induction this with
  | base h1 h2=>
   rcases zy.1 h1 with q | q
   .exact ih _ q
   .obtain⟨k',q1,q2,q3,q4⟩:=rP.1 q;exact .pair q1 (ih _ q2) q4
  | step h0 h1 h2 ih2=>exact .step (ih2 (dv.2 h0)) h1 h2
theorem Js{k:Nat}(h:Ir s t (R6 s t l k)):R6 s t l k=IS s t l:=by
 obtain⟨m,e⟩:=sq (s:=s) (t:=t) (l:=l) k;have hm:∀x,qH s m x↔cK s t l x:=λx=>by
  rw[<-dv,<-e];exact⟨MP k x,λq=>q.least (QM k) h (Jq k)⟩
 rw[e];unfold FN IS;exact zbb λx _=>zbm.2 (hm x)
theorem Ac{k:Nat}(h:¬Ir s t (R6 s t l k)):((lO t).filter λp=>decide (p.Val∈R6 s t l k)).length<((lO t).filter λp=>decide (p.Val∈R6 s t l (k+1))).length:=by
 obtain⟨v,hv,hn⟩:∃v,v∈Cz s t (R6 s t l k)/\v∉R6 s t l k:=or λq=>h (FE.1 λv hv=>or λq2=>q ⟨v,hv,q2⟩);obtain⟨k',h1,h2,h3,h4⟩:=rP.1 hv;refine filter_lt (λp _ hp=>?_) ⟨k',v⟩ (iW.2 h1) ?_ ?_
 .rw[zK] at hp |-;exact DK k hp
 .rw[zK];exact dv.2 (.base (zy.2 (.inr hv)) h4)
 .exact zI hn
theorem sn(s:a7)(t:Tb)(l:List Int):∃n,n<=(lO t).length/\Ir s t (R6 s t l n)/\∀j,j<n->¬Ir s t (R6 s t l j):=by
 have key:∀k,(∃j,j<=k/\Ir s t (R6 s t l j))\/k<((lO t).filter λp=>decide (p.Val∈R6 s t l (k+1))).length:=by
  intro k;induction k with
  | zero=>
   by_cases h:Ir s t (R6 s t l 0)
   .exact .inl ⟨0,zt _,h⟩
   .have:=Ac h;exact .inr (by omega)
  | succ k ih=>
   rcases ih with ⟨j,h1,h2⟩ | ih;·exact .inl ⟨j,by omega,h2⟩
   .by_cases h:Ir s t (R6 s t l (k+1))
    .exact .inl ⟨k+1,zt _,h⟩
    .have:=Ac h;exact .inr (by omega)
 obtain⟨j,h1,h2⟩:∃j,j<=(lO t).length/\Ir s t (R6 s t l j):=by
  rcases key (lO t).length with q | q
  .exact q
  .have:=wt (λp:r9=>decide (p.Val∈R6 s t l ((lO t).length+1))) (lO t);omega
 obtain⟨n,hn,hmin⟩:=bR (p:=λj=>Ir s t (R6 s t l j)) ⟨j,h2⟩;exact⟨n,rx (hmin j h2) h1,hn,λi hi q=>by have:=hmin i q;omega⟩
end
noncomputable def VJ(s:a7)(t:Tb)(l:List Int):Nat:=Classical.choose (sn s t l)
theorem UY(s:a7)(t:Tb)(l:List Int):VJ s t l<=(lO t).length:=(zax (sn s t l)).1
theorem MO(s:a7)(t:Tb)(l:List Int):Ir s t (R6 s t l (VJ s t l)):=(zax (sn s t l)).2.1
theorem QL(s:a7)(t:Tb)(l:List Int){j:Nat}(h:j<VJ s t l):¬Ir s t (R6 s t l j):=(zax (sn s t l)).2.2 j h
section
variable{s:a7}(hR:sP (sO s)){t:Tb}(hT:HR t)(hTB:TB t)
include hR hT hTB
omit hT hTB in
theorem yO {h:Int} (hh:h<=9223372036854775807):gF h s=some (decide (h∈lv s)):=by
 obtain⟨e,h1,h2⟩:=aI hR hh;unfold gF;rw[h1,YK];congr 1;rw[zbs,we,zK];exact h2
theorem Hy{l:List Int}(hl:l.length<=1000000):ra s t l=some (Cz s t l):=by
 unfold ra;simp only[jn,Mx hT,YK];have h8:=tE hT.l8;rw[O6 ((lO t)) (λb p=>b++(if decide (p.Key∈l/\p.Key∈lv s/\p.Val∈lv s) then [p.Val] else [])) id (λk b=>b.length<=k) (by omega) (by simp) (λk hk b hb=>?_) (λb _=>?_)]
 .simp only[YK,id];rw[lx];congr 1;unfold Cz;rw[zbr];generalize lO t=P;induction P with
  | nil=>rfl
  | cons p P ih=>
   rw[zaz,m7,ih];by_cases q:p.Key∈l/\p.Key∈lv s/\p.Val∈lv s
   .simp[q]
   .simp[q]
 .have hb':=hTB.has (iW.1 (zl hk));simp only[zQ,hk,zW,zR,u9 hk,YK,contains_eq _ _ hl];rw[yO hR hb'.1,yO hR hb'.2];by_cases q1:(lO t)[k].Key∈l
  .rw[zA q1];simp only[pi,fM,YK,zap];by_cases q2:(lO t)[k].Key∈lv s
   .rw[zA q2];simp only[pi,fM,YK,zap];by_cases q3:(lO t)[k].Val∈lv s
    .rw[zb (by simpa using q3),C4 (by omega) (by simp;omega),YK,o9,zb (by simp[q1,q2,q3])];exact⟨rfl,by simp;omega⟩
    .rw[za (by simpa using q3),o9,za (by simp[q3]),pm];exact⟨rfl,by omega⟩
   .rw[zI q2];simp only[show ((false==true):Bool)=false from rfl,Dt,YK,zb8,zm,zZ];rw[o9,za (by simp[q2]),pm];exact⟨rfl,by omega⟩
  .rw[zI q1];simp only[show ((false==true):Bool)=false from rfl,Dt,YK,zb8,zm,zZ];rw[o9,za (by simp[q1]),pm];exact⟨rfl,by omega⟩
 .simp only[za7,zan,zm,zZ];rfl
theorem Lh(hF:FB s){l:List Int}(hl:LB l)(hlen:l.length<=1000000):oD s t l=some (IS s t l,(VJ s t l:Int)):=by
 unfold oD;rw[GU hR hF hl hlen,YK];simp only[jn];have hn:=UY s t l;have h8:=tE hT.l8;have hstep:∀k,∃m,R6 s t l k=FN s m:=sq;refine jT (p:=λk=>(R6 s t l k,(k:Int))) rfl (VJ s t l) (λ_=>True) (by omega) trivial (λk hk _=>.inl ⟨?_,trivial⟩) (λ_=>?_)
 .obtain⟨m,hm⟩:=hstep k;have hlk:(R6 s t l k).length<=24:=by rw[hm];exact QI hR m
  have hlb:LB (R6 s t l k):=by rw[hm];exact UR hR m
  have hno:=QL s t l hk;simp only;rw[Hy hR hT hTB (by omega),YK];have ho:=Hw (s:=s) hT (R6 s t l k);obtain⟨j,⟨hj,hjn⟩,hmin⟩:=bR (p:=λj=>∃hj:j<(Cz s t (R6 s t l k)).length,(Cz s t (R6 s t l k))[j]∉R6 s t l k) (by
   refine or λq=>hno (FE.1 λv hv=>or λq2=>?_);obtain⟨j,hj,e⟩:=List.mem_iff_getElem.1 hv;exact q ⟨j,hj,by rw[e];exact q2⟩)
  refine dX (Cz s t (R6 s t l k)).length (λi=>i<=j) (by omega) (ut _) (λi hi hP=>?_) (λhP=>by omega);simp only[zQ,hi,zW,zR,u9 hi,YK];rw[contains_eq _ _ (by omega),YK];rcases zD i j with q | q
  .refine .inl ⟨?_,q⟩;have:(Cz s t (R6 s t l k))[i]∈R6 s t l k:=or λq2=>by have:=hmin i ⟨hi,q2⟩;omega
   rw[za (by simp[this]),o9]
  .have:i=j:=by omega
   subst this;refine .inr ⟨.inl (R6 s t l (k+1),((k+1:Nat):Int)),?_,rfl⟩;rw[zb (by simp[hjn]),C4 (by omega) (by omega),YK,GU hR hF (λx hx=>by
    rcases zy.1 hx with q | q
    .exact Uy hR t _ x q
    .exact hlb x q) (by simp;omega),YK,o9,Jt]
   rw[Jo (l:=Cz s t (R6 s t l k)++R6 s t l k) (m:=R6 s t l k++Cz s t (R6 s t l k)) λx=>⟨λq=>q.mono λy hy hyl=>.base (zy.2 (zy.1 hy).symm) hyl,λq=>q.mono λy hy hyl=>.base (zy.2 (zy.1 hy).symm) hyl⟩]
 .have hst:=MO s t l;have hfr:=Js hst;refine⟨(IS s t l,(VJ s t l:Int)),?_,rfl⟩;simp only;rw[hfr] at hst |-;have hfl:=GS hR t l;rw[Hy hR hT hTB (by omega),YK];have ho:=Hw (s:=s) hT (IS s t l);refine dX (Cz s t (IS s t l)).length (λ_=>True) (by omega) trivial (λi hi _=>.inl ⟨?_,trivial⟩) (λ_=>⟨.inr (),by simp,rfl⟩);have:=FE.2 hst _ (zl hi);simp only[zQ,hi,zW,zR,u9 hi,YK];rw[contains_eq _ _ (by omega),YK,za (by simp[this]),o9]
theorem KQ(hF:FB s){l:List Int}(hl:LB l)(hlen:l.length<=1000000):qZ s t l=some (IS s t l):=by
 unfold qZ;rw[Lh hR hT hTB hF hl hlen];rfl
omit hT hTB hR in
theorem QJ {l:List Int} {x:Int}:qH s (IS s t l) x↔cK s t l x:=by
 constructor
 .intro q;exact re.1 (qH.least (Ty s t l) (λx h _=>h) q)
 .exact λq=>.base (re.2 q) q.live
theorem KY(hF:FB s){l:List Int}(hl:LB l)(hlen:l.length<=1000000):np s t l=some (Wj s t l):=by
 unfold np;rw[KQ hR hT hTB hF hl hlen,YK,PL hR hF (Tz hR t l) (by have:=GS hR t l;omega),YK];congr 1;unfold lst Wj;exact zbb λx _=>zbm.2 (not_congr QJ)
end
section
variable(s:a7)(hF:FB s)(t:Tb)(hTB:TB t)
include hF hTB
end
def ce(s:a7)(i:Nat):b7:=s.S.a8.getD i ⟨0,0,z0⟩
theorem F1{s:a7}{i:Nat}(h:i<s.S.a8.length):ce s i=s.S.a8[i]:=by
 unfold ce;rw[zf,zc h];rfl
theorem Dc{s:a7}{i:Nat}(h:i<s.S.a8.length):ix s.S.a8 (i:Int)=some (ce s i):=by rw[u9 h,F1 h]
def Th(c:b7):Prop:=c.State=1\/c.State=2
instance(c:b7):Decidable (Th c):=by unfold Th;infer_instance
structure xQ (s:a7) (o:p7):Prop where
 s1:1<=o.Serial
 s2:o.Serial<=s.Serial
 st:0<=o.Strong
 wk:0<=o.Weak
 p1 : -1<=o.Prog
 p2:o.Prog<=5
 fl:o.Fields.length<=4
structure SR (s:a7):Prop where
 len:s.S.a8.length<=24
 l0:0<=s.S.Last
 l9:s.S.Last<=9
 R9:0<=s.Serial
 cell:∀i,i<s.S.a8.length->0<=(ce s i).State/\(ce s i).State<=3/\0<=(ce s i).Gen/\(ce s i).Gen<=s.S.Last
 no:∀i,i<s.S.a8.length->¬Th (ce s i)->Iq (oo (ce s i).Val)
 ok:∀i,i<s.S.a8.length->Th (ce s i)->xQ s (ce s i).Val
 dif:∀i j,i<s.S.a8.length->j<s.S.a8.length->Th (ce s i)->Th (ce s j)->(ce s i).Val.Serial=(ce s j).Val.Serial->i=j
theorem y6{s:a7}:sP (sO s)↔SR s:=by
 constructor
 .intro h;refine⟨jA h,h.l0,h.l9,h.R9,λi hi=>?_,λi hi hn=>?_,λi hi ht=>?_,λi j hi hj a b e=>?_⟩;·rw[F1 hi];exact BT h i hi
  .rw[F1 hi] at hn |-;have:=h.no i (by rw[C2];exact hi);simp only[sO,sm] at this;exact this hn
  .rw[F1 hi] at ht |-;obtain⟨a,b,c,d,e,f,g⟩:=MW h i hi ht;exact⟨a,b,c,d,e,f,g⟩
  .rw[F1 hi] at a e;rw[F1 hj] at b e;exact MV h hi hj a b e
 .intro h;refine⟨by rw[C2];exact h.len,h.l0,h.l9,h.R9,λi hi=>?_,λi hi hn=>?_,λi hi ht=>?_,λi hi k hk a b=>?_⟩
  .rw[C2] at hi;have:=h.cell i hi;rw[F1 hi] at this;simpa[sO,cO] using this
  .rw[C2] at hi;have:=h.no i hi;rw[F1 hi] at this;simp only[sO,sm] at hn |-;exact this hn
  .rw[C2] at hi;have:=h.ok i hi;rw[F1 hi] at this;simp only[sO,sm] at ht |-;obtain⟨a,b,c,d,e,f,g⟩:=this ht;exact⟨a,b,c,d,e,f,g⟩
  .rw[C2] at hi;have hk':k<s.S.a8.length:=by omega
   have:=h.dif i k hi hk';rw[F1 hi,F1 hk'] at this;simp only[sO,sm,cO,oo] at a b |-;intro e;have:=this a b e.symm;omega
def At(s:a7)(h:Int)(i:Nat):Prop:=i<s.S.a8.length/\(ce s i).State=1/\h=1+(i:Int)+32*(ce s i).Gen
def Z6(s:a7)(h:Int)(i:Nat):Prop:=i<s.S.a8.length/\Th (ce s i)/\h=1+(i:Int)+32*(ce s i).Gen
theorem At.d{s:a7}{h:Int}{i:Nat}(q:At s h i):Z6 s h i:=⟨q.1,.inl q.2.1,q.2.2⟩
theorem Z6.one{s:a7}(hR:SR s){h:Int}{i j:Nat}(q:Z6 s h i)(q':Z6 s h j):i=j:=by
 obtain⟨a1,_,a2⟩:=q;obtain⟨b1,_,b2⟩:=q';have:=hR.len;omega
theorem Z6.MQ{s:a7}(hR:SR s){h:Int}{i:Nat}(q:Z6 s h i):1<=h/\h<=320:=by
 obtain⟨a1,_,a2⟩:=q;have:=hR.len;have:=hR.cell i a1;have:=hR.l9;omega
theorem Dk{s:a7}{h:Int}:h∈aq 0 s.S.a8↔∃i,At s h i:=by
 rw[nu];constructor
 .rintro⟨i,hi,h1,h2⟩;refine⟨i,hi,by rw[F1 hi];exact h1,?_⟩;rw[F1 hi,h2,zag]
 .rintro⟨i,hi,h1,h2⟩;rw[F1 hi] at h1 h2;exact⟨i,hi,h1,by rw[h2,zag]⟩
theorem fJ{s:a7}(hR:SR s){h:Int}:h∈lv s↔∃i,At s h i:=by rw[tl (y6.2 hR),Dk]
theorem qo{s:a7}(hR:SR s){h:Int}{i:Nat}:sN s.S h i↔Z6 s h i:=by
 constructor
 .rintro⟨hi,h1,h2,h3,h4⟩;unfold py at h1;refine⟨hi,by rw[F1 hi];exact h4,?_⟩;rw[F1 hi];omega
 .rintro⟨hi,h1,h2⟩;have l:=hR.len;have l9:=hR.l9;have c:=hR.cell i hi;rw[F1 hi] at h1 h2 c;exact⟨hi,by unfold py;omega,by omega,by omega,h1⟩
theorem Q2{s:a7}(hR:SR s){h:Int}{i:Nat}(q:At s h i):ob s h=(ce s i).Val:=by
 obtain⟨j,hj,h1,h2,_,e⟩:=Bo (y6.2 hR) ((fJ hR).2 ⟨i,q⟩);have:j=i:=Z6.one hR ⟨hj,by rw[F1 hj];exact .inl h1,by rw[F1 hj];exact h2⟩ q.d;subst this;rw[e,F1 hj]
theorem Tc{s:a7}(hR:SR s){h:Int}{i:Nat}(q:At s h i):y4 s h=some ((ce s i).Val,0):=by
 rw[wH (y6.2 hR) ((fJ hR).2 ⟨i,q⟩),Q2 hR q]
theorem Ki{s:a7}(hR:SR s){h:Int}{i:Nat}(q:At s h i):sk s.S.a8 h=(ce s i).Val.Serial:=by
 have:=hR.len;have hi:=q.1;rw[q.2.2,DV hi (by omega),F1 hi]
theorem kY{s:a7}(hR:SR s){h:Int}{i:Nat}(q:Z6 s h i):w7 s.S h=some ((i:Int),0):=oC ((qo hR).2 q)
theorem qc{s:a7}(hR:SR s){h:Int}(hh:h<=9223372036854775807)(q:∀i,¬Z6 s h i):w7 s.S h=some (-1,if h=0 then 2 else 3):=tc hh λi hi=>q i ((qo hR).1 hi)
theorem LL{s s':a7}(hR:SR s)(hR':SR s')(P:Int->Bool)(hm:∀h,(∃i,At s' h i)↔(∃i,At s h i)/\P h=true)(hk:∀h i j,At s' h i->At s h j->(ce s' i).Val.Serial=(ce s j).Val.Serial):lv s'=(lv s).filter P:=by
 have hk':∀h∈lv s,P h=true->sk s'.S.a8 h=sk s.S.a8 h:=λh hh hp=>by
  obtain⟨j,hj⟩:=(fJ hR).1 hh;obtain⟨i,hi⟩:=(hm h).2 ⟨⟨j,hj⟩,hp⟩;rw[Ki hR' hi,Ki hR hj,hk h i j hi hj]
 refine Ww (y6.2 hR') ?_ ?_
 .rw[List.perm_ext_iff_of_nodup ((rE (y6.2 hR)).filter _) (lB 0 _ (by have:=hR'.len;omega))];intro h;rw[zB,fJ hR,Dk,hm h]
 .refine ((iS (y6.2 hR)).2.2.filter P).imp_of_mem λ{a b} ha hb hab=>?_;rw[zB] at ha hb;rw[hk' a ha.1 ha.2,hk' b hb.1 hb.2];exact hab
theorem PN{s s':a7}(hR:SR s)(hR':SR s')(hl:s'.S.a8.length=s.S.a8.length)(h1:∀i,i<s.S.a8.length->((ce s' i).State=1↔(ce s i).State=1)/\(ce s' i).Gen=(ce s i).Gen/\(ce s' i).Val.Serial=(ce s i).Val.Serial):lv s'=lv s:=by
 have ha:∀h i,At s' h i↔At s h i:=λh i=>by
  unfold At;rw[hl];constructor
  .rintro⟨a,b,c⟩;obtain⟨x,y,z⟩:=h1 i a;exact⟨a,x.1 b,by rw[<-y];exact c⟩
  .rintro⟨a,b,c⟩;obtain⟨x,y,z⟩:=h1 i a;exact⟨a,x.2 b,by rw[y];exact c⟩
 rw[LL hR hR' (λ_=>true) (λh=>by simp only[and_true];exact⟨λ⟨i,q⟩=>⟨i,(ha h i).1 q⟩,λ⟨i,q⟩=>⟨i,(ha h i).2 q⟩⟩) (λh i j q q'=>by
  have:=Z6.one hR ((ha h i).1 q).d q'.d;subst this;exact (h1 i q'.1).2.2)]
 simp
def putAt(s:a7)(i:Nat)(o:p7):a7:=⟨⟨s.S.a8.set i ⟨(ce s i).State,(ce s i).Gen,o⟩,s.S.Last⟩,s.Serial⟩
theorem N8(s:a7)(i:Nat)(o:p7):(putAt s i o).S.a8.length=s.S.a8.length:=by simp[putAt]
theorem jL{α:Type}{l:List α}{i:Nat}(hi:i<l.length)(c d:α)(j:Nat):(l.set i c).getD j d=if j=i then c else l.getD j d:=by
 rw[zf,zf,List.getElem?_set];by_cases h:j=i
 .subst h;rw[zb rfl,zb hi,zb rfl];rfl
 .rw[za (zar h),za h]
theorem kZ{s:a7}{i:Nat}(hi:i<s.S.a8.length)(o:p7)(j:Nat):ce (putAt s i o) j=if j=i then ⟨(ce s i).State,(ce s i).Gen,o⟩ else ce s j:=jL hi _ _ j
theorem xx{s:a7}{i:Nat}(hi:i<s.S.a8.length)(o:p7)(j:Nat):(ce (putAt s i o) j).State=(ce s j).State/\(ce (putAt s i o) j).Gen=(ce s j).Gen:=by
 rw[kZ hi];split;·rename_i q;subst q;exact⟨rfl,rfl⟩
 .exact⟨rfl,rfl⟩
theorem va{s:a7}{i:Nat}(hi:i<s.S.a8.length)(o:p7){h:Int}{j:Nat}:Z6 (putAt s i o) h j↔Z6 s h j:=by
 unfold Z6 Th;rw[N8,(xx hi o j).1,(xx hi o j).2]
theorem vM{s:a7}{i:Nat}(hi:i<s.S.a8.length)(o:p7){h:Int}{j:Nat}:At (putAt s i o) h j↔At s h j:=by
 unfold At;rw[N8,(xx hi o j).1,(xx hi o j).2]
theorem BY{s:a7}(hR:SR s){h:Int}{i:Nat}(q:Z6 s h i)(o:p7):K8 s h o=some (putAt s i o,0):=by
 obtain⟨hi,e⟩:=DT (v:=o) hR.len ((qo hR).2 q);unfold K8;rw[e];simp[putAt,F1 hi]
theorem SR.put{s:a7}(hR:SR s){i:Nat}(hi:i<s.S.a8.length)(ht:Th (ce s i)){o:p7}(hs:o.Serial=(ce s i).Val.Serial)(ho:xQ s o):SR (putAt s i o):=by
 have hst:=xx hi o;have hse:∀j,(ce (putAt s i o) j).Val.Serial=(ce s j).Val.Serial:=λj=>by
  rw[kZ hi];split;·rename_i q;subst q;exact hs
  .rfl
 refine⟨by rw[N8];exact hR.len,hR.l0,hR.l9,hR.R9,λj hj=>?_,λj hj hn=>?_,λj hj hn=>?_,λj k hj hk a b e=>?_⟩
 .rw[N8] at hj;rw[(hst j).1,(hst j).2];exact hR.cell j hj
 .rw[N8] at hj;unfold Th at hn;rw[(hst j).1] at hn;rw[kZ hi];split;·rename_i q;subst q;exact absurd ht hn
  .exact hR.no j hj hn
 .rw[N8] at hj;unfold Th at hn;rw[(hst j).1] at hn;rw[kZ hi];split;·exact⟨ho.s1,ho.s2,ho.st,ho.wk,ho.p1,ho.p2,ho.fl⟩
  .have:=hR.ok j hj hn;exact⟨this.s1,this.s2,this.st,this.wk,this.p1,this.p2,this.fl⟩
 .rw[N8] at hj hk;unfold Th at a b;rw[(hst j).1] at a;rw[(hst k).1] at b;rw[hse,hse] at e;exact hR.dif j k hj hk a b e
theorem LJ{s:a7}(hR:SR s){i:Nat}(hi:i<s.S.a8.length){o:p7}(hs:o.Serial=(ce s i).Val.Serial)(hR':SR (putAt s i o)):lv (putAt s i o)=lv s:=by
 refine PN hR hR' (N8 ..) λj hj=>?_;rw[kZ hi];split;·rename_i q;subst q;exact⟨Iff.rfl,rfl,hs⟩
 .exact⟨Iff.rfl,rfl,rfl⟩
theorem Ut{s:a7}(hR:SR s){h:Int}{i:Nat}(q:At s h i){o:p7}(hR':SR (putAt s i o)){k:Int}(hk:k<=9223372036854775807):ob (putAt s i o) k=if k=h then o else ob s k:=by
 by_cases e:k=h
 .subst e;rw[zb rfl,Q2 hR' ((vM q.1 o).2 q),kZ q.1,zb rfl]
 .rw[za e];by_cases hl:∃j,At s k j
  .obtain⟨j,hj⟩:=hl;rw[Q2 hR' ((vM q.1 o).2 hj),Q2 hR hj,kZ q.1,za];intro e2;subst e2;exact e (hj.2.2.trans q.2.2.symm)
  .rw[pQ (y6.2 hR) hk (λq2=>hl ((fJ hR).1 q2)),pQ (y6.2 hR') hk λq2=>hl (by
    obtain⟨j,hj⟩:=(fJ hR').1 q2;exact⟨j,(vM q.1 o).1 hj⟩)]
def D4(h:Int):Nat:=((h-1) % 32).toNat
theorem Z6.D4{s:a7}(hR:SR s){h:Int}{i:Nat}(q:Z6 s h i):D4 h=i:=by
 obtain⟨a,_,c⟩:=q;have:=hR.len;unfold Sh.D4;omega
def cL(s:a7)(h:Int)(o:p7):a7:=putAt s (D4 h) o
theorem A3{s:a7}(hR:SR s){h:Int}(hh:h∈lv s):At s h (D4 h):=by
 obtain⟨i,hi⟩:=(fJ hR).1 hh;rw[hi.d.D4 hR];exact hi
theorem J5{s:a7}(hR:SR s){h:Int}(hh:h∈lv s):xQ s (ob s h):=by
 have q:=A3 hR hh;rw[Q2 hR q];exact hR.ok _ q.1 (.inl q.2.1)
theorem I3{s:a7}(hR:SR s){h:Int}(hh:h∈lv s):1<=h/\h<=320:=(A3 hR hh).d.MQ hR
theorem pn{s:a7}(hR:SR s):(0:Int)∉lv s:=λh=>by have:=I3 hR h;omega
section
variable{s:a7}(hR:SR s){h:Int}(hh:h∈lv s){o:p7}(hs:o.Serial=(ob s h).Serial)(ho:xQ s o)
include hR hh hs ho
theorem bw:SR (cL s h o):=by
 have q:=A3 hR hh;exact hR.put q.1 (.inl q.2.1) (by rw[hs,Q2 hR q]) ho
theorem fH:lv (cL s h o)=lv s:=by
 have q:=A3 hR hh;exact LJ hR q.1 (by rw[hs,Q2 hR q]) (bw hR hh hs ho)
theorem eh{k:Int}(hk:k<=9223372036854775807):ob (cL s h o) k=if k=h then o else ob s k:=Ut hR (A3 hR hh) (bw hR hh hs ho) hk
theorem sw:K8 s h o=some (cL s h o,0):=BY hR (A3 hR hh).d o
theorem FY{k:Int}{i:Nat}:Z6 (cL s h o) k i↔Z6 s k i:=va (A3 hR hh).1 o
theorem BX(i:Nat):ce (cL s h o) i=if i=D4 h then ⟨(ce s i).State,(ce s i).Gen,o⟩ else ce s i:=by
 unfold cL;rw[kZ (A3 hR hh).1];split;·rename_i q;rw[q]
 .rfl
end
abbrev Ak(o:p7)(n:Int):p7:=⟨o.Serial,n,o.Weak,o.Prog,o.Started,o.Fields⟩
structure uC (s s':a7):Prop where
 sr:SR s'
 len:s'.S.a8.length=s.S.a8.length
 last:s'.S.Last=s.S.Last
 R9:s'.Serial=s.Serial
 lv:lv s'=lv s
 ad:∀k i,Z6 s' k i↔Z6 s k i
 ob:∀k,k<=9223372036854775807->∃n,ob s' k=(Ak (ob s k) (n))
 ce:∀i,i<s.S.a8.length->(ce s' i).State=(ce s i).State/\(ce s' i).Gen=(ce s i).Gen/\(ce s' i).Val.Weak=(ce s i).Val.Weak/\(ce s' i).Val.Fields=(ce s i).Val.Fields/\((ce s i).State≠1->ce s' i=ce s i)
theorem uC.refl{s:a7}(hR:SR s):uC s s:=⟨hR,rfl,rfl,rfl,rfl,λ_ _=>Iff.rfl,λk _=>⟨_,rfl⟩,λi _=>⟨rfl,rfl,rfl,rfl,λ_=>rfl⟩⟩
theorem uC.trans{a b c:a7}(h:uC a b)(q:uC b c):uC a c:=by
 refine⟨q.sr,q.len.trans h.len,q.last.trans h.last,q.R9.trans h.R9,q.lv.trans h.lv,λk i=>(q.ad k i).trans (h.ad k i),λk hk=>?_,λi hi=>?_⟩
 .obtain⟨n,e⟩:=h.ob k hk;obtain⟨m,f⟩:=q.ob k hk;exact⟨m,by rw[f,e]⟩
 .obtain⟨a1,a2,a3,a4,a5⟩:=h.ce i hi;obtain⟨b1,b2,b3,b4,b5⟩:=q.ce i (by rw[h.len];exact hi);refine⟨b1.trans a1,b2.trans a2,b3.trans a3,b4.trans a4,λhn=>?_⟩;rw[b5 (by rw[a1];exact hn),a5 hn]
theorem uC.outs{s s':a7}(k:uC s s'){h:Int}(hh:h<=9223372036854775807):outs s' h=outs s h:=by
 obtain⟨n,e⟩:=k.ob h hh;unfold Sh.outs;rw[e]
theorem uC.jw{s s':a7}(hR:SR s)(k:uC s s')(h:Int):jw s' h=jw s h:=by
 unfold Sh.jw;rw[k.lv];congr 1;refine zO λx hx=>?_;rw[k.outs (by have:=I3 hR hx;omega)]
theorem PJ{s:a7}(hR:SR s){h:Int}(hh:h∈lv s){n:Int}(hn:0<=n):uC s (cL s h (Ak (ob s h) (n))):=by
 have ho:xQ s (Ak (ob s h) (n)):=by
  have:=J5 hR hh;exact⟨this.s1,this.s2,hn,this.wk,this.p1,this.p2,this.fl⟩
 have q:=A3 hR hh;refine⟨bw hR hh rfl ho,N8 ..,rfl,rfl,fH hR hh rfl ho,λk i=>FY (o:=(Ak (ob s h) (n))) hR hh rfl ho,λk hk=>?_,λi hi=>?_⟩
 .rw[eh (o:=(Ak (ob s h) (n))) hR hh rfl ho hk];split;·rename_i e;subst e;exact⟨n,rfl⟩
  .exact⟨_,rfl⟩
 .rw[BX (o:=(Ak (ob s h) (n))) hR hh rfl ho];split
  .rename_i e;subst e;rw[Q2 hR q];exact⟨rfl,rfl,rfl,rfl,λhn=>absurd q.2.1 hn⟩
  .exact⟨rfl,rfl,rfl,rfl,λ_=>rfl⟩
def SB(s:a7):Prop:=∀c∈s.S.a8,c.Val.Strong<=9223372036854775807
theorem Wi{s:a7}:FB s↔∀i,i<s.S.a8.length->∀x∈(ce s i).Val.Fields,x<=9223372036854775807:=by
 constructor
 .intro h i hi x hx;rw[F1 hi] at hx;exact h _ (zl hi) x hx
 .intro h c hc x hx;obtain⟨i,hi,rfl⟩:=zbg hc;exact h i hi x (by rw[F1 hi];exact hx)
theorem Xi{s:a7}:SB s↔∀i,i<s.S.a8.length->(ce s i).Val.Strong<=9223372036854775807:=by
 constructor
 .intro h i hi;rw[F1 hi];exact h _ (zl hi)
 .intro h c hc;obtain⟨i,hi,rfl⟩:=zbg hc;have:=h i hi;rwa [F1 hi] at this
noncomputable def inr(s:a7)(t:Tb)(h:Int):Nat:=jw s h+own t h
noncomputable def Jw(s:a7)(t:Tb)(h:Int):Int:=if h∈lv s then (ob s h).Strong-(inr s t h:Int) else 0
noncomputable def TP(s:a7)(t:Tb):List Int:=(lv s).filter λh=>decide (0<Jw s t h\/12<=(ob s h).Strong)
def Rv(s:a7)(t:Tb)(l:List Int):Prop:=∀h∈lv s,(ob s h).Strong<12->Jw s t h=(aE l h:Int)
noncomputable instance(s:a7)(t:Tb)(l:List Int):Decidable (Rv s t l):=Classical.propDecidable _
section
variable{s:a7}(hR:sP (sO s)){t:Tb}(hT:HR t)
include hR hT
theorem Lr(h:Int):je s t h=some (inr s t h:Int):=by
 unfold je;have h1:=Lq hR h;have h2:=Ms hT.l8 h;rw[Wr hR,YK,Mt hT,YK,F9 (by omega) (by omega)];unfold inr;simp
theorem TV(h:Int):inr s t h<=104:=by
 have h1:=Lq hR h;have h2:=Ms hT.l8 h;unfold inr;omega
omit hT in
theorem Al (hB:SB s) {h:Int} (hh:h∈lv s):0<=(ob s h).Strong/\(ob s h).Strong<=9223372036854775807:=by
 obtain⟨i,hi⟩:=(fJ (y6.1 hR)).1 hh;rw[Q2 (y6.1 hR) hi];refine⟨((y6.1 hR).ok i hi.1 (.inl hi.2.1)).st,?_⟩;rw[F1 hi.1];exact hB _ (zl _)
theorem QK(hB:SB s){h:Int}(hh:h<=9223372036854775807):mr s t h=some (Jw s t h):=by
 unfold mr;obtain⟨e,h1,h2⟩:=aI hR hh;rw[h1,YK];by_cases q:h∈lv s
 .have:=h2.2 q;subst this;have h3:=TV hR hT h;have h4:=Al hR hB q;rw[za (by simp),Lr hR hT,YK,F9 (by dsimp only;omega) (by dsimp only;omega)];unfold Jw;rw[zb q]
 .rw[zb (by simpa using λq2=>q (h2.1 q2))];unfold Jw;rw[za q]
omit hT in
theorem Wv {k:Nat} (hk:k<(lv s).length):(lv s)[k]<=9223372036854775807:=by
 have:=nA hR (zl hk);omega
theorem Pz(hB:SB s):mo s t=some (TP s t):=by
 unfold mo;simp only[jn];have h24:=M7 hR;rw[df hR,YK,O6 (lv s) (λb x=>if decide (0<Jw s t x\/12<=(ob s x).Strong) then b ++ [x] else b) id (λk b=>b.length<=k) (by omega) (by simp) (λk hk b hI=>?_) (λb _=>by simp),YK]
 .rw[foldl_filter];rfl
 .have hm:=zl hk;have hle:=Wv hR hk;simp only[zQ,hk,zW,zR,u9 hk,YK];rw[wH hR hm,YK];unfold mq ni G2;rw[QK hR hT hB hle,YK,YK];by_cases q:0<Jw s t (lv s)[k]
  .rw[zA (show Jw s t (lv s)[k] > 0 from q)];simp only[show ((true==false):Bool)=false from rfl,Dt,YK,Bool.true_or,zR];rw[C4 (by omega) (by simp;omega),YK,o9,zb (zA (.inl q))];exact⟨rfl,by simp;omega⟩
  .rw[zI (show ¬Jw s t (lv s)[k] > 0 from q)];simp only[pi,fM,YK,zbq];by_cases q2:12<=(ob s (lv s)[k]).Strong
   .rw[zb (zA q2),C4 (by omega) (by simp;omega),YK,o9,zb (zA (.inr q2))];exact⟨rfl,by simp;omega⟩
   .rw[za (by simpa using q2),o9,za (by simp only[t8];exact λc=>c.elim q q2)];exact⟨rfl,by omega⟩
omit hT in
theorem PA:(TP s t).length<=24:=rx (wt ..) (M7 hR)
omit hR hT in
theorem vg {h:Int}:h∈TP s t↔h∈lv s/\(0<Jw s t h\/12<=(ob s h).Strong):=by
 unfold TP;rw[zB,t8]
omit hT in
theorem TR:LB (TP s t):=λx hx=>by have:=nA hR (vg.1 hx).1;omega
theorem Ff(hTB:TB t)(hF:FB s)(hB:SB s):bH s t=some (Wj s t (TP s t)):=by
 unfold bH;have:=PA hR (t:=t);rw[Pz hR hT hB,YK,KY hR hT hTB hF (TR hR) (by omega)];rfl
end
abbrev TQ:=k7
def Nr(q:TQ)(t:n0):TQ × Int:=if q.Cap<=q.L.length then (q,4) else (⟨q.L ++ [t],q.Cap⟩,0)
def Rf(q:TQ):TQ × n0 × Int:=match q.L with
 | []=>(q,⟨0,0,0⟩,10)
 | t::l=>(⟨l,q.Cap⟩,t,0)
theorem Sk{q:TQ}(t:n0)(h:q.L.length<=1000):oc q t=some (Nr q t):=by
 unfold Nr;unfold oc T4 J0 F8;simp only[YK];by_cases c:q.Cap<=q.L.length
 .rw[zb (by simpa using c),zb c,YK]
 .rw[za (by simpa using c),za c];have e:cut q.L 0 (q.L.length:Int)=some q.L:=by
   have:=lh (xs:=q.L) (i:=0) (j:=q.L.length) (ut _) (zt _);simpa using this
  rw[e,YK,YK,C4 (by omega) (by simp;omega),YK,YK]
theorem Cf{q:TQ}:cJ q=some (Rf q):=by
 unfold Rf;unfold cJ bu ar J0 F8;simp only[YK];cases hl:q.L with
 | nil=>
  have e:cut ([]:List n0) 0 0=some []:=rfl;simp[e]
 | cons t l=>
  have hm:(if (if (((t::l).length:Nat):Int)<1 then (((t::l).length:Nat):Int) else 1) > 0 then (if (((t::l).length:Nat):Int)<1 then (((t::l).length:Nat):Int) else 1) else 0)=1:=by
   rw[za (show ¬(((t::l).length:Nat):Int)<1 by simp;omega)];simp
  rw[hm];have e1:cut (t::l) 0 1=some [t]:=by
   have:=lh (xs:=t::l) (i:=0) (j:=1) (ut _) (by simp);simpa using this
  have e2:cut (t::l) 1 (((t::l).length:Nat):Int)=some l:=by
   have:=lh (xs:=t::l) (i:=1) (j:=(t::l).length) (by simp) (zt _);simpa using this
  rw[e1,e2];simp[ix]
theorem QZ{q:TQ}{w:Int}(h:q.L.length<=1000):iq q w=some (q.L.any λt=>t.Kind==2&&t.At==w):=by
 unfold iq vz;simp only[jn,YK];refine dX q.L.length (λk=>(q.L.take k).any (λt=>t.Kind==2&&t.At==w)=false) (by omega) (by simp) ?_ (λhl=>⟨.inr (),by simp,by rw[zY] at hl;rw[hl]⟩);intro k hk hP;simp only[zQ,hk,zW,zR,u9 hk,YK];rw[zu hk,List.any_append,hP,zbq];by_cases c:(q.L[k].Kind==2)=true
 .rw[c,zb (by decide)];by_cases d:(q.L[k].At==w)=true
  .right;rw[d,zb rfl];refine⟨.inl true,rfl,?_⟩;simp only[un];symm
   rw[List.any_eq_true];exact⟨_,zl hk,by rw[c,d];rfl⟩
  .have d:(q.L[k].At==w)=false:=by simpa using d
   left;rw[d,za (by decide),o9];exact⟨rfl,by simp[d]⟩
 .have c:(q.L[k].Kind==2)=false:=by simpa using c
  left;rw[c,za (by decide),o9];exact⟨rfl,by simp[c]⟩
def Re(t:n0):du:=⟨t.Kind,t.At,t.Prog⟩
def Ck(q:TQ):G4:=⟨q.L.map Re,q.Cap⟩
theorem Sd{q:TQ}(t:n0)(h:q.L.length<=1000):lS (Ck q) (Re t)=some (Ck (Nr q t).1,(Nr q t).2):=by
 unfold lS Nr;have hl:(Ck q).L.length=q.L.length:=by simp[Ck]
 by_cases c:q.Cap<=q.L.length
 .rw[zb (by simp[hl];exact c),zb c]
 .rw[za (by simp[hl];exact Int.not_le.1 c),za c,V0 (by omega) (by rw[hl];omega),YK,C4 (by omega) (by simp[hl];omega),YK];simp[Ck]
theorem QG{q:TQ}{w:Int}(h:q.L.length<=1000):oR (Ck q) w=some (q.L.any λt=>t.Kind==2&&t.At==w):=by
 unfold oR;have hl:(Ck q).L.length=q.L.length:=by simp[Ck]
 simp only[jn,hl];refine dX q.L.length (λk=>(q.L.take k).any (λt=>t.Kind==2&&t.At==w)=false) (by omega) (by simp) ?_ (λhl=>⟨.inr (),by simp,by rw[zY] at hl;rw[hl]⟩);intro k hk hP;have e:ix (Ck q).L (k:Int)=some (Re q.L[k]):=by rw[show (Ck q).L=q.L.map Re from rfl,fW,u9 hk];rfl
 simp only[zQ,hk,zW,zR,e,YK];rw[zu hk,List.any_append,hP,zbq];by_cases c:(q.L[k].Kind==2&&q.L[k].At==w)=true
 .right;rw[show ((Re q.L[k]).Kind==2&&(Re q.L[k]).At==w)=true from c,zb rfl];refine⟨.inl true,rfl,?_⟩;simp only[un];symm
  rw[List.any_eq_true];exact⟨_,zl hk,c⟩
 .have c:(q.L[k].Kind==2&&q.L[k].At==w)=false:=by simpa using c
  left;rw[show ((Re q.L[k]).Kind==2&&(Re q.L[k]).At==w)=false from c,za (by decide),o9];exact⟨rfl,by simp[c]⟩
abbrev Hp:=b6
abbrev wS(x:Hp)(s:a7):Hp:=⟨s,x.Roots,x.a8,x.T,x.Q⟩
abbrev wR(x:Hp)(l:List Int):Hp:=⟨x.S,l,x.a8,x.T,x.Q⟩
abbrev wC(x:Hp)(l:List j5):Hp:=⟨x.S,x.Roots,l,x.T,x.Q⟩
abbrev wT(x:Hp)(t:Tb):Hp:=⟨x.S,x.Roots,x.a8,t,x.Q⟩
abbrev wQ(x:Hp)(q:TQ):Hp:=⟨x.S,x.Roots,x.a8,x.T,q⟩
def Cy(l:List j5)(h:Int):Nat:=l.countP λc=>(h != 0)&&(c.Target==h)
def xX(q:TQ):List Int:=(q.L.filter (·.Kind==1)).map (·.At)
def JL(q:TQ)(w:Int):Bool:=q.L.any λt=>t.Kind==2&&t.At==w
def pq(x:Hp):List Int:=nz x.Roots++xX x.Q
noncomputable def po(x:Hp)(h:Int):Nat:=jw x.S h+own x.T h+aE (pq x) h
def G6(s:a7)(i:Nat)(c:b7):a7:=⟨⟨s.S.a8.set i c,s.S.Last⟩,s.Serial⟩
theorem Z5(s:a7)(i:Nat)(c:b7):(G6 s i c).S.a8.length=s.S.a8.length:=by simp[G6]
theorem L4{s:a7}{i:Nat}(hi:i<s.S.a8.length)(c:b7)(j:Nat):ce (G6 s i c) j=if j=i then c else ce s j:=jL hi _ _ j
theorem SR.G6{s:a7}(hR:SR s){i:Nat}(hi:i<s.S.a8.length){c:b7}(h1:0<=c.State/\c.State<=3/\0<=c.Gen/\c.Gen<=s.S.Last)(h2:¬Th c->Iq (oo c.Val))(h3:Th c->xQ s c.Val/\Th (ce s i)/\c.Val.Serial=(ce s i).Val.Serial):SR (G6 s i c):=by
 have key:∀j,Th (ce (Sh.G6 s i c) j)->Th (ce s j)/\(ce (Sh.G6 s i c) j).Val.Serial=(ce s j).Val.Serial:=λj hj=>by
  rw[L4 hi] at hj |-;split at hj
  .rename_i e;subst e;rw[zb rfl];exact (h3 hj).2
  .rename_i e;rw[za e];exact⟨hj,rfl⟩
 refine⟨by rw[Z5];exact hR.len,hR.l0,hR.l9,hR.R9,λj hj=>?_,λj hj hn=>?_,λj hj hn=>?_,λj k hj hk a b e=>?_⟩
 .rw[Z5] at hj;rw[L4 hi];split;·exact h1
  .exact hR.cell j hj
 .rw[Z5] at hj;rw[L4 hi] at hn |-;split at hn
  .rename_i e;rw[zb e];exact h2 hn
  .rename_i e;rw[za e];exact hR.no j hj hn
 .rw[Z5] at hj;rw[L4 hi] at hn |-;split at hn
  .rename_i e;rw[zb e];have:=(h3 hn).1;exact⟨this.s1,this.s2,this.st,this.wk,this.p1,this.p2,this.fl⟩
  .rename_i e;rw[za e];have:=hR.ok j hj hn;exact⟨this.s1,this.s2,this.st,this.wk,this.p1,this.p2,this.fl⟩
 .rw[Z5] at hj hk;obtain⟨a1,a2⟩:=key j a;obtain⟨b1,b2⟩:=key k b;rw[a2,b2] at e;exact hR.dif j k hj hk a1 b1 e
theorem Kh{s:a7}{i:Nat}(hi:i<s.S.a8.length)(c:b7){h:Int}{j:Nat}(hj:j≠i):Z6 (G6 s i c) h j↔Z6 s h j:=by
 unfold Z6;rw[Z5,L4 hi,za hj]
theorem vb{s:a7}{i:Nat}(hi:i<s.S.a8.length)(c:b7){h:Int}{j:Nat}(hj:j≠i):At (G6 s i c) h j↔At s h j:=by
 unfold At;rw[Z5,L4 hi,za hj]
theorem Hi{s:a7}(hR:SR s){i:Nat}(hi:i<s.S.a8.length){c:b7}(hc:c.State≠1)(hR':SR (G6 s i c)):lv (G6 s i c)=(lv s).filter λh=>decide (D4 h≠i):=by
 have hno:∀h,¬At (G6 s i c) h i:=λh q=>by
  have:=q.2.1;rw[L4 hi,zb rfl] at this;exact hc this
 refine LL hR hR' _ (λh=>?_) (λh j k q q'=>?_)
 .rw[zK];constructor
  .rintro⟨j,hj⟩;have hne:j≠i:=λe=>hno h (e▸hj);have:=(vb hi c hne).1 hj;exact⟨⟨j,this⟩,by rw[this.d.D4 hR];exact hne⟩
  .rintro⟨⟨j,hj⟩,hp⟩;rw[hj.d.D4 hR] at hp;exact⟨j,(vb hi c hp).2 hj⟩
 .have hne:j≠i:=λe=>hno h (e▸q);have q2:=(vb hi c hne).1 q;have:=Z6.one hR q2.d q'.d;subst this;rw[L4 hi,za hne]
theorem Ht{s:a7}(hR:SR s){i:Nat}(hi:i<s.S.a8.length){c:b7}(hR':SR (G6 s i c)){k:Int}(hk:k∈lv s)(hp:D4 k≠i):ob (G6 s i c) k=ob s k:=by
 have q:=A3 hR hk;rw[Q2 hR' ((vb hi c hp).2 q),Q2 hR q,L4 hi,za hp]
structure Kn (s s':a7):Prop where
 sr:SR s'
 len:s'.S.a8.length=s.S.a8.length
 lv:lv s'=lv s
 ad:∀k i,Z6 s' k i↔Z6 s k i
 ob:∀k,k∈Sh.lv s->∃n m,ob s' k=⟨(ob s k).Serial,n,m,(ob s k).Prog,(ob s k).Started,(ob s k).Fields⟩
theorem uC.kn{s s':a7}(hR:SR s)(k:uC s s'):Kn s s':=⟨k.sr,k.len,k.lv,k.ad,λh hh=>by
 obtain⟨n,e⟩:=k.ob h (by have:=I3 hR hh;omega);exact⟨n,_,e⟩⟩
theorem Kn.jw{s s':a7}(k:Kn s s')(h:Int):jw s' h=jw s h:=by
 unfold Sh.jw;rw[k.lv];congr 1;refine zO λx hx=>?_;obtain⟨n,m,e⟩:=k.ob x hx;unfold Sh.outs;rw[e]
structure mP (x:Hp):Prop where
 sr:SR x.S
 hr:HR x.T
 r6:x.Roots.length=6
 c6:x.a8.length=6
 cap:x.Q.Cap=30
 q30:x.Q.L.length<=30
 tk:∀t∈x.Q.L,0<=t.Prog/\t.Prog<=5/\((t.Kind=1/\t.At∈lv x.S/\(ob x.S t.At).Started=true)\/(t.Kind=2/\0<=t.At/\t.At<=5))
 td:x.Q.L.Pairwise λa b=>¬(a.Kind=b.Kind/\a.At=b.At)
 rt:∀h∈x.Roots,h=0\/h∈lv x.S
 fl:∀h∈lv x.S,∀v∈(ob x.S h).Fields,v=0\/v∈lv x.S
 pr:∀k v,Has x.T k v->k∈lv x.S/\v∈lv x.S
 cl:∀i (hi:i<x.a8.length),-1<=x.a8[i].Call/\x.a8[i].Call<=5/\(x.a8[i].Target=0->x.a8[i].Intact=false)/\(x.a8[i].Target≠0->∃p,Z6 x.S x.a8[i].Target p)/\(x.a8[i].Intact=true->x.a8[i].Target∈lv x.S/\JL x.Q i=false)
def Wk(x:Hp):Prop:=∀i,i<x.S.S.a8.length->Th (ce x.S i)->(ce x.S i).Val.Weak=(Cy x.a8 (1+(i:Int)+32*(ce x.S i).Gen):Int)/\((ce x.S i).State=2->1<=(ce x.S i).Val.Weak/\(ce x.S i).Val.Fields = []/\(ce x.S i).Val.Strong=0)
def ck(x:Hp)(L:List Int):Prop:=∀h∈lv x.S,(ob x.S h).Strong<12->(ob x.S h).Strong=((po x h+aE L h:Nat):Int)
structure O4 (x:Hp):Prop where
 sh:mP x
 wk:Wk x
 fair:ck x []
theorem mP.of{x:Hp}(h:mP x){s':a7}(hS:SR s')(hl:lv s'=lv x.S)(hd:∀k i,Z6 x.S k i->Z6 s' k i)(hst:∀k∈lv x.S,(ob x.S k).Started=true->(ob s' k).Started=true)(hfl:∀k∈lv x.S,∀v∈(ob s' k).Fields,v=0\/v∈lv x.S):mP (wS x s'):=by
 refine⟨hS,h.hr,h.r6,h.c6,h.cap,h.q30,λt ht=>?_,h.td,λk hk=>?_,λk hk=>?_,λk v hkv=>?_,λi hi=>?_⟩
 .obtain⟨a,b,c⟩:=h.tk t ht;refine⟨a,b,?_⟩;rcases c with ⟨c1,c2,c3⟩ | c;·exact .inl ⟨c1,by rw[hl];exact c2,hst _ c2 c3⟩
  .exact .inr c
 .dsimp only;rw[hl];exact h.rt k hk
 .dsimp only at hk |-;rw[hl] at hk |-;exact hfl k hk
 .dsimp only;rw[hl];exact h.pr k v hkv
 .obtain⟨a,b,c,d,e⟩:=h.cl i hi;refine⟨a,b,c,λq=>?_,λq=>?_⟩
  .obtain⟨p,hp⟩:=d q;exact⟨p,hd _ _ hp⟩
  .dsimp only;rw[hl];exact e q
theorem mP.kn{x:Hp}(h:mP x){s':a7}(k:Kn x.S s'):mP (wS x s'):=by
 refine h.of k.sr k.lv (λj i q=>(k.ad j i).2 q) (λj hj q=>?_) (λj hj=>?_)
 .obtain⟨n,m,e⟩:=k.ob j hj;rw[e];exact q
 .obtain⟨n,m,e⟩:=k.ob j hj;rw[e];exact h.fl j hj
theorem mP.xZ{x:Hp}(h:mP x){s':a7}(k:uC x.S s'):mP (wS x s'):=h.kn (k.kn h.sr)
theorem Wk.xZ{x:Hp}(h:Wk x){s':a7}(k:uC x.S s'):Wk (wS x s'):=by
 intro i hi ht;dsimp only at hi ht |-;rw[k.len] at hi;obtain⟨a,b,c,d,e⟩:=k.ce i hi;unfold Th at ht;rw[a] at ht;obtain⟨f,g⟩:=h i hi ht;rw[a,b,c];refine⟨f,λq=>?_⟩;have e':=e (by omega);rw[<-c,e'];exact g q
theorem mP.roots{x:Hp}(h:mP x){l:List Int}(hl:l.length=6)(hr:∀v∈l,v=0\/v∈lv x.S):mP (wR x l):=⟨h.sr,h.hr,hl,h.c6,h.cap,h.q30,h.tk,h.td,hr,h.fl,h.pr,h.cl⟩
theorem mP.table{x:Hp}(h:mP x){t:Tb}(hr:HR t)(hp:∀k v,Has t k v->k∈lv x.S/\v∈lv x.S):mP (wT x t):=⟨h.sr,hr,h.r6,h.c6,h.cap,h.q30,h.tk,h.td,h.rt,h.fl,hp,h.cl⟩
def W5(c:Int):Int:=if 12<=c then 12 else if c<0 then 1 else c+1
def jI(c:Int):Int:=if 12<=c then 12 else if c<1 then c else c-1
theorem E0{c:Int}(h:0<=c):0<=W5 c:=by unfold W5;split <;> (try split) <;> omega
theorem P3{c:Int}(h:0<=c):0<=jI c:=by unfold jI;split <;> (try split) <;> omega
noncomputable def sz(x:Hp)(h:Int)(f:Int->Int):Hp:=if h∈lv x.S then wS x (cL x.S h (Ak (ob x.S h) (f (ob x.S h).Strong))) else x
noncomputable def C7(x:Hp)(h:Int):Hp:=sz x h W5
noncomputable def R8(x:Hp)(h:Int):Hp:=sz x h jI
theorem xu(x:Hp)(h:Int)(f:Int->Int):sz x h f=wS x (sz x h f).S:=by
 unfold sz;split <;> rfl
theorem tO(x:Hp)(h:Int):C7 x h=wS x (C7 x h).S:=xu x h W5
theorem UW(x:Hp)(h:Int):R8 x h=wS x (R8 x h).S:=xu x h jI
section
variable{x:Hp}(hR:SR x.S)(h:Int){f:Int->Int}(hf:∀c,0<=c->0<=f c)
include hR hf
theorem G3:uC x.S (sz x h f).S:=by
 unfold sz;split
 .rename_i q;exact PJ hR q (hf _ (J5 hR q).st)
 .exact uC.refl hR
theorem tU{k:Int}(hk:k∈lv x.S):(ob (sz x h f).S k).Strong=if k=h then f (ob x.S k).Strong else (ob x.S k).Strong:=by
 unfold sz;split
 .rename_i q;dsimp only;have ho:xQ x.S (Ak (ob x.S h) (f (ob x.S h).Strong)):=by
   have:=J5 hR q;exact⟨this.s1,this.s2,hf _ this.st,this.wk,this.p1,this.p2,this.fl⟩
  rw[eh (o:=Ak (ob x.S h) (f (ob x.S h).Strong)) hR q rfl ho (by have:=I3 hR hk;omega)];split;·rename_i e;subst e;rfl
  .rfl
 .rename_i q;rw[za];intro e;subst e;exact q hk
theorem vy(k:Int):po (sz x h f) k=po x k:=by
 rw[xu];unfold po pq;dsimp only;rw[(G3 hR h hf).jw hR]
end
theorem mP.st{x:Hp}(h:mP x)(k:Int){f:Int->Int}(hf:∀c,0<=c->0<=f c):mP (sz x k f):=by
 rw[xu];exact h.xZ (G3 h.sr k hf)
theorem Wk.st{x:Hp}(h:Wk x)(hR:SR x.S)(k:Int){f:Int->Int}(hf:∀c,0<=c->0<=f c):Wk (sz x k f):=by
 rw[xu];exact h.xZ (G3 hR k hf)
theorem R5(h:Int):aE [] h=0:=by unfold aE;split <;> rfl
theorem G7(v:Int)(L:List Int)(h:Int):aE (v::L) h=aE L h+if v=h/\h≠0 then 1 else 0:=by
 unfold aE;by_cases h0:h=0
 .simp[h0]
 .rw[za h0,za h0,List.count_cons];by_cases e:v=h
  .simp[e,h0]
  .simp[e]
theorem DM{x:Hp}(hR:SR x.S){L:List Int}(hf:ck x L)(v:Int):ck (C7 x v) (v::L):=by
 intro h hh hlt;unfold C7 at hh hlt |-;rw[(G3 hR v λc=>E0).lv] at hh;rw[tU hR v (λc=>E0) hh] at hlt |-;rw[vy hR v λc=>E0,G7];have h0:h≠0:=λe=>pn hR (e▸hh);have hp:=(J5 hR hh).st;by_cases e:h=v
 .subst e;rw[zb rfl] at hlt |-;have:=hf h hh (by unfold W5 at hlt;split at hlt <;> omega);rw[zb ⟨rfl,h0⟩];unfold W5 at hlt |-;split at hlt;·omega
  .rename_i q;rw[za q,za (by omega)];omega
 .rw[za e] at hlt |-;rw[za (λq=>e q.1.symm)];exact hf h hh hlt
theorem sj{x:Hp}(hR:SR x.S){L:List Int}{v:Int}(hf:ck x (v::L)):ck (R8 x v) L:=by
 intro h hh hlt;unfold R8 at hh hlt |-;rw[(G3 hR v λc=>P3).lv] at hh;rw[tU hR v (λc=>P3) hh] at hlt |-;rw[vy hR v λc=>P3];have h0:h≠0:=λe=>pn hR (e▸hh);have hp:=(J5 hR hh).st;by_cases e:h=v
 .subst e;rw[zb rfl] at hlt |-;have:=hf h hh (by unfold jI at hlt;split at hlt <;> omega);rw[G7,zb ⟨rfl,h0⟩] at this;unfold jI at hlt |-;split at hlt;·omega
  .rename_i q;rw[za q,za (by omega)];omega
 .rw[za e] at hlt |-;have:=hf h hh hlt;rw[G7,za (λq=>e q.1.symm)] at this;exact this
theorem ck.mv{x x':Hp}{L L':List Int}(hf:ck x L)(hl:lv x'.S=lv x.S)(hs:∀h∈lv x.S,(ob x'.S h).Strong=(ob x.S h).Strong)(hn:∀h∈lv x.S,po x' h+aE L' h=po x h+aE L h):ck x' L':=by
 intro h hh hlt;rw[hl] at hh;rw[hs h hh] at hlt |-;rw[hf h hh hlt,hn h hh]
theorem vA:∀ {l:List Int} {r:Nat} (hr:r<l.length) (h k:Int),aE (l.set r h) k+aE [l.getD r 0] k=aE l k+aE [h] k
 | [],_,hr,_,_=>by simp at hr
 | a::l,0,_,h,k=>by
  rw[List.set_cons_zero,List.getD_cons_zero,G7 h l,G7 a l,G7 a [],G7 h [],R5];omega
 | a::l,r+1,hr,h,k=>by
  rw[List.set_cons_succ,List.getD_cons_succ,G7 a,G7 a l];have:=vA (l:=l) (r:=r) (by simpa using hr) h k;omega
theorem qB{x x1:Hp}(hx:O4 x){old new:Int}(h1:mP (C7 x new)->Wk (C7 x new)->mP x1/\Wk x1)
  (hl:lv x1.S=lv (C7 x new).S)(hs:∀h∈lv x.S,(ob x1.S h).Strong=(ob (C7 x new).S h).Strong)(hn:∀h∈lv x.S,po x1 h+aE [old] h=po x h+aE [new] h):O4 (R8 x1 old):=by
 have l1:lv (C7 x new).S=lv x.S:=(G3 hx.sh.sr new λc=>E0).lv;have f1:ck (C7 x new) [new]:=DM hx.sh.sr hx.fair new;obtain⟨h2,w2⟩:=h1 (hx.sh.st new λc=>E0) (hx.wk.st hx.sh.sr new λc=>E0);have f2:ck x1 [old]:=f1.mv hl (λh hh=>hs h (l1▸hh)) λh hh=>by
  rw[hn h (l1▸hh)];unfold C7;rw[vy hx.sh.sr new λc=>E0]
 exact⟨h2.st _ λc=>P3,w2.st h2.sr _ λc=>P3,sj h2.sr f2⟩
noncomputable def H7(x:Hp)(r:Nat)(h:Int):Hp:=R8 (wR (C7 x h) (x.Roots.set r h)) (x.Roots.getD r 0)
theorem cH{x:Hp}(hx:O4 x){r:Nat}(hr:r<6){h:Int}(hh:h=0\/h∈lv x.S):O4 (H7 x r h):=by
 have l1:lv (C7 x h).S=lv x.S:=(G3 hx.sh.sr h λc=>E0).lv;refine qB hx (λa b=>⟨a.roots (by rw[zao];exact hx.sh.r6) (λv hv=>?_),b⟩) rfl (λ_ _=>rfl) (λk hk=>?_)
 .rw[l1];rcases zak hv with q | q
  .exact hx.sh.rt v q
  .exact q▸hh
 .have hi:=(G3 hx.sh.sr h λc=>E0).jw hx.sh.sr k;rw[tO];unfold po pq;dsimp only;rw[show jw (C7 x h).S k=jw x.S k from hi,L1,L1,tW,tW];have:=vA (l:=x.Roots) (r:=r) (by rw[hx.sh.r6];exact hr) h k;omega
theorem Ij{α:Type}:∀ {l:List α} (hn:l.Nodup) {a:α} (ha:a∈l) (f g:α->Nat) (h:∀x∈l,x≠a->f x=g x),(l.map g).sum+f a=(l.map f).sum+g a
 | [],_,_,ha,_,_,_=>by cases ha
 | b::l,hn,a,ha,f,g,h=>by
  rw[zau] at hn;rw[ww,ww,zca,zca];rcases zL.1 ha with e | e
  .subst e;have:l.map g=l.map f:=zO λx hx=>(h x (zo _ hx) λe=>hn.1 (e▸hx)).symm;rw[this];omega
  .have:=Ij hn.2 e f g λx hx=>h x (zo _ hx);have:=h b (zh ..) λq=>hn.1 (q▸e);omega
abbrev oG(o:p7)(l:List Int):p7:=⟨o.Serial,o.Strong,o.Weak,o.Prog,o.Started,l⟩
theorem Hb{s:a7}(hR:SR s){h:Int}(hh:h∈lv s){o:p7}(hs:o.Serial=(ob s h).Serial)(ho:xQ s o)(y:Int):jw (cL s h o) y+aE (ob s h).Fields y=jw s y+aE o.Fields y:=by
 have hle:=I3 hR hh;have:=Ij (rE (y6.2 hR)) hh (λx=>aE (outs s x) y) (λx=>aE (outs (cL s h o) x) y) λx hx hne=>by
  have:=I3 hR hx;unfold outs;rw[eh hR hh hs ho (by omega),za hne]
 have e:aE (outs (cL s h o) h) y=aE o.Fields y:=by
  unfold outs;rw[eh hR hh hs ho (by omega),zb rfl,tW]
 have e2:aE (outs s h) y=aE (ob s h).Fields y:=tW _ _;rw[e,e2] at this;unfold jw;rw[fH hR hh hs ho];exact this
noncomputable def bS(x:Hp)(h:Int)(k:Nat)(v:Int):Hp:=R8 (wS (C7 x v) (cL (C7 x v).S h (oG (ob (C7 x v).S h) ((ob x.S h).Fields.set k v)))) ((ob x.S h).Fields.getD k 0)
theorem AT{x:Hp}(hx:O4 x){h:Int}(hh:h∈lv x.S){k:Nat}(hk:k<(ob x.S h).Fields.length){v:Int}(hv:v=0\/v∈lv x.S):O4 (bS x h k v):=by
 have xZ:=G3 hx.sh.sr v (f:=W5) λc=>E0;have l1:lv (C7 x v).S=lv x.S:=xZ.lv;have hR1:SR (C7 x v).S:=xZ.sr;have hh1:h∈lv (C7 x v).S:=by rw[l1];exact hh
 have hle:=I3 hx.sh.sr hh;have hof:(ob (C7 x v).S h).Fields=(ob x.S h).Fields:=by
  obtain⟨n,e⟩:=xZ.ob h (by omega);show (ob (sz x v W5).S h).Fields=_;rw[e]
 have ho:xQ (C7 x v).S (oG (ob (C7 x v).S h) ((ob x.S h).Fields.set k v)):=by
  have:=J5 hR1 hh1;refine⟨this.s1,this.s2,this.st,this.wk,this.p1,this.p2,?_⟩;have h4:=this.fl;rw[hof] at h4;simpa using h4
 have hob:∀j,j∈lv x.S->ob (cL (C7 x v).S h (oG (ob (C7 x v).S h) ((ob x.S h).Fields.set k v))) j=if j=h then oG (ob (C7 x v).S h) ((ob x.S h).Fields.set k v) else ob (C7 x v).S j:=λj hj=>by
  have:=I3 hx.sh.sr hj;exact eh (o:=oG (ob (C7 x v).S h) ((ob x.S h).Fields.set k v)) hR1 hh1 rfl ho (by omega)
 refine qB hx (λa b=>⟨?_,?_⟩) (fH (o:=oG (ob (C7 x v).S h) ((ob x.S h).Fields.set k v)) hR1 hh1 rfl ho) (λj hj=>?_) (λj hj=>?_)
 .refine a.of (bw (o:=oG (ob (C7 x v).S h) ((ob x.S h).Fields.set k v)) hR1 hh1 rfl ho) (fH (o:=oG (ob (C7 x v).S h) ((ob x.S h).Fields.set k v)) hR1 hh1 rfl ho) (λj i q=>(FY (o:=oG (ob (C7 x v).S h) ((ob x.S h).Fields.set k v)) hR1 hh1 rfl ho).2 q) (λj hj q=>?_) (λj hj u hu=>?_)
  .rw[hob j (l1▸hj)];split;·rename_i e;subst e;exact q
   .exact q
  .rw[hob j (l1▸hj)] at hu;split at hu
   .rename_i e;subst e;rcases zak hu with q | q
    .exact a.fl j hj u (by rw[hof];exact q)
    .rw[l1,q];exact hv
   .exact a.fl j hj u hu
 .intro i hi ht;dsimp only at hi ht |-;have hp:=A3 hR1 hh1;unfold cL at hi;rw[N8] at hi;have hce:=BX (o:=oG (ob (C7 x v).S h) ((ob x.S h).Fields.set k v)) hR1 hh1 rfl ho i;rw[hce] at ht |-;split at ht
  .rename_i e;subst e;rw[zb rfl];have:=b _ hp.1 (.inl hp.2.1);dsimp only;refine⟨?_,λq=>absurd q (by rw[hp.2.1];decide)⟩;rw[<-this.1,Q2 hR1 hp]
  .rename_i e;rw[za e];exact b i hi ht
 .rw[hob j hj];split;·rename_i e;subst e;rfl
  .rfl
 .have hi:=Hb (o:=oG (ob (C7 x v).S h) ((ob x.S h).Fields.set k v)) hR1 hh1 rfl ho j;have hi2:=xZ.jw hx.sh.sr j;have hi2:jw (C7 x v).S j=jw x.S j:=hi2;rw[hi2,hof] at hi;dsimp only at hi;have:=vA hk v j;have hrest:C7 x v=wS x (C7 x v).S:=tO x v;unfold po pq;dsimp only;rw[show (C7 x v).T=x.T by rw[hrest],show (C7 x v).Roots=x.Roots by rw[hrest],show (C7 x v).Q=x.Q by rw[hrest]];omega
theorem Mw{t:Tb}(hT:HR t){k v:Int}{r:Tb × Int × Int}(h:P9 t k v=some r)(h0:r.2.2=0):HR r.1/\(∀y,own r.1 y+aE [r.2.1] y=own t y+aE [v] y)/\∀k' v',Has r.1 k' v'->Has t k' v'\/(k'=k/\v'=v/\v≠0):=by
 obtain⟨r',e1,e2,_,e3⟩:=FZ hT k v;rw[h] at e1;cases e1;refine⟨e2,?_⟩;have hos:∀(i:Nat) (p:b8) (y:Int),i<t.length->own (t.set i p) y+(if (pt t i).State=1/\(pt t i).Val=y/\y≠0 then 1 else 0)=own t y+if p.State=1/\p.Val=y/\y≠0 then 1 else 0:=λi p y hi=>by
  have key:∀q:b8,(if ((q.State==1)&&((y != 0)&&(q.Val==y)))=true then 1 else 0:Nat)=if q.State=1/\q.Val=y/\y≠0 then 1 else 0:=λq=>by
   by_cases c:q.State=1/\q.Val=y/\y≠0
   .rw[zb c,zb (by simp[c.1,c.2.1,c.2.2])]
   .rw[za c,za (by simp only[zk,we,bne_iff_ne,ne_eq];exact λq=>c ⟨q.1,q.2.2,q.2.1⟩)]
  have:=HA hi p y;rw[key,key] at this;exact this
 rcases e3 with ⟨_,rfl⟩ | ⟨hk,hv,⟨i,hi,rfl⟩ | ⟨hn,rfl⟩⟩ | ⟨hk,hv,⟨i,hi,rfl⟩ | ⟨d,hn,hd,hf,hp,rfl⟩ | ⟨hn,ha,rfl⟩⟩;·simp at h0
 .refine⟨λy=>?_,λk' v' q=>.inl ((vW hT hi k' v').1 q).2⟩;have:=hos i ⟨2,0,0⟩ y hi.1;rw[G7,G7,R5];subst hv;dsimp only at this |-;rw[za (show ¬((2:Int)=1/\(0:Int)=y/\y≠0) by omega)] at this;rw[za (show ¬((0:Int)=y/\y≠0) by omega)];simp only[hi.2.1,true_and] at this;omega
 .refine⟨λy=>?_,λk' v' q=>.inl q⟩;rw[hv]
 .refine⟨λy=>?_,λk' v' q=>?_⟩
  .have:=hos i ⟨1,k,v⟩ y hi.1;rw[G7,G7,R5];simp only[hi.2.1,true_and] at this;dsimp only;omega
  .rcases (BB hT (.old i hi) rfl k' v').1 q with ⟨a,b⟩ | ⟨_,b⟩;·exact .inr ⟨a,b,hv⟩
   .exact .inl b
 .refine⟨λy=>?_,λk' v' q=>?_⟩
  .have:=hos d ⟨1,k,v⟩ y hd;rw[G7,G7,R5];dsimp only;rw[za (show ¬((0:Int)=y/\y≠0) by omega)];simp only[hf,false_and,true_and,zZ] at this;omega
  .rcases (BB hT hp rfl k' v').1 q with ⟨a,b⟩ | ⟨_,b⟩;·exact .inr ⟨a,b,hv⟩
   .exact .inl b
 .simp at h0
noncomputable def jX(x:Hp)(v:Int)(t:Tb)(old:Int):Hp:=R8 (wT (C7 x v) t) old
theorem Dw{x:Hp}(hx:O4 x){k v:Int}(hk:k∈lv x.S)(hv:v=0\/v∈lv x.S){r:Tb × Int × Int}(h:P9 x.T k v=some r)(h0:r.2.2=0):O4 (jX x v r.1 r.2.1):=by
 have xZ:=G3 hx.sh.sr v (f:=W5) λc=>E0;have l1:lv (C7 x v).S=lv x.S:=xZ.lv;obtain⟨p1,p2,p3⟩:=Mw hx.sh.hr h h0;refine qB hx (λa b=>⟨a.table p1 λk' v' q=>?_,b⟩) rfl (λ_ _=>rfl) (λj hj=>?_)
 .rw[l1];rcases p3 k' v' q with q | ⟨rfl,rfl,hne⟩
  .exact hx.sh.pr k' v' q
  .exact⟨hk,hv.resolve_left hne⟩
 .have hi2:jw (C7 x v).S j=jw x.S j:=xZ.jw hx.sh.sr j;have hrest:C7 x v=wS x (C7 x v).S:=tO x v;unfold po pq;dsimp only;rw[show (C7 x v).Roots=x.Roots by rw[hrest],show (C7 x v).Q=x.Q by rw[hrest],hi2];have:=p2 j;omega
instance(s:a7)(h:Int)(i:Nat):Decidable (Z6 s h i):=by unfold Z6;infer_instance
abbrev VK(o:p7)(n:Int):p7:=⟨o.Serial,o.Strong,n,o.Prog,o.Started,o.Fields⟩
def oM(s:a7)(i:Nat)(d:Int):a7:=putAt s i (VK (ce s i).Val ((ce s i).Val.Weak+d))
def yG(s:a7)(i:Nat):a7:=G6 s i (if (ce s i).Gen=s.S.Last then ⟨3,(ce s i).Gen,z0⟩ else ⟨0,(ce s i).Gen+1,z0⟩)
def dF(s:a7)(i:Nat):Int:=1+(i:Int)+32*(ce s i).Gen
theorem GJ{s:a7}{i:Nat}(hi:i<s.S.a8.length)(ht:Th (ce s i)):Z6 s (dF s i) i:=⟨hi,ht,rfl⟩
theorem vf{s:a7}(hR:SR s){i:Nat}(hi:i<s.S.a8.length):1<=dF s i:=by
 have:=hR.cell i hi;unfold dF;omega
section
variable{s:a7}(hR:SR s){i:Nat}(hi:i<s.S.a8.length)(ht:Th (ce s i))
include hR hi ht
theorem wJ{d:Int}(hd:0<=(ce s i).Val.Weak+d):SR (oM s i d):=by
 have:=hR.ok i hi ht;exact hR.put hi ht rfl ⟨this.s1,this.s2,this.st,hd,this.p1,this.p2,this.fl⟩
theorem fC(d:Int)(j:Nat):ce (oM s i d) j=if j=i then ⟨(ce s i).State,(ce s i).Gen,VK (ce s i).Val ((ce s i).Val.Weak+d)⟩ else ce s j:=kZ hi _ j
theorem lH{d:Int}(hd:0<=(ce s i).Val.Weak+d):Kn s (oM s i d):=by
 have hS:=wJ hR hi ht hd;refine⟨hS,N8 ..,LJ hR hi rfl hS,λk j=>va hi _,λk hk=>?_⟩;have q:=A3 hR hk;rw[Q2 hS ((vM hi _).2 q),Q2 hR q,fC hR hi ht];split
 .rename_i e;rw[e];exact⟨_,_,rfl⟩
 .exact⟨_,_,rfl⟩
theorem lI{d:Int}(hd:0<=(ce s i).Val.Weak+d){k:Int}(hk:k∈lv s):(ob (oM s i d) k).Strong=(ob s k).Strong:=by
 have hS:=wJ hR hi ht hd;have q:=A3 hR hk;rw[Q2 hS ((vM hi _).2 q),Q2 hR q,fC hR hi ht];split
 .rename_i e;rw[e]
 .rfl
omit ht in
theorem Bd:SR (yG s i):=by
 have hc:=hR.cell i hi;have no:Iq (oo z0):=⟨rfl,rfl,rfl,rfl,rfl,rfl⟩;unfold yG;split;·exact hR.G6 hi ⟨by simp,by simp,hc.2.2.1,hc.2.2.2⟩ (λ_=>no) (λq=>absurd q (by unfold Th;simp))
 .refine hR.G6 hi ⟨by simp,by simp,?_,?_⟩ (λ_=>no) (λq=>absurd q (by unfold Th;simp));·show 0<=(ce s i).Gen+1;omega
  .show (ce s i).Gen+1<=s.S.Last;omega
omit hR ht in
theorem Ba:∃c,(c.State=0\/c.State=3)/\yG s i=G6 s i c/\∀j,ce (yG s i) j=if j=i then c else ce s j:=by
 unfold yG;split;·exact⟨_,.inr rfl,rfl,λj=>L4 hi _ j⟩
 .exact⟨_,.inl rfl,rfl,λj=>L4 hi _ j⟩
omit ht in
theorem Bb (h2:(ce s i).State=2):lv (yG s i)=lv s:=by
 obtain⟨c,c1,c2,_⟩:=Ba (s:=s) hi;have hS:=Bd hR hi;rw[c2] at hS |-;rw[Hi hR hi (by omega) hS,zbf];intro h hh;rw[zK];intro e;have:=(A3 hR hh).2.1;rw[e] at this;omega
omit ht in
theorem Bc (h2:(ce s i).State=2) {k:Int} (hk:k∈lv s):ob (yG s i) k=ob s k:=by
 obtain⟨c,c1,c2,_⟩:=Ba (s:=s) hi;have hS:=Bd hR hi;rw[c2] at hS |-;refine Ht hR hi hS hk λe=>?_;have:=(A3 hR hk).2.1;rw[e] at this;omega
omit ht in
theorem TI {k:Int} {j:Nat}:Z6 (yG s i) k j↔Z6 s k j/\j≠i:=by
 obtain⟨c,c1,c2,c3⟩:=Ba (s:=s) hi;by_cases e:j=i
 .subst e;constructor
  .rintro⟨_,h,_⟩;rw[c3,zb rfl] at h;unfold Th at h;omega
  .rintro⟨_,h⟩;exact absurd rfl h
 .rw[c2,Kh hi c e];simp[e]
theorem Py(h2:(ce s i).State=2)(y:Int):jw (yG s i) y=jw s y:=by
 unfold jw;rw[Bb hR hi h2];congr 1;refine zO λx hx=>?_;unfold outs;rw[Bc hR hi h2 hx]
end
def jV(x:Hp)(h:Int)(d:Int):Hp:=if Z6 x.S h (D4 h) then wS x (oM x.S (D4 h) d) else x
def od(x:Hp)(h:Int):Hp:=
 if Z6 x.S h (D4 h) then
  (if (ce x.S (D4 h)).State=2/\(ce x.S (D4 h)).Val.Weak=1 then wS x (yG (oM x.S (D4 h) (-1)) (D4 h)) else wS x (oM x.S (D4 h) (-1)))
 else x
abbrev jf(h call:Int):j5:=⟨h,h != 0,call⟩
def sA(x:Hp)(w:Nat):Int:=(x.a8.getD w ⟨0,false,0⟩).Target
def dP(x:Hp)(w:Nat)(h call:Int):Hp:=od (jV (wC x (x.a8.set w (jf h call))) h 1) (sA x w)
theorem PY{l:List j5}{w:Nat}(hw:w<l.length)(c:j5){k:Int}(hk:k≠0):Cy (l.set w c) k+(if l[w].Target=k then 1 else 0)=Cy l k+if c.Target=k then 1 else 0:=by
 unfold Cy;rw[List.countP_set hw];have e:∀d:j5,(((k != 0)&&(d.Target==k))=true)=(d.Target=k):=λd=>by simp[hk]
 simp only[e];have:(if l[w].Target=k then 1 else 0)<=l.countP λc=>(k != 0)&&(c.Target==k):=by
  split
  .rename_i q;exact zbu.2 ⟨l[w],zl hw,by simp[q,hk]⟩
  .exact ut _
 omega
theorem rJ{l:List j5}{i:Nat}(hi:i<l.length)(h0:l[i].Target≠0):0<Cy l l[i].Target:=zbu.2 ⟨l[i],zl hi,by simp[h0]⟩
theorem El{x:Hp}(hx:O4 x){w:Nat}(hw:w<6){h call:Int}(hh:h=0\/h∈lv x.S)(hc : -1<=call/\call<=5)(hq:JL x.Q w=false):O4 (dP x w h call):=by
 have hR:=hx.sh.sr;have hwl:w<x.a8.length:=by rw[hx.sh.c6];exact hw
 have htg:sA x w=x.a8[w].Target:=by
  unfold sA;rw[zf,zc hwl];rfl
 have s1:mP (wC x (x.a8.set w (jf h call))):=by
  have:=hx.sh;refine⟨this.sr,this.hr,this.r6,by simpa using this.c6,this.cap,this.q30,this.tk,this.td,this.rt,this.fl,this.pr,λi hi=>?_⟩;dsimp only at hi |-;rw[zb7];rw[zao] at hi;split
  .rename_i e;subst e;dsimp only;refine⟨hc.1,hc.2,λq=>by simp[q],λq=>?_,λq=>?_⟩;·exact⟨_,(A3 hR (hh.resolve_left q)).d⟩
   .have q:h≠0:=by simpa using q
    exact⟨hh.resolve_left q,hq⟩
  .exact this.cl i hi
 have k2:∃s2,jV (wC x (x.a8.set w (jf h call))) h 1=wS (wC x (x.a8.set w (jf h call))) s2/\Kn x.S s2/\(∀k∈lv x.S,(ob s2 k).Strong=(ob x.S k).Strong) /\
   ∀i,i<x.S.S.a8.length->(ce s2 i).State=(ce x.S i).State/\(ce s2 i).Gen=(ce x.S i).Gen/\(ce s2 i).Val.Fields=(ce x.S i).Val.Fields/\(ce s2 i).Val.Strong=(ce x.S i).Val.Strong/\(Th (ce x.S i)->(ce s2 i).Val.Weak=(ce x.S i).Val.Weak+if h=dF x.S i then 1 else 0):=by
  unfold jV;rcases hh with h0 | hh
  .have hno:¬Z6 x.S h (D4 h):=λq=>by have:=q.MQ hR;omega
   rw[za hno];refine⟨x.S,rfl,(uC.refl hR).kn hR,λ_ _=>rfl,λi hi=>⟨rfl,rfl,rfl,rfl,λht=>?_⟩⟩;have:=vf hR hi;rw[za (by omega)];omega
  .have hp:=A3 hR hh;have hwk:=(hR.ok _ hp.1 (.inl hp.2.1)).wk;rw[zb hp.d];refine⟨_,rfl,lH hR hp.1 (.inl hp.2.1) (by omega),λk hk=>lI hR hp.1 (.inl hp.2.1) (by omega) hk,λi hi=>?_⟩;rw[fC hR hp.1 (.inl hp.2.1)];split
   .rename_i e;subst e;refine⟨rfl,rfl,rfl,rfl,λ_=>?_⟩;rw[zb (show h=dF x.S (D4 h) from hp.2.2)]
   .rename_i e;refine⟨rfl,rfl,rfl,rfl,λht=>?_⟩;rw[za];·omega
    .intro q;exact e (Z6.one hR (q▸GJ hi ht) hp.d)
 obtain⟨s2,e2,kn2,st2,ce2⟩:=k2;have hR2:=kn2.sr;have len2:=kn2.len;have hS2:mP (wS (wC x (x.a8.set w (jf h call))) s2):=s1.kn kn2;have hdl2:∀i,i<x.S.S.a8.length->dF s2 i=dF x.S i:=λi hi=>by unfold dF;rw[(ce2 i hi).2.1]
 have th2:∀i,i<x.S.S.a8.length->(Th (ce s2 i)↔Th (ce x.S i)):=λi hi=>by unfold Th;rw[(ce2 i hi).1]
 have wk2:∀i,i<x.S.S.a8.length->Th (ce x.S i)->(ce s2 i).Val.Weak=(Cy (x.a8.set w (jf h call)) (dF x.S i):Int)+if sA x w=dF x.S i then 1 else 0:=λi hi ht=>by
  have h0:dF x.S i≠0:=by have:=vf hR hi;omega
  have:=PY hwl (jf h call) h0;rw[(ce2 i hi).2.2.2.2 ht,(hx.wk i hi ht).1,htg];dsimp only at this;unfold dF at this |-;by_cases a:h=1+(i:Int)+32*(ce x.S i).Gen <;> by_cases b:x.a8[w].Target=1+(i:Int)+32*(ce x.S i).Gen
  .rw[zb a,zb b] at *;omega
  .rw[zb a,za b] at *;omega
  .rw[za a,zb b] at *;omega
  .rw[za a,za b] at *;omega
 have dd2:∀i,i<x.S.S.a8.length->(ce s2 i).State=2->(ce s2 i).Val.Fields = []/\(ce s2 i).Val.Strong=0:=λi hi q=>by
  obtain⟨a,_,b,c,_⟩:=ce2 i hi;rw[a] at q;rw[b,c];exact ((hx.wk i hi (.inr q)).2 q).2
 have nms2:∀k,po (wS (wC x (x.a8.set w (jf h call))) s2) k=po x k:=λk=>by
  unfold po pq;dsimp only;rw[kn2.jw]
 have fair2:ck (wS (wC x (x.a8.set w (jf h call))) s2) []:=hx.fair.mv kn2.lv st2 λk _=>by rw[nms2]
 unfold dP;rw[e2];unfold od;dsimp only;by_cases hold:sA x w=0
 .have hno:¬Z6 s2 (sA x w) (D4 (sA x w)):=λq=>by have:=q.MQ hR2;omega
  rw[za hno];refine⟨hS2,λi hi ht=>?_,fair2⟩;dsimp only at hi ht |-;rw[len2] at hi;have ht':=(th2 i hi).1 ht;have h0:=vf hR hi;have hw2:=wk2 i hi ht';rw[za (by omega)] at hw2;rw[show (1+(i:Int)+32*(ce s2 i).Gen)=dF x.S i from hdl2 i hi];refine⟨by omega,λq=>⟨?_,dd2 i hi q⟩⟩;have q':(ce x.S i).State=2:=by rw[<-(ce2 i hi).1];exact q
  have:=((hx.wk i hi ht').2 q').1;rw[(ce2 i hi).2.2.2.2 ht'];split <;> omega
 .obtain⟨p,hp⟩:∃p,Z6 x.S (sA x w) p:=by
   rw[htg] at hold |-;exact (hx.sh.cl w hwl).2.2.2.1 hold
  have hpp:=hp.D4 hR;have hp2:Z6 s2 (sA x w) p:=(kn2.ad _ _).2 hp;have hth:sA x w=dF x.S p:=hp.2.2;rw[hpp,zb hp2];have hpl2:=hp2.1;have hw2:=wk2 p hp.1 hp.2.1;rw[zb hth] at hw2;have hd:0<=(ce s2 p).Val.Weak+(-1):=by omega
  have kn3:=lH hR2 hpl2 hp2.2.1 hd;have hR3:=kn3.sr;have ce3:=fC hR2 hpl2 hp2.2.1 (-1);have hS3:mP (wS (wC x (x.a8.set w (jf h call))) (oM s2 p (-1))):=hS2.kn kn3;have fair3:ck (wS (wC x (x.a8.set w (jf h call))) (oM s2 p (-1))) []:=fair2.mv kn3.lv (λk hk=>lI hR2 hpl2 hp2.2.1 hd hk) λk _=>by
   unfold po pq;dsimp only;rw[kn3.jw]
  have wk3:∀i,i<x.S.S.a8.length->Th (ce x.S i)->(ce (oM s2 p (-1)) i).Val.Weak=(Cy (x.a8.set w (jf h call)) (dF x.S i):Int):=λi hi ht=>by
   rw[ce3];by_cases e:i=p
   .subst e;rw[zb rfl];dsimp only;omega
   .rw[za e,wk2 i hi ht,za];·omega
    .intro q;exact e (Z6.one hR (q▸GJ hi ht) hp)
  have cs3:∀i,(ce (oM s2 p (-1)) i).State=(ce s2 i).State/\(ce (oM s2 p (-1)) i).Gen=(ce s2 i).Gen/\(ce (oM s2 p (-1)) i).Val.Fields=(ce s2 i).Val.Fields/\(ce (oM s2 p (-1)) i).Val.Strong=(ce s2 i).Val.Strong:=λi=>by
   rw[ce3];split
   .rename_i e;subst e;exact⟨rfl,rfl,rfl,rfl⟩
   .exact⟨rfl,rfl,rfl,rfl⟩
  by_cases hg:(ce s2 p).State=2/\(ce s2 p).Val.Weak=1
  .-- the slot is given back
   rw[zb hg];have hpl3:p<(oM s2 p (-1)).S.a8.length:=by rw[kn3.len];exact hpl2
   have h23:(ce (oM s2 p (-1)) p).State=2:=by rw[(cs3 p).1];exact hg.1
   have hn0:Cy (x.a8.set w (jf h call)) (sA x w)=0:=by rw[hth];omega
   have hlv:=Bb hR3 hpl3 h23;have hob:=λk hk=>Bc (k:=k) hR3 hpl3 h23 hk;obtain⟨c,c1,c2,c3⟩:=Ba (s:=oM s2 p (-1)) hpl3;refine⟨⟨Bd hR3 hpl3,hS3.hr,hS3.r6,hS3.c6,hS3.cap,hS3.q30,λt htt=>?_,hS3.td,λv hv=>?_,λv hv u hu=>?_,λk v hkv=>?_,λi hi=>?_⟩,λi hi ht=>?_,?_⟩
   .obtain⟨a,b,d⟩:=hS3.tk t htt;refine⟨a,b,?_⟩;dsimp only at d |-;rw[hlv];rcases d with ⟨d1,d2,d3⟩ | d;·exact .inl ⟨d1,d2,by rw[hob _ d2];exact d3⟩
    .exact .inr d
   .dsimp only;rw[hlv];exact hS3.rt v hv
   .dsimp only at hv hu |-;rw[hlv] at hv |-;rw[hob _ hv] at hu;exact hS3.fl v hv u hu
   .dsimp only;rw[hlv];exact hS3.pr k v hkv
   .obtain⟨a1,a2,a3,a4,a5⟩:=hS3.cl i hi;refine⟨a1,a2,a3,λq=>?_,λq=>?_⟩
    .obtain⟨j,hj⟩:=a4 q;refine⟨j,(TI hR3 hpl3).2 ⟨hj,λe=>?_⟩⟩;subst e;have e1:=(kn2.ad _ _).1 ((kn3.ad _ _).1 hj);have e2:(x.a8.set w (jf h call))[i].Target=sA x w:=e1.2.2.trans hp.2.2.symm;have:=rJ hi q;dsimp only at this;rw[e2] at this;omega
    .dsimp only;rw[hlv];exact a5 q
   .dsimp only at hi ht |-;rw[show (yG (oM s2 p (-1)) p).S.a8.length=x.S.S.a8.length by rw[c2,Z5,kn3.len,len2]] at hi;rw[c3] at ht |-;split at ht;·unfold Th at ht;omega
    .rename_i e;rw[za e];have ht':Th (ce x.S i):=(th2 i hi).1 (by unfold Th at ht |-;rw[(cs3 i).1] at ht;exact ht);have:=wk3 i hi ht';rw[show (1+(i:Int)+32*(ce (oM s2 p (-1)) i).Gen)=dF x.S i by rw[(cs3 i).2.1];exact hdl2 i hi];refine⟨this,λq=>?_⟩;rw[(cs3 i).1] at q;rw[(cs3 i).2.2.1,(cs3 i).2.2.2,ce3,za e];refine⟨?_,dd2 i hi q⟩;have q':(ce x.S i).State=2:=by rw[<-(ce2 i hi).1];exact q
     have:=((hx.wk i hi ht').2 q').1;rw[(ce2 i hi).2.2.2.2 ht'];split <;> omega
   .refine fair3.mv hlv (λk hk=>by rw[hob k hk]) λk _=>?_;unfold po pq;dsimp only;rw[Py hR3 hpl3 (.inr h23) h23]
  .rw[za hg];refine⟨hS3,λi hi ht=>?_,fair3⟩;dsimp only at hi ht |-;rw[kn3.len,len2] at hi;have ht':Th (ce x.S i):=(th2 i hi).1 (by unfold Th at ht |-;rw[(cs3 i).1] at ht;exact ht);have:=wk3 i hi ht';rw[show (1+(i:Int)+32*(ce (oM s2 p (-1)) i).Gen)=dF x.S i by rw[(cs3 i).2.1];exact hdl2 i hi];refine⟨this,λq=>?_⟩;rw[(cs3 i).1] at q;rw[(cs3 i).2.2.1,(cs3 i).2.2.2];refine⟨?_,dd2 i hi q⟩;rw[ce3];split
   .rename_i e;subst e;dsimp only;have:(ce s2 i).Val.Weak≠1:=λq2=>hg ⟨q,q2⟩;omega
   .have q':(ce x.S i).State=2:=by rw[<-(ce2 i hi).1];exact q
    have:=((hx.wk i hi ht').2 q').1;rw[(ce2 i hi).2.2.2.2 ht'];split <;> omega
def qG(c:j5):H5:=⟨c.Target,c.Intact,c.Call⟩
def hO(x:Hp):o6:=⟨sO x.S,x.Roots,x.a8.map qG,x.T.map S9,Ck x.Q⟩
structure HB (x:Hp):Prop where
 sb:SB x.S
 fb:FB x.S
 rb:LB x.Roots
 cb:∀c∈x.a8,c.Target<=9223372036854775807
 tb:TB x.T
 qb:∀t∈x.Q.L,t.At<=9223372036854775807
theorem LI{β:Type}{b:Nat}{f:Int × List β->Option ((Int × List β) ⊕ List β)}(n:Nat)(g:Nat->β)(hb:0<b)(h:n*b<=140737488355328)
  (hs:∀(k:Nat) acc,k<n->f ((k:Int),acc)=(app b acc [g k]).bind λv=>some (.inl (z6 ((k:Int)+1),v)))(he:∀acc,f ((n:Int),acc)=some (.inr acc)):lp f (0,[])=some ((List.range n).map g):=by
 have hl:n*1<=n*b:=Nat.mul_le_mul_left _ hb;refine eN (fB n (λk l=>l=(List.range k).map g) (λe=>e=(List.range n).map g) (by omega) (by simp) ?_ ?_)
 .rintro k l hk rfl;have h3:(k+1)*b<=n*b:=zn _ hk;refine .inl ⟨(List.range (k+1)).map g,?_,rfl⟩;rw[hs k _ hk,C4 hb (by simp;omega),YK,o9,List.range_succ,zaf];rfl
 .rintro l rfl;exact⟨_,he _,rfl⟩
theorem Nd{s:a7}(hR:SR s){h:Int}(hh:h∈lv s):cL s h (ob s h)=s:=by
 have q:=A3 hR hh;unfold cL putAt;rw[Q2 hR q];have e:s.S.a8.set (D4 h) ⟨(ce s (D4 h)).State,(ce s (D4 h)).Gen,(ce s (D4 h)).Val⟩=s.S.a8:=by
  rw[show (⟨(ce s (D4 h)).State,(ce s (D4 h)).Gen,(ce s (D4 h)).Val⟩:b7)=ce s (D4 h) from rfl,F1 q.1];exact List.set_getElem_self q.1
 rw[e]
section
variable{x:Hp}(hR:SR x.S)
include hR
theorem Lw{h:Int}(hh:h<=9223372036854775807):iQ x h=some (decide (h∈lv x.S)):=by
 unfold iQ;obtain⟨e,h1,h2⟩:=aI (y6.2 hR) hh;rw[h1,YK];congr 1;rw[zbs,we,zK,h2]
theorem vi{h:Int}(hh:h<=9223372036854775807):gr (hO x) h=some (decide (h∈lv x.S)):=by
 unfold gr;obtain⟨e,h1,h2⟩:=aI (y6.2 hR) hh;rw[show (hO x).S=sO x.S from rfl,rk x.S (by have:=hR.len;omega) hh,h1,wl,YK];congr 1;rw[zbs,we,zK,h2]
theorem dY{h:Int}(hh:h<=9223372036854775807):L6 x h=some (decide (h=0\/h∈lv x.S)):=by
 unfold L6;by_cases q:h=0
 .subst q;simp[z8]
 .have e:(h==0)=false:=by simpa using q
  rw[e];simp only[pi,fM,zbq];rw[Lw hR hh,YK];simp[q]
theorem vk{h:Int}(hh:h<=9223372036854775807):gu (hO x) h=some (decide (h=0\/h∈lv x.S)):=by
 unfold gu;by_cases q:h=0
 .subst q;simp[z8]
 .have e:(h==0)=false:=by simpa using q
  rw[e];simp only[pi,fM,zbq];rw[vi hR hh,YK];simp[q]
theorem TT{c:Int}(hc:c<=9223372036854775807):oy c=some (W5 c):=by
 unfold oy gC G2 W5;simp only[YK];by_cases q:12<=c
 .rw[zb (by simpa using q),zb q,YK]
 .rw[za (by simpa using q),za q,YK];by_cases q2:c<0
  .rw[zb (show 0 > c from q2),zb q2];rfl
  .rw[za (show ¬0 > c from q2),za q2,F9 (by omega) (by omega)]
theorem CZ{c:Int}(hc:c<=9223372036854775807):vq c=some (W5 c):=by
 unfold vq kc W5;simp only[YK];by_cases q:12<=c
 .rw[zb (by simpa using q),zb q]
 .rw[za (by simpa using q),za q];by_cases q2:c<0
  .rw[zb (by simpa using q2),zb q2]
  .rw[za (by simpa using q2),za q2,F9 (by omega) (by omega)]
omit hR in
theorem MF {s:a7} (hR:SR s) {h:Int} (hh:h∈lv s) {n:Int} (hn:0<=n):K8 s h (Ak (ob s h) n)=some (cL s h (Ak (ob s h) n),0):=by
 have:=J5 hR hh;exact sw (o:=Ak (ob s h) n) hR hh rfl ⟨this.s1,this.s2,hn,this.wk,this.p1,this.p2,this.fl⟩
omit hR in
theorem sx {s:a7} (hR:SR s) {h:Int} (hh:h∈lv s) {o:p7} (hs:o.Serial=(ob s h).Serial) (ho:xQ s o):P5 (sO s) h (oo o)=some (sO (cL s h o),0):=by
 have:=I3 hR hh;rw[Ni s hR.len (by omega) o,sw hR hh hs ho];rfl
theorem kl{h:Int}(hh:h<=9223372036854775807)(hB:∀k∈lv x.S,(ob x.S k).Strong<=9223372036854775807):aK x h=some (C7 x h):=by
 unfold aK W3 C7 sz;obtain⟨e,h1,h2⟩:=aI (y6.2 hR) hh;rw[h1,YK];by_cases q:h∈lv x.S
 .have e0:=h2.2 q;subst e0;rw[zb q,TT hR (hB h q)];simp only[pi,zR,YK];have:=MF hR q (E0 (J5 hR q).st);rw[this];rfl
 .have:(e==0)=false:=by simpa using λc=>q (h2.1 c)
  rw[this,za q];rfl
theorem sf{h:Int}(hh:h<=9223372036854775807)(hB:∀k∈lv x.S,(ob x.S k).Strong<=9223372036854775807):ca (hO x) h=some (hO (C7 x h)):=by
 unfold ca lT C7 sz;obtain⟨e,h1,h2⟩:=aI (y6.2 hR) hh;have hg:M1 (hO x).S h=some (oo (ob x.S h),e):=by
  rw[show (hO x).S=sO x.S from rfl,rk x.S (by have:=hR.len;omega) hh,h1];rfl
 rw[hg,YK];by_cases q:h∈lv x.S
 .have e0:=h2.2 q;subst e0;have hs:vq (oo (ob x.S h),(0:Int)).1.Strong=some (W5 (ob x.S h).Strong):=CZ hR (hB h q);rw[zb q,hs,YK];simp only[YK,za0,zm,zZ];have ok:=J5 hR q;have:=sx (o:=Ak (ob x.S h) (W5 (ob x.S h).Strong)) hR q rfl ⟨ok.s1,ok.s2,E0 ok.st,ok.wk,ok.p1,ok.p2,ok.fl⟩;rw[show P5 (hO x).S h ⟨(oo (ob x.S h)).Serial,W5 (ob x.S h).Strong,(oo (ob x.S h)).Weak,(oo (ob x.S h)).Prog,(oo (ob x.S h)).Started,(oo (ob x.S h)).Fields⟩=_ from this];rfl
 .have he:(e != 0)=true:=by simpa using λc=>q (h2.1 c)
  have hb:(oo (ob x.S h)).Strong<=9223372036854775807:=by
   rw[pQ (y6.2 hR) hh q];decide
  rw[CZ hR hb,YK,YK];simp only[he,zR];rw[za q];rfl
omit hR in
theorem Tk (c:Int) (h1 : -1000000<=c):dd c=some (jI c):=by
 unfold dd sU dV G2 jI;simp only[YK];by_cases q:12<=c
 .rw[zb (by simpa using q),zb q];rfl
 .rw[za (by simpa using q),za q];by_cases q2:c<1
  .rw[zb (by simpa using q2),zb q2];rfl
  .rw[za (by simpa using q2),za q2,F9 (by omega) (by omega)];rfl
theorem ee{h:Int}(hh:h<=9223372036854775807):C9 x h=some (R8 x h):=by
 unfold C9 O0 R8 sz;obtain⟨e,h1,h2⟩:=aI (y6.2 hR) hh;rw[h1,YK];by_cases q:h∈lv x.S
 .have e0:=h2.2 q;subst e0;have ok:=J5 hR q;rw[zb q,Tk _ (by have:=ok.st;dsimp only;omega)];simp only[pi,zR,YK];have:=MF hR q (P3 ok.st);rw[this];rfl
 .have:(e==0)=false:=by simpa using λc=>q (h2.1 c)
  rw[this,za q];rfl
theorem oU{h:Int}(hh:h<=9223372036854775807):J3 (hO x) h=some (hO (R8 x h)):=by
 unfold J3 lT R8 sz;obtain⟨e,h1,h2⟩:=aI (y6.2 hR) hh;have hg:M1 (hO x).S h=some (oo (ob x.S h),e):=by
  rw[show (hO x).S=sO x.S from rfl,rk x.S (by have:=hR.len;omega) hh,h1];rfl
 rw[hg,YK];by_cases q:h∈lv x.S
 .have e0:=h2.2 q;subst e0;have ok:=J5 hR q;have put:∀n,0<=n->P5 (hO x).S h ⟨(oo (ob x.S h)).Serial,n,(oo (ob x.S h)).Weak,(oo (ob x.S h)).Prog,(oo (ob x.S h)).Started,(oo (ob x.S h)).Fields⟩=some (sO (cL x.S h (Ak (ob x.S h) n)),0):=λn hn=>
   sx (o:=Ak (ob x.S h) n) hR q rfl ⟨ok.s1,ok.s2,hn,ok.wk,ok.p1,ok.p2,ok.fl⟩
  have hs:(oo (ob x.S h)).Strong=(ob x.S h).Strong:=rfl;rw[zb q];unfold BE kc jI;simp only[YK,hs];by_cases q1:12<=(ob x.S h).Strong
  .rw[zb (by simpa using q1),zb q1];simp only[YK,za0,zm,zZ];rw[put 12 (by decide)];rfl
  .rw[za (by simpa using q1),za q1];by_cases q2:(ob x.S h).Strong<1
   .rw[zb (by simpa using q2),zb q2];simp only[YK,show ((11:Int) != 0)=true from rfl,zR];rw[show Ak (ob x.S h) (ob x.S h).Strong=ob x.S h from rfl,Nd hR q]
   .rw[za (by simpa using q2),za q2,F9 (by omega) (by have:=ok.st;omega)];simp only[YK,za0,zm,zZ];rw[put _ (by omega)];rfl
 .have he:(e != 0)=true:=by simpa using λc=>q (h2.1 c)
  rw[za q,pQ (y6.2 hR) hh q];unfold BE kc;simp only[YK];rfl
end
theorem JF{x:Hp}(hR:SR x.S)(hB:SB x.S):∀k∈lv x.S,(ob x.S k).Strong<=9223372036854775807:=λk hk=>(Al (y6.2 hR) hB hk).2
end Go.Sh
