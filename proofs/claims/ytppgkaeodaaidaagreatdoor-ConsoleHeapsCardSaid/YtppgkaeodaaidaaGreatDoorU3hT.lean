/- A part. -/
import Derived.Test.YtppgkaeodaaidaaGreatDoorU3hSh1
import Derived.Test.YtppgkaeodaaidaaGreatDoorU3hPwE
import Derived.Test.YtppgkaeodaaidaaGreatDoorU3hSh
set_option linter.unusedVariables false
set_option linter.unusedSimpArgs false
set_option linter.unusedSectionVars false
namespace Go.Sh
theorem kR(s:ByteArray):(Y9 s).length=s.size:=by simp
theorem ax(l:List UInt8):Y9 (r9 l)=l:=by simp
theorem OT(s:ByteArray):r9 (Y9 s)=s:=by cases s;simp
theorem Y8(l:List UInt8):(r9 l).size=l.length:=by simp[ByteArray.size]
theorem GR{s:ByteArray}{p:Nat}{b:UInt8}(h:(Y9 s)[p]? = some b):s.get! p=b/\p<s.size:=by
 obtain⟨h1,h2⟩:=zx.1 h;have h3:p<s.size:=by simpa using h1
 refine⟨?_,h3⟩;rw[<-h2];simp[ByteArray.get!,h3,getElem!_pos]
theorem qH{s:ByteArray}{p:Nat}(h:p<s.size):(Y9 s)[p]? = some (s.get! p):=by
 have h1:p<(Y9 s).length:=by simpa using h
 rw[zc h1];simp[ByteArray.get!,h,getElem!_pos]
theorem EH{s:ByteArray}{p:Nat}{b:UInt8}(hp:(Y9 s)[p]? = some b)(h:b.toNat<128):dec s p=(b.toNat,1):=by
 have h0:=(GR hp).1;show Go.Utf8.decode s p=_;unfold Go.Utf8.decode;simp only[zaf,h0];rw[zb h]
theorem KA{s:ByteArray}{p:Nat}{b:UInt8}(hp:(Y9 s)[p]? = some b)(h:128<=b.toNat) :
  128<=(dec s p).1/\1<=(dec s p).2/\∀i,i<(dec s p).2->∃c,(Y9 s)[p+i]? = some c/\128<=c.toNat:=by
 obtain⟨h0,hs⟩:=GR hp;have one:∀i,i<1->∃c,(Y9 s)[p+i]? = some c/\128<=c.toNat:=λi hi=>by
  obtain rfl:i=0:=by omega
  exact⟨b,hp,h⟩
 have at_:∀k,(decide (p+k<s.size)&&(s.get! (p+k)).toNat / 64==2)=true->∃c,(Y9 s)[p+k]? = some c/\128<=c.toNat:=λk hk=>by
  simp only[zk,t6,wf] at hk;exact⟨_,qH hk.1,by omega⟩
 show 128<=(Go.Utf8.decode s p).1/\1<=(Go.Utf8.decode s p).2/\∀i,i<(Go.Utf8.decode s p).2->_;unfold Go.Utf8.decode;simp only[zaf,h0];rw[za (by omega)];split
 .rename_i q;split
  .rename_i q2;refine⟨q2,by simp,λi hi=>?_⟩;have q:=(zk _ _▸q).2;have:i=0\/i=1:=by simp at hi;omega
   rcases this with rfl | rfl
   .exact⟨b,hp,h⟩
   .exact at_ 1 q
  .exact⟨by simp[Go.Utf8.runeError],by simp,one⟩
 split
 .rename_i q;split
  .rename_i q2;simp only[zk] at q;refine⟨?_,by simp,λi hi=>?_⟩
   .simp only[zk,t6] at q2;show 128<=_;omega
   have:i=0\/i=1\/i=2:=by simp at hi;omega
   rcases this with rfl | rfl | rfl
   .exact⟨b,hp,h⟩
   .exact at_ 1 (by rw[zk];exact q.1.2)
   .exact at_ 2 (by rw[zk];exact q.2)
  .exact⟨by simp[Go.Utf8.runeError],by simp,one⟩
 split
 .rename_i q;split
  .rename_i q2;simp only[zk] at q;refine⟨?_,by simp,λi hi=>?_⟩
   .simp only[zk,t6] at q2;show 128<=_;omega
   have:i=0\/i=1\/i=2\/i=3:=by simp at hi;omega
   rcases this with rfl | rfl | rfl | rfl
   .exact⟨b,hp,h⟩
   .exact at_ 1 (by rw[zk];exact q.1.1.2)
   .exact at_ 2 (by rw[zk];exact q.1.2)
   .exact at_ 3 (by rw[zk];exact q.2)
  .exact⟨by simp[Go.Utf8.runeError],by simp,one⟩
 .exact⟨by simp[Go.Utf8.runeError],by simp,one⟩
def NS(b:UInt8):Bool:=decide (48<=b.toNat)&&decide (b.toNat<=57)
def uM(l:List UInt8):Int:=l.foldl (λn b=>n*10+((b.toNat:Int)-48)) 0
theorem Ah(l:List UInt8)(b:UInt8):uM (l ++ [b])=uM l*10+((b.toNat:Int)-48):=by
 unfold uM;rw[za0];rfl
theorem Rg(l:List UInt8)(h:∀b∈l,NS b=true):0<=uM l/\uM l<10 ^ l.length:=by
 generalize hn:l.length=n;induction n generalizing l with
 | zero=>
  obtain rfl:=zG hn;exact⟨by decide,by decide⟩
 | succ n ih=>
  have hne:l ≠ []:=λe=>by rw[e] at hn;cases hn
  rw[<-List.dropLast_concat_getLast hne,Ah];have h1:=ih l.dropLast (λb hb=>h b (List.dropLast_subset _ hb)) (by simp[hn]);have h2:=h _ (List.getLast_mem hne);unfold NS at h2;simp only[zk,t6] at h2;have:(10:Int) ^ (n+1)=10 ^ n*10:=rfl;omega
def Bl(l:List UInt8):Option Int:=if 1<=l.length/\l.length<=9/\l.all NS=true then some (uM l) else none
def xW(l:List UInt8):Int × Bool:=match l with
 | []=>(0,false)
 | b::r=>if b=45 then (match Bl r with
  | some n=>(-n,true)
  | none=>(0,false)) else (match Bl (b::r) with
  | some n=>(n,true)
  | none=>(0,false))
theorem Yu{k:Nat}(h:k<=9):(10:Int) ^ k<=1000000000:=by
 have:k=0\/k=1\/k=2\/k=3\/k=4\/k=5\/k=6\/k=7\/k=8\/k=9:=by omega
 rcases this with rfl | rfl | rfl | rfl | rfl | rfl | rfl | rfl | rfl | rfl <;> decide
theorem Ta{s:ByteArray}{p:Nat}(h:p<s.size):∃b,(Y9 s)[p]? = some b/\((dec s p).1<128->(dec s p).1=b.toNat/\(dec s p).2=1)/\(b.toNat<128->(dec s p).1=b.toNat)/\1<=(dec s p).2:=by
 refine⟨_,qH h,?_⟩;rcases zB (s.get! p).toNat 128 with q | q
 .rw[EH (qH h) q];exact⟨λ_=>⟨rfl,rfl⟩,λ_=>rfl,zq _⟩
 .obtain⟨h1,h2,_⟩:=KA (qH h) q;exact⟨λq2=>by omega,λq2=>by omega,h2⟩
theorem DZ{b:UInt8}{n:Nat}(hn:n<256):b=UInt8.ofNat n↔b.toNat=n:=by
 constructor
 .rintro rfl;simp[zcd hn]
 .intro h;apply UInt8.toNat_inj.1;rw[h];simp[zcd hn]
def Xk(l:List UInt8)(d:Nat)(sg:Int):Prop:=(d=0/\sg=1/\l[0]? ≠ some 45)\/(d=1/\sg = -1/\l[0]? = some 45)
theorem wE{l:List UInt8}{d:Nat}{sg:Int}(h:Xk l d sg):xW l=match Bl (l.drop d) with
  | some n=>(sg*n,true)
  | none=>(0,false):=by
 cases l with
 | nil=>
  rcases h with ⟨rfl,rfl,h⟩ | ⟨_,_,h⟩;·rfl
  .cases h
 | cons b r=>
  rcases h with ⟨rfl,rfl,h⟩ | ⟨rfl,rfl,h⟩
  .have:b≠45:=λe=>h (by rw[e];rfl);unfold xW;simp only[za this,List.drop_zero];cases Bl (b::r);·rfl
   .simp only[Int.one_mul]
  .have:b=45:=u8 h;unfold xW;simp only[zb this,List.drop_succ_cons,List.drop_zero];cases Bl r;·rfl
   .simp only[Int.neg_mul,Int.one_mul]
theorem GX(b:UInt8):NS b=true↔48<=b.toNat/\b.toNat<=57:=by
 unfold NS;rw[zk,zF,zF]
theorem No{l:List UInt8}{k:Nat}{b:UInt8}(h:l[k]? = some b):l.take (k+1)=l.take k ++ [b]:=by
 obtain⟨h1,h2⟩:=zx.1 h;rw[zu h1,h2]
structure JH (l:List UInt8) (d k:Nat):Prop where
 k9:k<=9
 le:d+k<=l.length
 all:∀b∈(l.drop d).take k,NS b=true
theorem JH.len{l:List UInt8}{d k:Nat}(h:JH l d k):((l.drop d).take k).length=k:=by
 have:=h.le;simp;omega
theorem JH.bd{l:List UInt8}{d k:Nat}(h:JH l d k):0<=uM ((l.drop d).take k)/\uM ((l.drop d).take k)<1000000000:=by
 have h1:=Rg _ h.all;rw[h.len] at h1;have h2:=Yu h.k9;omega
theorem JH.up{l:List UInt8}{d k:Nat}(h:JH l d k){b:UInt8}(hb:l[d+k]? = some b)(hD:NS b=true)(h9:k≠9):JH l d (k+1)/\(l.drop d).take (k+1)=(l.drop d).take k ++ [b]:=by
 have h1:=(zx.1 hb).1;have e:(l.drop d)[k]? = some b:=by rw[sm];exact hb
 have e:=No e;refine⟨⟨by have:=h.k9;omega,by omega,λc hc=>?_⟩,e⟩;rw[e] at hc;rcases zw.1 hc with q | q
 .exact h.all c q
 .rw[zH.1 q];exact hD
theorem JH.no{l:List UInt8}{d k:Nat}(h:JH l d k){b:UInt8}(hb:l[d+k]? = some b)(hD:NS b=false\/k=9):Bl (l.drop d)=none:=by
 have h1:=(zx.1 hb).1;unfold Bl;rw[za];rintro⟨_,h9,ha⟩;rw[zcf] at h9;rcases hD with q | q
 .have e:(l.drop d)[k]? = some b:=by rw[sm];exact hb
  rw[zd.1 ha b (zg e)] at q;cases q
 .omega
theorem JH.yes{l:List UInt8}{d k:Nat}(h:JH l d k)(he:d+k=l.length)(hk:k≠0):Bl (l.drop d)=some (uM ((l.drop d).take k)):=by
 have:(l.drop d).take k=l.drop d:=zao (by simp;omega);have ha:=h.all;rw[this] at ha |-;unfold Bl;have:=h.k9;rw[zb ⟨by simp;omega,by simp;omega,zd.2 ha⟩]
theorem XH(s:ByteArray)(hs:s.size<1000000000):aG s=some (xW (Y9 s)):=by
 have hl:=kR s;generalize hL:Y9 s=l at hl;unfold aG;simp only[jn];refine Bj (λ(x:Int × Int × Int × Nat)=>∃d k,x.1=uM ((l.drop d).take k)/\x.2.1=(k:Int)/\x.2.2.2=d+k/\JH l d k/\(Xk l d x.2.2.1\/d=0/\k=0/\x.2.2.1=1)) (λx=>s.size-x.2.2.2) ⟨0,0,rfl,rfl,rfl,⟨by omega,by omega,λb hb=>by simp at hb⟩,.inr ⟨rfl,rfl,rfl⟩⟩ (by simp only;omega) ?_;rintro⟨n,kk,sg,p⟩ ⟨d,k,h1,h2,h3,hR,hG⟩;simp only at h1 h2 h3 hG;subst h1;subst h2;subst h3;have hbd:=hR.bd;have hle:=hR.le;have h9:=hR.k9;by_cases hp:d+k<s.size
 .obtain⟨b,hb,q1,q2,q3⟩:=Ta hp;rw[hL] at hb;rw[zb (by simpa using hp)];by_cases c0:d+k=0/\(dec s (d+k)).1=45
  .obtain⟨c1,c2⟩:=c0;obtain⟨e1,e2⟩:=q1 (by omega);have hd:d=0:=by omega
   have hk:k=0:=by omega
   subst hd;subst hk;have e3:b=45:=(DZ (n:=45) (by decide)).2 (by omega);refine .inl ⟨_,zb (by simp[c2]),⟨1,0,?_,rfl,by simp[e2],⟨by omega,by omega,λb hb=>by simp at hb⟩,.inl (.inr ⟨rfl,rfl,by rw[hb,e3]⟩)⟩,by simp only[e2];omega⟩;simp[uM]
  have hS:Xk l d sg:=by
   rcases hG with q | ⟨rfl,rfl,rfl⟩
   .exact q
   refine .inl ⟨rfl,rfl,λe=>?_⟩;rw[hb] at e;have e4:b.toNat=45:=(DZ (n:=45) (by decide)).1 (u8 e);exact c0 ⟨rfl,by rw[q2 (by omega)];exact e4⟩
  rw[za (by simp only[zk,wf];omega)];by_cases c1:NS b=true/\k≠9
  .obtain⟨hD,k9⟩:=c1;have hDb:=(GX b).1 hD;have e1:=q2 (by omega);obtain⟨_,e2⟩:=q1 (by omega);obtain⟨u1,u2⟩:=hR.up hb hD k9;refine .inl ⟨_,za (by simp only[me,t6,wf];omega),⟨d,k+1,?_,?_,?_,u1,.inl hS⟩,by simp only[e2];omega⟩
   .simp only;rw[u2,Ah];have hw:IntKind.i32.wrap (((dec s (d+k)).1:Int)-48)=(b.toNat:Int)-48:=by
     have:∀n:Int,0<=n->n<=57->IntKind.i32.wrap n=n:=λn h0 h1=>by
      rw[IntKind.wrap_i32];omega
     rw[e1,this _ (by omega) (by omega)]
    rw[hw,F7 (n:=uM _*10) (by omega) (by omega),F7 (n:=(b.toNat:Int)-48) (by omega) (by omega),F7 (by omega) (by omega)]
   .simp only;rw[p8]
   .simp only;rw[e2];omega
  .refine .inr ⟨_,zb (by
    simp only[me,t6,wf];by_cases c2:k=9
    .right;omega
    have c3:¬NS b=true:=λq=>c1 ⟨q,c2⟩;rw[GX] at c3;left;rcases zB (dec s (d+k)).1 128 with q | q
    .have:=(q1 q).1;omega
    .omega),?_⟩
   rw[wE hS,hR.no hb (by
    by_cases c2:k=9
    .exact .inr c2
    exact .inl (by simpa using λq=>c1 ⟨q,c2⟩))]
   rfl
 .rw[za (by simpa using hp)];refine .inr ⟨_,rfl,?_⟩;simp only;by_cases hk:k=0
  .subst hk;rw[zb (by rfl)];rcases hG with q | ⟨rfl,_,rfl⟩
   .rw[wE q,List.drop_eq_nil_of_le (by omega)];rfl
   .obtain rfl:l = []:=zG (by omega);rfl
  .rw[za (by simpa using hk)];have hS:Xk l d sg:=by
    rcases hG with q | ⟨_,q,_⟩
    .exact q
    .exact absurd q hk
   rw[wE hS,hR.yes (by omega) hk];simp only;rw[F7 (by rcases hS with ⟨_,rfl,_⟩ | ⟨_,rfl,_⟩ <;> omega) (by rcases hS with ⟨_,rfl,_⟩ | ⟨_,rfl,_⟩ <;> omega),Int.mul_comm]
theorem QL{s:ByteArray}{i j:Nat}(h:i<=j)(hj:j<=s.size):FP s (i:Int) (j:Int)=some (r9 (((Y9 s).take j).drop i)):=by
 unfold FP;rw[zb ⟨by omega,by omega,by omega⟩];simp
theorem oV{a b:ByteArray}(h:a.size+b.size<=9223372036854775807):tJ a b=some (r9 (Y9 a++Y9 b)):=by
 unfold tJ;rw[zb h]
theorem vJ:∀(k u:Nat),(CG k u).length<=k
 | 0,_=>zq _
 | k+1,u=>by
  unfold CG;split;·simp
  .have:=vJ k (u / 10);simp;omega
theorem Ng{n:Int}(h0 : -9223372036854775808<=n)(h1:n<=9223372036854775807):∃l,nQ n=some (r9 l)/\l.length<=21:=by
 unfold nQ;rw[zb ⟨h0,h1⟩];refine⟨_,rfl,?_⟩;split
 .have:=vJ 20 n.natAbs;simp;omega
 .have:=vJ 20 n.toNat;omega
set_option maxRecDepth 100000 in
theorem HV:pd=some true:=by kernel_rfl
def xH:List UInt8->List (List UInt8)
 | []=>[[]]
 | b::l=>if b=10 then []::xH l else match xH l with
  | x::xs=>(b::x)::xs
  | []=>[[b]]
theorem Ni:∀ {l:List UInt8},(∀b∈l,b≠10)->xH l = [l]
 | [],_=>rfl
 | b::l,h=>by
  have e:=Ni (l:=l) λc hc=>h c (zt _ hc);rw[xH,za (h b (zi ..)),e]
theorem HW{m:List UInt8}:∀ {a:List UInt8},(∀b∈a,b≠10)->xH (a++10::m)=a::xH m
 | [],_=>by simp[xH]
 | b::a,h=>by
  have e:=HW (m:=m) (a:=a) λc hc=>h c (zt _ hc);rw[zb1,xH,za (h b (zi ..)),e]
theorem Lj(s:ByteArray):Go.Lib.indexB s (r9 [10])=Go.Lib.indexByte (Y9 s) 10:=Go.Lib.one s (r9 [10]) rfl
theorem Nj:∀(n:Nat) (s:ByteArray),s.size<=n->(Go.Lib.splitB (r9 [10]) 0 (Go.Lib.countB s (r9 [10])) s).map Y9=xH (Y9 s):=by
 intro n;induction n with
 | zero=>
  intro s hs;have e:Y9 s = []:=zG (by have:=kR s;omega);have hi:Go.Lib.indexB s (r9 [10]) = -1:=by rw[Lj,e];rfl
  rw[Go.Lib.countB_miss _ _ hi,Go.Lib.splitB_zero,e];simp[xH,e]
 | succ n ih=>
  intro s hs;rcases Go.Lib.indexB_cases s (r9 [10]) with hi | ⟨i,hi,hle⟩
  .rw[Go.Lib.countB_miss _ _ hi,Go.Lib.splitB_zero];rw[Lj] at hi;have hno:=Go.Lib.indexByte_none hi;rw[Ni λb hb e=>by
    obtain⟨k,hk⟩:=zax hb;exact hno k (by rw[hk,e])]
   rfl
  .have h1:(1:Nat)<=(r9 [10]:ByteArray).size:=zq 1;rw[Go.Lib.countB_hit s _ i h1 hi,za6,Go.Lib.splitB_hit _ _ _ _ i hi];have hsz:(r9 [10]:ByteArray).size=1:=rfl;rw[hsz] at hle |-;have hsz2:(s.extract (i+1) s.size).size<=n:=by
    rw[ByteArray.size_extract];omega
   rw[ww,ih _ hsz2];rw[Lj] at hi;obtain⟨g1,g2⟩:=Go.Lib.indexByte_some hi;have e1:Y9 (s.extract 0 (i+0))=(Y9 s).take i:=by rw[Go.Pw.pW,ax];simp
   have e2:Y9 (s.extract (i+1) s.size)=(Y9 s).drop (i+1):=by
    rw[Go.Pw.pW,ax,zao (by have:=kR s;omega)]
   rw[e1,e2];have hl:=(zx.1 g1);obtain⟨hl1,hl2⟩:=hl;have e3:Y9 s=(Y9 s).take i++10::(Y9 s).drop (i+1):=by
    have:=zbe hl1;rw[hl2] at this;rw[<-this,zb9]
   conv=>rhs;rw[e3]
   rw[HW λb hb e=>by
    obtain⟨k,hk⟩:=zax hb;rw[List.getElem?_take] at hk;split at hk
    .rename_i q;exact g2 k q (by rw[hk,e])
    .cases hk]
theorem Jx{s:ByteArray}(h:s.size<1000000000):tN s (r9 [10])=some ((xH (Y9 s)).map r9):=by
 unfold tN;rw[zb ⟨by omega,zq 1⟩,<-Nj s.size s (zq _),List.map_map];congr 1;conv=>lhs;rw[<-List.map_id (Go.Lib.splitB _ _ _ _)]
 exact zP λx _=>(OT x).symm
def IP(b:UInt8):Bool:=b==9||b==13||b==32
def S0(w:List UInt8)(r:List (List UInt8)):List (List UInt8):=if w = [] then r else r ++ [w]
def ao:List UInt8->List (List UInt8)->List UInt8->List (List UInt8)
 | w,r,[]=>S0 w r
 | w,r,b::l=>if IP b=true then ao [] (S0 w r) l else ao (w ++ [b]) r l
theorem KR{x:List UInt8}:∀(w:List UInt8) (r:List (List UInt8)) (l:List UInt8),(∀b∈x,IP b=false)->ao w r (x++l)=ao (w++x) r l:=by
 induction x with
 | nil=>intro w r l _;rw[p0];rfl
 | cons b x ih=>
  intro w r l h;rw[zb1,ao,h b (zi ..),za (by decide),ih _ _ _ λc hc=>h c (zt _ hc),pm];rfl
theorem Lp{b:UInt8}(h:128<=b.toNat):IP b=false:=by
 unfold IP;rw[Bool.or_eq_false_iff,Bool.or_eq_false_iff];refine⟨⟨?_,?_⟩,?_⟩ <;> (rw[beq_eq_false_iff_ne];rintro rfl;revert h;decide)
theorem Lq{b:UInt8}:IP b=true↔(b.toNat=9\/b.toNat=13\/b.toNat=32):=by
 unfold IP;rw[me,me,wf,wf,wf,show (9:UInt8)=UInt8.ofNat 9 from rfl,show (13:UInt8)=UInt8.ofNat 13 from rfl,show (32:UInt8)=UInt8.ofNat 32 from rfl,DZ (by decide),DZ (by decide),DZ (by decide),or_assoc]
def Yk(l:List UInt8)(sp:s6)(x:List UInt8):Prop:=∃i j:Nat,sp.start=i/\sp.end_=j/\i<=j/\j<=l.length/\x=(l.take j).drop i
def JK(l:List UInt8)(sp:List s6)(r:List (List UInt8)):Prop:=sp.length=r.length/\∀(k:Nat) s x,sp[k]? = some s->r[k]? = some x->Yk l s x
theorem JK.snoc{l:List UInt8}{sp:List s6}{r:List (List UInt8)}(h:JK l sp r){s:s6}{x:List UInt8}(hs:Yk l s x):JK l (sp ++ [s]) (r ++ [x]):=by
 refine⟨by rw[zC,zC,h.1];rfl,λk s' x' h1 h2=>?_⟩;rcases Nat.lt_trichotomy k sp.length with q | q | q
 .rw[zN q] at h1;rw[zN (by rw[<-h.1];exact q)] at h2;exact h.2 k s' x' h1 h2
 .subst q;rw[zM (zq _),Nat.sub_self] at h1;rw[h.1,zM (zq _),Nat.sub_self] at h2;cases h1;cases h2;exact hs
 .rw[t7 (by simp;omega)] at h1;cases h1
theorem nW{l:List UInt8}{i p:Nat}{x:List UInt8}(hi:i<=p)(hx:(l.drop p).take x.length=x)(hl:p+x.length<=l.length):(l.take (p+x.length)).drop i=(l.take p).drop i++x:=by
 rw[List.take_add,hx,List.drop_append_of_le_length (by rw[m7];omega)]
theorem XY(n:Nat):Z3 (n:Int)=some (decide (n=9\/n=13\/n=32)):=by
 unfold Z3;congr 1;rw[zbm];simp only[me,wf,t6];omega
theorem Ey{n:Nat}(h:n<1000000000):vF .i64 (n:Int)<0:=by
 unfold vF;have e:((BitVec.ofInt IntKind.i64.bits (-1) ^^^ BitVec.ofInt IntKind.i64.bits (n:Int)).toNat:Int)=18446744073709551615-n:=by
  show ((BitVec.ofInt 64 (-1) ^^^ BitVec.ofInt 64 (n:Int)).toNat:Int)=_;have h1:BitVec.ofInt 64 (-1)=BitVec.allOnes 64:=by decide
  have h2:BitVec.ofInt 64 (n:Int)=BitVec.ofNat 64 n:=BitVec.ofInt_natCast 64 n;rw[h1,h2,BitVec.allOnes_xor,BitVec.toNat_not,BitVec.toNat_ofNat,zcd (by omega)];omega
 rw[e,IntKind.wrap_i64];omega
theorem II(s:ByteArray)(hs:s.size<1000000000):D5 s=some ((ao [] [] (Y9 s)).map r9):=by
 have hl:=kR s;unfold D5;simp only[jn];generalize hL:Y9 s=l at hl;have tail:∀(sp:List s6) (r:List (List UInt8)),JK l sp r->sp.length<=1000000001->((mk 16 (sp.length:Int) (ByteArray.empty:ByteArray)).bind λv16=>
    (lp (S:=Int × (List ByteArray)) (E:=(List ByteArray)) (λ((s28,s29):Int × (List ByteArray))=>
     if (decide (s28<(sp.length:Int))) then
      (ix sp s28).bind λv32=>
      (FP s v32.start v32.end_).bind λv33=>
      (ix s29 s28).bind λv34=>
      some (.inl (z8 (s28+1),(s29.set (s28).toNat v33)))
     else
     some (.inr s29)) (0,v16)).bind λe27=>some e27)=some (r.map r9):=by
  intro sp r h hn;rw[jO (by omega) (by omega),Yx];refine Y1 sp.length (λk t=>t.length=sp.length/\t.take k=(r.take k).map r9) (by omega) ⟨by simp,by simp⟩ (λk t hk ht=>.inl ?_) λt ht=>⟨_,za (by simp),?_⟩
  .have hr:k<r.length:=by rw[<-h.1];exact hk
   obtain⟨i,j,e1,e2,e3,e4,e5⟩:=h.2 k sp[k] r[k] (zc hk) (zc hr);have hc:FP s sp[k].start sp[k].end_=some (r9 r[k]):=by
    rw[e1,e2,QL e3 (by omega),hL,e5]
   have htl:k<t.length:=by rw[ht.1];exact hk
   refine⟨t.set k (r9 r[k]),?_,by rw[zae];exact ht.1,?_⟩
   .dsimp only;rw[zb (by simpa using hk),u6 hk,Yx,hc,Yx,u6 htl,Yx,p8];rfl
   .rw[zu (by rw[zae];exact htl),zca,List.take_set_of_le (zq _),ht.2,zu hr,zad];rfl
  .have:=ht.2;rw[<-ht.1,zT,ht.1,h.1,zT] at this;rw[this]
 refine Bj (λ(x:Int × Nat × List s6)=>∃(w:List UInt8) (r:List (List UInt8)),JK l x.2.2 r/\x.2.2.length<=x.2.1/\x.2.1<=l.length/\ao [] [] l=ao w r (l.drop x.2.1)/\((x.1<0/\w = [])\/(∃i:Nat,x.1=i/\i<x.2.1/\w=(l.take x.2.1).drop i))) (λx=>s.size-x.2.1) ⟨[],[],⟨rfl,λk s x h=>by simp at h⟩,zq _,t8 _,rfl,.inl ⟨by decide,rfl⟩⟩ (by simp only;omega) ?_;rintro⟨a,p,sp⟩ ⟨w,r,h1,h2,h3,h4,h5⟩;simp only at h1 h2 h3 h4 h5;by_cases hp:p<s.size
 .have hbk:=qH hp;generalize hbb:s.get! p=b at hbk;rw[hL] at hbk;have hx:∃x:List UInt8,(dec s p).2=x.length/\1<=x.length/\p+x.length<=l.length/\(l.drop p).take x.length=x/\((x = [b]/\(dec s p).1=b.toNat)\/(128<=(dec s p).1/\IP b=false/\∀c∈x,IP c=false)):=by
   rcases zB b.toNat 128 with q | q
   .refine⟨[b],?_,zq _,by simp only[qr];omega,?_,.inl ⟨rfl,?_⟩⟩;·rw[EH (b:=b) (by rw[hL];exact hbk) q];rfl
    .obtain⟨q1,q2⟩:=zx.1 hbk;rw[zbe q1,q2];rfl
    .rw[EH (b:=b) (by rw[hL];exact hbk) q]
   .obtain⟨g1,g2,g3⟩:=KA (b:=b) (by rw[hL];exact hbk) q;rw[hL] at g3;have hle:p+(dec s p).2<=l.length:=by
     obtain⟨c,hc,_⟩:=g3 ((dec s p).2-1) (by omega);have:=(zx.1 hc).1;omega
    have hxl:((l.drop p).take (dec s p).2).length=(dec s p).2:=by rw[m7,zcf];omega
    refine⟨(l.drop p).take (dec s p).2,hxl.symm,by rw[hxl];exact g2,by rw[hxl];exact hle,by rw[hxl],.inr ⟨g1,Lp q,λc hc=>?_⟩⟩;obtain⟨k,hk⟩:=zax hc;have hkl:=(zx.1 hk).1;rw[hxl] at hkl;rw[List.getElem?_take,zb hkl,sm] at hk;obtain⟨c',hc',h128⟩:=g3 k hkl;rw[hk] at hc';cases hc';exact Lp h128
  obtain⟨x,x1,x2,x3,x4,x5⟩:=hx;have hdr:l.drop p=x++l.drop (p+x.length):=by
   conv=>lhs;rw[<-zb9 x.length (l.drop p),x4,List.drop_drop]
  simp only[zA hp,zU,XY,Yx,x1];by_cases hB:(dec s p).1=9\/(dec s p).1=13\/(dec s p).1=32
  .have hx':x = [b]/\(dec s p).1=b.toNat:=by
    rcases x5 with q | ⟨q,_⟩
    .exact q
    .omega
   obtain⟨rfl,hb1⟩:=hx';have hBb:IP b=true:=Lq.2 (by omega);rw[zA hB];simp only[zU];have h4':ao [] [] l=ao [] (S0 w r) (l.drop (p+1)):=by
    rw[h4,hdr,List.singleton_append,ao,zb hBb];rfl
   rcases h5 with ⟨ha,rfl⟩ | ⟨i,rfl,hi,rfl⟩
   .rw[zK (by omega)];refine .inl ⟨_,rfl,⟨[],r,h1,by simp only;omega,by simp only;omega,?_,.inl ⟨ha,rfl⟩⟩,by simp only[qr];omega⟩;rw[h4'];rfl
   .rw[zA (by omega)];simp only[zU];rw[C3 (by decide) (by simp only[qr];omega),Yx];have hne:(l.take p).drop i ≠ []:=λe=>by
     have:=or List.length e;rw[zcf,m7] at this;simp at this;omega
    refine .inl ⟨_,rfl,⟨[],r ++ [(l.take p).drop i],h1.snoc ⟨i,p,rfl,rfl,by omega,by omega,rfl⟩,by simp only[zC,qr];omega,by simp only[qr];omega,?_,.inl ⟨Ey (by omega),rfl⟩⟩,by simp only[qr];omega⟩;rw[h4'];unfold S0;rw[za hne];rfl
  .rw[zK hB];simp only[zm,zY];have hxn:∀c∈x,IP c=false:=by
    rcases x5 with ⟨rfl,q⟩ | ⟨_,_,q⟩
    .intro c hc;rw[zH.1 hc];cases hc2:IP b;·rfl
     .have:=Lq.1 hc2;omega
    .exact q
   have h4':ao [] [] l=ao (w++x) r (l.drop (p+x.length)):=by
    rw[h4,hdr,KR _ _ _ hxn]
   rcases h5 with ⟨ha,rfl⟩ | ⟨i,rfl,hi,rfl⟩
   .rw[zA ha];simp only[zU];refine .inl ⟨_,rfl,⟨x,r,h1,by simp only;omega,by simp only;omega,?_,.inr ⟨p,rfl,by simp only;omega,?_⟩⟩,by simp only;omega⟩;·rw[h4'];rfl
    .simp only;rw[nW (zq _) x4 x3,List.drop_of_length_le (by rw[m7];omega)];rfl
   .rw[zK (by omega)];simp only[zm,zY];refine .inl ⟨_,rfl,⟨(l.take p).drop i++x,r,h1,by simp only;omega,by simp only;omega,h4',.inr ⟨i,rfl,by simp only;omega,?_⟩⟩,by simp only;omega⟩;simp only;rw[nW (by omega) x4 x3]
 .rw[zK hp];simp only[zm,zY];have hpe:p=l.length:=by omega
  refine .inr ⟨_,rfl,?_⟩;simp only;rw[hpe,List.drop_length] at h4;rw[h4];rcases h5 with ⟨ha,rfl⟩ | ⟨i,rfl,hi,rfl⟩
  .rw[zK (by omega)];simp only[zm,zY];exact tail sp r h1 (by omega)
  .rw[zA (by omega)];simp only[zU];rw[C3 (by decide) (by simp only[qr];omega),Yx];have hne:(l.take p).drop i ≠ []:=λe=>by
    have:=or List.length e;rw[zcf,m7] at this;simp at this;omega
   have:=tail (sp ++ [⟨(i:Int),(s.size:Int)⟩]) (r ++ [(l.take p).drop i]) (h1.snoc ⟨i,s.size,rfl,rfl,by omega,by omega,by rw[hpe,hl]⟩) (by simp only[zC,qr];omega);rw[this];unfold ao S0;rw[za hne]
def pv(h:Int):Prop:=1<=h/\(h-1) % 32<24/\(h-1) / 32<=9
instance(h:Int):Decidable (pv h):=by unfold pv;infer_instance
theorem wh{h:Int}(q:pv h):1<=h/\h<=320:=by unfold pv at q;omega
theorem nj{i g:Int}(h1:0<=i)(h2:i<24)(h3:0<=g)(h4:g<=9):cq i g=some (1+i+32*g):=by
 unfold cq;rw[za (by simp;omega)];rw[show z8 (i*1)=i by rw[gb];omega,show z8 (1+i)=1+i by rw[gb];omega,show z8 (g*32)=32*g by rw[gb];omega,show z8 (1+i+32*g)=1+i+32*g by rw[gb];omega]
theorem nx{i g:Int}:jU i g=some (if 0<=i/\i<24/\0<=g/\g<=9 then 1+i+32*g else 0):=by
 unfold jU;split;·rename_i h;rw[za (by simp at h;omega)]
 .rename_i h;have h:0<=i/\i<24/\0<=g/\g<=9:=by simp at h;omega
  rw[zb h];rw[show z8 (1+i)=1+i by rw[gb];omega,show z8 (32*g)=32*g by rw[gb];omega,show z8 (1+i+32*g)=1+i+32*g by rw[gb];omega]
theorem mq{h:Int}(hh:h<=9223372036854775807):da h=some (if pv h then ((h-1) % 32,(h-1) / 32,true) else (-1,-1,false)):=by
 unfold da;split
 .rename_i q;rw[za (by unfold pv;simp at q;omega)]
 .rename_i q;have q:1<=h:=by simpa using q
  rw[F7 (n:=h-1),oQ (by omega) (by omega),Yx,vh (by omega) (by omega) (by omega),Yx,vh (by omega) (by omega) (by omega),Yx,Int.ediv_one];split
  .rename_i q2;rw[za (by unfold pv;simp at q2;omega)]
  .rename_i q2;rw[zb (by unfold pv;simp at q2;omega)]
theorem gI{h:Int}(hh:h<=9223372036854775807):eV h=some (if pv h then (h-1) % 32 else -1):=by
 unfold eV;rw[mq hh,Yx];split <;> rfl
theorem js{h:Int}(hh:h<=9223372036854775807):gH h=some (if pv h then (h-1) / 32 else -1):=by
 unfold gH;rw[mq hh,Yx];split <;> rfl
theorem rG{h:Int}:oM h=some (decide (pv h)):=by
 unfold oM;split
 .rename_i q;rw[zK (by unfold pv;simp at q;omega)]
 .rename_i q;have q:1<=h/\h<=400:=by simp at q;omega
  rw[F7 (n:=h-1),oQ (by omega) (by omega),Yx,vh (by omega) (by omega) (by omega),Yx,nx,Yx];congr 1;by_cases k:pv h
  .rw[zA k,zb (by unfold pv at k;omega)];simp;omega
  .rw[zK k,za (by unfold pv at k;omega)];simp;omega
theorem nA{h:Int}:ny h=some (if pv h then (h-1) % 32 else -1):=by
 unfold ny;rw[rG,Yx];by_cases k:pv h
 .have:=wh k;rw[zA k,za (by simp),zb k,F7 (n:=h-1),oQ (by omega) (by omega),Yx]
 .rw[zK k,zb (by simp),za k]
theorem FE{h:Int}:Bw h=some (if pv h then (h-1) / 32 else -1):=by
 unfold Bw;rw[rG,Yx];by_cases k:pv h
 .have:=wh k;rw[zA k,za (by simp),zb k,F7 (n:=h-1),vh (by omega) (by omega) (by omega),Yx]
 .rw[zK k,zb (by simp),za k]
abbrev z0:o9:=⟨0,0,0,0,false,[]⟩
structure Yj (s:c5):Prop where
 len:s.a8.length<=24
 l0:0<=s.Last
 l9:s.Last<=9
 cell:∀i (h:i<s.a8.length),0<=s.a8[i].State/\s.a8[i].State<=3/\0<=s.a8[i].Gen/\s.a8[i].Gen<=s.Last
theorem kE{s:c5}{i:Int}{k:Nat}{c:b7}(hi:i=k)(hk:k<s.a8.length)(hl:s.a8.length<=24):C9 s i c=some ⟨s.a8.set k c,s.Last⟩:=by
 subst hi;unfold C9 y7;rw[U9 (by omega) (by omega),Yx,u6 hk,Yx,zX]
theorem Cb{s:c5}(hR:Yj s)(v:o9) :
  (∃i,∃h:i<s.a8.length,s.a8[i].State=0/\(∀j (hj:j<i),s.a8[j].State≠0)/\E5 s v=some (⟨s.a8.set i ⟨1,s.a8[i].Gen,v⟩,s.Last⟩,1+i+32*s.a8[i].Gen,0)) \/
  ((∀i (h:i<s.a8.length),s.a8[i].State≠0)/\E5 s v=some (s,0,4)):=by
 have hlen:=hR.len;by_cases q:∃i,∃h:i<s.a8.length,s.a8[i].State=0
 .obtain⟨i,⟨hi,h0⟩,hmin⟩:=bR (p:=λi=>∃h:i<s.a8.length,s.a8[i].State=0) q;left;refine⟨i,hi,h0,λj hj=>λe=>by have:=hmin j ⟨by omega,e⟩;omega,?_⟩;unfold E5;simp only[jn,O8,Yx];have hc:=hR.cell i hi;refine dX s.a8.length (λk=>k<=i) (by omega) (by omega) (λk hk hP=>?_) (λhP=>by omega);rcases zB k i with g | g
  .refine .inl ⟨?_,g⟩;have:s.a8[k].State≠0:=λe=>by have:=hmin k ⟨hk,e⟩;omega
   simp only[zQ,hk,zV,zU,u6 hk,Yx];rw[za (by simpa using this),p8]
  .have:k=i:=by omega
   subst this;refine .inr ⟨.inl _,?_,rfl⟩;simp only[zQ,hk,zV,zU,u6 hk,Yx,h0,kE rfl hk hlen];rw[nj (by omega) (by omega) hc.2.2.1 (by have:=hR.l9;omega)];simp
 .right;refine⟨λi h e=>q ⟨i,h,e⟩,?_⟩;unfold E5;simp only[jn,O8,Yx];refine dX s.a8.length (λk=>True) (by omega) trivial (λk hk _=>?_) (λhP=>⟨.inr (),by simp,rfl⟩);refine .inl ⟨?_,trivial⟩;have:s.a8[k].State≠0:=λe=>q ⟨k,hk,e⟩;simp only[zQ,hk,zV,zU,u6 hk,Yx];rw[za (by simpa using this),p8]
def sF(s:c5)(h:Int)(i:Nat):Prop:=∃hi:i<s.a8.length,pv h/\(h-1) % 32=i/\s.a8[i].Gen=(h-1) / 32/\(s.a8[i].State=1\/s.a8[i].State=2)
theorem cY(s:c5){h:Int}(hh:h<=9223372036854775807) :
  (∃i,sF s h i/\u7 s h=some ((i:Int),0))\/((∀i,¬sF s h i)/\u7 s h=some (-1,if h=0 then 2 else 3)):=by
 unfold u7;by_cases h0:h=0
 .right;subst h0;exact⟨λi ⟨_,h1,_⟩=>by unfold pv at h1;omega,by simp⟩
 .rw[za (by simpa using h0),gI hh,Yx,za h0];by_cases hd:pv h
  .rw[zb hd];have hd':=hd;unfold pv at hd';obtain⟨k,hk⟩:∃k:Nat,(h-1) % 32=k:=⟨((h-1) % 32).toNat,by omega⟩;rw[hk];by_cases hl:k<s.a8.length
   .rw[za (by simp;omega),u6 hl,Yx,js hh,Yx,zb hd];by_cases g:s.a8[k].Gen=(h-1) / 32/\(s.a8[k].State=1\/s.a8[k].State=2)
    .left;refine⟨k,⟨hl,hd,hk,g⟩,?_⟩;rw[za];simp;omega
    .right;refine⟨λi ⟨hi,_,h2,h3⟩=>?_,?_⟩
     .have:i=k:=by omega
      subst this;exact g h3
     .rw[zb];simp;omega
   .right;refine⟨λi ⟨hi,_,h2,h3⟩=>by omega,?_⟩;rw[zb (by simp;omega)]
  .right;refine⟨λi ⟨hi,h1,_⟩=>hd h1,?_⟩;rw[za hd,zb (by simp)]
theorem oy{s:c5}{h:Int}{i:Nat}(hf:sF s h i):u7 s h=some ((i:Int),0):=by
 have hh:=wh hf.2.1;rcases cY s (h:=h) (by omega) with ⟨j,h1,h2⟩ | ⟨h1,_⟩
 .obtain⟨_,_,e1,_⟩:=hf;obtain⟨_,_,e2,_⟩:=h1;have:i=j:=by omega
  subst this;exact h2
 .exact absurd hf (h1 i)
theorem sT{s:c5}{h:Int}(hh:h<=9223372036854775807)(hf:∀i,¬sF s h i):u7 s h=some (-1,if h=0 then 2 else 3):=by
 rcases cY s hh with ⟨j,h1,_⟩ | ⟨_,h2⟩;·exact absurd h1 (hf j)
 .exact h2
theorem eU(h:Int):(if h=0 then 2 else 3:Int)≠0:=by split <;> omega
theorem CN{s:c5}{h:Int}{i:Nat}(hf:sF s h i):∃hi:i<s.a8.length,C4 s h=some (if s.a8[i].State=2 then (z0,3) else (s.a8[i].Val,0)):=by
 refine⟨hf.1,?_⟩;unfold C4;rw[oy hf,Yx,za (by simp),u6 hf.1,Yx];split <;> rename_i q
 .rw[zb (by simpa using q)]
 .rw[za (by simpa using q)]
theorem KZ{s:c5}{h:Int}(hh:h<=9223372036854775807)(hf:∀i,¬sF s h i):C4 s h=some (z0,if h=0 then 2 else 3):=by
 unfold C4;rw[sT hh hf,Yx,zb (by simpa using eU h)]
theorem DM{s:c5}{h:Int}{v:o9}{i:Nat}(hl:s.a8.length<=24)(hf:sF s h i):∃hi:i<s.a8.length,K5 s h v=some (⟨s.a8.set i ⟨s.a8[i].State,s.a8[i].Gen,v⟩,s.Last⟩,0):=by
 refine⟨hf.1,?_⟩;unfold K5;rw[oy hf,Yx,za (by simp),u6 hf.1,Yx,kE rfl hf.1 hl,Yx]
theorem Nf{s:c5}{h:Int}{v:o9}(hh:h<=9223372036854775807)(hf:∀i,¬sF s h i):K5 s h v=some (s,if h=0 then 2 else 3):=by
 unfold K5;rw[sT hh hf,Yx,zb (by simpa using eU h)]
def oo(o:o9):R1:=⟨o.Serial,o.Strong,o.Weak,o.Prog,o.Started,o.Fields⟩
def cO(c:b7):I4:=⟨c.State,c.Gen,oo c.Val⟩
def sO(s:a7):y8:=⟨s.S.a8.map cO,s.S.Last,s.Serial⟩
def Sm(s:a7):Prop:=s.S.a8.length<=30/\∀i (h:i<s.S.a8.length),s.S.a8[i].Val.Fields.length<=10
instance(s:a7):Decidable (Sm s):=by unfold Sm;infer_instance
def xY(i:Nat)(c:I4):O6:=⟨c.State,c.Gen,(i:Int)⟩
def pl(t:y8):H2:=⟨t.a8.mapIdx xY,t.Last⟩
theorem iW(t:y8)(h:t.a8.length<=1000):W9 t=some (pl t):=by
 unfold W9;simp only[jn];refine Y1 t.a8.length (λk acc=>acc=(t.a8.mapIdx xY).take k) (by omega) (by simp) (λk acc hk hP=>?_) (λacc hP=>?_)
 .subst hP;refine .inl ⟨_,?_,rfl⟩;simp only[zQ,hk,zV,zU,u6 hk,Yx];rw[C3 (by omega) (by simp;omega),Yx,p8];have e:(t.a8.mapIdx xY).take (k+1)=(t.a8.mapIdx xY).take k ++ [xY k t.a8[k]]:=by
   rw[List.take_add_one,zc (by simpa using hk)];simp
  rw[e];rfl
 .subst hP;rw[zao (by simp)];exact⟨t.a8.mapIdx xY,by simp only[za2,zay,zm,zY],rfl⟩
def NM(c:I4):Prop:=c.State=1\/c.State=2
instance(c:I4):Decidable (NM c):=by unfold NM;infer_instance
def VG(t:y8)(o:R1):Prop:=1<=o.Serial/\o.Serial<=t.Serial/\0<=o.Strong/\0<=o.Weak /\ -1<=o.Prog/\o.Prog<=5/\o.Fields.length<=4
def Ih(o:R1):Prop:=o.Serial=0/\o.Strong=0/\o.Weak=0/\o.Prog=0/\o.Started=false/\o.Fields.length=0
structure sG (t:y8):Prop where
 len:t.a8.length<=24
 l0:0<=t.Last
 l9:t.Last<=9
 T5:0<=t.Serial
 cell:∀i (h:i<t.a8.length),0<=t.a8[i].State/\t.a8[i].State<=3/\0<=t.a8[i].Gen/\t.a8[i].Gen<=t.Last
 no:∀i (h:i<t.a8.length),¬NM t.a8[i]->Ih t.a8[i].Val
 ok:∀i (h:i<t.a8.length),NM t.a8[i]->VG t t.a8[i].Val
 dif:∀i (h:i<t.a8.length) k (hk:k<i),NM t.a8[i]->NM t.a8[k]->t.a8[k].Val.Serial≠t.a8[i].Val.Serial
theorem DP{c:Int->Int->Option Int}{xs:List Int}(key:Int->Int)(hc:∀x y,∃r,c x y=some r/\(r<0↔key x<key y))(hl:xs.length<4611686018427387904) :
  ∃ys,nT c xs=some ys/\ys.Perm xs/\ys.Pairwise (λa b=>key a<=key b):=by
 have hO:=DR key hc;have hs:∃ys,nT c xs=some ys:=by
  unfold nT;rw[zb hl];split <;> exact⟨_,rfl⟩
 obtain⟨ys,hs⟩:=hs;obtain⟨h1,h2⟩:=Dr hO.2 xs;rw[(Ab hO hs).2] at h1 h2;refine⟨ys,hs,h1,h2.imp λ{a b} h=>?_⟩;obtain⟨r,e1,e2⟩:=hc b a;have h:decide ((c b a).getD 0<0)=false:=h;rw[e1] at h;have:=of_decide_eq_false h;simp only[zR,e2] at this;omega
def aq:Nat->List b7->List Int
 | _,[]=>[]
 | k,c::r=>(if c.State=1 then [1+(k:Int)+32*c.Gen] else [])++aq (k+1) r
theorem oE(c:b7):∀(k:Nat) (xs:List b7),aq k (xs ++ [c])=aq k xs++(if c.State=1 then [1+((k+xs.length:Nat):Int)+32*c.Gen] else [])
 | k,[]=>by simp[aq]
 | k,x::r=>by
  simp only[zb1,aq,oE c (k+1) r,pm,zl];rw[show k+1+r.length=k+(r.length+1) by omega]
theorem jI:∀(k:Nat) (xs:List b7),(aq k xs).length<=xs.length
 | _,[]=>by simp[aq]
 | k,c::r=>by
  have:=jI (k+1) r;simp only[aq,zC,zl];split <;> simp <;> omega
theorem np{h:Int}:∀ {k:Nat} {xs:List b7},h∈aq k xs↔∃i,∃hi:i<xs.length,xs[i].State=1/\h=1+((k+i:Nat):Int)+32*xs[i].Gen
 | k,[]=>by simp[aq]
 | k,c::r=>by
  simp only[aq,zw,np (k:=k+1) (xs:=r)];constructor
  .rintro (q | ⟨i,hi,q1,q2⟩)
   .by_cases hc:c.State=1
    .rw[zb hc] at q;exact⟨0,by simp,by simpa using hc,by simpa using q⟩
    .rw[za hc] at q;cases q
   .exact⟨i+1,by simpa using hi,by simpa using q1,by simp only[List.getElem_cons_succ];rw[q2,show k+1+i=k+(i+1) by omega]⟩
  .rintro⟨i,hi,q1,q2⟩;cases i with
   | zero=>
    left;simp only[List.getElem_cons_zero] at q1 q2;rw[zb q1];simp[q2]
   | succ i=>
    right;simp only[List.getElem_cons_succ] at q1 q2;exact⟨i,by simpa using hi,q1,by rw[q2,show k+1+i=k+(i+1) by omega]⟩
def sk(cs:List b7)(h:Int):Int:=match cs[((h-1) % 32).toNat]? with
 | some c=>c.Val.Serial
 | none=>0
theorem DO{cs:List b7}{i:Nat}{g:Int}(h:i<cs.length)(h32:cs.length<=32):sk cs (1+(i:Int)+32*g)=cs[i].Val.Serial:=by
 unfold sk;have:((1+(i:Int)+32*g-1) % 32).toNat=i:=by omega
 rw[this,zc h]
structure Xt (cs:List b7):Prop where
 len:cs.length<=24
 gen:∀i (h:i<cs.length),0<=cs[i].Gen/\cs[i].Gen<=9
theorem yI{s:a7}(hR:Xt s.S.a8):∃l,E0 s=some l/\l.Perm (aq 0 s.S.a8)/\l.Pairwise (λa b=>sk s.S.a8 a<=sk s.S.a8 b):=by
 have hlen:=hR.len;unfold E0;simp only[jn];have hh:=jI 0 s.S.a8;have hloop:∃e:List (Int × Int) × List Int,lp (S:=Int × (List (Int × Int)) × (List Int)) (E:=((List (Int × Int)) × (List Int))) (λ((s23,s24,s25):Int × (List (Int × Int)) × (List Int))=>
   if (decide (s23<(s.S.a8.length:Int))) then
    ((ix s.S.a8 s23).bind λv35=>
     if (v35.State==1) then
      (cq s23 v35.Gen).bind λv36=>
      (app 8 s25 [v36]).bind λv37=>
      some (.inl (z8 (s23+1),(o0 s24 v36 v35.Val.Serial),v37))
     else
     some (.inl (z8 (s23+1),s24,s25)))
   else
   some (.inr (s24,s25))) (0,[],[])=some e/\e.2=aq 0 s.S.a8/\∀h∈e.2,y9 e.1 h=some (sk s.S.a8 h):=by
  refine fy (T:=List (Int × Int) × List Int) s.S.a8.length (λk e=>e.2=aq 0 (s.S.a8.take k)/\∀h∈e.2,y9 e.1 h=some (sk s.S.a8 h)) (λe:List (Int × Int) × List Int=>e.2=aq 0 s.S.a8/\∀h∈e.2,y9 e.1 h=some (sk s.S.a8 h)) (by omega) ⟨by simp[aq],by simp⟩ (λk e hk hP=>?_) (λe hP=>?_)
  .obtain⟨h1,h2⟩:=hP;obtain⟨m,l⟩:=e;simp only at h1 h2;left;have hc:=hR.gen k hk;have hl:l.length<=24:=by rw[h1];have:=jI 0 (s.S.a8.take k);simp at this;omega
   have et:s.S.a8.take (k+1)=s.S.a8.take k ++ [s.S.a8[k]]:=by rw[List.take_add_one,zc hk];rfl
   have el:(s.S.a8.take k).length=k:=by simp;omega
   by_cases q:s.S.a8[k].State=1
   .refine⟨(o0 m (1+(k:Int)+32*s.S.a8[k].Gen) s.S.a8[k].Val.Serial,l ++ [1+(k:Int)+32*s.S.a8[k].Gen]),?_,?_,?_⟩
    .simp only[zQ,hk,zV,zU,u6 hk,Yx,q,md];rw[nj (by omega) (by omega) hc.1 hc.2,Yx,C3 (by omega) (by simp;omega),Yx,p8]
    .simp only;rw[et,oE,zb q,el,h1,zab]
    .intro h hh;simp only[zw,zH] at hh |-;rw[oG];rcases hh with hh | rfl
     .split;·rename_i e;rw[e,DO hk (by omega)]
      .exact h2 h hh
     .rw[zb rfl,DO hk (by omega)]
   .refine⟨(m,l),?_,?_,h2⟩
    .simp only[zQ,hk,zV,zU,u6 hk,Yx];rw[za (by simpa using q),p8]
    .simp only;rw[et,oE,za q,h1,p0]
  .obtain⟨h1,h2⟩:=hP;obtain⟨m,l⟩:=e;refine⟨(m,l),by simp only[za2,zay,zm,zY],?_,h2⟩;simpa using h1
 obtain⟨⟨m,l⟩,e1,e2,e3⟩:=hloop;rw[show lp _ _=_ from e1,Yx];simp only at e2 e3 |-;subst e2;obtain⟨ys,q1,q2,q3⟩:=DP (c:=λp q=>dB p q m) (xs:=aq 0 s.S.a8) (λh=>(y9 m h).getD 0) (λx y=>by
  unfold dB bL cmp_isNaN_int;simp only[Yx,zav,zm,zY];generalize (y9 m x).getD 0=a;generalize (y9 m y).getD 0=b;by_cases h1:a<b
  .rw[zA h1];exact⟨-1,rfl,by simp[h1]⟩
  .rw[zK h1];by_cases h2:a > b
   .rw[zA h2];exact⟨1,rfl,by simp[h1]⟩
   .rw[zK h2];exact⟨0,rfl,by simp[h1]⟩) (by omega)
 refine⟨ys,by rw[q1];rfl,q2,q3.imp_of_mem λ{a b} ha hb hab=>?_⟩;rw[e3 a (q2.mem_iff.1 ha),e3 b (q2.mem_iff.1 hb)] at hab;simpa using hab
theorem lY{key:Int->Int}:∀ {l m:List Int},l.Perm m->l.Pairwise (λa b=>key a<=key b)->m.Pairwise (λa b=>key a<=key b)->(∀a∈l,∀b∈l,key a=key b->a=b)->l=m
 | [],m,hp,_,_,_=>(List.nil_perm.1 hp).symm
 | a::l,[],hp,_,_,_=>by simp at hp
 | a::l,b::m,hp,h1,h2,hk=>by
  have ha:=ul.1 h1;have hb:=ul.1 h2;have e:a=b:=by
   have m1:b∈a::l:=hp.mem_iff.2 (zi ..);have m2:a∈b::m:=hp.mem_iff.1 (zi ..);rcases zJ.1 m1 with q | q
   .exact q.symm
   .rcases zJ.1 m2 with q' | q'
    .exact q'
    .exact hk a (zi ..) b m1 (Int.le_antisymm (ha.1 b q) (hb.1 a q'))
  subst e;rw[lY (List.perm_cons a |>.1 hp) ha.2 hb.2 λx hx y hy=>hk x (zt _ hx) y (zt _ hy)]
theorem C0(s:a7):(sO s).a8.length=s.S.a8.length:=by simp[sO]
theorem HO(s:a7)(i:Int):ix (sO s).a8 i=(ix s.S.a8 i).map cO:=fR cO s.S.a8 i
theorem bX(t:y8):(pl t).a8.length=t.a8.length:=by simp[pl]
theorem Ds{t:y8}{k:Nat}(h:k<t.a8.length):ix (pl t).a8 k=some (xY k t.a8[k]):=by
 rw[u6 (by simpa[pl] using h)];simp[pl]
theorem sS(s:a7){h:Int}(hh:h<=9223372036854775807):T4 (pl (sO s)) h=u7 s.S h:=by
 unfold T4 u7;rw[nA,gI hh,FE,js hh];simp only[Yx,bX,C0];generalize (if pv h then (h-1) % 32 else -1:Int)=v;generalize (if pv h then (h-1) / 32 else -1:Int)=g;split;·rfl
 .split;·rfl
  .rename_i q;have q:0<=v/\v<s.S.a8.length:=by simp at q;omega
   obtain⟨k,rfl⟩:∃k:Nat,v=k:=⟨v.toNat,by omega⟩;have hk:k<s.S.a8.length:=by omega
   rw[Ds (by rw[C0];exact hk),u6 hk];simp only[Yx,xY,sO,ut,cO]
theorem Nd(s:a7)(hl:s.S.a8.length<=24){h:Int}(hh:h<=9223372036854775807)(o:o9):P3 (sO s) h (oo o)=(K6 s h o).map λp=>(sO p.1,p.2):=by
 unfold P3 K6;rw[iW _ (by rw[C0];omega),Yx,sS s hh];rcases cY s.S hh with ⟨i,hf,e⟩ | ⟨hf,e⟩
 .obtain⟨hi,e2⟩:=DM (v:=o) hl hf;rw[e,e2];simp only[Yx,zav,zm,zY,wd];unfold fh;rw[U9 (by omega) (by rw[C0];omega),Yx,u6 (by rw[C0];exact hi),Yx];simp[sO,cO,oo,zbw]
 .rw[e,Nf hh hf];simp only[Yx];rw[zb (by simpa using eU h)];rfl
theorem jx{s:a7}(h:sG (sO s)):s.S.a8.length<=24:=by have:=h.len;rwa [C0] at this
theorem BN{s:a7}(h:sG (sO s))(i:Nat)(hi:i<s.S.a8.length):0<=s.S.a8[i].State/\s.S.a8[i].State<=3/\0<=s.S.a8[i].Gen/\s.S.a8[i].Gen<=s.S.Last:=by
 have:=h.cell i (by rw[C0];exact hi);simpa[sO,cO] using this
theorem BO{s:a7}(h:sG (sO s)):Xt s.S.a8:=⟨jx h,λi hi=>by have:=BN h i hi;have h9:s.S.Last<=9:=h.l9;omega⟩
theorem MS{s:a7}(h:sG (sO s))(i:Nat)(hi:i<s.S.a8.length)(ht:s.S.a8[i].State=1\/s.S.a8[i].State=2):VG (sO s) (oo s.S.a8[i].Val):=by
 have:=h.ok i (by rw[C0];exact hi);simp only[sO,ut,cO,NM] at this;exact this ht
theorem MR{s:a7}(h:sG (sO s)){i j:Nat}(hi:i<s.S.a8.length)(hj:j<s.S.a8.length)(a:s.S.a8[i].State=1\/s.S.a8[i].State=2)(b:s.S.a8[j].State=1\/s.S.a8[j].State=2)(e:s.S.a8[i].Val.Serial=s.S.a8[j].Val.Serial):i=j:=by
 have key:∀i (hi:i<s.S.a8.length) j (hj:j<i),(s.S.a8[i].State=1\/s.S.a8[i].State=2)->(s.S.a8[j].State=1\/s.S.a8[j].State=2)->s.S.a8[j].Val.Serial≠s.S.a8[i].Val.Serial:=λi hi j hj a b=>by
  have:=h.dif i (by rw[C0];exact hi) j hj;simp only[sO,ut,cO,NM,oo] at this;exact this a b
 rcases Nat.lt_trichotomy i j with q | q | q
 .exact absurd e (key j hj i q b a)
 .exact q
 .exact absurd e.symm (key i hi j q a b)
theorem jH{s:a7}(hR:sG (sO s)){x:Int}(hx:x∈aq 0 s.S.a8):∃i,∃hi:i<s.S.a8.length,s.S.a8[i].State=1/\x=1+(i:Int)+32*s.S.a8[i].Gen/\sF s.S x i/\sk s.S.a8 x=s.S.a8[i].Val.Serial/\y3 s x=some (s.S.a8[i].Val,0):=by
 obtain⟨i,hi,h1,h2⟩:=np.1 hx;rw[zab] at h2;have hl:=(jx hR);have hc:=(BO hR).gen i hi;have hf:sF s.S x i:=⟨hi,by unfold pv;omega,by omega,by omega,.inl h1⟩;refine⟨i,hi,h1,h2,hf,by rw[h2];exact DO hi (by omega),?_⟩;obtain⟨_,e⟩:=CN hf;unfold y3;rw[e,za (by omega)];rfl
theorem KU{s:a7}{x:Int}{i:Nat}(hf:sF s.S x i)(h1:∀hi:i<s.S.a8.length,s.S.a8[i].State=1):x∈aq 0 s.S.a8:=by
 obtain⟨hi,q1,q2,q3,_⟩:=hf;refine np.2 ⟨i,hi,h1 hi,?_⟩;unfold pv at q1;rw[zab];omega
theorem BU{s:a7}(hR:sG (sO s)){x y:Int}(hx:x∈aq 0 s.S.a8)(hy:y∈aq 0 s.S.a8)(e:sk s.S.a8 x=sk s.S.a8 y):x=y:=by
 obtain⟨i,hi,a1,a2,_,a4,_⟩:=jH hR hx;obtain⟨j,hj,b1,b2,_,b4,_⟩:=jH hR hy;have:=(MR hR) hi hj (.inl a1) (.inl b1) (by rw[<-a4,<-b4];exact e);subst this;rw[a2,b2]
theorem ll:∀(k:Nat) (cs:List b7),k+cs.length<=32->(aq k cs).Nodup
 | _,[],_=>List.nodup_nil
 | k,c::r,h=>by
  simp only[zl] at h;unfold aq;rw[zby];refine⟨by split <;> simp,ll (k+1) r (by omega),λa ha b hb e=>?_⟩;split at ha
  .simp only[zH] at ha;subst ha;subst e;obtain⟨i,hi,h1,h2⟩:=np.1 hb;have:((1+(k:Int)+32*c.Gen)-1) % 32=((1+((k+1+i:Nat):Int)+32*r[i].Gen)-1) % 32:=by rw[h2]
   omega
  .cases ha
theorem Hb{s:a7}(hR:sG (sO s)):∃l,E0 s=some l/\l.Perm (aq 0 s.S.a8)/\l.Pairwise (λa b=>sk s.S.a8 a<sk s.S.a8 b):=by
 obtain⟨l,h1,h2,h3⟩:=yI (BO hR);refine⟨l,h1,h2,?_⟩;have hn:l.Nodup:=h2.nodup_iff.2 (ll 0 _ (by have:=(jx hR);omega));have:=List.Pairwise.and h3 hn;refine this.imp_of_mem λ{a b} ha hb ⟨q1,q2⟩=>?_;rcases Int.lt_or_eq_of_le q1 with q | q
 .exact q
 .exact absurd (BU hR (h2.mem_iff.1 ha) (h2.mem_iff.1 hb) q) q2
theorem rj:∀(k:Nat) (cs:List b7) (i:Nat) (c:b7) (hi:i<cs.length),cs[i].State≠1->c.State=1->(aq k (cs.set i c)).Perm ((1+((k+i:Nat):Int)+32*c.Gen)::aq k cs)
 | _,[],i,_,hi,_,_=>by simp at hi
 | k,d::r,0,c,hi,h1,h2=>by
  simp only[List.getElem_cons_zero] at h1;simp only[List.set_cons_zero,aq,zb h2,za h1,zbl,zaf];exact List.Perm.refl _
 | k,d::r,i+1,c,hi,h1,h2=>by
  simp only[List.getElem_cons_succ] at h1;simp only[List.set_cons_succ,aq];have:=rj (k+1) r i c (by simpa using hi) h1 h2;rw[show k+1+i=k+(i+1) by omega] at this;exact (List.Perm.append_left _ this).trans List.perm_middle
theorem UW{cs:List b7}{i:Nat}{c:b7}{x:Int}(h:((x-1) % 32).toNat≠i):sk (cs.set i c) x=sk cs x:=by
 unfold sk;rw[zbs (by omega)]
theorem Fg{s:a7}(hR:sG (sO s)){i:Nat}(hi:i<s.S.a8.length)(h0:s.S.a8[i].State=0)(o:o9)(ho:o.Serial=s.Serial+1){l:List Int}(hl:E0 s=some l) :
  E0 ⟨⟨s.S.a8.set i ⟨1,s.S.a8[i].Gen,o⟩,s.S.Last⟩,s.Serial+1⟩=some (l ++ [1+(i:Int)+32*s.S.a8[i].Gen]):=by
 obtain⟨l',e,l1,l2⟩:=Hb hR;rw[hl] at e;cases e;have hlen:=jx hR;have hsl:Xt (s.S.a8.set i ⟨1,s.S.a8[i].Gen,o⟩):=⟨by simpa using hlen,λj hj=>by
  rw[zb2];have:=(BO hR).gen;split;·exact this i hi
  .exact this j (by simpa using hj)⟩
 obtain⟨m,m1,m2,m3⟩:=yI (s:=⟨⟨s.S.a8.set i ⟨1,s.S.a8[i].Gen,o⟩,s.S.Last⟩,s.Serial+1⟩) hsl;have hp:=rj 0 s.S.a8 i ⟨1,s.S.a8[i].Gen,o⟩ hi (by omega) rfl;rw[zab] at hp;have hold:∀x∈l,sk (s.S.a8.set i ⟨1,s.S.a8[i].Gen,o⟩) x=sk s.S.a8 x/\sk s.S.a8 x<=s.Serial:=λx hx=>by
  obtain⟨j,hj,a1,a2,a3,a4,_⟩:=jH hR (l1.mem_iff.1 hx);refine⟨UW ?_,?_⟩
  .obtain⟨_,_,q,_⟩:=a3;intro e;have:j=i:=by omega
   subst this;omega
  .rw[a4];exact (MS hR j hj (.inl a1)).2.1
 have hnew:sk (s.S.a8.set i ⟨1,s.S.a8[i].Gen,o⟩) (1+(i:Int)+32*s.S.a8[i].Gen)=s.Serial+1:=by
  rw[DO (by simpa using hi) (by simp;omega)];simp[ho]
 rw[m1];congr 1;refine lY (key:=sk (s.S.a8.set i ⟨1,s.S.a8[i].Gen,o⟩)) ?_ m3 ?_ ?_
 .refine m2.trans (hp.trans ?_);refine List.Perm.trans (List.Perm.cons _ l1.symm) ?_;exact (List.perm_append_singleton _ _).symm
 .rw[za4];refine⟨l2.imp_of_mem λ{a b} ha hb hab=>?_,by simp,λa ha b hb=>?_⟩;·rw[(hold a ha).1,(hold b hb).1];omega
  .rw[zH] at hb;subst hb;rw[hnew,(hold a ha).1];have:=(hold a ha).2;omega
 .have hm:∀a∈m,a∈l\/a=1+(i:Int)+32*s.S.a8[i].Gen:=λa ha=>by
   have:=hp.mem_iff.1 (m2.mem_iff.1 ha);rcases zJ.1 this with q | q
   .exact .inr q
   .exact .inl (l1.mem_iff.2 q)
  intro a ha b hb hab;rcases hm a ha with qa | rfl <;> rcases hm b hb with qb | rfl
  .rw[(hold a qa).1,(hold b qb).1] at hab;exact BU hR (l1.mem_iff.1 qa) (l1.mem_iff.1 qb) hab
  .rw[(hold a qa).1,hnew] at hab;have:=(hold a qa).2;omega
  .rw[(hold b qb).1,hnew] at hab;have:=(hold b qb).2;omega
  .rfl
theorem Wz(n last:Int):∃a,gq n last=some a/\Bz n last=some (sO a)/\sG (sO a)/\a.S.a8.length<=24/\∀i (h:i<a.S.a8.length),a.S.a8[i].Val.Fields.length<=4:=by
 unfold gq Bz Y5 Hy;by_cases h:0<=n/\n<=24/\0<=last/\last<=9
 .obtain⟨h1,h2,h3,h4⟩:=h;obtain⟨k,rfl⟩:∃k:Nat,n=k:=⟨n.toNat,by omega⟩;rw[za (by simp;omega),za (by simp;omega),jO (by omega) (by omega),jO (by omega) (by omega)];simp only[Yx,za1];rw[jO (by omega) (by omega)];refine⟨_,rfl,?_,?_,by simp;omega,λi h=>by simp⟩;·simp[sO,cO,oo]
  .refine⟨by simp[sO];omega,h3,h4,by simp[sO],λi h=>?_,λi h=>?_,λi h q=>?_,λi h k hk q=>?_⟩;·simp[sO,cO];omega
   .simp[sO,cO,oo,Ih]
   .exfalso;simp[sO,cO,oo,NM] at q
   .exfalso;simp[sO,cO,oo,NM] at q
 .rw[zb (by simp;omega),zb (by simp;omega)];simp only[Yx,zW];rw[show mk 80 ((0:Nat):Int) (⟨0,0,⟨0,0,0,0,false,[]⟩⟩:I4)=some [] from rfl];refine⟨_,rfl,rfl,⟨by simp[sO],by simp[sO],by simp[sO],by simp[sO],?_,?_,?_,?_⟩,by simp,λi h=>by simp at h⟩ <;> (intro i h;simp[sO] at h)
noncomputable def lv(s:a7):List Int:=(E0 s).getD []
def ob(s:a7)(h:Int):o9:=((y3 s h).getD (z0,0)).1
def outs(s:a7)(h:Int):List Int:=nz (ob s h).Fields
def FB(s:a7):Prop:=∀c∈s.S.a8,∀x∈c.Val.Fields,x<=9223372036854775807
section
variable{s:a7}(hR:sG (sO s))
include hR
theorem iQ:E0 s=some (lv s)/\(lv s).Perm (aq 0 s.S.a8)/\(lv s).Pairwise (λa b=>sk s.S.a8 a<sk s.S.a8 b):=by
 obtain⟨l,h1,h2,h3⟩:=Hb hR;have:lv s=l:=by unfold lv;rw[h1];rfl
 rw[this];exact⟨h1,h2,h3⟩
theorem dd:E0 s=some (lv s):=(iQ hR).1
theorem ta{h:Int}:h∈lv s↔h∈aq 0 s.S.a8:=(iQ hR).2.1.mem_iff
theorem M5:(lv s).length<=24:=by
 rw[(iQ hR).2.1.length_eq];exact un (jI 0 s.S.a8) (jx hR)
theorem ru:(lv s).Nodup:=(iQ hR).2.1.nodup_iff.2 (ll 0 _ (by have:=(jx hR);omega))
theorem wz{h:Int}(hh:h∈lv s):y3 s h=some (ob s h,0):=by
 obtain⟨i,hi,_,_,_,_,e⟩:=jH hR ((ta hR).1 hh);unfold ob;rw[e];rfl
theorem Bk{h:Int}(hh:h∈lv s):∃i,∃hi:i<s.S.a8.length,s.S.a8[i].State=1/\h=1+(i:Int)+32*s.S.a8[i].Gen/\sF s.S h i/\ob s h=s.S.a8[i].Val:=by
 obtain⟨i,hi,h1,h2,h3,_,e⟩:=jH hR ((ta hR).1 hh);refine⟨i,hi,h1,h2,h3,?_⟩;unfold ob;rw[e];rfl
theorem nv{h:Int}(hh:h∈lv s):1<=h/\h<=320:=by
 obtain⟨i,hi,_,_,hf,_⟩:=Bk hR hh;exact wh hf.2.1
theorem RJ{h:Int}(hh:h<=9223372036854775807)(hn:h∉lv s):∃e,e≠0/\y3 s h=some (z0,e):=by
 rcases cY s.S hh with ⟨i,hf,_⟩ | ⟨hf,_⟩
 .obtain⟨hi,e⟩:=CN hf;unfold y3;rw[e];by_cases h2:s.S.a8[i].State=2
  .rw[zb h2];exact⟨3,by decide,rfl⟩
  .exact absurd ((ta hR).2 (KU hf λ_=>hf.2.2.2.2.resolve_right h2)) hn
 .unfold y3;rw[KZ hh hf];exact⟨_,eU h,rfl⟩
theorem pL{h:Int}(hh:h<=9223372036854775807)(hn:h∉lv s):ob s h=z0:=by
 obtain⟨e,_,h1⟩:=RJ hR hh hn;unfold ob;rw[h1];rfl
theorem aI{h:Int}(hh:h<=9223372036854775807):∃e,y3 s h=some (ob s h,e)/\(e=0↔h∈lv s):=by
 by_cases q:h∈lv s
 .exact⟨0,wz hR q,by simp[q]⟩
 .obtain⟨e,h0,h1⟩:=RJ hR hh q;refine⟨e,?_,by simp[h0,q]⟩;rw[h1,pL hR hh q]
theorem Qi{h:Int}(hh:h<=9223372036854775807)(hn:h∉lv s):outs s h = []:=by
 unfold outs;rw[pL hR hh hn];rfl
theorem Hk(h:Int)(hh:h<=9223372036854775807):(ob s h).Fields.length<=4:=by
 by_cases q:h∈lv s
 .obtain⟨i,hi,h1,_,_,e⟩:=Bk hR q;rw[e];exact (MS hR i hi (.inl h1)).2.2.2.2.2.2
 .rw[pL hR hh q];exact t8 _
theorem wJ(h:Int)(hh:h<=9223372036854775807):(outs s h).length<=4:=un (LR _) (Hk hR h hh)
theorem Qh(hF:FB s){h x:Int}(hh:h<=9223372036854775807)(hx:x∈outs s h):x<=9223372036854775807:=by
 by_cases q:h∈lv s
 .obtain⟨i,hi,h1,_,_,e⟩:=Bk hR q;unfold outs at hx;rw[e] at hx;exact hF _ (zj hi) x (lC.1 hx).1
 .rw[Qi hR hh q] at hx;cases hx
end
theorem Qj{s:a7}{h x:Int}(hx:x∈outs s h):x≠0:=(lC.1 hx).2
theorem qX(s:a7)(hl:s.S.a8.length<=1000){h:Int}(hh:h<=9223372036854775807):M0 (sO s) h=(y3 s h).map λp=>(oo p.1,p.2):=by
 unfold M0 y3 C4 vi;rw[iW _ (by rw[C0];exact hl),Yx,sS s hh];rcases cY s.S hh with ⟨i,hf,e⟩ | ⟨hf,e⟩
 .rw[e];have hi:=hf.1;simp only[Yx,zav,zm,zY];rw[Ds (by rw[C0];exact hi),u6 hi];simp only[Yx,xY,sO,ut,cO];split;·rfl
  .simp only[Yx,zav,zm,zY];rw[u6 (by simpa using hi)];simp[cO,oo]
 .rw[e];simp only[Yx];have hne:((if h=0 then 2 else 3:Int) != 0)=true:=by simpa using eU h
  simp only[hne,zU,Yx];rfl
theorem Nh{s:a7}(hR:sG (sO s)){l:List Int}(hl:∀x∈l,x∈lv s)(hn:l.length<=100) :
  ∃m,qq (sO s) l=some m/\m.Perm l/\m.Pairwise (λa b=>sk s.S.a8 a<=sk s.S.a8 b):=by
 have hfind:∀x∈l,∃i:Nat,∃hi:i<s.S.a8.length,T4 (pl (sO s)) x=some ((i:Int),0)/\s.S.a8[i].Val.Serial=sk s.S.a8 x:=λx hx=>by
  obtain⟨i,hi,_,_,hf,h4,_⟩:=jH hR ((ta hR).1 (hl x hx));refine⟨i,hi,?_,h4.symm⟩;rw[sS s (by have:=wh hf.2.1;omega),oy hf]
 unfold qq;rw[U9 (by omega) (by omega),Yx];simp only[jn];let K:List Int->Nat->Int:=λo a=>sk s.S.a8 (o.getD a 0)
 have hplain:=iW (sO s) (by rw[C0];have:=jx hR;omega);have inner:∀(n:Nat) (o:List Int),n<l.length->o.Perm l->(∀a b,a<b->b<=n->b≠n->K o a<=K o b) ->
   ∃o',lp (S:=Int × (List Int)) (E:=(List Int)) (λ((s58,s59):Int × (List Int))=>
      if (decide (s58 > 0)) then
       (W9 (sO s)).bind λv62=>
       (ix s59 (z8 (s58-1))).bind λv63=>
       (T4 v62 v63).bind λv64=>
       (ix s59 s58).bind λv65=>
       (T4 v62 v65).bind λv66=>
       (z6 (((decide (v64.1<0))||(decide (v66.1<0)))==false) (⟨0,0,⟨0,0,0,0,false,[]⟩⟩:I4) (ix (sO s).a8 v64.1)).bind λv67=>
       (z6 (((decide (v64.1<0))||(decide (v66.1<0)))==false) (⟨0,0,⟨0,0,0,0,false,[]⟩⟩:I4) (ix (sO s).a8 v66.1)).bind λv68=>
       if (((decide (v64.1<0))||(decide (v66.1<0)))||(decide (v67.Val.Serial<=v68.Val.Serial))) then
        some (.inr s59)
       else
       (ix (s59.set (s58).toNat v63) (z8 (s58-1))).bind λv69=>
       some (.inl (z8 (s58-1),((s59.set (s58).toNat v63).set (z8 (s58-1)).toNat v65)))
      else
      some (.inr s59)) ((n:Int),o)=some o'/\o'.Perm l/\∀a b,a<b->b<=n->K o' a<=K o' b:=by
  intro n o hn' hp hk;have hbn:(n:Int).toNat<4611686018427387904:=by rw[zX];omega
  refine nt (s0:=((n:Int),o)) (λq=>∃k:Nat,q.1=(k:Int)/\k<=n/\q.2.Perm l/\∀a b,a<b->b<=n->b≠k->K q.2 a<=K q.2 b) (λo'=>o'.Perm l/\∀a b,a<b->b<=n->K o' a<=K o' b) (λq=>q.1.toNat) ⟨n,rfl,zq _,hp,hk⟩ hbn ?_;rintro⟨_,o⟩ ⟨k,rfl,hkn,hp,hk⟩;simp only at hp hk |-;have hol:o.length=l.length:=hp.length_eq;rcases n8 k with rfl | hpos
  .right;refine⟨o,by rw[za (by simp)],hp,λa b h1 h2=>hk a b h1 h2 (by omega)⟩
  .obtain⟨j,rfl⟩:∃j,k=j+1:=⟨k-1,by omega⟩;have hj1:j+1<o.length:=by omega
   have hj:j<o.length:=by omega
   have ew:z8 (((j+1:Nat):Int)-1)=(j:Int):=by rw[F7 (by omega) (by omega)];omega
   obtain⟨ia,hia,fa,ka⟩:=hfind o[j] (hp.mem_iff.1 (zj hj));obtain⟨ib,hib,fb,kb⟩:=hfind o[j+1] (hp.mem_iff.1 (zj hj1));have ea:ix (sO s).a8 (ia:Int)=some (cO s.S.a8[ia]):=by rw[HO,u6 hia];rfl
   have eb:ix (sO s).a8 (ib:Int)=some (cO s.S.a8[ib]):=by rw[HO,u6 hib];rfl
   have hneg:((decide ((ia:Int)<0))||(decide ((ib:Int)<0)))=false:=by simp
   have hpos':decide (((j+1:Nat):Int) > 0)=true:=by simp
   simp only[hpos',zU,hplain,ew,u6 hj,u6 hj1,Yx,fa,fb,hneg,md,jR,ea,eb,zb6,cO,oo,ka,kb,zX];have Kj:K o j=sk s.S.a8 o[j]:=by simp[K,List.getD,zc hj]
   have Kj1:K o (j+1)=sk s.S.a8 o[j+1]:=by simp[K,List.getD,zc hj1]
   by_cases hle:sk s.S.a8 o[j]<=sk s.S.a8 o[j+1]
   .right;refine⟨o,by rw[zb (by simpa using hle)],hp,λa b h1 h2=>?_⟩;by_cases e:b=j+1
    .subst e;rcases zB a j with q | q
     .have:=hk a j q (by omega) (by omega);omega
     .have:a=j:=by omega
      subst this;omega
    .exact hk a b h1 h2 e
   .left;refine⟨_,by rw[za (by simpa using hle),u6 (by simpa using hj)];rfl,⟨j,rfl,by omega,?_,λa b h1 h2 h3=>?_⟩,by show (j:Int).toNat<((j+1:Nat):Int).toNat;omega⟩;·exact (List.set_set_perm hj1 hj).trans hp
    .have hK:∀c,K ((o.set (j+1) o[j]).set j o[j+1]) c=if c=j then K o (j+1) else if c=j+1 then K o j else K o c:=λc=>by
      simp only[K,List.getD,List.getElem?_set,zae];by_cases c1:c=j
      .subst c1;simp[hj,zc hj1]
      .by_cases c2:c=j+1
       .subst c2;simp[hj1,zc hj]
       .rw[za (by omega),za (by omega),za c1,za c2]
     show K ((o.set (j+1) o[j]).set ((j:Nat):Int).toNat o[j+1]) a<=K ((o.set (j+1) o[j]).set ((j:Nat):Int).toNat o[j+1]) b;rw[zX,hK,hK];by_cases a1:a=j
     .subst a1;rw[zb rfl];by_cases b2:b=a+1
      .subst b2;rw[za (by omega),zb rfl];omega
      .rw[za (by omega),za b2];exact hk (a+1) b (by omega) h2 b2
     .rw[za a1];by_cases a2:a=j+1
      .subst a2;rw[zb rfl,za (by omega),za (by omega)];exact hk j b (by omega) h2 (by omega)
      .rw[za a2,za h3];by_cases b2:b=j+1
       .subst b2;rw[zb rfl];exact hk a j (by omega) (by omega) (by omega)
       .rw[za b2];exact hk a b h1 h2 b2
 have outer:∃m,(lp (S:=Int × (List Int)) (E:=(List Int)) (λ((s38,s39):Int × (List Int))=>
   if (decide (s38<(s39.length:Int))) then
     (lp (S:=Int × (List Int)) (E:=(List Int)) (λ((s58,s59):Int × (List Int))=>
      if (decide (s58 > 0)) then
       (W9 (sO s)).bind λv62=>
       (ix s59 (z8 (s58-1))).bind λv63=>
       (T4 v62 v63).bind λv64=>
       (ix s59 s58).bind λv65=>
       (T4 v62 v65).bind λv66=>
       (z6 (((decide (v64.1<0))||(decide (v66.1<0)))==false) (⟨0,0,⟨0,0,0,0,false,[]⟩⟩:I4) (ix (sO s).a8 v64.1)).bind λv67=>
       (z6 (((decide (v64.1<0))||(decide (v66.1<0)))==false) (⟨0,0,⟨0,0,0,0,false,[]⟩⟩:I4) (ix (sO s).a8 v66.1)).bind λv68=>
       if (((decide (v64.1<0))||(decide (v66.1<0)))||(decide (v67.Val.Serial<=v68.Val.Serial))) then
        some (.inr s59)
       else
       (ix (s59.set (s58).toNat v63) (z8 (s58-1))).bind λv69=>
       some (.inl (z8 (s58-1),((s59.set (s58).toNat v63).set (z8 (s58-1)).toNat v65)))
      else
      some (.inr s59)) (s38,s39)).bind λe57=>
     some (.inl (z8 (s38+1),e57))
   else
   some (.inr s39)) (1,l))=some m/\m.Perm l/\m.Pairwise (λa b=>sk s.S.a8 a<=sk s.S.a8 b):=by
  have hb1:l.length+1-(1:Int).toNat<4611686018427387904:=by omega
  refine nt (s0:=((1:Int),l)) (λq=>∃k:Nat,q.1=(k:Int)/\(k<=l.length\/k=1)/\1<=k/\q.2.Perm l/\∀a b,a<b->b<k->K q.2 a<=K q.2 b) (λ(o':List Int)=>o'.Perm l/\o'.Pairwise (λa b=>sk s.S.a8 a<=sk s.S.a8 b)) (λq=>l.length+1-q.1.toNat) ⟨1,rfl,.inr rfl,by omega,List.Perm.refl _,λa b h1 h2=>by omega⟩ hb1 ?_;rintro⟨_,o⟩ ⟨k,rfl,hkl,hk1,hp,hk⟩;simp only at hp hk |-;have hol:o.length=l.length:=hp.length_eq;rcases zB k l.length with h1 | h1
  .left;obtain⟨o',e1,e2,e3⟩:=inner k o h1 hp λa b x1 x2 x3=>hk a b x1 (by omega);refine⟨(((k+1:Nat):Int),o'),?_,⟨k+1,rfl,by omega,by omega,e2,λa b x1 x2=>e3 a b x1 (by omega)⟩,by show l.length+1-((k+1:Nat):Int).toNat<l.length+1-(k:Int).toNat;omega⟩;rw[zb (by simp;omega),e1,Yx,p8 (by omega)]
  .right;refine⟨o,by rw[za (by simp;omega)],hp,?_⟩;rw[List.pairwise_iff_getElem];intro i j hi hj hij;have:=hk i j hij (by omega);simpa[K,List.getD,zc hi,zc hj] using this
 obtain⟨m,e1,e2,e3⟩:=outer;exact⟨m,by rw[show lp _ _=_ from e1];rfl,e2,e3⟩
theorem TO{s:a7}(hR:sG (sO s)):wZ (sO s)=some (lv s):=by
 have hlen:=jx hR;unfold wZ;simp only[jn];have hloop:lp (S:=Int × (List Int)) (E:=(List Int)) (λ((s18,s19):Int × (List Int))=>
   if (decide (s18<((sO s).a8.length:Int))) then
     (ix (sO s).a8 s18).bind λv27=>
     if (v27.State==1) then
      (jU s18 v27.Gen).bind λv28=>
      (app 8 s19 [v28]).bind λv29=>
      some (.inl (z8 (s18+1),v29))
     else
     some (.inl (z8 (s18+1),s19))
   else
   some (.inr s19)) (0,[])=some (aq 0 s.S.a8):=by
  refine fZ (fy (T:=List Int) s.S.a8.length (λk l=>l=aq 0 (s.S.a8.take k)) (λe=>e=aq 0 s.S.a8) (by omega) (by simp[aq]) (λk l hk hP=>?_) (λl hP=>?_))
  .subst hP;left;have hc:=(BO hR).gen k hk;have hl:=jI 0 (s.S.a8.take k);have et:s.S.a8.take (k+1)=s.S.a8.take k ++ [s.S.a8[k]]:=by rw[List.take_add_one,zc hk];rfl
   have el:(s.S.a8.take k).length=k:=by simp;omega
   refine⟨_,?_,rfl⟩;simp only[C0,zQ,hk,zV,zU,HO,u6 hk,wd,Yx,cO];rw[et,oE,el,zab];by_cases q:s.S.a8[k].State=1
   .rw[zb (by simpa using q),zb q,nx,Yx,zb (by omega),C3 (by omega) (by simp;omega),Yx,p8]
   .rw[za (by simpa using q),za q,p8,p0]
  .subst hP;refine⟨_,by simp only[C0,za2,zay,zm,zY];rfl,by simp⟩
 rw[show lp _ _=_ from hloop,Yx];obtain⟨m,h1,h2,h3⟩:=Nh hR (l:=aq 0 s.S.a8) (λx hx=>(ta hR).2 hx) (by have:=jI 0 s.S.a8;omega);rw[h1,Yx];congr 1;obtain⟨_,l2,l3⟩:=iQ hR;exact lY (key:=sk s.S.a8) (h2.trans l2.symm) h3 (l3.imp λh=>by omega) λa ha b hb e=>BU hR (h2.mem_iff.1 ha) (h2.mem_iff.1 hb) e
theorem Di(v:List Int)(h:v.length<=1000000):gr v=some (nz v):=by
 unfold gr pb;simp only[jn,Yx];rw[O4 v (λb x=>if x != 0 then b ++ [x] else b) id (λk b=>b.length<=k) (by omega) (by simp) (λk hk b hb=>?_) (λb _=>?_)]
 .simp only[Yx,id];rw[foldl_filter];rfl
 .simp only[zQ,hk,zV,zU,u6 hk,Yx];by_cases q:(v[k] != 0)=true
  .rw[zb (by simpa using q),zb q,C3 (by omega) (by simp;omega),Yx,p8];exact⟨rfl,by simp;omega⟩
  .rw[za (by simpa using q),za q,p8];exact⟨rfl,by omega⟩
 .simp only[za2,zay,zm,zY];rfl
theorem Fl(v:List Int)(h:v.length<=1000000):jW v=some (nz v):=by
 unfold jW;simp only[jn];rw[O4 v (λb x=>if x != 0 then b ++ [x] else b) id (λk b=>b.length<=k) (by omega) (by simp) (λk hk b hb=>?_) (λb _=>?_)]
 .simp only[Yx,id];rw[foldl_filter];rfl
 .simp only[zQ,hk,zV,zU,u6 hk,Yx];by_cases q:(v[k] != 0)=true
  .rw[zb q,zb q,C3 (by omega) (by simp;omega),Yx,p8];exact⟨rfl,by simp;omega⟩
  .rw[za q,za q,p8];exact⟨rfl,by omega⟩
 .simp only[za2,zay,zm,zY];rfl
theorem xt(l:List Int)(h:Int)(hl:l.length<=1000000):jX l h=some (aE l h:Int):=by
 unfold jX;simp only[jn];rw[IW l (λ(b:Int) x=>if (x==h&&h != 0) then b+1 else b) id (λk b=>0<=b/\b<=k) (by omega) (by simp) (λk hk b hb=>?_) (λb _=>?_)]
 .simp only[Yx,id];rw[ub];simp
 .simp only[zQ,hk,zV,zU,u6 hk,Yx];by_cases q:(l[k]==h&&h != 0)=true
  .rw[zb q,zb q,p8,F7 (n:=b+1) (by omega) (by omega)];exact⟨rfl,by omega⟩
  .rw[za q,za q,p8];exact⟨rfl,by omega⟩
 .simp only[za2,zay,zm,zY];rfl
noncomputable def jt(s:a7)(h:Int):Nat:=((lv s).map λx=>aE (outs s x) h).sum
theorem RI{s:a7}(hR:sG (sO s)){k:Nat}(hk:k<(lv s).length):(lv s)[k]<=9223372036854775807:=by
 have:=nv hR (zj hk);omega
section
variable{s:a7}(hR:sG (sO s))
include hR
theorem Mj{h:Int}(hh:h<=9223372036854775807):kc s h=some (outs s h):=by
 obtain⟨e,h1,_⟩:=aI hR hh;unfold kc;rw[h1,Yx,Di _ (by have:=Hk hR h hh;simp only;omega)];rfl
theorem Lm(h:Int):jt s h<=96:=by
 have:=FU (λx=>aE (outs s x) h) 4 (lv s) λx hx=>un (Nu _ _) (wJ hR x (by have:=nv hR hx;omega));have:=M5 hR;unfold jt;omega
theorem Wh(h:Int):vn s h=some (jt s h:Int):=by
 unfold vn lP;simp only[jn,Yx];rw[show E0 s=_ from dd hR,Yx];have hl:=M5 hR;rw[O4 (lv s) (λ(b:Int) x=>b+(aE (outs s x) h:Int)) id (λk b=>0<=b/\b<=4*k) (by omega) (by simp) (λk hk b hb=>?_) (λb _=>?_)]
 .simp only[Yx,id];have:=vY (λx=>aE (outs s x) h) (lv s) 0;rw[show ((0:Nat):Int)=0 from rfl] at this;rw[this,zab];rfl
 .have ho:=Mj hR (RI hR hk);have hol:=wJ hR _ (RI hR hk);have ht:=Nu (outs s (lv s)[k]) h;simp only[zQ,hk,zV,zU,u6 hk,Yx,ho];rw[O4 (outs s (lv s)[k]) (λ(b:Int) x=>if (x==h&&h != 0) then b+1 else b) id (λj c=>b<=c/\c<=b+j) (by omega) (by simp) (λj hj c hc=>?_) (λc _=>?_)]
  .simp only[Yx,id];rw[ub,p8];exact⟨rfl,by omega⟩
  .simp only[zQ,hj,zV,zU,u6 hj,Yx];have hne:=Qj (zj hj);by_cases q:(outs s (lv s)[k])[j]=h
   .have e2:((outs s (lv s)[k])[j]==h&&h != 0)=true:=by simp only[zk,wf,bne_iff_ne];omega
    rw[e2,zb (by simpa using q),zb rfl,p8,F7 (n:=c+1) (by omega) (by omega)];exact⟨rfl,by omega⟩
   .have e2:((outs s (lv s)[k])[j]==h&&h != 0)=false:=by rw[zbb];simp only[ne_eq,zk,wf,bne_iff_ne];omega
    rw[e2,za (by simpa using q),p8];exact⟨rfl,by simp;omega⟩
  .simp only[za2,zay,zm,zY];rfl
 .simp only[za2,zay,zm,zY];rfl
end
section
variable{s:a7}(hR:sG (sO s))(hF:FB s)
include hR hF
end
theorem qQ{α:Type}(p:α->Bool):∀l:List α,l.length=(l.filter p).length+(l.filter λx => !p x).length
 | []=>rfl
 | x::l=>by
  have:=qQ p l;by_cases h:p x
  .simp[h];omega
  .simp[h];omega
theorem Wn{s:a7}(hR:sG (sO s)){l:List Int}(hp:l.Perm (aq 0 s.S.a8))(hs:l.Pairwise (λa b=>sk s.S.a8 a<sk s.S.a8 b)):lv s=l:=by
 obtain⟨_,l2,l3⟩:=iQ hR;exact lY (key:=sk s.S.a8) (l2.trans hp.symm) (l3.imp λh=>by omega) (hs.imp λh=>by omega) λa ha b hb e=>BU hR (l2.mem_iff.1 ha) (l2.mem_iff.1 hb) e
inductive qA (s:a7) (l:List Int):Int->Prop
 | base {h:Int}:h∈l->h∈lv s->qA s l h
 | step {a b:Int}:qA s l a->b∈outs s a->b∈lv s->qA s l b
open Classical in
noncomputable def FF (s:a7) (l:List Int):List Int:=(lv s).filter λh=>decide (qA s l h)
open Classical in
noncomputable def G8 (s:a7) (l:List Int):List Int:=(lv s).filter λh=>decide (¬qA s l h)
def Cl(s:a7)(l:List Int):Prop:=∀a∈l,∀b∈outs s a,b∈lv s->b∈l
def LB(l:List Int):Prop:=∀x∈l,x<=9223372036854775807
theorem qA.live{s:a7}{l:List Int}{h:Int}(q:qA s l h):h∈lv s:=by cases q <;> assumption
open Classical in
theorem dt {s:a7} {l:List Int} {h:Int}:h∈FF s l↔qA s l h:=by
 unfold FF;rw[zy];exact⟨λq=>zba q.2,λq=>⟨q.live,zA q⟩⟩
theorem QA{s:a7}(hR:sG (sO s))(l:List Int):(FF s l).length<=24:=un (zZ ..) (M5 hR)
theorem UI(s:a7)(l:List Int):Cl s (FF s l):=λa ha b hb hl=>dt.2 (.step (dt.1 ha) hb hl)
theorem qA.least{s:a7}{l m:List Int}(hc:Cl s m)(hl:∀x∈l,x∈lv s->x∈m){h:Int}(q:qA s l h):h∈m:=by
 induction q with
 | base h1 h2=>exact hl _ h1 h2
 | step _ h1 h2 ih=>exact hc _ ih _ h1 h2
theorem qA.mono{s:a7}{l m:List Int}(hl:∀x∈l,x∈lv s->qA s m x){h:Int}(q:qA s l h):qA s m h:=by
 induction q with
 | base h1 h2=>exact hl _ h1 h2
 | step _ h1 h2 ih=>exact .step ih h1 h2
theorem Jj{s:a7}{l m:List Int}(h:∀x,qA s l x↔qA s m x):FF s l=FF s m:=by
 unfold FF;exact za8 λx _=>zbh.2 (h x)
theorem filter_lt{α:Type}{p q:α->Bool}:∀ {l:List α},(∀x∈l,p x=true->q x=true)->∀x∈l,q x=true->p x=false->(l.filter p).length<(l.filter q).length
 | [],_,x,hx,_,_=>by cases hx
 | y::l,h,x,hx,h1,h2=>by
  have hle:(l.filter p).length<=(l.filter q).length:=by
   have h':∀x∈l,p x=true->q x=true:=λx hx=>h x (zt _ hx);clear h hx;induction l with
   | nil=>simp
   | cons z l ih=>
    have:=ih λx hx=>h' x (zt _ hx);have hz:=h' z (zi ..);simp only[n9];by_cases a:p z=true
    .rw[zb a,zb (hz a)];simp only[zl];omega
    .rw[za a];split <;> (try simp only[zl]) <;> omega
  rcases zJ.1 hx with rfl | hx'
  .simp only[n9,h1,h2,zU,zm,zY,zl];omega
  .have:=filter_lt (λx hx=>h x (zt _ hx)) x hx' h1 h2;have hy:=h y (zi ..);simp only[n9];by_cases a:p y=true
   .rw[zb a,zb (hy a)];simp only[zl];omega
   .rw[za a];split <;> (try simp only[zl]) <;> omega
theorem gO{l m:List Int}(hn:l.Nodup)(h:∀x∈l,x∈m):l.length<=m.length:=by
 induction l generalizing m with
 | nil=>simp
 | cons x l ih=>
  rw[zaq] at hn;have hx:=h x (zi ..);have:=ih (m:=m.erase x) hn.2 λy hy=>(List.mem_erase_of_ne (λe=>hn.1 (by subst e;exact hy))).2 (h y (zt _ hy));rw[List.length_erase_of_mem hx] at this;have:0<m.length:=List.length_pos_of_mem hx;simp only[zl];omega
section
variable{s:a7}(hR:sG (sO s))
include hR
theorem IQ{h:Int}(hh:h<=9223372036854775807):bh s h=some (decide (h∈lv s)):=by
 obtain⟨e,h1,h2⟩:=aI hR hh;unfold bh;rw[h1,Yx];congr 1;rw[zbm,wf,zF];exact h2
abbrev Mk(m:List (Int × Bool))(x:Int):Prop:=(y9 m x).getD false=true
noncomputable def Ib(s:a7)(m:List (Int × Bool)):Nat:=((lv s).filter λx => !(y9 m x).getD false).length
omit hR in
theorem th (m:List (Int × Bool)) (x y:Int):Mk (o0 m x true) y↔y=x\/Mk m y:=by
 unfold Mk;rw[oG];by_cases q:y=x
 .simp[q]
 .simp[q]
omit hR in
theorem QZ {m:List (Int × Bool)} {x:Int} (hx:x∈lv s) (hm:¬Mk m x):Ib s (o0 m x true)<Ib s m:=by
 unfold Ib;refine filter_lt (λy _ h=>?_) x hx (by simpa[Mk] using hm) ?_
 .by_cases q:Mk m y
  .have:=(th m x y).2 (.inr q);unfold Mk at this;rw[this] at h;cases h
  .simpa[Mk] using q
 .have:=(th m x x).2 (.inl rfl);unfold Mk at this;rw[this];rfl
structure En (s:a7) (l:List Int) (q:l6) (m:List (Int × Bool)):Prop where
 nd:q.L.Nodup
 cap:q.Cap=((lv s).length:Int)
 jP:∀x∈q.L,Mk m x
 rc:∀x,Mk m x->qA s l x
omit hR in
theorem En.room {l:List Int} {q:l6} {m:List (Int × Bool)} (h:En s l q m) {x:Int} (hx:x∈lv s) (hm:¬Mk m x):q.L.length<(lv s).length:=by
 have:(x::q.L).length<=(lv s).length:=gO (zaq.2 ⟨λk=>hm (h.jP x k),h.nd⟩) λy hy=>by
  rcases zJ.1 hy with rfl | k
  .exact hx
  .exact (h.rc y (h.jP y k)).live
 simp only[zl] at this;omega
omit hR in
theorem Qr {q:l6} {x:Int} (h:(q.L.length:Int)<q.Cap) (h2:q.L.length<=1000):Q5 q x=some (⟨q.L ++ [x],q.Cap⟩,0):=by
 unfold Q5 L9 Q6;rw[Yx,za (by simp;omega)];have:=gz (xs:=q.L) (i:=0) (j:=q.L.length) (by omega) (zq _);rw[show ((0:Nat):Int)=0 from rfl] at this;rw[this];simp only[zT,List.drop_zero,Yx];rw[C3 (by omega) (by simp;omega)];rfl
omit hR in
theorem Uw {x:Int} {r:List Int} {c:Int} (h2:r.length<=1000):bE ⟨x::r,c⟩=some (⟨r,c⟩,x,0):=by
 unfold bE fC L9 Q6;simp only[Yx,zl];have e:(if (if (((r.length+1:Nat):Int))<1 then (((r.length+1:Nat):Int)) else 1) > 0 then (if (((r.length+1:Nat):Int))<1 then (((r.length+1:Nat):Int)) else 1) else 0:Int)=((1:Nat):Int):=by
  rw[za (show ¬(((r.length+1:Nat):Int)<1) by omega)];rfl
 rw[e];have h1:=gz (xs:=x::r) (i:=0) (j:=1) (by omega) (by simp);have h3:=gz (xs:=x::r) (i:=1) (j:=r.length+1) (by omega) (by simp);rw[show ((0:Nat):Int)=0 from rfl] at h1;rw[h1,h3];simp only[Yx];have e1:List.drop 0 (List.take 1 (x::r)) = [x]:=by simp
 have e2:List.drop 1 (List.take (r.length+1) (x::r))=r:=by simp
 rw[e1,e2];rfl
abbrev Dw(s:a7)(xs:List Int):Int × l6 × (List (Int × Bool))->Option ((Int × l6 × (List (Int × Bool))) ⊕ (l6 × (List (Int × Bool)))):=
 λ(s114,s115,s116)=>
   if (decide (s114<(xs.length:Int))) then
     (ix xs s114).bind λv126=>
     (bh s v126).bind λv127=>
     if (v127==true) then
      if (!((y9 s116 v126).getD (false:Bool))) then
       (Q5 s115 v126).bind λv128=>
       some (.inl (z8 (s114+1),v128.1,(o0 s116 v126 true)))
      else
      some (.inl (z8 (s114+1),s115,s116))
     else
     some (.inl (z8 (s114+1),s115,s116))
   else
   some (.inr (s115,s116))
theorem yT{l xs:List Int}{q:l6}{m:List (Int × Bool)}(hxs:LB xs)(hlen:xs.length<=1000000)(h0:En s l q m)(hr:∀x∈xs,x∈lv s->qA s l x) :
  ∃q' m',lp (Dw s xs) (0,q,m)=some (q',m')/\En s l q' m'/\(∀x,Mk m' x↔Mk m x\/x∈xs/\x∈lv s)/\(∀x,Mk m' x->Mk m x\/x∈q'.L)/\(∀x∈q.L,x∈q'.L)/\2*Ib s m'+q'.L.length<=2*Ib s m+q.L.length:=by
 have:=fy (f:=Dw s xs) (t0:=(q,m)) xs.length (λk t=>En s l t.1 t.2/\(∀x,Mk t.2 x↔Mk m x\/x∈xs.take k/\x∈lv s)/\(∀x,Mk t.2 x->Mk m x\/x∈t.1.L)/\(∀x∈q.L,x∈t.1.L)/\2*Ib s t.2+t.1.L.length<=2*Ib s m+q.L.length)
  (λt=>En s l t.1 t.2/\(∀x,Mk t.2 x↔Mk m x\/x∈xs/\x∈lv s)/\(∀x,Mk t.2 x->Mk m x\/x∈t.1.L)/\(∀x∈q.L,x∈t.1.L)/\2*Ib s t.2+t.1.L.length<=2*Ib s m+q.L.length) (by omega)
  ⟨h0,λx=>by simp,λx h=>.inl h,λx h=>h,zq _⟩ (λk t hk hP=>?_) (λt hP=>?_)
 .obtain⟨⟨q',m'⟩,h1,h2⟩:=this;exact⟨q',m',h1,h2⟩
 .obtain⟨q1,m1⟩:=t;obtain⟨p1,p2,p3,p4,p5⟩:=hP;simp only at p1 p2 p3 p4 p5;left;have hle:=hxs _ (zj hk);have ht:∀x,x∈xs.take (k+1)↔x∈xs.take k\/x=xs[k]:=λx=>by rw[zu hk,zw,zH]
  simp only[Dw,zQ,hk,zV,zU,u6 hk,Yx,IQ hR hle];by_cases hv:xs[k]∈lv s
  .rw[zb (by simpa using hv)];by_cases hm:Mk m1 xs[k]
   .rw[za (by rw[show (y9 m1 xs[k]).getD false=true from hm];decide),p8];refine⟨(q1,m1),rfl,p1,λx=>?_,p3,p4,p5⟩;rw[p2,ht];constructor
    .rintro (a | ⟨a,b⟩);·exact .inl a
     .exact .inr ⟨.inl a,b⟩
    .rintro (a | ⟨a | rfl,b⟩);·exact .inl a
     .exact .inr ⟨a,b⟩
     .exact (p2 _).1 hm
   .have hm':(y9 m1 xs[k]).getD false=false:=by simpa[Mk] using hm
    have hroom:=p1.room hv hm;have hl24:=M5 hR;rw[zb (by rw[hm'];decide),Qr (by rw[p1.cap];omega) (by omega),Yx,p8];refine⟨(⟨q1.L ++ [xs[k]],q1.Cap⟩,o0 m1 xs[k] true),rfl,⟨?_,p1.cap,λx hx=>?_,λx hx=>?_⟩,λx=>?_,λx hx=>?_,λx hx=>?_,?_⟩
    .simp only;rw[zby];refine⟨p1.nd,by simp,λa ha b hb e=>?_⟩;rw[zH] at hb;subst hb;subst e;exact hm (p1.jP _ ha)
    .simp only[zw,zH] at hx;rw[th];rcases hx with a | a
     .exact .inr (p1.jP x a)
     .exact .inl a
    .rcases (th m1 xs[k] x).1 hx with rfl | a
     .exact hr _ (zj hk) hv
     .exact p1.rc x a
    .simp only;rw[th,p2,ht];constructor
     .rintro (rfl | a | ⟨a,b⟩);·exact .inr ⟨.inr rfl,hv⟩
      .exact .inl a
      .exact .inr ⟨.inl a,b⟩
     .rintro (a | ⟨a | a,b⟩);·exact .inr (.inl a)
      .exact .inr (.inr ⟨a,b⟩)
      .exact .inl a
    .simp only[zw,zH];rcases (th m1 xs[k] x).1 hx with a | a
     .exact .inr (.inr a)
     .rcases p3 x a with b | b
      .exact .inl b
      .exact .inr (.inl b)
    .simp only[zw];exact .inl (p4 x hx)
    .have:=QZ hv hm;simp only[zC,qr];omega
  .rw[za (by simpa using hv),p8];refine⟨(q1,m1),rfl,p1,λx=>?_,p3,p4,p5⟩;rw[p2,ht];constructor
   .rintro (a | ⟨a,b⟩);·exact .inl a
    .exact .inr ⟨.inl a,b⟩
   .rintro (a | ⟨a | rfl,b⟩);·exact .inl a
    .exact .inr ⟨a,b⟩
    .exact absurd b hv
 .obtain⟨q1,m1⟩:=t;refine⟨(q1,m1),?_,?_⟩;·simp only[Dw,za2,zay,zm,zY]
  .simpa using hP
theorem Ac(hF:FB s){l:List Int}(hl:LB l)(hlen:l.length<=1000000):∃m,du s l=some m/\∀x,Mk m x↔qA s l x:=by
 unfold du eM;simp only[jn,dd hR,Yx];have h24:=M5 hR;obtain⟨q0,m0,e0,i0,i1,i2,i3,i4⟩:=yT hR (l:=l) (xs:=l) (q:=⟨[],((lv s).length:Int)⟩) (m:=[]) hl hlen ⟨List.nodup_nil,rfl,(λx hx=>by cases hx),(λx hx=>by simp[Mk,y9] at hx)⟩ (λx h1 h2=>.base h1 h2);rw[show lp _ _=_ from e0,Yx];simp only;have hu:Ib s []<=24:=un (zZ ..) h24;obtain⟨m,h1,h2⟩:=nt (s0:=(q0,m0)) (f:=λ((s70,s71):l6 × (List (Int × Bool)))=>
    (L9 s70).bind λv74=>
    if (decide (v74 > 0)) then
     (bE s70).bind λv75=>
     (kc s v75.2.1).bind λv76=>
      (lp (Dw s v76) (0,v75.1,s71)).bind λe97=>
      (some (.inl (e97.1,e97.2)):Option ((l6 × List (Int × Bool)) ⊕ List (Int × Bool)))
    else
    some (.inr s71)) (λt=>En s l t.1 t.2/\(∀x∈l,x∈lv s->Mk t.2 x)/\∀a,Mk t.2 a->a∈t.1.L\/∀b∈outs s a,b∈lv s->Mk t.2 b) (λm=>∀x,Mk m x↔qA s l x) (λt=>2*Ib s t.2+t.1.L.length)
   ⟨i0,λx h1 h2=>(i1 x).2 (.inr ⟨h1,h2⟩),λa ha=>.inl ((i2 a ha).resolve_left (by simp[Mk,y9]))⟩ (by show 2*Ib s m0+q0.L.length<_;simp only[zW] at i4;omega) (by
   rintro⟨q,m⟩ ⟨p1,p2,p3⟩;simp only at p1 p2 p3 |-;have hq:=gO p1.nd λx hx=>(p1.rc x (p1.jP x hx)).live;unfold L9;rw[Yx];cases hqL:q.L with
   | nil=>
    right;refine⟨m,by rw[za (by simp)],λx=>⟨p1.rc x,λh=>?_⟩⟩;induction h with
    | base a b=>exact p2 _ a b
    | step _ a b ih=>
     rcases p3 _ ih with c | c
     .rw[hqL] at c;cases c
     .exact c _ a b
   | cons a r=>
    left;have hqe:q=⟨a::r,q.Cap⟩:=by rw[<-hqL]
    have hal:a∈lv s:=(p1.rc a (p1.jP a (by rw[hqL];exact zi ..))).live;have ha:a<=9223372036854775807:=by have:=nv hR hal;omega
    have hnd:=p1.nd;rw[hqL] at hnd hq;simp only[zl] at hq;obtain⟨q',m',e1,j0,j1,j2,j3,j4⟩:=yT hR (l:=l) (xs:=outs s a) (q:=⟨r,q.Cap⟩) (m:=m) (λx hx=>Qh hR hF ha hx) (by have:=wJ hR a ha;omega) ⟨(zaq.1 hnd).2,p1.cap,λx hx=>p1.jP x (by rw[hqL];exact zt _ hx),p1.rc⟩ (λx h1 h2=>.step (p1.rc a (p1.jP a (by rw[hqL];exact zi ..))) h1 h2);refine⟨(q',m'),?_,⟨j0,λx h1 h2=>(j1 x).2 (.inl (p2 x h1 h2)),λb hb=>?_⟩,?_⟩
    .rw[zb (by simp),hqe,Uw (by omega),Yx];simp only;rw[Mj hR ha,Yx,e1,Yx]
    .simp only at hb |-;rcases j2 b hb with c | c
     .rcases p3 b c with d | d
      .rw[hqL] at d;rcases zJ.1 d with rfl | d
       .exact .inr λy h1 h2=>(j1 y).2 (.inr ⟨h1,h2⟩)
       .exact .inl (j3 b d)
      .exact .inr λy h1 h2=>(j1 y).2 (.inl (d y h1 h2))
     .exact .inl c
    .show 2*Ib s m'+q'.L.length<2*Ib s m+(a::r).length;simp only[zl] at j4 |-;omega)
 refine⟨m,?_,h2⟩;rw[show lp _ _=_ from h1];rfl
end
theorem Ll(l:List Int)(x:Int)(hl:l.length<=1000000):∃r:Int,T7 l x=some r/\(0<=r↔x∈l):=by
 unfold T7;simp only[jn];by_cases h:x∈l
 .obtain⟨i,hi,e⟩:=List.mem_iff_getElem.1 h;obtain⟨j,⟨hj,ej⟩,hmin⟩:=bR (p:=λi=>∃hi:i<l.length,l[i]=x) ⟨i,hi,e⟩;refine⟨(j:Int),?_,by simp[h]⟩;refine dX l.length (λk=>k<=j) (by omega) (t8 _) (λk hk hP=>?_) (λhP=>by omega);simp only[zQ,hk,zV,zU,u6 hk,Yx];rcases zB k j with q | q
  .refine .inl ⟨?_,q⟩;rw[za (by
    rw[wf];intro e;have:=hmin k ⟨hk,e.symm⟩;omega),p8]
  .have:k=j:=by omega
   subst this;exact .inr ⟨_,by rw[zb (by simpa using ej.symm)],rfl⟩
 .refine⟨-1,?_,by simp[h]⟩;refine dX l.length (λk=>True) (by omega) trivial (λk hk hP=>.inl ⟨?_,trivial⟩) (λhP=>⟨.inr (),by simp,rfl⟩);simp only[zQ,hk,zV,zU,u6 hk,Yx];rw[za (by
   rw[wf];intro e;exact h (e▸zj hk)),p8]
theorem contains_eq(l:List Int)(x:Int)(hl:l.length<=1000000):F1 l x=some (decide (x∈l)):=by
 obtain⟨r,h1,h2⟩:=Ll l x hl;unfold F1;rw[h1,Yx];congr 1;exact zbh.2 h2
theorem Ld(l:List Int)(x:Int)(hl:l.length<=1000000):BB l x=some (decide (x≠0/\x∈l)):=by
 unfold BB;rw[xt l x hl,Yx];congr 1;rw[zbh,<-dC];omega
section
variable{s:a7}(hR:sG (sO s))
include hR
open Classical in
theorem GO (hF:FB s) {l:List Int} (hl:LB l) (hlen:l.length<=1000000):gW s l=some (FF s l):=by
 obtain⟨m,h1,h2⟩:=Ac hR hF hl hlen;unfold gW U5 fV;rw[h1,Yx];simp only[jn,dd hR,Yx];have h24:=M5 hR;rw[O4 (lv s) (λacc x=>if decide (qA s l x) then acc ++ [x] else acc) id (λk acc=>acc.length<=k) (by omega) (by simp) (λk hk acc hb=>?_) (λb _=>?_)]
 .simp only[Yx,id];rw[foldl_filter];rfl
 .simp only[zQ,hk,zV,zU,u6 hk,Yx];by_cases q:qA s l (lv s)[k]
  .rw[zb ((h2 _).2 q),zb (by simpa using q),C3 (by omega) (by simp;omega),Yx,p8];exact⟨rfl,by simp;omega⟩
  .rw[za (λk=>q ((h2 _).1 k)),za (by simpa using q),p8];exact⟨rfl,by omega⟩
 .simp only[za2,zay,zm,zY];rfl
open Classical in
theorem PC (hF:FB s) {l:List Int} (hl:LB l) (hlen:l.length<=1000000):lO s l=some (G8 s l):=by
 obtain⟨m,h1,h2⟩:=Ac hR hF hl hlen;unfold lO U6 fW;rw[h1,Yx];simp only[jn,dd hR,Yx];have h24:=M5 hR;rw[O4 (lv s) (λacc x=>if decide (¬qA s l x) then acc ++ [x] else acc) id (λk acc=>acc.length<=k) (by omega) (by simp) (λk hk acc hb=>?_) (λb _=>?_)]
 .simp only[Yx,id];rw[foldl_filter];rfl
 .simp only[zQ,hk,zV,zU,u6 hk,Yx];by_cases q:qA s l (lv s)[k]
  .have e:(y9 m (lv s)[k]).getD false=true:=(h2 _).2 q;rw[za (by rw[e];decide),za (by simpa using q),p8];exact⟨rfl,by omega⟩
  .have e:(y9 m (lv s)[k]).getD false=false:=by
    have:¬Mk m (lv s)[k]:=λk=>q ((h2 _).1 k);simpa[Mk] using this
   rw[zb (by rw[e];decide),zb (by simpa using q),C3 (by omega) (by simp;omega),Yx,p8];exact⟨rfl,by simp;omega⟩
 .simp only[za2,zay,zm,zY];rfl
end
abbrev Tb:=List b8
abbrev R8(p:b8):B5:=⟨p.State,p.Key,p.Val⟩
def pt(t:Tb)(j:Nat):b8:=t.getD j ⟨0,0,0⟩
theorem ud{t:Tb}{j:Nat}(h:j<t.length):pt t j=t[j]:=by unfold pt;rw[zf,zc h];rfl
theorem yF{t:Tb}{j:Nat}(h:j<t.length):ix t (j:Int)=some (pt t j):=by rw[u6 h,ud h]
theorem wM{t:Tb}{i:Nat}(h:i<t.length)(p:b8)(j:Nat):pt (t.set i p) j=if j=i then p else pt t j:=by
 unfold pt;rw[zf,zf,List.getElem?_set];by_cases e:i=j
 .subst e;simp[h]
 .rw[za e,za (zam e)]
def hm(n:Nat)(k:Int):Nat:=(z8 ((z8 (5*k))+1) % (n:Int)).toNat
theorem Lh{n:Nat}(h:1<=n)(k:Int):hm n k<n:=by
 unfold hm;have h1:=Int.emod_nonneg (z8 ((z8 (5*k))+1)) (show (n:Int)≠0 by omega);have h2:=Int.emod_lt_of_pos (z8 ((z8 (5*k))+1)) (show (0:Int)<n by omega);omega
theorem vb{n:Nat}(h:1<=n)(h2:n<=1000)(k:Int):bb n k=some (hm n k:Int):=by
 unfold bb hm;rw[za (by simp;omega)];generalize z8 ((z8 (5*k))+1)=a;have hp:=Int.emod_nonneg a (show (n:Int)≠0 by omega);have hl:=Int.emod_lt_of_pos a (show (0:Int)<n by omega);unfold rem;rw[za (by omega),Yx,Int.toNat_of_nonneg hp];rw[Int.tmod_eq_emod];split;·rw[show a % (n:Int)-((0:Nat):Int)=a % n by simp,za (by simp;omega)]
 .have:((n:Int).natAbs:Int)=n:=by simp
  rw[this];rw[zb (by simp;omega),F7 (by omega) (by omega)];congr 1;omega
def pos(n:Nat)(k:Int)(d:Nat):Nat:=(hm n k+d) % n
theorem fB{n:Nat}(h:1<=n)(k:Int)(d:Nat):pos n k d<n:=Nat.mod_lt _ h
theorem Sc{n:Nat}(h:1<=n)(h8:n<=8):n=1\/n=2\/n=3\/n=4\/n=5\/n=6\/n=7\/n=8:=by omega
theorem LO{n m i:Nat}(h:1<=n)(h8:n<=8)(hm:m<n)(hi:i<n):∃d,d<n/\(m+d) % n=i:=by
 refine⟨(i+n-m) % n,Nat.mod_lt _ h,?_⟩;rcases Sc h h8 with rfl | rfl | rfl | rfl | rfl | rfl | rfl | rfl <;> omega
theorem PI{n m d d':Nat}(h:1<=n)(h8:n<=8)(hd:d<n)(hd':d'<n)(e:(m+d) % n=(m+d') % n):d=d':=by
 rcases Sc h h8 with rfl | rfl | rfl | rfl | rfl | rfl | rfl | rfl <;> omega
theorem Dt{n:Nat}(h:1<=n)(h8:n<=8)(k:Int){i:Nat}(hi:i<n):∃d,d<n/\pos n k d=i:=LO h h8 (Lh h k) hi
theorem Qp{n:Nat}(h:1<=n)(h8:n<=8){k:Int}{d d':Nat}(hd:d<n)(hd':d'<n)(e:pos n k d=pos n k d'):d=d':=PI h h8 hd hd' e
structure HR (t:Tb):Prop where
 l1:1<=t.length
 l8:t.length<=8
 st:∀i,i<t.length->((pt t i).State=0\/(pt t i).State=1\/(pt t i).State=2)/\((pt t i).State≠1->(pt t i).Key=0/\(pt t i).Val=0)
 uq:∀i j,i<t.length->j<t.length->(pt t i).State=1->(pt t j).State=1->(pt t i).Key=(pt t j).Key->i=j
 rd:∀i,i<t.length->(pt t i).State=1->∀d,d<t.length->(∀d',d'<=d->pos t.length (pt t i).Key d'≠i)->(pt t (pos t.length (pt t i).Key d)).State≠0
def Fk(t:Tb)(k:Int)(i:Nat):Prop:=i<t.length/\(pt t i).State=1/\(pt t i).Key=k
instance(t:Tb)(k:Int)(i:Nat):Decidable (Fk t k i):=by unfold Fk;infer_instance
theorem step_eq{n:Nat}(h:1<=n)(h2:n<=1000)(k:Int){d:Nat}(hd:d<n):rem (z8 ((hm n k:Int)+d)) n=some ((pos n k d:Nat):Int):=by
 have:=Lh h k;rw[F7 (by omega) (by omega),oQ (by omega) (by omega)];unfold pos;simp[Int.natCast_emod]
theorem yx{t:Tb}(h1:1<=t.length)(h8:t.length<=8)(k:Int) :
  (∃d,d<t.length/\(∀j,j<d->(pt t (pos t.length k j)).State≠0/\¬Fk t k (pos t.length k j))/\Fk t k (pos t.length k d)/\aa t k=some ((pos t.length k d:Nat):Int)) \/
  (∃d,d<=t.length/\(∀j,j<d->(pt t (pos t.length k j)).State≠0/\¬Fk t k (pos t.length k j))/\(d=t.length\/(pt t (pos t.length k d)).State=0)/\aa t k=some (-1)):=by
 unfold aa;simp only[jn,gi,Yx];generalize hq:(lp (S:=Int) (E:=Int ⊕ Unit) _ 0)=q;have body:∀d:Nat,d<t.length->(if (decide ((d:Int)<(t.length:Int))) then
    (bb (t.length:Int) k).bind λv14=>
    (rem (z8 (v14+d)) (t.length:Int)).bind λv15=>
    (ix t v15).bind λv16=>
    if (v16.State==0) then
     some (.inr (.inr ()))
    else
    if ((v16.State==1)&&(v16.Key==k)) then
     some (.inr (.inl v15))
    else
    some (.inl (z8 ((d:Int)+1)))
   else
   some (.inr (.inr ())):Option (Int ⊕ (Int ⊕ Unit)))=if (pt t (pos t.length k d)).State=0 then some (.inr (.inr ())) else if Fk t k (pos t.length k d) then some (.inr (.inl ((pos t.length k d:Nat):Int))) else some (.inl ((d+1:Nat):Int)):=λd hd=>by
  have hp:=fB h1 k d;rw[zb (by simpa using hd),vb h1 (by omega),Yx,step_eq h1 (by omega) k hd,Yx,yF hp,Yx,p8 (by omega)];by_cases a:(pt t (pos t.length k d)).State=0
  .rw[zb (by simpa using a),zb a]
  .rw[za (by simpa using a),za a];by_cases b:Fk t k (pos t.length k d)
   .rw[zb (by simp[b.2.1,b.2.2]),zb b]
   .rw[za (by simp;exact λh1 h2=>b ⟨hp,h1,h2⟩),za b]
 have key:=Db (f:=λ(s12:Int)=>if (decide (s12<(t.length:Int))) then
    (bb (t.length:Int) k).bind λv14=>
    (rem (z8 (v14+s12)) (t.length:Int)).bind λv15=>
    (ix t v15).bind λv16=>
    if (v16.State==0) then
     some (.inr (.inr ()))
    else
    if ((v16.State==1)&&(v16.Key==k)) then
     some (.inr (.inl v15))
    else
    some (.inl (z8 (s12+1)))
   else
   some (.inr (.inr ()))) t.length (λd=>∀j,j<d->(pt t (pos t.length k j)).State≠0/\¬Fk t k (pos t.length k j))
   (λ(e:Int ⊕ Unit)=>(∃d,d<t.length/\(∀j,j<d->(pt t (pos t.length k j)).State≠0/\¬Fk t k (pos t.length k j))/\Fk t k (pos t.length k d)/\e = .inl ((pos t.length k d:Nat):Int)) \/
    (∃d,d<=t.length/\(∀j,j<d->(pt t (pos t.length k j)).State≠0/\¬Fk t k (pos t.length k j))/\(d=t.length\/(pt t (pos t.length k d)).State=0)/\e = .inr ())) (by omega) (λj hj=>by omega)
   (λd hd hP=>by
    rw[body d hd];by_cases a:(pt t (pos t.length k d)).State=0
    .rw[zb a];exact .inr ⟨_,rfl,.inr ⟨d,by omega,hP,.inr a,rfl⟩⟩
    .rw[za a];by_cases b:Fk t k (pos t.length k d)
     .rw[zb b];exact .inr ⟨_,rfl,.inl ⟨d,hd,hP,b,rfl⟩⟩
     .rw[za b];refine .inl ⟨rfl,λj hj=>?_⟩;rcases zB j d with q | q
      .exact hP j q
      .have:j=d:=by omega
       subst this;exact⟨a,b⟩)
   (λhP=>⟨.inr (),by simp,.inr ⟨t.length,zq _,hP,.inl rfl,rfl⟩⟩)
 obtain⟨e,he,hQ⟩:=key;rw[he] at hq;subst hq;rcases hQ with ⟨d,a1,a2,a3,rfl⟩ | ⟨d,a1,a2,a3,rfl⟩;·exact .inl ⟨d,a1,a2,a3,rfl⟩
 .exact .inr ⟨d,a1,a2,a3,rfl⟩
theorem lf{t:Tb}(hR:HR t){k:Int}{i:Nat}(hi:Fk t k i):aa t k=some (i:Int):=by
 obtain⟨di,hdi,hpi⟩:=Dt hR.l1 hR.l8 k hi.1;have road:∀d,d<di->(pt t (pos t.length k d)).State≠0:=λd hd=>by
  have:=hR.rd i hi.1 hi.2.1 d (by omega) (λd' hd' e=>by
   rw[hi.2.2] at e;have:=Qp hR.l1 hR.l8 (by omega) hdi (e.trans hpi.symm);omega)
  rwa [hi.2.2] at this
 rcases yx hR.l1 hR.l8 k with ⟨d,a1,a2,a3,a4⟩ | ⟨d,a1,a2,a3,a4⟩;·rw[a4,hR.uq _ i (fB hR.l1 k d) hi.1 a3.2.1 hi.2.1 (by rw[a3.2.2,hi.2.2])]
 .exfalso;rcases zB di d with q | q
  .exact (a2 di q).2 (by rw[hpi];exact hi)
  .rcases a3 with rfl | a3
   .omega
   .rcases zB d di with q' | q'
    .exact road d q' a3
    .have:d=di:=by omega
     subst this;rw[hpi,hi.2.1] at a3;cases a3
theorem iM{t:Tb}(h1:1<=t.length)(h8:t.length<=8){k:Int}(hi:∀i,¬Fk t k i):aa t k=some (-1):=by
 rcases yx h1 h8 k with ⟨d,a1,a2,a3,a4⟩ | ⟨d,a1,a2,a3,a4⟩;·exact absurd a3 (hi _)
 .exact a4
theorem tZ(t:Tb)(k:Int):(∃i,Fk t k i)\/∀i,¬Fk t k i:=by
 by_cases h:∃i,Fk t k i
 .exact .inl h
 .exact .inr λi hi=>h ⟨i,hi⟩
theorem xC{t:Tb}{i:Nat}(h8:t.length<=1000)(hi:i<t.length)(p:b8):cr t (i:Int) p=some (t.set i p):=by
 unfold cr D9;rw[U9 (by omega) (by omega),Yx,u6 hi,Yx,zX]
inductive uy (t:Tb) (k v:Int):Tb × Int->Prop
 | old (i:Nat) (hi:Fk t k i):uy t k v (t.set i ⟨1,k,v⟩,0)
 | new (d:Nat) (hn:∀i,¬Fk t k i) (hd:d<t.length) (hb:∀j,j<d->(pt t (pos t.length k j)).State=1) (hf:(pt t (pos t.length k d)).State≠1):uy t k v (t.set (pos t.length k d) ⟨1,k,v⟩,0)
 | full (hn:∀i,¬Fk t k i) (ha:∀i,i<t.length->(pt t i).State=1):uy t k v (t,8)
theorem put_eq{t:Tb}(hR:HR t)(k v:Int):∃r,gJ t k v=some r/\uy t k v r:=by
 have h1:=hR.l1;have h8:=hR.l8;unfold gJ;rcases tZ t k with ⟨i,hi⟩ | hn
 .rw[lf hR hi,Yx,zb (by simp),xC (by omega) hi.1];exact⟨_,rfl,.old i hi⟩
 .rw[iM h1 h8 hn,Yx,za (by decide)];simp only[jn,gi,Yx];have key:=Db (f:=λ(s15:Int)=>
   if (decide (s15<(t.length:Int))) then
    (bb (t.length:Int) k).bind λv17=>
    (rem (z8 (v17+s15)) (t.length:Int)).bind λv18=>
    (ix t v18).bind λv19=>
    if (v19.State != 1) then
     (cr t v18 (⟨1,k,v⟩:b8)).bind λv20=>
     some (Sum.inr (.inl (v20,(0:Int))))
    else
    some (.inl (z8 (s15+1)))
   else
   some (.inr (.inr ()))) t.length (λd=>∀j,j<d->(pt t (pos t.length k j)).State=1)
   (λ(e:(Tb × Int) ⊕ Unit)=>(∃r,e = .inl r/\uy t k v r)\/(e = .inr ()/\uy t k v (t,8))) (by omega) (λj hj=>by omega)
   (λd hd hP=>by
    have hp:=fB h1 k d;rw[zb (by simpa using hd),vb h1 (by omega),Yx,step_eq h1 (by omega) k hd,Yx,yF hp,Yx];by_cases a:(pt t (pos t.length k d)).State=1
    .rw[za (by simpa using a),p8 (by omega)];refine .inl ⟨rfl,λj hj=>?_⟩;rcases zB j d with q | q
     .exact hP j q
     .have:j=d:=by omega
      subst this;exact a
    .rw[zb (by simpa using a),xC (by omega) hp,Yx];exact .inr ⟨_,rfl,.inl ⟨_,rfl,.new d hn hd hP a⟩⟩)
   (λhP=>⟨.inr (),by simp,.inr ⟨rfl,.full hn λi hi=>by
    obtain⟨d,hd,rfl⟩:=Dt h1 h8 k hi;exact hP d hd⟩⟩)
  obtain⟨e,he,hQ⟩:=key;rw[he,Yx];rcases hQ with ⟨r,rfl,hr⟩ | ⟨rfl,hr⟩;·exact⟨r,rfl,hr⟩
  .exact⟨_,rfl,hr⟩
theorem Fa{t:Tb}(hR:HR t){k:Int}{i:Nat}(hi:Fk t k i):M4 t k=some ((pt t i).Val,0):=by
 unfold M4;rw[lf hR hi,Yx,za (by simp),yF hi.1,Yx]
theorem EZ{t:Tb}(hR:HR t){k:Int}(hi:∀i,¬Fk t k i):M4 t k=some (0,9):=by
 unfold M4;rw[iM hR.l1 hR.l8 hi,Yx,zb (by decide)]
theorem ou{t:Tb}(hR:HR t){k:Int}{i:Nat}(hi:Fk t k i):Z9 t k=some (t.set i ⟨2,0,0⟩,(pt t i).Val,0):=by
 have:=hR.l8;unfold Z9;rw[lf hR hi,Yx,za (by simp),xC (by omega) hi.1,Yx,yF hi.1,Yx]
theorem ot{t:Tb}(hR:HR t){k:Int}(hi:∀i,¬Fk t k i):Z9 t k=some (t,0,9):=by
 unfold Z9;rw[iM hR.l1 hR.l8 hi,Yx,zb (by decide)]
theorem HR.set{t:Tb}(hR:HR t){i:Nat}(hi:i<t.length){p:b8}(h0:p.State=1\/p=⟨2,0,0⟩)
  (hu:p.State=1->∀j,j≠i->¬Fk t p.Key j)(hr:p.State=1->∀d,d<t.length->(∀d',d'<=d->pos t.length p.Key d'≠i)->(pt t (pos t.length p.Key d)).State≠0):HR (t.set i p):=by
 have hnz:p.State≠0:=by
  rcases h0 with h | rfl
  .omega
  .simp
 refine⟨by simpa using hR.l1,by simpa using hR.l8,λj hj=>?_,λj j' hj hj' s1 s2 hk=>?_,λj hj s1 d hd hne=>?_⟩ <;> simp only[zae] at *
 .rw[wM hi];split
  .rcases h0 with h | rfl
   .exact⟨.inr (.inl h),λq=>absurd h q⟩
   .exact⟨.inr (.inr rfl),λ_=>⟨rfl,rfl⟩⟩
  .exact hR.st j hj
 .rw[wM hi] at s1 s2 hk;rw[wM hi] at hk;by_cases e1:j=i <;> by_cases e2:j'=i
  .rw[e1,e2]
  .rw[zb e1] at s1 hk;rw[za e2] at s2 hk;exact absurd ⟨hj',s2,hk.symm⟩ (hu s1 j' e2)
  .rw[za e1] at s1 hk;rw[zb e2] at s2 hk;exact absurd ⟨hj,s1,hk⟩ (hu s2 j e1)
  .rw[za e1] at s1 hk;rw[za e2] at s2 hk;exact hR.uq j j' hj hj' s1 s2 hk
 .simp only[wM hi] at s1 hne |-;by_cases e1:j=i
  .simp only[zb e1] at s1 hne |-;split;·exact hnz
   .exact hr s1 d hd (by rw[<-e1];exact hne)
  .simp only[za e1] at s1 hne |-;split;·exact hnz
   .exact hR.rd j hj s1 d hd hne
theorem qo{t:Tb}(hR:HR t){k v:Int}{r:Tb × Int}(h:uy t k v r):HR r.1:=by
 cases h with
 | old i hi=>
  refine hR.set hi.1 (.inl rfl) (λ_ j hj q=>hj (hR.uq j i q.1 hi.1 q.2.1 hi.2.1 (q.2.2.trans hi.2.2.symm))) λ_ d hd hne=>?_;have:=hR.rd i hi.1 hi.2.1 d hd (by rw[hi.2.2];exact hne);rwa [hi.2.2] at this
 | new d hn hd hb hf=>
  refine hR.set (fB hR.l1 k d) (.inl rfl) (λ_ j _=>hn j) λ_ d' hd' hne=>?_;rcases zB d' d with q | q
  .have:=hb d' q;simp only;omega
  .exact absurd rfl (hne d q)
 | full hn ha=>exact hR
theorem iI{t:Tb}(hR:HR t){i:Nat}(hi:i<t.length):HR (t.set i ⟨2,0,0⟩):=hR.set hi (.inr rfl) (λq=>by cases q) λq=>by cases q
theorem RB{t:Tb}{j:Nat}(h:j<t.length):ix (t.map R8) (j:Int)=some (R8 (pt t j)):=by rw[fR,yF h];rfl
theorem MK{t:Tb}(h8:t.length<=1000){k:Int}{i:Nat}(hi:Fk t k i)(hf:∀j,j<i->¬Fk t k j):fi (t.map R8) k=some (i:Int):=by
 unfold fi;simp only[jn];refine dX t.length (λj=>j<=i) (by omega) (t8 _) (λj hj hP=>?_) (λhP=>by have:=hi.1;omega);rw[zb (by simpa using hj),RB hj,Yx];by_cases e:j=i
 .subst e;exact .inr ⟨.inl (j:Int),by rw[zb (by simp[R8,hi.2.1,hi.2.2])],rfl⟩
 .have:=hf j (by omega);refine .inl ⟨by rw[za (by simp[R8];exact λh1 h2=>this ⟨hj,h1,h2⟩),p8 (by omega)],by omega⟩
theorem MJ{t:Tb}(h8:t.length<=1000){k:Int}(hf:∀j,¬Fk t k j):fi (t.map R8) k=some (-1):=by
 unfold fi;simp only[jn];refine dX t.length (λj=>True) (by omega) trivial (λj hj hP=>?_) (λhP=>⟨.inr (),by simp,rfl⟩);rw[zb (by simpa using hj),RB hj,Yx];refine .inl ⟨by rw[za (by simp[R8];exact λh1 h2=>hf j ⟨hj,h1,h2⟩),p8 (by omega)],trivial⟩
theorem KQ{t:Tb}{k:Int}(h:∃i,Fk t k i):∃i,Fk t k i/\∀j,j<i->¬Fk t k j:=by
 obtain⟨i,h1,h2⟩:=bR h;exact⟨i,h1,λj hj q=>by have:=h2 j q;omega⟩
theorem yZ{t:Tb}{i:Nat}(h8:t.length<=1000)(hi:i<t.length)(p:b8):fk (t.map R8) (i:Int) (R8 p)=some ((t.set i p).map R8):=by
 unfold fk;rw[U9 (by omega) (by simp;omega),Yx,RB hi,Yx,zX,zbw]
theorem DD:DA=bb:=rfl
theorem RW{n:Nat}(h1:1<=n)(h8:n<=8)(k:Int)(d:Nat):rem (z8 (((pos n k d:Nat):Int)+1)) n=some ((pos n k (d+1):Nat):Int):=by
 have:=fB h1 k d;rw[F7 (by omega) (by omega),oQ (by omega) (by omega)];unfold pos;congr 1;have:((hm n k+d) % n+1) % n=(hm n k+(d+1)) % n:=by rw[Nat.mod_add_mod];rfl
 rw[<-this];simp[Int.natCast_emod]
theorem Du{n:Nat}(h1:1<=n)(k:Int):pos n k 0=hm n k:=by
 unfold pos;rw[zaf,zcd (Lh h1 k)]
def Has(t:Tb)(k v:Int):Prop:=∃i,Fk t k i/\(pt t i).Val=v
theorem TC{t:Tb}{k:Int}:(∀v,¬Has t k v)↔∀i,¬Fk t k i:=by
 constructor;·intro h i hi;exact h _ ⟨i,hi,rfl⟩
 .rintro h v ⟨i,hi,_⟩;exact h i hi
theorem TD(t:Tb)(k:Int):(∃v,Has t k v)\/∀v,¬Has t k v:=by
 by_cases h:∃v,Has t k v
 .exact .inl h
 .exact .inr λv hv=>h ⟨v,hv⟩
theorem Has.fn{t:Tb}(hR:HR t){k v v':Int}(h:Has t k v)(h':Has t k v'):v=v':=by
 obtain⟨i,a,rfl⟩:=h;obtain⟨j,b,rfl⟩:=h';rw[hR.uq i j a.1 b.1 a.2.1 b.2.1 (a.2.2.trans b.2.2.symm)]
theorem GS{t:Tb}(hR:HR t){k v:Int}(h:Has t k v):M4 t k=some (v,0):=by
 obtain⟨i,a,rfl⟩:=h;exact Fa hR a
theorem IN{t:Tb}(hR:HR t){k:Int}(h:∀v,¬Has t k v):M4 t k=some (0,9):=EZ hR (TC.1 h)
theorem AZ{t:Tb}{i:Nat}(hi:i<t.length){k v:Int}(p:b8)(h:∀j,j≠i->Fk t p.Key j->p.State≠1)(k' v':Int) :
  Has (t.set i p) k' v'↔(p.State=1/\p.Key=k'/\p.Val=v')\/∃j,j≠i/\Fk t k' j/\(pt t j).Val=v':=by
 unfold Has Fk;simp only[zae,wM hi];constructor
 .rintro⟨j,⟨h1,h2,h3⟩,h4⟩;by_cases e:j=i
  .rw[zb e] at h2 h3 h4;exact .inl ⟨h2,h3,h4⟩
  .rw[za e] at h2 h3 h4;exact .inr ⟨j,e,⟨h1,h2,h3⟩,h4⟩
 .rintro (⟨h1,h2,h3⟩ | ⟨j,e,⟨h1,h2,h3⟩,h4⟩);·exact⟨i,by simp[hi,h1,h2,h3]⟩
  .exact⟨j,by simp[e,h1,h2,h3,h4]⟩
theorem Bu{t:Tb}(hR:HR t){k v:Int}{r:Tb × Int}(h:uy t k v r)(h0:r.2=0)(k' v':Int):Has r.1 k' v'↔(k'=k/\v'=v)\/(k'≠k/\Has t k' v'):=by
 cases h with
 | old i hi=>
  rw[AZ (k:=k) (v:=v) hi.1 _ (λj hj q=>absurd (hR.uq j i q.1 hi.1 q.2.1 hi.2.1 (q.2.2.trans hi.2.2.symm)) hj)];constructor
  .rintro (⟨_,rfl,rfl⟩ | ⟨j,e,h1,h2⟩);·exact .inl ⟨rfl,rfl⟩
   .refine .inr ⟨λq=>?_,j,h1,h2⟩;subst q;exact e (hR.uq j i h1.1 hi.1 h1.2.1 hi.2.1 (h1.2.2.trans hi.2.2.symm))
  .rintro (⟨rfl,rfl⟩ | ⟨e,j,h1,h2⟩);·exact .inl ⟨rfl,rfl,rfl⟩
   .refine .inr ⟨j,λq=>?_,h1,h2⟩;subst q;exact e (h1.2.2.symm.trans hi.2.2)
 | new d hn hd hb hf=>
  rw[AZ (k:=k) (v:=v) (fB hR.l1 k d) _ (λj hj q=>absurd q (hn j))];constructor
  .rintro (⟨_,rfl,rfl⟩ | ⟨j,e,h1,h2⟩);·exact .inl ⟨rfl,rfl⟩
   .refine .inr ⟨λq=>?_,j,h1,h2⟩;subst q;exact hn j h1
  .rintro (⟨rfl,rfl⟩ | ⟨e,j,h1,h2⟩);·exact .inl ⟨rfl,rfl,rfl⟩
   .refine .inr ⟨j,λq=>?_,h1,h2⟩;subst q;exact hf h1.2.1
 | full hn ha=>cases h0
theorem vM{t:Tb}(hR:HR t){k:Int}{i:Nat}(hi:Fk t k i)(k' v':Int):Has (t.set i ⟨2,0,0⟩) k' v'↔k'≠k/\Has t k' v':=by
 rw[AZ (k:=k) (v:=0) hi.1 _ (λj hj q=>by simp)];constructor
 .rintro (⟨h,_⟩ | ⟨j,e,h1,h2⟩);·cases h
  .refine⟨λq=>?_,j,h1,h2⟩;subst q;exact e (hR.uq j i h1.1 hi.1 h1.2.1 hi.2.1 (h1.2.2.trans hi.2.2.symm))
 .rintro⟨e,j,h1,h2⟩;refine .inr ⟨j,λq=>?_,h1,h2⟩;subst q;exact e (h1.2.2.symm.trans hi.2.2)
def keys(t:Tb):List Int:=(t.filter (·.State==1)).map (·.Key)
theorem ER{α β:Type}(p:α->Bool)(f:α->β)(l:List α)(k:Nat)(h:k<l.length):((l.take (k+1)).filter p).map f=((l.take k).filter p).map f++(if p l[k] then [f l[k]] else []):=by
 rw[zu h,zan,zad];congr 1;simp only[n9,zci];split <;> rfl
theorem keys_eq{t:Tb}(h:t.length<=1000):jG t=some (keys t):=by
 unfold jG keys;simp only[jn];refine Y1 t.length (λk l=>l=((t.take k).filter (·.State==1)).map (·.Key)) (by omega) (by simp) ?_ (λl hl=>⟨_,by simp;rfl,by rw[hl,zT]⟩);rintro k l hk rfl;left;rw[ER _ _ _ _ hk];rw[zb (by simpa using hk),u6 hk,Yx,p8 (by omega)];have hle:(List.map (·.Key) (List.filter (·.State==1) (List.take k t))).length<=1000:=by
  rw[wt];exact un (zZ ..) (by simp;omega)
 by_cases c:(t[k].State==1)=true
 .rw[zb c,zb c,C3 (by omega) (by simp only[zl,zW];omega),Yx];exact⟨_,rfl,rfl⟩
 .rw[za c,za c];exact⟨_,rfl,by simp⟩
theorem BJ{t:Tb}(hR:HR t)(k:Int):fi (t.map R8) k=aa t k:=by
 have h8:=hR.l8;rcases tZ t k with ⟨i,hi⟩ | hn
 .rw[lf hR hi];obtain⟨f,hf1,hf2⟩:=KQ ⟨i,hi⟩;rw[MK (by omega) hf1 hf2,hR.uq f i hf1.1 hi.1 hf1.2.1 hi.2.1 (hf1.2.2.trans hi.2.2.symm)]
 .rw[iM hR.l1 hR.l8 hn,MJ (by omega) hn]
theorem RV{t:Tb}(hR:HR t)(k:Int):vl (t.map R8) k=M4 t k:=by
 unfold vl M4;rw[BJ hR];rcases tZ t k with ⟨i,hi⟩ | hn;·rw[lf hR hi,Yx,Yx,za (by simp),za (by simp),RB hi.1,yF hi.1];rfl
 .rw[iM hR.l1 hR.l8 hn];rfl
theorem MF{t:Tb}(hR:HR t)(k:Int):nC (t.map R8) k=(Z9 t k).map λr=>(r.1.map R8,r.2):=by
 have h8:=hR.l8;rcases tZ t k with ⟨i,hi⟩ | hn
 .rw[ou hR hi];unfold nC;rw[BJ hR,lf hR hi,Yx,za (by simp)];have:=yZ (t:=t) (by omega) hi.1 ⟨2,0,0⟩;dsimp only[R8] at this;rw[this,Yx,RB hi.1];rfl
 .rw[ot hR hn];unfold nC;rw[BJ hR,iM hR.l1 hR.l8 hn];rfl
theorem WW{t:Tb}(hR:HR t)(k v:Int){r:Tb × Int}(h:uy t k v r):BD (t.map R8) k v=some (r.1.map R8,r.2):=by
 have h1:=hR.l1;have h8:=hR.l8;unfold BD;rw[BJ hR];have hw:∀i,i<t.length->fk (t.map R8) (i:Int) ⟨1,k,v⟩=some ((t.set i ⟨1,k,v⟩).map R8):=λi hi=>yZ (t:=t) (by omega) hi ⟨1,k,v⟩;cases h with
 | old i hi=>
  rw[lf hR hi,Yx,zb (by simp),hw i hi.1];rfl
 | new d hn hd hb hf=>
  rw[iM h1 h8 hn,Yx,za (by decide),wt,DD,vb h1 (by omega),Yx];simp only[jn];rw[<-Du h1 k];obtain⟨e,he,hQ⟩:=Bi (f:=λ((s15,s16):Int × Int)=>
   if (decide (s16<(t.length:Int))) then
    (ix (t.map R8) s15).bind λv19=>
    if (v19.State != 1) then
     (fk (t.map R8) s15 (⟨1,k,v⟩:B5)).bind λv20=>
     some (Sum.inr (Sum.inl (β:=Unit) (v20,(0:Int))))
    else
    (rem (z8 (s15+1)) (t.length:Int)).bind λv21=>
    some (Sum.inl (v21,z8 (s16+1)))
   else
   some (Sum.inr (Sum.inr ()))) (λd=>(((pos t.length k d:Nat):Int),(d:Int))) d (λ_=>True) (λe=>e = .inl ((t.set (pos t.length k d) ⟨1,k,v⟩).map R8,0)) (by omega) trivial (λj hj _=>by
    have hp:=fB h1 k j;dsimp only;rw[zb (by simp;omega),RB hp,Yx,za (by simpa[R8] using hb j hj),RW h1 h8,Yx,p8 (by omega)];exact .inl ⟨rfl,trivial⟩) (λ_=>by
    have hp:=fB h1 k d;dsimp only;rw[zb (by simpa using hd),RB hp,Yx,zb (by simpa[R8] using hf),hw _ hp];exact⟨_,rfl,rfl⟩)
  have he':lp _ (((pos t.length k 0:Nat):Int),(0:Int))=some e:=he;rw[he',hQ];rfl
 | full hn ha=>
  rw[iM h1 h8 hn,Yx,za (by decide),wt,DD,vb h1 (by omega),Yx];simp only[jn];rw[<-Du h1 k];obtain⟨e,he,hQ⟩:=Bi (f:=λ((s15,s16):Int × Int)=>
   if (decide (s16<(t.length:Int))) then
    (ix (t.map R8) s15).bind λv19=>
    if (v19.State != 1) then
     (fk (t.map R8) s15 (⟨1,k,v⟩:B5)).bind λv20=>
     some (Sum.inr (Sum.inl (β:=Unit) (v20,(0:Int))))
    else
    (rem (z8 (s15+1)) (t.length:Int)).bind λv21=>
    some (Sum.inl (v21,z8 (s16+1)))
   else
   some (Sum.inr (Sum.inr ()))) (λd=>(((pos t.length k d:Nat):Int),(d:Int))) t.length (λ_=>True) (λe=>e = .inr ()) (by omega) trivial (λj hj _=>by
    have hp:=fB h1 k j;dsimp only;rw[zb (by simp;omega),RB hp,Yx,za (by simpa[R8] using ha _ hp),RW h1 h8,Yx,p8 (by omega)];exact .inl ⟨rfl,trivial⟩) (λ_=>⟨.inr (),by simp,rfl⟩)
  have he':lp _ (((pos t.length k 0:Nat):Int),(0:Int))=some e:=he;rw[he',hQ];rfl
theorem wN{t:Tb}{k v:Int}{r:Tb × Int}(h:uy t k v r):r.1.length=t.length:=by cases h <;> simp
theorem gL(t:Tb):(keys t).length=t.countP (·.State==1):=by
 unfold keys;rw[wt,zbn]
theorem rm{t:Tb}{i:Nat}(h:i<t.length)(p:b8):(keys (t.set i p)).length+(if (pt t i).State=1 then 1 else 0)=(keys t).length+if p.State=1 then 1 else 0:=by
 rw[gL,gL,List.countP_set h,ud h];simp only[wf];have:(if t[i].State=1 then 1 else 0)<=t.countP λc=>c.State==1:=by
  split
  .rename_i e;exact zbo.2 ⟨t[i],zj h,by simpa using e⟩
  .exact t8 _
 omega
theorem IS{t:Tb}(h:∀i,i<t.length->(pt t i).State=1):(keys t).length=t.length:=by
 rw[gL,List.countP_eq_length];intro a ha;obtain⟨i,hi,rfl⟩:=zbd ha;have:=h i hi;rw[ud hi] at this;simpa using this
theorem Py{t:Tb}{i:Nat}(hi:i<t.length)(h:(pt t i).State≠1):(keys t).length<t.length:=by
 have h1:(keys t).length<=t.length:=by rw[gL];exact zbf
 rcases zB (keys t).length t.length with q | q
 .exact q
 .exfalso;have e:(keys t).length=t.length:=by omega
  rw[gL,List.countP_eq_length] at e;have:=e t[i] (zj hi);rw[ud hi] at h;exact h (by simpa using this)
structure TM {V:Type} (φ:V->Int->Prop) (t:Tb) (m:List (Int × V)):Prop where
 R:HR t
 nd:(m.map (·.1)).Nodup
 len:(keys t).length=m.length
 has:∀k,(∀v,Has t k v->∃u,y9 m k=some u/\φ u v)/\((y9 m k).isSome=true->∃v,Has t k v)
theorem TM.some{V:Type}{φ:V->Int->Prop}{t:Tb}{m:List (Int × V)}(h:TM φ t m)(k:Int):(∃v u,Has t k v/\y9 m k=some u/\φ u v)\/(y9 m k=none/\∀v,¬Has t k v):=by
 rcases TD t k with ⟨v,hv⟩ | hn
 .obtain⟨u,h1,h2⟩:=(h.has k).1 v hv;exact .inl ⟨v,u,hv,h1,h2⟩
 .refine .inr ⟨?_,hn⟩;cases hq:y9 m k with
  | none=>rfl
  | some u=>
   obtain⟨v,hv⟩:=(h.has k).2 (by rw[hq];rfl);exact absurd hv (hn v)
theorem TM.put{V:Type}{φ:V->Int->Prop}{t:Tb}{m:List (Int × V)}(h:TM φ t m)(k v:Int)(u:V)(hφ:φ u v):∃r,gJ t k v = .some r/\r.1.length=t.length/\((r.2=0/\TM φ r.1 (o0 m k u)/\((y9 m k).isSome=true\/m.length<t.length))\/(r=(t,8)/\(y9 m k)=none/\m.length=t.length)):=by
 obtain⟨r,hr,hp⟩:=put_eq h.R k v;refine⟨r,hr,wN hp,?_⟩;have hRr:=qo h.R hp;by_cases h0:r.2=0
 .left;have hh:=Bu h.R hp h0;have hmem:∀k',(∀w,Has r.1 k' w->∃x,y9 (o0 m k u) k' = .some x/\φ x w)/\((y9 (o0 m k u) k').isSome=true->∃w,Has r.1 k' w):=λk'=>by
   rw[oG];by_cases e:k'=k
   .subst e;rw[zb rfl];refine⟨λw hw=>?_,λ_=>⟨v,(hh _ _).2 (.inl ⟨rfl,rfl⟩)⟩⟩;rcases (hh _ _).1 hw with ⟨_,rfl⟩ | ⟨q,_⟩;·exact⟨u,rfl,hφ⟩
    .exact absurd rfl q
   .rw[za e];refine⟨λw hw=>?_,λq=>?_⟩
    .rcases (hh _ _).1 hw with ⟨q,_⟩ | ⟨_,q⟩;·exact absurd q e
     .exact (h.has k').1 w q
    .obtain⟨w,hw⟩:=(h.has k').2 q;exact⟨w,(hh _ _).2 (.inr ⟨e,hw⟩)⟩
  have hlen:(keys r.1).length=(o0 m k u).length/\((y9 m k).isSome=true\/m.length<t.length):=by
   rw[LP];cases hp with
   | old i hi=>
    have h1:(y9 m k).isSome=true:=by
     obtain⟨x,h1,_⟩:=(h.has k).1 _ ⟨i,hi,rfl⟩;rw[h1];rfl
    have:=rm hi.1 ⟨1,k,v⟩;rw[zb hi.2.1,zb rfl,h.len] at this;rw[zb h1];exact⟨by simp only;omega,.inl h1⟩
   | new d hn hd hb hf=>
    have h1:(y9 m k)=none:=by
     rcases h.some k with ⟨w,x,hw,_⟩ | ⟨q,_⟩
     .obtain⟨i,hi,_⟩:=hw;exact absurd hi (hn i)
     .exact q
    have hlt:=fB h.R.l1 k d;have:=rm hlt ⟨1,k,v⟩;rw[za hf,zb rfl,h.len] at this;rw[h1];have h2:=Py hlt hf;rw[h.len] at h2;exact⟨by simpa using this,.inr h2⟩
   | full hn ha=>cases h0
  exact⟨h0,⟨hRr,Fi h.nd k u,hlen.1,hmem⟩,hlen.2⟩
 .right;cases hp with
  | old i hi=>exact absurd rfl h0
  | new d hn hd hb hf=>exact absurd rfl h0
  | full hn ha=>
   refine⟨rfl,?_,?_⟩
   .rcases h.some k with ⟨w,x,hw,_⟩ | ⟨q,_⟩
    .obtain⟨i,hi,_⟩:=hw;exact absurd hi (hn i)
    .exact q
   .rw[<-h.len,IS ha]
theorem TM.drop{V:Type}{φ:V->Int->Prop}{t:Tb}{m:List (Int × V)}(h:TM φ t m)(k:Int):(∃r v u,Z9 t k = .some (r,v,0)/\r.length=t.length/\y9 m k = .some u/\φ u v/\TM φ r (te m k))\/(Z9 t k = .some (t,0,9)/\y9 m k=none/\te m k=m):=by
 rcases tZ t k with ⟨i,hi⟩ | hn
 .left;obtain⟨u,h1,h2⟩:=(h.has k).1 _ ⟨i,hi,rfl⟩;refine⟨_,_,u,ou h.R hi,by simp,h1,h2,iI h.R hi.1,(LJ m k).nodup h.nd,?_,λk'=>?_⟩
  .have:=rm hi.1 ⟨2,0,0⟩;rw[zb hi.2.1,za (by decide),h.len] at this;rw[LI,h1];simp only[Option.isSome_some,zU];omega
  .have hh:=vM h.R hi;rw[IY h.nd];by_cases e:k'=k
   .subst e;rw[zb rfl];exact⟨λw hw=>absurd rfl ((hh _ _).1 hw).1,λq=>by cases q⟩
   .rw[za e];refine⟨λw hw=>(h.has k').1 w ((hh _ _).1 hw).2,λq=>?_⟩;obtain⟨w,hw⟩:=(h.has k').2 q;exact⟨w,(hh _ _).2 ⟨e,hw⟩⟩
 .right;have h1:y9 m k=none:=by
   rcases h.some k with ⟨w,x,hw,_⟩ | ⟨q,_⟩
   .obtain⟨i,hi,_⟩:=hw;exact absurd hi (hn i)
   .exact q
  refine⟨ot h.R hn,h1,?_⟩;have:∀(l:List (Int × V)),y9 l k=none->te l k=l:=by
   intro l;induction l with
   | nil=>intro _;rfl
   | cons p l ih=>
    intro q;unfold y9 at q;unfold te;by_cases e:k=p.1
    .rw[zb (by simpa using e)] at q;cases q
    .rw[za (by simpa using e)] at q;rw[za (by simpa using e),ih q]
  exact this m h1
theorem TZ{n:Nat}(h1:1<=n)(h8:n<=8):rh (n:Int)=some (List.replicate n ⟨0,0,0⟩):=by
 unfold rh;rw[za (by simp;omega),jO (by omega) (by omega)];rfl
theorem wL{n j:Nat}:pt (List.replicate n ⟨0,0,0⟩) j=⟨0,0,0⟩:=by
 unfold pt;rw[zf,List.getElem?_replicate];split <;> rfl
theorem Vi{V:Type}(φ:V->Int->Prop){n:Nat}(h1:1<=n)(h8:n<=8):TM φ (List.replicate n ⟨0,0,0⟩) []:=by
 refine⟨⟨by simpa using h1,by simpa using h8,λi hi=>?_,λi j hi hj s=>?_,λi hi s=>?_⟩,by simp,?_,λk=>⟨λv hv=>?_,λq=>by cases q⟩⟩;·rw[wL];exact⟨.inl rfl,λ_=>⟨rfl,rfl⟩⟩
 .rw[wL] at s;cases s
 .rw[wL] at s;cases s
 .rw[gL,List.countP_replicate];rfl
 .obtain⟨i,hi,_⟩:=hv;have:=hi.2.1;rw[wL] at this;cases this
def lG(t:Tb):List r7:=(t.filter (·.State==1)).map λp=>⟨p.Key,p.Val⟩
theorem wq(t:Tb):keys t=(lG t).map (·.Key):=by
 unfold keys lG;rw[List.map_map];rfl
theorem fU(t:Tb):(lG t).length=(keys t).length:=by rw[wq,wt]
theorem tv{t:Tb}(h:t.length<=8):(lG t).length<=8:=by
 rw[fU,gL];exact un zbf h
theorem iU{t:Tb}{p:r7}:p∈lG t↔Has t p.Key p.Val:=by
 unfold lG Has;rw[zI];constructor
 .rintro⟨q,hq,rfl⟩;obtain⟨h1,h2⟩:=zy.1 hq;obtain⟨i,hi,rfl⟩:=zbd h1;refine⟨i,⟨hi,?_,?_⟩,?_⟩ <;> rw[ud hi]
  simpa using h2
 .rintro⟨i,⟨hi,h1,h2⟩,h3⟩;rw[ud hi] at h1 h2 h3;refine⟨t[i],zy.2 ⟨zj hi,by simpa using h1⟩,?_⟩;cases p;simp at h2 h3 |-;exact⟨h2,h3⟩
theorem Hw{t:Tb}(hR:HR t){j:Nat}(h:j<(lG t).length):M4 t (lG t)[j].Key=some ((lG t)[j].Val,0):=GS hR (iU.1 (zj h))
theorem Rr{E R:Type}{x:Option E}{r:E}{κ:E->Option R}{y:Option R}(h:x=some r)(hy:κ r=y):((x.bind λe=>some e).bind κ)=y:=by rw[h];exact hy
theorem Mr{t:Tb}(hR:HR t):iK t=some (lG t):=by
 have h8:=hR.l8;have hp:=tv h8;unfold iK B3 cm eE;simp only[jn,Yx];rw[keys_eq (by omega),Yx];refine Rr (fZ (fy (lG t).length (λk l=>l=(lG t).take k) (λe=>e=lG t) (by omega) (by simp) ?_ ?_)) rfl
 .rintro k l hk rfl;refine .inl ⟨_,?_,rfl⟩;dsimp only;rw[zb (by rw[<-fU];simpa using hk),u6 (by rw[<-fU];exact hk),Yx];have e:(keys t)[k]'(by rw[<-fU];exact hk)=(lG t)[k].Key:=by simp[wq]
  rw[e,Hw hR hk,Yx,zb (by trivial),C3 (by omega) (by simp;omega),Yx,p8 (by omega),zu hk]
 .rintro l rfl;exact⟨_,by rw[<-fU];simp;rfl,by simp⟩
def own(t:Tb)(h:Int):Nat:=(lG t).countP λp=>(h != 0)&&(p.Val==h)
theorem Mm{t:Tb}(hR:HR t)(h:Int):iJ t h=some (own t h:Int):=by
 have h8:=hR.l8;have hp:=tv h8;unfold iJ B2 cm eD;simp only[jn,Yx];rw[keys_eq (by omega),Yx];refine Rr (r:=(lG t).filter λp=>(h != 0)&&(p.Val==h)) (fZ (fy (lG t).length (λk l=>l=((lG t).take k).filter λp=>(h != 0)&&(p.Val==h)) (λe=>e=(lG t).filter λp=>(h != 0)&&(p.Val==h)) (by omega) (by simp) ?_ ?_)) (by unfold own;rw[zbn])
 .rintro k l hk rfl;refine .inl ⟨((lG t).take (k+1)).filter λp=>(h != 0)&&(p.Val==h),?_,rfl⟩;dsimp only;rw[zb (by rw[<-fU];simpa using hk),u6 (by rw[<-fU];exact hk),Yx];have e:(keys t)[k]'(by rw[<-fU];exact hk)=(lG t)[k].Key:=by simp[wq]
  have hle:(((lG t).take k).filter λp=>(h != 0)&&(p.Val==h)).length<=8:=un (zZ ..) (by simp;omega);rw[e,Hw hR hk,Yx,p8 (by omega),zu hk,zan,n9,zci];by_cases c:((h != 0)&&((lG t)[k].Val==h))=true
  .rw[zb c,zb c,C3 (by omega) (by simp only[zl,zW];omega),Yx]
  .rw[za c,za c,p0]
 .rintro l rfl;exact⟨_,by rw[<-fU];simp;rfl,by simp⟩
theorem FR{t:Tb}(hR:HR t)(k v:Int):∃r,P7 t k v=some r/\HR r.1/\r.1.length=t.length /\
  ((k=0/\r=(t,0,2))\/(k≠0/\v=0/\((∃i,Fk t k i/\r=(t.set i ⟨2,0,0⟩,(pt t i).Val,0))\/((∀i,¬Fk t k i)/\r=(t,0,0)))) \/
   (k≠0/\v≠0/\((∃i,Fk t k i/\r=(t.set i ⟨1,k,v⟩,(pt t i).Val,0))\/(∃d,(∀i,¬Fk t k i)/\d<t.length/\(pt t d).State≠1/\uy t k v (t.set d ⟨1,k,v⟩,0)/\r=(t.set d ⟨1,k,v⟩,0,0))\/((∀i,¬Fk t k i)/\(∀i,i<t.length->(pt t i).State=1)/\r=(t,0,8))))):=by
 unfold P7;by_cases hk:k=0
 .rw[zb (by simpa using hk)];exact⟨_,rfl,hR,rfl,.inl ⟨hk,rfl⟩⟩
 .rw[za (by simpa using hk)];obtain⟨g,hg,hgv⟩:∃g,M4 t k=some g/\((∃i,Fk t k i/\g=((pt t i).Val,0))\/((∀i,¬Fk t k i)/\g=(0,9))):=by
   rcases tZ t k with ⟨i,hi⟩ | hn;·exact⟨_,Fa hR hi,.inl ⟨i,hi,rfl⟩⟩
   .exact⟨_,EZ hR hn,.inr ⟨hn,rfl⟩⟩
  rw[hg,Yx];by_cases hv:v=0
  .rw[zb (by simpa using hv)];rcases hgv with ⟨i,hi,rfl⟩ | ⟨hn,rfl⟩
   .rw[ou hR hi,Yx];exact⟨_,rfl,iI hR hi.1,by simp,.inr (.inl ⟨hk,hv,.inl ⟨i,hi,rfl⟩⟩)⟩
   .rw[ot hR hn,Yx];exact⟨_,rfl,hR,rfl,.inr (.inl ⟨hk,hv,.inr ⟨hn,rfl⟩⟩)⟩
  .rw[za (by simpa using hv)];obtain⟨r,hr,hp⟩:=put_eq hR k v;rw[hr,Yx];have hRr:=qo hR hp;have hl:=wN hp;have hp':=hp;cases hp with
   | old i hi=>
    rcases hgv with ⟨j,hj,rfl⟩ | ⟨hn,rfl⟩
    .rw[hR.uq j i hj.1 hi.1 hj.2.1 hi.2.1 (hj.2.2.trans hi.2.2.symm)];exact⟨_,rfl,hRr,hl,.inr (.inr ⟨hk,hv,.inl ⟨i,hi,rfl⟩⟩)⟩
    .exact absurd hi (hn i)
   | new d hn hd hb hf=>
    rcases hgv with ⟨j,hj,rfl⟩ | ⟨_,rfl⟩;·exact absurd hj (hn j)
    .exact⟨_,rfl,hRr,hl,.inr (.inr ⟨hk,hv,.inr (.inl ⟨_,hn,fB hR.l1 k d,hf,hp',rfl⟩)⟩)⟩
   | full hn ha=>exact⟨_,rfl,hR,rfl,.inr (.inr ⟨hk,hv,.inr (.inr ⟨hn,ha,rfl⟩)⟩)⟩
theorem Jt{t:Tb}(hR:HR t)(k v:Int):∃r,P7 t k v=some r/\HR r.1/\r.1.length=t.length/\BE (t.map R8) k v=some (r.1.map R8,r.2) /\
  ((k=0/\r=(t,0,2))\/(k≠0/\v=0/\((∃i,Fk t k i/\r=(t.set i ⟨2,0,0⟩,(pt t i).Val,0))\/((∀i,¬Fk t k i)/\r=(t,0,0)))) \/
   (k≠0/\v≠0/\((∃i,Fk t k i/\r=(t.set i ⟨1,k,v⟩,(pt t i).Val,0))\/(∃d,(∀i,¬Fk t k i)/\d<t.length/\(pt t d).State≠1/\uy t k v (t.set d ⟨1,k,v⟩,0)/\r=(t.set d ⟨1,k,v⟩,0,0))\/((∀i,¬Fk t k i)/\(∀i,i<t.length->(pt t i).State=1)/\r=(t,0,8))))):=by
 unfold P7 BE;by_cases hk:k=0
 .rw[zb (by simpa using hk),zb (by simpa using hk)];exact⟨_,rfl,hR,rfl,rfl,.inl ⟨hk,rfl⟩⟩
 .rw[za (by simpa using hk),za (by simpa using hk),RV hR];obtain⟨g,hg,hgv⟩:∃g,M4 t k=some g/\((∃i,Fk t k i/\g=((pt t i).Val,0))\/((∀i,¬Fk t k i)/\g=(0,9))):=by
   rcases tZ t k with ⟨i,hi⟩ | hn;·exact⟨_,Fa hR hi,.inl ⟨i,hi,rfl⟩⟩
   .exact⟨_,EZ hR hn,.inr ⟨hn,rfl⟩⟩
  rw[hg,Yx,Yx];by_cases hv:v=0
  .rw[zb (by simpa using hv),zb (by simpa using hv),MF hR];rcases hgv with ⟨i,hi,rfl⟩ | ⟨hn,rfl⟩
   .rw[ou hR hi,Yx];exact⟨_,rfl,iI hR hi.1,by simp,rfl,.inr (.inl ⟨hk,hv,.inl ⟨i,hi,rfl⟩⟩)⟩
   .rw[ot hR hn,Yx];exact⟨_,rfl,hR,rfl,rfl,.inr (.inl ⟨hk,hv,.inr ⟨hn,rfl⟩⟩)⟩
  .rw[za (by simpa using hv),za (by simpa using hv)];obtain⟨r,hr,hp⟩:=put_eq hR k v;rw[hr,Yx,WW hR k v hp,Yx];have hRr:=qo hR hp;have hl:=wN hp;have hp':=hp;cases hp with
   | old i hi=>
    rcases hgv with ⟨j,hj,rfl⟩ | ⟨hn,rfl⟩
    .rw[hR.uq j i hj.1 hi.1 hj.2.1 hi.2.1 (hj.2.2.trans hi.2.2.symm)];exact⟨_,rfl,hRr,hl,rfl,.inr (.inr ⟨hk,hv,.inl ⟨i,hi,rfl⟩⟩)⟩
    .exact absurd hi (hn i)
   | new d hn hd hb hf=>
    rcases hgv with ⟨j,hj,rfl⟩ | ⟨_,rfl⟩;·exact absurd hj (hn j)
    .exact⟨_,rfl,hRr,hl,rfl,.inr (.inr ⟨hk,hv,.inr (.inl ⟨_,hn,fB hR.l1 k d,hf,hp',rfl⟩)⟩)⟩
   | full hn ha=>exact⟨_,rfl,hR,rfl,rfl,.inr (.inr ⟨hk,hv,.inr (.inr ⟨hn,ha,rfl⟩)⟩)⟩
theorem yR(t:Tb)(h:Int):own t h=t.countP λp=>(p.State==1)&&((h != 0)&&(p.Val==h)):=by
 unfold own lG;rw[List.countP_map,List.countP_filter];congr 1;funext p
 simp[Bool.and_comm]
theorem Ht{t:Tb}{i:Nat}(hi:i<t.length)(p:b8)(h:Int):own (t.set i p) h+(if (((pt t i).State==1)&&((h != 0)&&((pt t i).Val==h)))=true then 1 else 0)=own t h+if ((p.State==1)&&((h != 0)&&(p.Val==h)))=true then 1 else 0:=by
 rw[yR,yR,List.countP_set hi,ud hi];have:(if ((t[i].State==1)&&((h != 0)&&(t[i].Val==h)))=true then 1 else 0)<=t.countP λp=>(p.State==1)&&((h != 0)&&(p.Val==h)):=by
  split
  .rename_i e;exact zbo.2 ⟨t[i],zj hi,e⟩
  .exact t8 _
 omega
theorem Ml{t:Tb}(h8:t.length<=8)(h:Int):own t h<=8:=un zbf (tv h8)
theorem Ei{t:Tb}(hR:HR t)(ks:List Int)(hks:ks.length<=1000):∃a had,Z8 t ks=some (a,had)/\HR a/\a.length=t.length/\had.length<=ks.length/\iY (t.map R8) ks=some (a.map R8,had) /\
  (∀k v,Has a k v↔k∉ks/\Has t k v)/\(keys a).length+had.length=(keys t).length/\(∀k v,k∈ks->Has t k v->v∈had)/\∀y,own a y+aE had y=own t y:=by
 have key:∀n,n<=ks.length->∃a had,HR a/\a.length=t.length/\had.length<=n/\(∀k v,Has a k v↔k∉ks.take n/\Has t k v)/\(keys a).length+had.length=(keys t).length/\(∀k v,k∈ks.take n->Has t k v->v∈had)/\(∀y,own a y+aE had y=own t y) /\
   ∃f:Nat->Tb × List Int,f 0=(t,[])/\f n=(a,had)/\∀j,(hj:j<n)->HR (f j).1/\(f j).2.length<=j/\((∃i,∃hjk:j<ks.length,Fk (f j).1 ks[j] i/\f (j+1)=((f j).1.set i ⟨2,0,0⟩,(f j).2 ++ [(pt (f j).1 i).Val]))\/((∀i,∀hjk:j<ks.length,¬Fk (f j).1 ks[j] i)/\f (j+1)=f j)):=by
  intro n;induction n with
  | zero=>exact λ_=>⟨t,[],hR,rfl,by simp,by simp,by simp,by simp,λy=>by unfold aE;split <;> simp,λ_=>(t,[]),rfl,rfl,λj hj=>by omega⟩
  | succ n ih=>
   intro hn;obtain⟨a,had,h1,h2,h3,h4,h5,h6,h7,f,f0,fn,fs⟩:=ih (by omega);have hlt:n<ks.length:=by omega
   have htk:∀k,k∈ks.take (n+1)↔k∈ks.take n\/k=ks[n]:=λk=>by
    rw[zu hlt,zw,zH]
   rcases tZ a ks[n] with ⟨i,hi⟩ | hno
   .have hd:=vM h1 hi;refine⟨a.set i ⟨2,0,0⟩,had ++ [(pt a i).Val],iI h1 hi.1,by simpa using h2,by simp;omega,λk v=>?_,?_,λk v hk hv=>?_,λy=>?_,λj=>if j=n+1 then (a.set i ⟨2,0,0⟩,had ++ [(pt a i).Val]) else f j,by simp[f0],by simp,λj hj=>?_⟩
    .rw[hd,h4,htk];constructor;·rintro⟨q1,q2,q3⟩;exact⟨λq=>q.elim q2 q1,q3⟩
     .rintro⟨q1,q2⟩;exact⟨λq=>q1 (.inr q),λq=>q1 (.inl q),q2⟩
    .have:=rm hi.1 ⟨2,0,0⟩;rw[zb hi.2.1,za (by decide)] at this;simp only[zC,zl,zW];omega
    .rw[zw];rcases (htk k).1 hk with q | q
     .exact .inl (h6 k v q hv)
     .subst q;by_cases q':ks[n]∈ks.take n
      .exact .inl (h6 _ v q' hv)
      .have:=(h4 _ _).2 ⟨q',hv⟩;rw[this.fn h1 ⟨i,hi,rfl⟩];exact .inr (by simp)
    .have:=Ht hi.1 ⟨2,0,0⟩ y;have h7':=h7 y;rw[K9];have e:aE [(pt a i).Val] y=if (((pt a i).State==1)&&((y != 0)&&((pt a i).Val==y)))=true then 1 else 0:=by
      rw[hi.2.1];unfold aE;by_cases y0:y=0
      .simp[y0]
      .by_cases e:(pt a i).Val=y
       .simp[y0,e]
       .simp[y0,e]
     rw[e];rw[za (show ¬((((2:Int)==1)&&((y != 0)&&((0:Int)==y)))=true) by simp)] at this;omega
    .rcases zB j n with q | q
     .have:=fs j q;dsimp only;rw[za (by omega),za (by omega)];exact this
     .have:j=n:=by omega
      subst this;dsimp only;rw[za (by omega),zb rfl,fn];exact⟨h1,h3,.inl ⟨i,hlt,hi,rfl⟩⟩
   .refine⟨a,had,h1,h2,by omega,λk v=>?_,h5,λk v hk hv=>?_,h7,λj=>if j=n+1 then (a,had) else f j,by simp[f0],by simp,λj hj=>?_⟩
    .rw[h4,htk];constructor
     .rintro⟨q1,q2⟩;refine⟨λq=>q.elim q1 λq=>?_,q2⟩;subst q;obtain⟨i,hi,_⟩:=(h4 _ _).2 ⟨q1,q2⟩;exact hno i hi
     .rintro⟨q1,q2⟩;exact⟨λq=>q1 (.inl q),q2⟩
    .rcases (htk k).1 hk with q | q
     .exact h6 k v q hv
     .subst q;by_cases q':ks[n]∈ks.take n
      .exact h6 _ v q' hv
      .obtain⟨i,hi,_⟩:=(h4 _ _).2 ⟨q',hv⟩;exact absurd hi (hno i)
    .rcases zB j n with q | q
     .have:=fs j q;dsimp only;rw[za (by omega),za (by omega)];exact this
     .have:j=n:=by omega
      subst this;dsimp only;rw[za (by omega),zb rfl,fn];exact⟨h1,h3,.inr ⟨λi _=>hno i,rfl⟩⟩
 obtain⟨a,had,h1,h2,h3,h4,h5,h6,h7,f,f0,fn,fs⟩:=key ks.length (zq _);rw[zT] at h4 h6;refine⟨a,had,?_,h1,h2,h3,?_,h4,h5,h6,h7⟩
 .unfold Z8;simp only[jn];refine jN (λj=>((f j).1,(j:Int),(f j).2)) (by rw[f0];rfl) ks.length (λ_=>True) (by omega) trivial (λj hj _=>?_) (λ_=>⟨(a,had),by dsimp only;rw[za (by simp),fn],rfl⟩);obtain⟨g1,g2,g3⟩:=fs j hj;left;refine⟨?_,trivial⟩;dsimp only;rw[zb (by simpa using hj),u6 hj,Yx,p8 (by omega)];rcases g3 with ⟨i,_,hi,e⟩ | ⟨hno,e⟩
  .rw[ou g1 hi,Yx,e];dsimp only;rw[zb (by decide),C3 (by omega) (by simp;omega),Yx]
  .rw[ot g1 (λi=>hno i hj),Yx,e];dsimp only;rw[za (by decide)]
 .unfold iY;simp only[jn];refine jN (λj=>((f j).1.map R8,(j:Int),(f j).2)) (by rw[f0];rfl) ks.length (λ_=>True) (by omega) trivial (λj hj _=>?_) (λ_=>⟨(a.map R8,had),by dsimp only;rw[za (by simp),fn],rfl⟩);obtain⟨g1,g2,g3⟩:=fs j hj;left;refine⟨?_,trivial⟩;dsimp only;rw[zb (by simpa using hj),u6 hj,Yx,p8 (by omega),MF g1];rcases g3 with ⟨i,_,hi,e⟩ | ⟨hno,e⟩
  .rw[ou g1 hi,wd,Yx,e];dsimp only;rw[zb (by decide),C3 (by omega) (by simp;omega),Yx]
  .rw[ot g1 (λi=>hno i hj),wd,Yx,e];dsimp only;rw[za (by decide)]
inductive cJ (s:a7) (t:Tb) (l:List Int):Int->Prop
 | base {h:Int}:h∈l->h∈lv s->cJ s t l h
 | step {a b:Int}:cJ s t l a->b∈outs s a->b∈lv s->cJ s t l b
 | pair {k v:Int}:Has t k v->cJ s t l k->v∈lv s->cJ s t l v
open Classical in
noncomputable def IJ (s:a7) (t:Tb) (l:List Int):List Int:=(lv s).filter λh=>decide (cJ s t l h)
open Classical in
noncomputable def VZ (s:a7) (t:Tb) (l:List Int):List Int:=(lv s).filter λh=>decide (¬cJ s t l h)
noncomputable def Cs(s:a7)(t:Tb)(l:List Int):List Int:=((lG t).filter λp=>decide (p.Key∈l/\p.Key∈lv s/\p.Val∈lv s)).map (·.Val)
def TB(t:Tb):Prop:=∀p∈t,p.Key<=9223372036854775807/\p.Val<=9223372036854775807
def Ii(s:a7)(t:Tb)(l:List Int):Prop:=∀k v,Has t k v->k∈l->k∈lv s->v∈lv s->v∈l
theorem TB.has{t:Tb}(h:TB t){k v:Int}(q:Has t k v):k<=9223372036854775807/\v<=9223372036854775807:=by
 obtain⟨i,⟨h1,_,h2⟩,h3⟩:=q;rw[ud h1] at h2 h3;have:=h _ (zj h1);rw[h2,h3] at this;exact this
theorem cJ.live{s:a7}{t:Tb}{l:List Int}{h:Int}(q:cJ s t l h):h∈lv s:=by cases q <;> assumption
open Classical in
theorem qT {s:a7} {t:Tb} {l:List Int} {h:Int}:h∈IJ s t l↔cJ s t l h:=by
 unfold IJ;rw[zy];exact⟨λq=>zba q.2,λq=>⟨q.live,zA q⟩⟩
theorem GN{s:a7}(hR:sG (sO s))(t:Tb)(l:List Int):(IJ s t l).length<=24:=un (zZ ..) (M5 hR)
theorem Tq{s:a7}(hR:sG (sO s))(t:Tb)(l:List Int):LB (IJ s t l):=λx hx=>by have:=nv hR (qT.1 hx).live;omega
theorem UJ{s:a7}(hR:sG (sO s))(l:List Int):LB (FF s l):=λx hx=>by have:=nv hR (dt.1 hx).live;omega
theorem Tp(s:a7)(t:Tb)(l:List Int):Cl s (IJ s t l):=λa ha b hb hl=>qT.2 (.step (qT.1 ha) hb hl)
theorem cJ.least{s:a7}{t:Tb}{l m:List Int}(hc:Cl s m)(hp:Ii s t m)(hl:∀x∈l,x∈lv s->x∈m){h:Int}(q:cJ s t l h):h∈m:=by
 induction q with
 | base h1 h2=>exact hl _ h1 h2
 | step _ h1 h2 ih=>exact hc _ ih _ h1 h2
 | pair h1 h2 h3 ih=>exact hp _ _ h1 ih h2.live h3
theorem cJ.mono{s:a7}{t u:Tb}{l m:List Int}(ht:∀k v,Has t k v->Has u k v)(hl:∀x∈l,x∈lv s->cJ s u m x){h:Int}(q:cJ s t l h):cJ s u m h:=by
 induction q with
 | base h1 h2=>exact hl _ h1 h2
 | step _ h1 h2 ih=>exact .step ih h1 h2
 | pair h1 _ h3 ih=>exact .pair (ht _ _ h1) ih h3
theorem qA.XX{s:a7}(t:Tb){l:List Int}{h:Int}(q:qA s l h):cJ s t l h:=by
 induction q with
 | base h1 h2=>exact .base h1 h2
 | step _ h1 h2 ih=>exact .step ih h1 h2
theorem rE{s:a7}{t:Tb}{l:List Int}{v:Int}:v∈Cs s t l↔∃k,Has t k v/\k∈l/\k∈lv s/\v∈lv s:=by
 unfold Cs;rw[zI];constructor
 .rintro⟨p,hp,rfl⟩;obtain⟨h1,h2⟩:=zy.1 hp;exact⟨p.Key,iU.1 h1,zba h2⟩
 .rintro⟨k,h1,h2⟩;exact⟨⟨k,v⟩,zy.2 ⟨iU.2 h1,zA h2⟩,rfl⟩
theorem Ft{s:a7}{t:Tb}{l:List Int}:(∀v∈Cs s t l,v∈l)↔Ii s t l:=by
 constructor;·exact λh k v h1 h2 h3 h4=>h v (rE.2 ⟨k,h1,h2,h3,h4⟩)
 .intro h v hv;obtain⟨k,h1,h2,h3,h4⟩:=rE.1 hv;exact h k v h1 h2 h3 h4
theorem Ho{s:a7}{t:Tb}(hT:HR t)(l:List Int):(Cs s t l).length<=8:=by
 unfold Cs;rw[wt];exact un (zZ ..) (tv hT.l8)
theorem Uq{s:a7}(hR:sG (sO s))(t:Tb)(l:List Int):LB (Cs s t l):=λx hx=>by
 obtain⟨_,_,_,_,h⟩:=rE.1 hx;have:=nv hR h;omega
noncomputable def R4(s:a7)(t:Tb)(l:List Int):Nat->List Int
 | 0=>FF s l
 | k+1=>FF s (R4 s t l k++Cs s t (R4 s t l k))
section
variable{s:a7}{t:Tb}{l:List Int}
theorem Jo(k:Nat):R4 s t l (k+1)=FF s (R4 s t l k++Cs s t (R4 s t l k)):=rfl
theorem rX(k:Nat):∃m,R4 s t l k=FF s m:=by
 cases k with
 | zero=>exact⟨_,rfl⟩
 | succ k=>exact⟨_,rfl⟩
theorem QF(k:Nat):Cl s (R4 s t l k):=by
 obtain⟨m,e⟩:=rX (s:=s) (t:=t) (l:=l) k;rw[e];exact UI s m
theorem Jm(k:Nat){x:Int}(h:x∈R4 s t l k):x∈lv s:=by
 obtain⟨m,e⟩:=rX (s:=s) (t:=t) (l:=l) k;rw[e] at h;exact (dt.1 h).live
theorem DE(k:Nat){x:Int}(h:x∈R4 s t l k):x∈R4 s t l (k+1):=dt.2 (.base (zw.2 (.inl h)) (Jm k h))
theorem Jl(k:Nat):∀x∈l,x∈lv s->x∈R4 s t l k:=by
 induction k with
 | zero=>exact λx h1 h2=>dt.2 (.base h1 h2)
 | succ k ih=>exact λx h1 h2=>DE k (ih x h1 h2)
theorem MM(k:Nat):∀x∈R4 s t l k,cJ s t l x:=by
 induction k with
 | zero=>exact λx h=>(dt.1 h).XX t
 | succ k ih=>
  intro x h;have:=dt.1 h;induction this with
  | base h1 h2=>
   rcases zw.1 h1 with q | q
   .exact ih _ q
   .obtain⟨k',q1,q2,q3,q4⟩:=rE.1 q;exact .pair q1 (ih _ q2) q4
  | step h0 h1 h2 ih2=>exact .step (ih2 (dt.2 h0)) h1 h2
theorem Jn{k:Nat}(h:Ii s t (R4 s t l k)):R4 s t l k=IJ s t l:=by
 obtain⟨m,e⟩:=rX (s:=s) (t:=t) (l:=l) k;have hm:∀x,qA s m x↔cJ s t l x:=λx=>by
  rw[<-dt,<-e];exact⟨MM k x,λq=>q.least (QF k) h (Jl k)⟩
 rw[e];unfold FF IJ;exact za8 λx _=>zbh.2 (hm x)
theorem yW{k:Nat}(h:¬Ii s t (R4 s t l k)):((lG t).filter λp=>decide (p.Val∈R4 s t l k)).length<((lG t).filter λp=>decide (p.Val∈R4 s t l (k+1))).length:=by
 obtain⟨v,hv,hn⟩:∃v,v∈Cs s t (R4 s t l k)/\v∉R4 s t l k:=rg λq=>h (Ft.1 λv hv=>rg λq2=>q ⟨v,hv,q2⟩);obtain⟨k',h1,h2,h3,h4⟩:=rE.1 hv;refine filter_lt (λp _ hp=>?_) ⟨k',v⟩ (iU.2 h1) ?_ ?_
 .rw[zF] at hp |-;exact DE k hp
 .rw[zF];exact dt.2 (.base (zw.2 (.inr hv)) h4)
 .exact zK hn
theorem rW(s:a7)(t:Tb)(l:List Int):∃n,n<=(lG t).length/\Ii s t (R4 s t l n)/\∀j,j<n->¬Ii s t (R4 s t l j):=by
 have key:∀k,(∃j,j<=k/\Ii s t (R4 s t l j))\/k<((lG t).filter λp=>decide (p.Val∈R4 s t l (k+1))).length:=by
  intro k;induction k with
  | zero=>
   by_cases h:Ii s t (R4 s t l 0)
   .exact .inl ⟨0,zq _,h⟩
   .have:=yW h;exact .inr (by omega)
  | succ k ih=>
   rcases ih with ⟨j,h1,h2⟩ | ih;·exact .inl ⟨j,by omega,h2⟩
   .by_cases h:Ii s t (R4 s t l (k+1))
    .exact .inl ⟨k+1,zq _,h⟩
    .have:=yW h;exact .inr (by omega)
 obtain⟨j,h1,h2⟩:∃j,j<=(lG t).length/\Ii s t (R4 s t l j):=by
  rcases key (lG t).length with q | q
  .exact q
  .have:=zZ (λp:r7=>decide (p.Val∈R4 s t l ((lG t).length+1))) (lG t);omega
 obtain⟨n,hn,hmin⟩:=bR (p:=λj=>Ii s t (R4 s t l j)) ⟨j,h2⟩;exact⟨n,un (hmin j h2) h1,hn,λi hi q=>by have:=hmin i q;omega⟩
end
noncomputable def Vy(s:a7)(t:Tb)(l:List Int):Nat:=Classical.choose (rW s t l)
theorem UP(s:a7)(t:Tb)(l:List Int):Vy s t l<=(lG t).length:=(zat (rW s t l)).1
theorem ML(s:a7)(t:Tb)(l:List Int):Ii s t (R4 s t l (Vy s t l)):=(zat (rW s t l)).2.1
theorem QE(s:a7)(t:Tb)(l:List Int){j:Nat}(h:j<Vy s t l):¬Ii s t (R4 s t l j):=(zat (rW s t l)).2.2 j h
section
variable{s:a7}(hR:sG (sO s)){t:Tb}(hT:HR t)(hTB:TB t)
include hR hT hTB
omit hT hTB in
theorem yJ {h:Int} (hh:h<=9223372036854775807):gB h s=some (decide (h∈lv s)):=by
 obtain⟨e,h1,h2⟩:=aI hR hh;unfold gB;rw[h1,Yx];congr 1;rw[zbm,wf,zF];exact h2
theorem Hr{l:List Int}(hl:l.length<=1000000):qS s t l=some (Cs s t l):=by
 unfold qS;simp only[jn,Mr hT,Yx];have h8:=tv hT.l8;rw[O4 ((lG t)) (λb p=>b++(if decide (p.Key∈l/\p.Key∈lv s/\p.Val∈lv s) then [p.Val] else [])) id (λk b=>b.length<=k) (by omega) (by simp) (λk hk b hb=>?_) (λb _=>?_)]
 .simp only[Yx,id];rw[lg];congr 1;unfold Cs;rw[zbl];generalize lG t=P;induction P with
  | nil=>rfl
  | cons p P ih=>
   rw[za7,n9,ih];by_cases q:p.Key∈l/\p.Key∈lv s/\p.Val∈lv s
   .simp[q]
   .simp[q]
 .have hb':=hTB.has (iU.1 (zj hk));simp only[zQ,hk,zV,zU,u6 hk,Yx,contains_eq _ _ hl];rw[yJ hR hb'.1,yJ hR hb'.2];by_cases q1:(lG t)[k].Key∈l
  .rw[zA q1];simp only[md,jR,Yx,zak];by_cases q2:(lG t)[k].Key∈lv s
   .rw[zA q2];simp only[md,jR,Yx,zak];by_cases q3:(lG t)[k].Val∈lv s
    .rw[zb (by simpa using q3),C3 (by omega) (by simp;omega),Yx,p8,zb (by simp[q1,q2,q3])];exact⟨rfl,by simp;omega⟩
    .rw[za (by simpa using q3),p8,za (by simp[q3]),p0];exact⟨rfl,by omega⟩
   .rw[zK q2];simp only[show ((false==true):Bool)=false from rfl,LY,Yx,zb3,zm,zY];rw[p8,za (by simp[q2]),p0];exact⟨rfl,by omega⟩
  .rw[zK q1];simp only[show ((false==true):Bool)=false from rfl,LY,Yx,zb3,zm,zY];rw[p8,za (by simp[q1]),p0];exact⟨rfl,by omega⟩
 .simp only[za2,zay,zm,zY];rfl
theorem Lc(hF:FB s){l:List Int}(hl:LB l)(hlen:l.length<=1000000):oz s t l=some (IJ s t l,(Vy s t l:Int)):=by
 unfold oz;rw[GO hR hF hl hlen,Yx];simp only[jn];have hn:=UP s t l;have h8:=tv hT.l8;have hstep:∀k,∃m,R4 s t l k=FF s m:=rX;refine jN (p:=λk=>(R4 s t l k,(k:Int))) rfl (Vy s t l) (λ_=>True) (by omega) trivial (λk hk _=>.inl ⟨?_,trivial⟩) (λ_=>?_)
 .obtain⟨m,hm⟩:=hstep k;have hlk:(R4 s t l k).length<=24:=by rw[hm];exact QA hR m
  have hlb:LB (R4 s t l k):=by rw[hm];exact UJ hR m
  have hno:=QE s t l hk;simp only;rw[Hr hR hT hTB (by omega),Yx];have ho:=Ho (s:=s) hT (R4 s t l k);obtain⟨j,⟨hj,hjn⟩,hmin⟩:=bR (p:=λj=>∃hj:j<(Cs s t (R4 s t l k)).length,(Cs s t (R4 s t l k))[j]∉R4 s t l k) (by
   refine rg λq=>hno (Ft.1 λv hv=>rg λq2=>?_);obtain⟨j,hj,e⟩:=List.mem_iff_getElem.1 hv;exact q ⟨j,hj,by rw[e];exact q2⟩)
  refine dX (Cs s t (R4 s t l k)).length (λi=>i<=j) (by omega) (t8 _) (λi hi hP=>?_) (λhP=>by omega);simp only[zQ,hi,zV,zU,u6 hi,Yx];rw[contains_eq _ _ (by omega),Yx];rcases zB i j with q | q
  .refine .inl ⟨?_,q⟩;have:(Cs s t (R4 s t l k))[i]∈R4 s t l k:=rg λq2=>by have:=hmin i ⟨hi,q2⟩;omega
   rw[za (by simp[this]),p8]
  .have:i=j:=by omega
   subst this;refine .inr ⟨.inl (R4 s t l (k+1),((k+1:Nat):Int)),?_,rfl⟩;rw[zb (by simp[hjn]),C3 (by omega) (by omega),Yx,GO hR hF (λx hx=>by
    rcases zw.1 hx with q | q
    .exact Uq hR t _ x q
    .exact hlb x q) (by simp;omega),Yx,p8,Jo]
   rw[Jj (l:=Cs s t (R4 s t l k)++R4 s t l k) (m:=R4 s t l k++Cs s t (R4 s t l k)) λx=>⟨λq=>q.mono λy hy hyl=>.base (zw.2 (zw.1 hy).symm) hyl,λq=>q.mono λy hy hyl=>.base (zw.2 (zw.1 hy).symm) hyl⟩]
 .have hst:=ML s t l;have hfr:=Jn hst;refine⟨(IJ s t l,(Vy s t l:Int)),?_,rfl⟩;simp only;rw[hfr] at hst |-;have hfl:=GN hR t l;rw[Hr hR hT hTB (by omega),Yx];have ho:=Ho (s:=s) hT (IJ s t l);refine dX (Cs s t (IJ s t l)).length (λ_=>True) (by omega) trivial (λi hi _=>.inl ⟨?_,trivial⟩) (λ_=>⟨.inr (),by simp,rfl⟩);have:=Ft.2 hst _ (zj hi);simp only[zQ,hi,zV,zU,u6 hi,Yx];rw[contains_eq _ _ (by omega),Yx,za (by simp[this]),p8]
theorem KL(hF:FB s){l:List Int}(hl:LB l)(hlen:l.length<=1000000):qR s t l=some (IJ s t l):=by
 unfold qR;rw[Lc hR hT hTB hF hl hlen];rfl
omit hT hTB hR in
theorem QB {l:List Int} {x:Int}:qA s (IJ s t l) x↔cJ s t l x:=by
 constructor
 .intro q;exact qT.1 (qA.least (Tp s t l) (λx h _=>h) q)
 .exact λq=>.base (qT.2 q) q.live
theorem KS(hF:FB s){l:List Int}(hl:LB l)(hlen:l.length<=1000000):nh s t l=some (VZ s t l):=by
 unfold nh;rw[KL hR hT hTB hF hl hlen,Yx,PC hR hF (Tq hR t l) (by have:=GN hR t l;omega),Yx];congr 1;unfold G8 VZ;exact za8 λx _=>zbh.2 (not_congr QB)
end
section
variable(s:a7)(hF:FB s)(t:Tb)(hTB:TB t)
include hF hTB
end
def ce(s:a7)(i:Nat):b7:=s.S.a8.getD i ⟨0,0,z0⟩
theorem E9{s:a7}{i:Nat}(h:i<s.S.a8.length):ce s i=s.S.a8[i]:=by
 unfold ce;rw[zf,zc h];rfl
theorem CV{s:a7}{i:Nat}(h:i<s.S.a8.length):ix s.S.a8 (i:Int)=some (ce s i):=by rw[u6 h,E9 h]
def Th(c:b7):Prop:=c.State=1\/c.State=2
instance(c:b7):Decidable (Th c):=by unfold Th;infer_instance
structure xK (s:a7) (o:o9):Prop where
 s1:1<=o.Serial
 s2:o.Serial<=s.Serial
 st:0<=o.Strong
 wk:0<=o.Weak
 p1 : -1<=o.Prog
 p2:o.Prog<=5
 fl:o.Fields.length<=4
structure SR (s:a7):Prop where
 len:s.S.a8.length<=24
 l0:0<=s.S.Last
 l9:s.S.Last<=9
 T5:0<=s.Serial
 cell:∀i,i<s.S.a8.length->0<=(ce s i).State/\(ce s i).State<=3/\0<=(ce s i).Gen/\(ce s i).Gen<=s.S.Last
 no:∀i,i<s.S.a8.length->¬Th (ce s i)->Ih (oo (ce s i).Val)
 ok:∀i,i<s.S.a8.length->Th (ce s i)->xK s (ce s i).Val
 dif:∀i j,i<s.S.a8.length->j<s.S.a8.length->Th (ce s i)->Th (ce s j)->(ce s i).Val.Serial=(ce s j).Val.Serial->i=j
theorem y4{s:a7}:sG (sO s)↔SR s:=by
 constructor
 .intro h;refine⟨jx h,h.l0,h.l9,h.T5,λi hi=>?_,λi hi hn=>?_,λi hi ht=>?_,λi j hi hj a b e=>?_⟩;·rw[E9 hi];exact BN h i hi
  .rw[E9 hi] at hn |-;have:=h.no i (by rw[C0];exact hi);simp only[sO,ut] at this;exact this hn
  .rw[E9 hi] at ht |-;obtain⟨a,b,c,d,e,f,g⟩:=MS h i hi ht;exact⟨a,b,c,d,e,f,g⟩
  .rw[E9 hi] at a e;rw[E9 hj] at b e;exact MR h hi hj a b e
 .intro h;refine⟨by rw[C0];exact h.len,h.l0,h.l9,h.T5,λi hi=>?_,λi hi hn=>?_,λi hi ht=>?_,λi hi k hk a b=>?_⟩
  .rw[C0] at hi;have:=h.cell i hi;rw[E9 hi] at this;simpa[sO,cO] using this
  .rw[C0] at hi;have:=h.no i hi;rw[E9 hi] at this;simp only[sO,ut] at hn |-;exact this hn
  .rw[C0] at hi;have:=h.ok i hi;rw[E9 hi] at this;simp only[sO,ut] at ht |-;obtain⟨a,b,c,d,e,f,g⟩:=this ht;exact⟨a,b,c,d,e,f,g⟩
  .rw[C0] at hi;have hk':k<s.S.a8.length:=by omega
   have:=h.dif i k hi hk';rw[E9 hi,E9 hk'] at this;simp only[sO,ut,cO,oo] at a b |-;intro e;have:=this a b e.symm;omega
def At(s:a7)(h:Int)(i:Nat):Prop:=i<s.S.a8.length/\(ce s i).State=1/\h=1+(i:Int)+32*(ce s i).Gen
def Z7(s:a7)(h:Int)(i:Nat):Prop:=i<s.S.a8.length/\Th (ce s i)/\h=1+(i:Int)+32*(ce s i).Gen
theorem At.d{s:a7}{h:Int}{i:Nat}(q:At s h i):Z7 s h i:=⟨q.1,.inl q.2.1,q.2.2⟩
theorem Z7.one{s:a7}(hR:SR s){h:Int}{i j:Nat}(q:Z7 s h i)(q':Z7 s h j):i=j:=by
 obtain⟨a1,_,a2⟩:=q;obtain⟨b1,_,b2⟩:=q';have:=hR.len;omega
theorem Z7.MN{s:a7}(hR:SR s){h:Int}{i:Nat}(q:Z7 s h i):1<=h/\h<=320:=by
 obtain⟨a1,_,a2⟩:=q;have:=hR.len;have:=hR.cell i a1;have:=hR.l9;omega
theorem Df{s:a7}{h:Int}:h∈aq 0 s.S.a8↔∃i,At s h i:=by
 rw[np];constructor
 .rintro⟨i,hi,h1,h2⟩;refine⟨i,hi,by rw[E9 hi];exact h1,?_⟩;rw[E9 hi,h2,zab]
 .rintro⟨i,hi,h1,h2⟩;rw[E9 hi] at h1 h2;exact⟨i,hi,h1,by rw[h2,zab]⟩
theorem fF{s:a7}(hR:SR s){h:Int}:h∈lv s↔∃i,At s h i:=by rw[ta (y4.2 hR),Df]
theorem qi{s:a7}(hR:SR s){h:Int}{i:Nat}:sF s.S h i↔Z7 s h i:=by
 constructor
 .rintro⟨hi,h1,h2,h3,h4⟩;unfold pv at h1;refine⟨hi,by rw[E9 hi];exact h4,?_⟩;rw[E9 hi];omega
 .rintro⟨hi,h1,h2⟩;have l:=hR.len;have l9:=hR.l9;have c:=hR.cell i hi;rw[E9 hi] at h1 h2 c;exact⟨hi,by unfold pv;omega,by omega,by omega,h1⟩
theorem Q0{s:a7}(hR:SR s){h:Int}{i:Nat}(q:At s h i):ob s h=(ce s i).Val:=by
 obtain⟨j,hj,h1,h2,_,e⟩:=Bk (y4.2 hR) ((fF hR).2 ⟨i,q⟩);have:j=i:=Z7.one hR ⟨hj,by rw[E9 hj];exact .inl h1,by rw[E9 hj];exact h2⟩ q.d;subst this;rw[e,E9 hj]
theorem SP{s:a7}(hR:SR s){h:Int}{i:Nat}(q:At s h i):y3 s h=some ((ce s i).Val,0):=by
 rw[wz (y4.2 hR) ((fF hR).2 ⟨i,q⟩),Q0 hR q]
theorem Kc{s:a7}(hR:SR s){h:Int}{i:Nat}(q:At s h i):sk s.S.a8 h=(ce s i).Val.Serial:=by
 have:=hR.len;have hi:=q.1;rw[q.2.2,DO hi (by omega),E9 hi]
theorem kQ{s:a7}(hR:SR s){h:Int}{i:Nat}(q:Z7 s h i):u7 s.S h=some ((i:Int),0):=oy ((qi hR).2 q)
theorem pV{s:a7}(hR:SR s){h:Int}(hh:h<=9223372036854775807)(q:∀i,¬Z7 s h i):u7 s.S h=some (-1,if h=0 then 2 else 3):=sT hh λi hi=>q i ((qi hR).1 hi)
theorem LG{s s':a7}(hR:SR s)(hR':SR s')(P:Int->Bool)(hm:∀h,(∃i,At s' h i)↔(∃i,At s h i)/\P h=true)(hk:∀h i j,At s' h i->At s h j->(ce s' i).Val.Serial=(ce s j).Val.Serial):lv s'=(lv s).filter P:=by
 have hk':∀h∈lv s,P h=true->sk s'.S.a8 h=sk s.S.a8 h:=λh hh hp=>by
  obtain⟨j,hj⟩:=(fF hR).1 hh;obtain⟨i,hi⟩:=(hm h).2 ⟨⟨j,hj⟩,hp⟩;rw[Kc hR' hi,Kc hR hj,hk h i j hi hj]
 refine Wn (y4.2 hR') ?_ ?_
 .rw[List.perm_ext_iff_of_nodup ((ru (y4.2 hR)).filter _) (ll 0 _ (by have:=hR'.len;omega))];intro h;rw[zy,fF hR,Df,hm h]
 .refine ((iQ (y4.2 hR)).2.2.filter P).imp_of_mem λ{a b} ha hb hab=>?_;rw[zy] at ha hb;rw[hk' a ha.1 ha.2,hk' b hb.1 hb.2];exact hab
theorem PE{s s':a7}(hR:SR s)(hR':SR s')(hl:s'.S.a8.length=s.S.a8.length)(h1:∀i,i<s.S.a8.length->((ce s' i).State=1↔(ce s i).State=1)/\(ce s' i).Gen=(ce s i).Gen/\(ce s' i).Val.Serial=(ce s i).Val.Serial):lv s'=lv s:=by
 have ha:∀h i,At s' h i↔At s h i:=λh i=>by
  unfold At;rw[hl];constructor
  .rintro⟨a,b,c⟩;obtain⟨x,y,z⟩:=h1 i a;exact⟨a,x.1 b,by rw[<-y];exact c⟩
  .rintro⟨a,b,c⟩;obtain⟨x,y,z⟩:=h1 i a;exact⟨a,x.2 b,by rw[y];exact c⟩
 rw[LG hR hR' (λ_=>true) (λh=>by simp only[and_true];exact⟨λ⟨i,q⟩=>⟨i,(ha h i).1 q⟩,λ⟨i,q⟩=>⟨i,(ha h i).2 q⟩⟩) (λh i j q q'=>by
  have:=Z7.one hR ((ha h i).1 q).d q'.d;subst this;exact (h1 i q'.1).2.2)]
 simp
def putAt(s:a7)(i:Nat)(o:o9):a7:=⟨⟨s.S.a8.set i ⟨(ce s i).State,(ce s i).Gen,o⟩,s.S.Last⟩,s.Serial⟩
theorem N6(s:a7)(i:Nat)(o:o9):(putAt s i o).S.a8.length=s.S.a8.length:=by simp[putAt]
theorem jF{α:Type}{l:List α}{i:Nat}(hi:i<l.length)(c d:α)(j:Nat):(l.set i c).getD j d=if j=i then c else l.getD j d:=by
 rw[zf,zf,List.getElem?_set];by_cases h:j=i
 .subst h;rw[zb rfl,zb hi,zb rfl];rfl
 .rw[za (zam h),za h]
theorem kS{s:a7}{i:Nat}(hi:i<s.S.a8.length)(o:o9)(j:Nat):ce (putAt s i o) j=if j=i then ⟨(ce s i).State,(ce s i).Gen,o⟩ else ce s j:=jF hi _ _ j
theorem xr{s:a7}{i:Nat}(hi:i<s.S.a8.length)(o:o9)(j:Nat):(ce (putAt s i o) j).State=(ce s j).State/\(ce (putAt s i o) j).Gen=(ce s j).Gen:=by
 rw[kS hi];split;·rename_i q;subst q;exact⟨rfl,rfl⟩
 .exact⟨rfl,rfl⟩
theorem uU{s:a7}{i:Nat}(hi:i<s.S.a8.length)(o:o9){h:Int}{j:Nat}:Z7 (putAt s i o) h j↔Z7 s h j:=by
 unfold Z7 Th;rw[N6,(xr hi o j).1,(xr hi o j).2]
theorem vE{s:a7}{i:Nat}(hi:i<s.S.a8.length)(o:o9){h:Int}{j:Nat}:At (putAt s i o) h j↔At s h j:=by
 unfold At;rw[N6,(xr hi o j).1,(xr hi o j).2]
theorem BS{s:a7}(hR:SR s){h:Int}{i:Nat}(q:Z7 s h i)(o:o9):K6 s h o=some (putAt s i o,0):=by
 obtain⟨hi,e⟩:=DM (v:=o) hR.len ((qi hR).2 q);unfold K6;rw[e];simp[putAt,E9 hi]
theorem SR.put{s:a7}(hR:SR s){i:Nat}(hi:i<s.S.a8.length)(ht:Th (ce s i)){o:o9}(hs:o.Serial=(ce s i).Val.Serial)(ho:xK s o):SR (putAt s i o):=by
 have hst:=xr hi o;have hse:∀j,(ce (putAt s i o) j).Val.Serial=(ce s j).Val.Serial:=λj=>by
  rw[kS hi];split;·rename_i q;subst q;exact hs
  .rfl
 refine⟨by rw[N6];exact hR.len,hR.l0,hR.l9,hR.T5,λj hj=>?_,λj hj hn=>?_,λj hj hn=>?_,λj k hj hk a b e=>?_⟩
 .rw[N6] at hj;rw[(hst j).1,(hst j).2];exact hR.cell j hj
 .rw[N6] at hj;unfold Th at hn;rw[(hst j).1] at hn;rw[kS hi];split;·rename_i q;subst q;exact absurd ht hn
  .exact hR.no j hj hn
 .rw[N6] at hj;unfold Th at hn;rw[(hst j).1] at hn;rw[kS hi];split;·exact⟨ho.s1,ho.s2,ho.st,ho.wk,ho.p1,ho.p2,ho.fl⟩
  .have:=hR.ok j hj hn;exact⟨this.s1,this.s2,this.st,this.wk,this.p1,this.p2,this.fl⟩
 .rw[N6] at hj hk;unfold Th at a b;rw[(hst j).1] at a;rw[(hst k).1] at b;rw[hse,hse] at e;exact hR.dif j k hj hk a b e
theorem LD{s:a7}(hR:SR s){i:Nat}(hi:i<s.S.a8.length){o:o9}(hs:o.Serial=(ce s i).Val.Serial)(hR':SR (putAt s i o)):lv (putAt s i o)=lv s:=by
 refine PE hR hR' (N6 ..) λj hj=>?_;rw[kS hi];split;·rename_i q;subst q;exact⟨Iff.rfl,rfl,hs⟩
 .exact⟨Iff.rfl,rfl,rfl⟩
theorem Ul{s:a7}(hR:SR s){h:Int}{i:Nat}(q:At s h i){o:o9}(hR':SR (putAt s i o)){k:Int}(hk:k<=9223372036854775807):ob (putAt s i o) k=if k=h then o else ob s k:=by
 by_cases e:k=h
 .subst e;rw[zb rfl,Q0 hR' ((vE q.1 o).2 q),kS q.1,zb rfl]
 .rw[za e];by_cases hl:∃j,At s k j
  .obtain⟨j,hj⟩:=hl;rw[Q0 hR' ((vE q.1 o).2 hj),Q0 hR hj,kS q.1,za];intro e2;subst e2;exact e (hj.2.2.trans q.2.2.symm)
  .rw[pL (y4.2 hR) hk (λq2=>hl ((fF hR).1 q2)),pL (y4.2 hR') hk λq2=>hl (by
    obtain⟨j,hj⟩:=(fF hR').1 q2;exact⟨j,(vE q.1 o).1 hj⟩)]
def D3(h:Int):Nat:=((h-1) % 32).toNat
theorem Z7.D3{s:a7}(hR:SR s){h:Int}{i:Nat}(q:Z7 s h i):D3 h=i:=by
 obtain⟨a,_,c⟩:=q;have:=hR.len;unfold Sh.D3;omega
def cK(s:a7)(h:Int)(o:o9):a7:=putAt s (D3 h) o
theorem A0{s:a7}(hR:SR s){h:Int}(hh:h∈lv s):At s h (D3 h):=by
 obtain⟨i,hi⟩:=(fF hR).1 hh;rw[hi.d.D3 hR];exact hi
theorem J3{s:a7}(hR:SR s){h:Int}(hh:h∈lv s):xK s (ob s h):=by
 have q:=A0 hR hh;rw[Q0 hR q];exact hR.ok _ q.1 (.inl q.2.1)
theorem I1{s:a7}(hR:SR s){h:Int}(hh:h∈lv s):1<=h/\h<=320:=(A0 hR hh).d.MN hR
theorem ph{s:a7}(hR:SR s):(0:Int)∉lv s:=λh=>by have:=I1 hR h;omega
section
variable{s:a7}(hR:SR s){h:Int}(hh:h∈lv s){o:o9}(hs:o.Serial=(ob s h).Serial)(ho:xK s o)
include hR hh hs ho
theorem bx:SR (cK s h o):=by
 have q:=A0 hR hh;exact hR.put q.1 (.inl q.2.1) (by rw[hs,Q0 hR q]) ho
theorem fD:lv (cK s h o)=lv s:=by
 have q:=A0 hR hh;exact LD hR q.1 (by rw[hs,Q0 hR q]) (bx hR hh hs ho)
theorem en{k:Int}(hk:k<=9223372036854775807):ob (cK s h o) k=if k=h then o else ob s k:=Ul hR (A0 hR hh) (bx hR hh hs ho) hk
theorem rZ:K6 s h o=some (cK s h o,0):=BS hR (A0 hR hh).d o
theorem FQ{k:Int}{i:Nat}:Z7 (cK s h o) k i↔Z7 s k i:=uU (A0 hR hh).1 o
theorem BR(i:Nat):ce (cK s h o) i=if i=D3 h then ⟨(ce s i).State,(ce s i).Gen,o⟩ else ce s i:=by
 unfold cK;rw[kS (A0 hR hh).1];split;·rename_i q;rw[q]
 .rfl
end
abbrev Ad(o:o9)(n:Int):o9:=⟨o.Serial,n,o.Weak,o.Prog,o.Started,o.Fields⟩
structure ux (s s':a7):Prop where
 sr:SR s'
 len:s'.S.a8.length=s.S.a8.length
 last:s'.S.Last=s.S.Last
 T5:s'.Serial=s.Serial
 lv:lv s'=lv s
 ad:∀k i,Z7 s' k i↔Z7 s k i
 ob:∀k,k<=9223372036854775807->∃n,ob s' k=(Ad (ob s k) (n))
 ce:∀i,i<s.S.a8.length->(ce s' i).State=(ce s i).State/\(ce s' i).Gen=(ce s i).Gen/\(ce s' i).Val.Weak=(ce s i).Val.Weak/\(ce s' i).Val.Fields=(ce s i).Val.Fields/\((ce s i).State≠1->ce s' i=ce s i)
theorem ux.refl{s:a7}(hR:SR s):ux s s:=⟨hR,rfl,rfl,rfl,rfl,λ_ _=>Iff.rfl,λk _=>⟨_,rfl⟩,λi _=>⟨rfl,rfl,rfl,rfl,λ_=>rfl⟩⟩
theorem ux.trans{a b c:a7}(h:ux a b)(q:ux b c):ux a c:=by
 refine⟨q.sr,q.len.trans h.len,q.last.trans h.last,q.T5.trans h.T5,q.lv.trans h.lv,λk i=>(q.ad k i).trans (h.ad k i),λk hk=>?_,λi hi=>?_⟩
 .obtain⟨n,e⟩:=h.ob k hk;obtain⟨m,f⟩:=q.ob k hk;exact⟨m,by rw[f,e]⟩
 .obtain⟨a1,a2,a3,a4,a5⟩:=h.ce i hi;obtain⟨b1,b2,b3,b4,b5⟩:=q.ce i (by rw[h.len];exact hi);refine⟨b1.trans a1,b2.trans a2,b3.trans a3,b4.trans a4,λhn=>?_⟩;rw[b5 (by rw[a1];exact hn),a5 hn]
theorem ux.outs{s s':a7}(k:ux s s'){h:Int}(hh:h<=9223372036854775807):outs s' h=outs s h:=by
 obtain⟨n,e⟩:=k.ob h hh;unfold Sh.outs;rw[e]
theorem ux.jt{s s':a7}(hR:SR s)(k:ux s s')(h:Int):jt s' h=jt s h:=by
 unfold Sh.jt;rw[k.lv];congr 1;refine zP λx hx=>?_;rw[k.outs (by have:=I1 hR hx;omega)]
theorem PA{s:a7}(hR:SR s){h:Int}(hh:h∈lv s){n:Int}(hn:0<=n):ux s (cK s h (Ad (ob s h) (n))):=by
 have ho:xK s (Ad (ob s h) (n)):=by
  have:=J3 hR hh;exact⟨this.s1,this.s2,hn,this.wk,this.p1,this.p2,this.fl⟩
 have q:=A0 hR hh;refine⟨bx hR hh rfl ho,N6 ..,rfl,rfl,fD hR hh rfl ho,λk i=>FQ (o:=(Ad (ob s h) (n))) hR hh rfl ho,λk hk=>?_,λi hi=>?_⟩
 .rw[en (o:=(Ad (ob s h) (n))) hR hh rfl ho hk];split;·rename_i e;subst e;exact⟨n,rfl⟩
  .exact⟨_,rfl⟩
 .rw[BR (o:=(Ad (ob s h) (n))) hR hh rfl ho];split
  .rename_i e;subst e;rw[Q0 hR q];exact⟨rfl,rfl,rfl,rfl,λhn=>absurd q.2.1 hn⟩
  .exact⟨rfl,rfl,rfl,rfl,λ_=>rfl⟩
def SB(s:a7):Prop:=∀c∈s.S.a8,c.Val.Strong<=9223372036854775807
theorem VY{s:a7}:FB s↔∀i,i<s.S.a8.length->∀x∈(ce s i).Val.Fields,x<=9223372036854775807:=by
 constructor
 .intro h i hi x hx;rw[E9 hi] at hx;exact h _ (zj hi) x hx
 .intro h c hc x hx;obtain⟨i,hi,rfl⟩:=zbd hc;exact h i hi x (by rw[E9 hi];exact hx)
theorem WX{s:a7}:SB s↔∀i,i<s.S.a8.length->(ce s i).Val.Strong<=9223372036854775807:=by
 constructor
 .intro h i hi;rw[E9 hi];exact h _ (zj hi)
 .intro h c hc;obtain⟨i,hi,rfl⟩:=zbd hc;have:=h i hi;rwa [E9 hi] at this
noncomputable def inr(s:a7)(t:Tb)(h:Int):Nat:=jt s h+own t h
noncomputable def Jr(s:a7)(t:Tb)(h:Int):Int:=if h∈lv s then (ob s h).Strong-(inr s t h:Int) else 0
noncomputable def TF(s:a7)(t:Tb):List Int:=(lv s).filter λh=>decide (0<Jr s t h\/12<=(ob s h).Strong)
def Rn(s:a7)(t:Tb)(l:List Int):Prop:=∀h∈lv s,(ob s h).Strong<12->Jr s t h=(aE l h:Int)
noncomputable instance(s:a7)(t:Tb)(l:List Int):Decidable (Rn s t l):=Classical.propDecidable _
section
variable{s:a7}(hR:sG (sO s)){t:Tb}(hT:HR t)
include hR hT
theorem Ln(h:Int):jc s t h=some (inr s t h:Int):=by
 unfold jc;have h1:=Lm hR h;have h2:=Ml hT.l8 h;rw[Wh hR,Yx,Mm hT,Yx,F7 (by omega) (by omega)];unfold inr;simp
theorem TK(h:Int):inr s t h<=104:=by
 have h1:=Lm hR h;have h2:=Ml hT.l8 h;unfold inr;omega
omit hT in
theorem Ae (hB:SB s) {h:Int} (hh:h∈lv s):0<=(ob s h).Strong/\(ob s h).Strong<=9223372036854775807:=by
 obtain⟨i,hi⟩:=(fF (y4.1 hR)).1 hh;rw[Q0 (y4.1 hR) hi];refine⟨((y4.1 hR).ok i hi.1 (.inl hi.2.1)).st,?_⟩;rw[E9 hi.1];exact hB _ (zj _)
theorem QD(hB:SB s){h:Int}(hh:h<=9223372036854775807):mf s t h=some (Jr s t h):=by
 unfold mf;obtain⟨e,h1,h2⟩:=aI hR hh;rw[h1,Yx];by_cases q:h∈lv s
 .have:=h2.2 q;subst this;have h3:=TK hR hT h;have h4:=Ae hR hB q;rw[za (by simp),Ln hR hT,Yx,F7 (by dsimp only;omega) (by dsimp only;omega)];unfold Jr;rw[zb q]
 .rw[zb (by simpa using λq2=>q (h2.1 q2))];unfold Jr;rw[za q]
omit hT in
theorem Wm {k:Nat} (hk:k<(lv s).length):(lv s)[k]<=9223372036854775807:=by
 have:=nv hR (zj hk);omega
theorem Pp(hB:SB s):ma s t=some (TF s t):=by
 unfold ma;simp only[jn];have h24:=M5 hR;rw[dd hR,Yx,O4 (lv s) (λb x=>if decide (0<Jr s t x\/12<=(ob s x).Strong) then b ++ [x] else b) id (λk b=>b.length<=k) (by omega) (by simp) (λk hk b hI=>?_) (λb _=>by simp),Yx]
 .rw[foldl_filter];rfl
 .have hm:=zj hk;have hle:=Wm hR hk;simp only[zQ,hk,zV,zU,u6 hk,Yx];rw[wz hR hm,Yx];unfold mb na G2;rw[QD hR hT hB hle,Yx,Yx];by_cases q:0<Jr s t (lv s)[k]
  .rw[zA (show Jr s t (lv s)[k] > 0 from q)];simp only[show ((true==false):Bool)=false from rfl,LY,Yx,Bool.true_or,zU];rw[C3 (by omega) (by simp;omega),Yx,p8,zb (zA (.inl q))];exact⟨rfl,by simp;omega⟩
  .rw[zK (show ¬Jr s t (lv s)[k] > 0 from q)];simp only[md,jR,Yx,zb6];by_cases q2:12<=(ob s (lv s)[k]).Strong
   .rw[zb (zA q2),C3 (by omega) (by simp;omega),Yx,p8,zb (zA (.inr q2))];exact⟨rfl,by simp;omega⟩
   .rw[za (by simpa using q2),p8,za (by simp only[t6];exact λc=>c.elim q q2)];exact⟨rfl,by omega⟩
omit hT in
theorem Pq:(TF s t).length<=24:=un (zZ ..) (M5 hR)
omit hR hT in
theorem va {h:Int}:h∈TF s t↔h∈lv s/\(0<Jr s t h\/12<=(ob s h).Strong):=by
 unfold TF;rw[zy,t6]
omit hT in
theorem TG:LB (TF s t):=λx hx=>by have:=nv hR (va.1 hx).1;omega
theorem EX(hTB:TB t)(hF:FB s)(hB:SB s):bH s t=some (VZ s t (TF s t)):=by
 unfold bH;have:=Pq hR (t:=t);rw[Pp hR hT hB,Yx,KS hR hT hTB hF (TG hR) (by omega)];rfl
end
abbrev TQ:=k7
def Nn(q:TQ)(t:l7):TQ × Int:=if q.Cap<=q.L.length then (q,4) else (⟨q.L ++ [t],q.Cap⟩,0)
def QX(q:TQ):TQ × l7 × Int:=match q.L with
 | []=>(q,⟨0,0,0⟩,10)
 | t::l=>(⟨l,q.Cap⟩,t,0)
theorem RZ{q:TQ}(t:l7)(h:q.L.length<=1000):nX q t=some (Nn q t):=by
 unfold Nn;unfold nX T3 I8 F6;simp only[Yx];by_cases c:q.Cap<=q.L.length
 .rw[zb (by simpa using c),zb c,Yx]
 .rw[za (by simpa using c),za c];have e:cut q.L 0 (q.L.length:Int)=some q.L:=by
   have:=gz (xs:=q.L) (i:=0) (j:=q.L.length) (t8 _) (zq _);simpa using this
  rw[e,Yx,Yx,C3 (by omega) (by simp;omega),Yx,Yx]
theorem Ca{q:TQ}:cI q=some (QX q):=by
 unfold QX;unfold cI bw ar I8 F6;simp only[Yx];cases hl:q.L with
 | nil=>
  have e:cut ([]:List l7) 0 0=some []:=rfl;simp[e]
 | cons t l=>
  have hm:(if (if (((t::l).length:Nat):Int)<1 then (((t::l).length:Nat):Int) else 1) > 0 then (if (((t::l).length:Nat):Int)<1 then (((t::l).length:Nat):Int) else 1) else 0)=1:=by
   rw[za (show ¬(((t::l).length:Nat):Int)<1 by simp;omega)];simp
  rw[hm];have e1:cut (t::l) 0 1=some [t]:=by
   have:=gz (xs:=t::l) (i:=0) (j:=1) (t8 _) (by simp);simpa using this
  have e2:cut (t::l) 1 (((t::l).length:Nat):Int)=some l:=by
   have:=gz (xs:=t::l) (i:=1) (j:=(t::l).length) (by simp) (zq _);simpa using this
  rw[e1,e2];simp[ix]
theorem QS{q:TQ}{w:Int}(h:q.L.length<=1000):il q w=some (q.L.any λt=>t.Kind==2&&t.At==w):=by
 unfold il vq;simp only[jn,Yx];refine dX q.L.length (λk=>(q.L.take k).any (λt=>t.Kind==2&&t.At==w)=false) (by omega) (by simp) ?_ (λhl=>⟨.inr (),by simp,by rw[zT] at hl;rw[hl]⟩);intro k hk hP;simp only[zQ,hk,zV,zU,u6 hk,Yx];rw[zu hk,List.any_append,hP,zb6];by_cases c:(q.L[k].Kind==2)=true
 .rw[c,zb (by decide)];by_cases d:(q.L[k].At==w)=true
  .right;rw[d,zb rfl];refine⟨.inl true,rfl,?_⟩;simp only[wp];symm
   rw[List.any_eq_true];exact⟨_,zj hk,by rw[c,d];rfl⟩
  .have d:(q.L[k].At==w)=false:=by simpa using d
   left;rw[d,za (by decide),p8];exact⟨rfl,by simp[d]⟩
 .have c:(q.L[k].Kind==2)=false:=by simpa using c
  left;rw[c,za (by decide),p8];exact⟨rfl,by simp[c]⟩
def QW(t:l7):dq:=⟨t.Kind,t.At,t.Prog⟩
def Cf(q:TQ):G4:=⟨q.L.map QW,q.Cap⟩
theorem RT{q:TQ}(t:l7)(h:q.L.length<=1000):lK (Cf q) (QW t)=some (Cf (Nn q t).1,(Nn q t).2):=by
 unfold lK Nn;have hl:(Cf q).L.length=q.L.length:=by simp[Cf]
 by_cases c:q.Cap<=q.L.length
 .rw[zb (by simp[hl];exact c),zb c]
 .rw[za (by simp[hl];exact Int.not_le.1 c),za c,U9 (by omega) (by rw[hl];omega),Yx,C3 (by omega) (by simp[hl];omega),Yx];simp[Cf]
theorem Qy{q:TQ}{w:Int}(h:q.L.length<=1000):oN (Cf q) w=some (q.L.any λt=>t.Kind==2&&t.At==w):=by
 unfold oN;have hl:(Cf q).L.length=q.L.length:=by simp[Cf]
 simp only[jn,hl];refine dX q.L.length (λk=>(q.L.take k).any (λt=>t.Kind==2&&t.At==w)=false) (by omega) (by simp) ?_ (λhl=>⟨.inr (),by simp,by rw[zT] at hl;rw[hl]⟩);intro k hk hP;have e:ix (Cf q).L (k:Int)=some (QW q.L[k]):=by rw[show (Cf q).L=q.L.map QW from rfl,fR,u6 hk];rfl
 simp only[zQ,hk,zV,zU,e,Yx];rw[zu hk,List.any_append,hP,zb6];by_cases c:(q.L[k].Kind==2&&q.L[k].At==w)=true
 .right;rw[show ((QW q.L[k]).Kind==2&&(QW q.L[k]).At==w)=true from c,zb rfl];refine⟨.inl true,rfl,?_⟩;simp only[wp];symm
  rw[List.any_eq_true];exact⟨_,zj hk,c⟩
 .have c:(q.L[k].Kind==2&&q.L[k].At==w)=false:=by simpa using c
  left;rw[show ((QW q.L[k]).Kind==2&&(QW q.L[k]).At==w)=false from c,za (by decide),p8];exact⟨rfl,by simp[c]⟩
abbrev Hp:=b6
abbrev wS(x:Hp)(s:a7):Hp:=⟨s,x.Roots,x.a8,x.T,x.Q⟩
abbrev wR(x:Hp)(l:List Int):Hp:=⟨x.S,l,x.a8,x.T,x.Q⟩
abbrev wC(x:Hp)(l:List j5):Hp:=⟨x.S,x.Roots,l,x.T,x.Q⟩
abbrev wT(x:Hp)(t:Tb):Hp:=⟨x.S,x.Roots,x.a8,t,x.Q⟩
abbrev wQ(x:Hp)(q:TQ):Hp:=⟨x.S,x.Roots,x.a8,x.T,q⟩
def Cr(l:List j5)(h:Int):Nat:=l.countP λc=>(h != 0)&&(c.Target==h)
def xS(q:TQ):List Int:=(q.L.filter (·.Kind==1)).map (·.At)
def JG(q:TQ)(w:Int):Bool:=q.L.any λt=>t.Kind==2&&t.At==w
def pk(x:Hp):List Int:=nz x.Roots++xS x.Q
noncomputable def pj(x:Hp)(h:Int):Nat:=jt x.S h+own x.T h+aE (pk x) h
def G5(s:a7)(i:Nat)(c:b7):a7:=⟨⟨s.S.a8.set i c,s.S.Last⟩,s.Serial⟩
theorem Z6(s:a7)(i:Nat)(c:b7):(G5 s i c).S.a8.length=s.S.a8.length:=by simp[G5]
theorem L2{s:a7}{i:Nat}(hi:i<s.S.a8.length)(c:b7)(j:Nat):ce (G5 s i c) j=if j=i then c else ce s j:=jF hi _ _ j
theorem SR.G5{s:a7}(hR:SR s){i:Nat}(hi:i<s.S.a8.length){c:b7}(h1:0<=c.State/\c.State<=3/\0<=c.Gen/\c.Gen<=s.S.Last)(h2:¬Th c->Ih (oo c.Val))(h3:Th c->xK s c.Val/\Th (ce s i)/\c.Val.Serial=(ce s i).Val.Serial):SR (G5 s i c):=by
 have key:∀j,Th (ce (Sh.G5 s i c) j)->Th (ce s j)/\(ce (Sh.G5 s i c) j).Val.Serial=(ce s j).Val.Serial:=λj hj=>by
  rw[L2 hi] at hj |-;split at hj
  .rename_i e;subst e;rw[zb rfl];exact (h3 hj).2
  .rename_i e;rw[za e];exact⟨hj,rfl⟩
 refine⟨by rw[Z6];exact hR.len,hR.l0,hR.l9,hR.T5,λj hj=>?_,λj hj hn=>?_,λj hj hn=>?_,λj k hj hk a b e=>?_⟩
 .rw[Z6] at hj;rw[L2 hi];split;·exact h1
  .exact hR.cell j hj
 .rw[Z6] at hj;rw[L2 hi] at hn |-;split at hn
  .rename_i e;rw[zb e];exact h2 hn
  .rename_i e;rw[za e];exact hR.no j hj hn
 .rw[Z6] at hj;rw[L2 hi] at hn |-;split at hn
  .rename_i e;rw[zb e];have:=(h3 hn).1;exact⟨this.s1,this.s2,this.st,this.wk,this.p1,this.p2,this.fl⟩
  .rename_i e;rw[za e];have:=hR.ok j hj hn;exact⟨this.s1,this.s2,this.st,this.wk,this.p1,this.p2,this.fl⟩
 .rw[Z6] at hj hk;obtain⟨a1,a2⟩:=key j a;obtain⟨b1,b2⟩:=key k b;rw[a2,b2] at e;exact hR.dif j k hj hk a1 b1 e
theorem Kb{s:a7}{i:Nat}(hi:i<s.S.a8.length)(c:b7){h:Int}{j:Nat}(hj:j≠i):Z7 (G5 s i c) h j↔Z7 s h j:=by
 unfold Z7;rw[Z6,L2 hi,za hj]
theorem uV{s:a7}{i:Nat}(hi:i<s.S.a8.length)(c:b7){h:Int}{j:Nat}(hj:j≠i):At (G5 s i c) h j↔At s h j:=by
 unfold At;rw[Z6,L2 hi,za hj]
theorem Hd{s:a7}(hR:SR s){i:Nat}(hi:i<s.S.a8.length){c:b7}(hc:c.State≠1)(hR':SR (G5 s i c)):lv (G5 s i c)=(lv s).filter λh=>decide (D3 h≠i):=by
 have hno:∀h,¬At (G5 s i c) h i:=λh q=>by
  have:=q.2.1;rw[L2 hi,zb rfl] at this;exact hc this
 refine LG hR hR' _ (λh=>?_) (λh j k q q'=>?_)
 .rw[zF];constructor
  .rintro⟨j,hj⟩;have hne:j≠i:=λe=>hno h (e▸hj);have:=(uV hi c hne).1 hj;exact⟨⟨j,this⟩,by rw[this.d.D3 hR];exact hne⟩
  .rintro⟨⟨j,hj⟩,hp⟩;rw[hj.d.D3 hR] at hp;exact⟨j,(uV hi c hp).2 hj⟩
 .have hne:j≠i:=λe=>hno h (e▸q);have q2:=(uV hi c hne).1 q;have:=Z7.one hR q2.d q'.d;subst this;rw[L2 hi,za hne]
theorem Hl{s:a7}(hR:SR s){i:Nat}(hi:i<s.S.a8.length){c:b7}(hR':SR (G5 s i c)){k:Int}(hk:k∈lv s)(hp:D3 k≠i):ob (G5 s i c) k=ob s k:=by
 have q:=A0 hR hk;rw[Q0 hR' ((uV hi c hp).2 q),Q0 hR q,L2 hi,za hp]
structure Kn (s s':a7):Prop where
 sr:SR s'
 len:s'.S.a8.length=s.S.a8.length
 lv:lv s'=lv s
 ad:∀k i,Z7 s' k i↔Z7 s k i
 ob:∀k,k∈Sh.lv s->∃n m,ob s' k=⟨(ob s k).Serial,n,m,(ob s k).Prog,(ob s k).Started,(ob s k).Fields⟩
theorem ux.kn{s s':a7}(hR:SR s)(k:ux s s'):Kn s s':=⟨k.sr,k.len,k.lv,k.ad,λh hh=>by
 obtain⟨n,e⟩:=k.ob h (by have:=I1 hR hh;omega);exact⟨n,_,e⟩⟩
theorem Kn.jt{s s':a7}(k:Kn s s')(h:Int):jt s' h=jt s h:=by
 unfold Sh.jt;rw[k.lv];congr 1;refine zP λx hx=>?_;obtain⟨n,m,e⟩:=k.ob x hx;unfold Sh.outs;rw[e]
structure mH (x:Hp):Prop where
 sr:SR x.S
 hr:HR x.T
 r6:x.Roots.length=6
 c6:x.a8.length=6
 cap:x.Q.Cap=30
 q30:x.Q.L.length<=30
 tk:∀t∈x.Q.L,0<=t.Prog/\t.Prog<=5/\((t.Kind=1/\t.At∈lv x.S/\(ob x.S t.At).Started=true)\/(t.Kind=2/\0<=t.At/\t.At<=5))
 td:x.Q.L.Pairwise λa b=>¬(a.Kind=b.Kind/\a.At=b.At)
 rt:∀h∈x.Roots,h=0\/h∈lv x.S
 fl:∀h∈lv x.S,∀v∈(ob x.S h).Fields,v=0\/v∈lv x.S
 pr:∀k v,Has x.T k v->k∈lv x.S/\v∈lv x.S
 cl:∀i (hi:i<x.a8.length),-1<=x.a8[i].Call/\x.a8[i].Call<=5/\(x.a8[i].Target=0->x.a8[i].Intact=false)/\(x.a8[i].Target≠0->∃p,Z7 x.S x.a8[i].Target p)/\(x.a8[i].Intact=true->x.a8[i].Target∈lv x.S/\JG x.Q i=false)
def Wk(x:Hp):Prop:=∀i,i<x.S.S.a8.length->Th (ce x.S i)->(ce x.S i).Val.Weak=(Cr x.a8 (1+(i:Int)+32*(ce x.S i).Gen):Int)/\((ce x.S i).State=2->1<=(ce x.S i).Val.Weak/\(ce x.S i).Val.Fields = []/\(ce x.S i).Val.Strong=0)
def cg(x:Hp)(L:List Int):Prop:=∀h∈lv x.S,(ob x.S h).Strong<12->(ob x.S h).Strong=((pj x h+aE L h:Nat):Int)
structure O2 (x:Hp):Prop where
 sh:mH x
 wk:Wk x
 fair:cg x []
theorem mH.of{x:Hp}(h:mH x){s':a7}(hS:SR s')(hl:lv s'=lv x.S)(hd:∀k i,Z7 x.S k i->Z7 s' k i)(hst:∀k∈lv x.S,(ob x.S k).Started=true->(ob s' k).Started=true)(hfl:∀k∈lv x.S,∀v∈(ob s' k).Fields,v=0\/v∈lv x.S):mH (wS x s'):=by
 refine⟨hS,h.hr,h.r6,h.c6,h.cap,h.q30,λt ht=>?_,h.td,λk hk=>?_,λk hk=>?_,λk v hkv=>?_,λi hi=>?_⟩
 .obtain⟨a,b,c⟩:=h.tk t ht;refine⟨a,b,?_⟩;rcases c with ⟨c1,c2,c3⟩ | c;·exact .inl ⟨c1,by rw[hl];exact c2,hst _ c2 c3⟩
  .exact .inr c
 .dsimp only;rw[hl];exact h.rt k hk
 .dsimp only at hk |-;rw[hl] at hk |-;exact hfl k hk
 .dsimp only;rw[hl];exact h.pr k v hkv
 .obtain⟨a,b,c,d,e⟩:=h.cl i hi;refine⟨a,b,c,λq=>?_,λq=>?_⟩
  .obtain⟨p,hp⟩:=d q;exact⟨p,hd _ _ hp⟩
  .dsimp only;rw[hl];exact e q
theorem mH.kn{x:Hp}(h:mH x){s':a7}(k:Kn x.S s'):mH (wS x s'):=by
 refine h.of k.sr k.lv (λj i q=>(k.ad j i).2 q) (λj hj q=>?_) (λj hj=>?_)
 .obtain⟨n,m,e⟩:=k.ob j hj;rw[e];exact q
 .obtain⟨n,m,e⟩:=k.ob j hj;rw[e];exact h.fl j hj
theorem mH.xV{x:Hp}(h:mH x){s':a7}(k:ux x.S s'):mH (wS x s'):=h.kn (k.kn h.sr)
theorem Wk.xV{x:Hp}(h:Wk x){s':a7}(k:ux x.S s'):Wk (wS x s'):=by
 intro i hi ht;dsimp only at hi ht |-;rw[k.len] at hi;obtain⟨a,b,c,d,e⟩:=k.ce i hi;unfold Th at ht;rw[a] at ht;obtain⟨f,g⟩:=h i hi ht;rw[a,b,c];refine⟨f,λq=>?_⟩;have e':=e (by omega);rw[<-c,e'];exact g q
theorem mH.roots{x:Hp}(h:mH x){l:List Int}(hl:l.length=6)(hr:∀v∈l,v=0\/v∈lv x.S):mH (wR x l):=⟨h.sr,h.hr,hl,h.c6,h.cap,h.q30,h.tk,h.td,hr,h.fl,h.pr,h.cl⟩
theorem mH.table{x:Hp}(h:mH x){t:Tb}(hr:HR t)(hp:∀k v,Has t k v->k∈lv x.S/\v∈lv x.S):mH (wT x t):=⟨h.sr,hr,h.r6,h.c6,h.cap,h.q30,h.tk,h.td,h.rt,h.fl,hp,h.cl⟩
def W5(c:Int):Int:=if 12<=c then 12 else if c<0 then 1 else c+1
def jE(c:Int):Int:=if 12<=c then 12 else if c<1 then c else c-1
theorem D7{c:Int}(h:0<=c):0<=W5 c:=by unfold W5;split <;> (try split) <;> omega
theorem P1{c:Int}(h:0<=c):0<=jE c:=by unfold jE;split <;> (try split) <;> omega
noncomputable def sf(x:Hp)(h:Int)(f:Int->Int):Hp:=if h∈lv x.S then wS x (cK x.S h (Ad (ob x.S h) (f (ob x.S h).Strong))) else x
noncomputable def C5(x:Hp)(h:Int):Hp:=sf x h W5
noncomputable def R6(x:Hp)(h:Int):Hp:=sf x h jE
theorem xo(x:Hp)(h:Int)(f:Int->Int):sf x h f=wS x (sf x h f).S:=by
 unfold sf;split <;> rfl
theorem tH(x:Hp)(h:Int):C5 x h=wS x (C5 x h).S:=xo x h W5
theorem UN(x:Hp)(h:Int):R6 x h=wS x (R6 x h).S:=xo x h jE
section
variable{x:Hp}(hR:SR x.S)(h:Int){f:Int->Int}(hf:∀c,0<=c->0<=f c)
include hR hf
theorem G3:ux x.S (sf x h f).S:=by
 unfold sf;split
 .rename_i q;exact PA hR q (hf _ (J3 hR q).st)
 .exact ux.refl hR
theorem tO{k:Int}(hk:k∈lv x.S):(ob (sf x h f).S k).Strong=if k=h then f (ob x.S k).Strong else (ob x.S k).Strong:=by
 unfold sf;split
 .rename_i q;dsimp only;have ho:xK x.S (Ad (ob x.S h) (f (ob x.S h).Strong)):=by
   have:=J3 hR q;exact⟨this.s1,this.s2,hf _ this.st,this.wk,this.p1,this.p2,this.fl⟩
  rw[en (o:=Ad (ob x.S h) (f (ob x.S h).Strong)) hR q rfl ho (by have:=I1 hR hk;omega)];split;·rename_i e;subst e;rfl
  .rfl
 .rename_i q;rw[za];intro e;subst e;exact q hk
theorem vp(k:Int):pj (sf x h f) k=pj x k:=by
 rw[xo];unfold pj pk;dsimp only;rw[(G3 hR h hf).jt hR]
end
theorem mH.st{x:Hp}(h:mH x)(k:Int){f:Int->Int}(hf:∀c,0<=c->0<=f c):mH (sf x k f):=by
 rw[xo];exact h.xV (G3 h.sr k hf)
theorem Wk.st{x:Hp}(h:Wk x)(hR:SR x.S)(k:Int){f:Int->Int}(hf:∀c,0<=c->0<=f c):Wk (sf x k f):=by
 rw[xo];exact h.xV (G3 hR k hf)
theorem R3(h:Int):aE [] h=0:=by unfold aE;split <;> rfl
theorem G6(v:Int)(L:List Int)(h:Int):aE (v::L) h=aE L h+if v=h/\h≠0 then 1 else 0:=by
 unfold aE;by_cases h0:h=0
 .simp[h0]
 .rw[za h0,za h0,List.count_cons];by_cases e:v=h
  .simp[e,h0]
  .simp[e]
theorem DG{x:Hp}(hR:SR x.S){L:List Int}(hf:cg x L)(v:Int):cg (C5 x v) (v::L):=by
 intro h hh hlt;unfold C5 at hh hlt |-;rw[(G3 hR v λc=>D7).lv] at hh;rw[tO hR v (λc=>D7) hh] at hlt |-;rw[vp hR v λc=>D7,G6];have h0:h≠0:=λe=>ph hR (e▸hh);have hp:=(J3 hR hh).st;by_cases e:h=v
 .subst e;rw[zb rfl] at hlt |-;have:=hf h hh (by unfold W5 at hlt;split at hlt <;> omega);rw[zb ⟨rfl,h0⟩];unfold W5 at hlt |-;split at hlt;·omega
  .rename_i q;rw[za q,za (by omega)];omega
 .rw[za e] at hlt |-;rw[za (λq=>e q.1.symm)];exact hf h hh hlt
theorem rV{x:Hp}(hR:SR x.S){L:List Int}{v:Int}(hf:cg x (v::L)):cg (R6 x v) L:=by
 intro h hh hlt;unfold R6 at hh hlt |-;rw[(G3 hR v λc=>P1).lv] at hh;rw[tO hR v (λc=>P1) hh] at hlt |-;rw[vp hR v λc=>P1];have h0:h≠0:=λe=>ph hR (e▸hh);have hp:=(J3 hR hh).st;by_cases e:h=v
 .subst e;rw[zb rfl] at hlt |-;have:=hf h hh (by unfold jE at hlt;split at hlt <;> omega);rw[G6,zb ⟨rfl,h0⟩] at this;unfold jE at hlt |-;split at hlt;·omega
  .rename_i q;rw[za q,za (by omega)];omega
 .rw[za e] at hlt |-;have:=hf h hh hlt;rw[G6,za (λq=>e q.1.symm)] at this;exact this
theorem cg.mv{x x':Hp}{L L':List Int}(hf:cg x L)(hl:lv x'.S=lv x.S)(hs:∀h∈lv x.S,(ob x'.S h).Strong=(ob x.S h).Strong)(hn:∀h∈lv x.S,pj x' h+aE L' h=pj x h+aE L h):cg x' L':=by
 intro h hh hlt;rw[hl] at hh;rw[hs h hh] at hlt |-;rw[hf h hh hlt,hn h hh]
theorem vr:∀ {l:List Int} {r:Nat} (hr:r<l.length) (h k:Int),aE (l.set r h) k+aE [l.getD r 0] k=aE l k+aE [h] k
 | [],_,hr,_,_=>by simp at hr
 | a::l,0,_,h,k=>by
  rw[List.set_cons_zero,List.getD_cons_zero,G6 h l,G6 a l,G6 a [],G6 h [],R3];omega
 | a::l,r+1,hr,h,k=>by
  rw[List.set_cons_succ,List.getD_cons_succ,G6 a,G6 a l];have:=vr (l:=l) (r:=r) (by simpa using hr) h k;omega
theorem qu{x x1:Hp}(hx:O2 x){old new:Int}(h1:mH (C5 x new)->Wk (C5 x new)->mH x1/\Wk x1)
  (hl:lv x1.S=lv (C5 x new).S)(hs:∀h∈lv x.S,(ob x1.S h).Strong=(ob (C5 x new).S h).Strong)(hn:∀h∈lv x.S,pj x1 h+aE [old] h=pj x h+aE [new] h):O2 (R6 x1 old):=by
 have l1:lv (C5 x new).S=lv x.S:=(G3 hx.sh.sr new λc=>D7).lv;have f1:cg (C5 x new) [new]:=DG hx.sh.sr hx.fair new;obtain⟨h2,w2⟩:=h1 (hx.sh.st new λc=>D7) (hx.wk.st hx.sh.sr new λc=>D7);have f2:cg x1 [old]:=f1.mv hl (λh hh=>hs h (l1▸hh)) λh hh=>by
  rw[hn h (l1▸hh)];unfold C5;rw[vp hx.sh.sr new λc=>D7]
 exact⟨h2.st _ λc=>P1,w2.st h2.sr _ λc=>P1,rV h2.sr f2⟩
noncomputable def H5(x:Hp)(r:Nat)(h:Int):Hp:=R6 (wR (C5 x h) (x.Roots.set r h)) (x.Roots.getD r 0)
theorem cG{x:Hp}(hx:O2 x){r:Nat}(hr:r<6){h:Int}(hh:h=0\/h∈lv x.S):O2 (H5 x r h):=by
 have l1:lv (C5 x h).S=lv x.S:=(G3 hx.sh.sr h λc=>D7).lv;refine qu hx (λa b=>⟨a.roots (by rw[zae];exact hx.sh.r6) (λv hv=>?_),b⟩) rfl (λ_ _=>rfl) (λk hk=>?_)
 .rw[l1];rcases zaa hv with q | q
  .exact hx.sh.rt v q
  .exact q▸hh
 .have hi:=(G3 hx.sh.sr h λc=>D7).jt hx.sh.sr k;rw[tH];unfold pj pk;dsimp only;rw[show jt (C5 x h).S k=jt x.S k from hi,K9,K9,tQ,tQ];have:=vr (l:=x.Roots) (r:=r) (by rw[hx.sh.r6];exact hr) h k;omega
theorem HZ{α:Type}:∀ {l:List α} (hn:l.Nodup) {a:α} (ha:a∈l) (f g:α->Nat) (h:∀x∈l,x≠a->f x=g x),(l.map g).sum+f a=(l.map f).sum+g a
 | [],_,_,ha,_,_,_=>by cases ha
 | b::l,hn,a,ha,f,g,h=>by
  rw[zaq] at hn;rw[ww,ww,zb5,zb5];rcases zJ.1 ha with e | e
  .subst e;have:l.map g=l.map f:=zP λx hx=>(h x (zt _ hx) λe=>hn.1 (e▸hx)).symm;rw[this];omega
  .have:=HZ hn.2 e f g λx hx=>h x (zt _ hx);have:=h b (zi ..) λq=>hn.1 (q▸e);omega
abbrev oB(o:o9)(l:List Int):o9:=⟨o.Serial,o.Strong,o.Weak,o.Prog,o.Started,l⟩
theorem GW{s:a7}(hR:SR s){h:Int}(hh:h∈lv s){o:o9}(hs:o.Serial=(ob s h).Serial)(ho:xK s o)(y:Int):jt (cK s h o) y+aE (ob s h).Fields y=jt s y+aE o.Fields y:=by
 have hle:=I1 hR hh;have:=HZ (ru (y4.2 hR)) hh (λx=>aE (outs s x) y) (λx=>aE (outs (cK s h o) x) y) λx hx hne=>by
  have:=I1 hR hx;unfold outs;rw[en hR hh hs ho (by omega),za hne]
 have e:aE (outs (cK s h o) h) y=aE o.Fields y:=by
  unfold outs;rw[en hR hh hs ho (by omega),zb rfl,tQ]
 have e2:aE (outs s h) y=aE (ob s h).Fields y:=tQ _ _;rw[e,e2] at this;unfold jt;rw[fD hR hh hs ho];exact this
noncomputable def bS(x:Hp)(h:Int)(k:Nat)(v:Int):Hp:=R6 (wS (C5 x v) (cK (C5 x v).S h (oB (ob (C5 x v).S h) ((ob x.S h).Fields.set k v)))) ((ob x.S h).Fields.getD k 0)
theorem AO{x:Hp}(hx:O2 x){h:Int}(hh:h∈lv x.S){k:Nat}(hk:k<(ob x.S h).Fields.length){v:Int}(hv:v=0\/v∈lv x.S):O2 (bS x h k v):=by
 have xV:=G3 hx.sh.sr v (f:=W5) λc=>D7;have l1:lv (C5 x v).S=lv x.S:=xV.lv;have hR1:SR (C5 x v).S:=xV.sr;have hh1:h∈lv (C5 x v).S:=by rw[l1];exact hh
 have hle:=I1 hx.sh.sr hh;have hof:(ob (C5 x v).S h).Fields=(ob x.S h).Fields:=by
  obtain⟨n,e⟩:=xV.ob h (by omega);show (ob (sf x v W5).S h).Fields=_;rw[e]
 have ho:xK (C5 x v).S (oB (ob (C5 x v).S h) ((ob x.S h).Fields.set k v)):=by
  have:=J3 hR1 hh1;refine⟨this.s1,this.s2,this.st,this.wk,this.p1,this.p2,?_⟩;have h4:=this.fl;rw[hof] at h4;simpa using h4
 have hob:∀j,j∈lv x.S->ob (cK (C5 x v).S h (oB (ob (C5 x v).S h) ((ob x.S h).Fields.set k v))) j=if j=h then oB (ob (C5 x v).S h) ((ob x.S h).Fields.set k v) else ob (C5 x v).S j:=λj hj=>by
  have:=I1 hx.sh.sr hj;exact en (o:=oB (ob (C5 x v).S h) ((ob x.S h).Fields.set k v)) hR1 hh1 rfl ho (by omega)
 refine qu hx (λa b=>⟨?_,?_⟩) (fD (o:=oB (ob (C5 x v).S h) ((ob x.S h).Fields.set k v)) hR1 hh1 rfl ho) (λj hj=>?_) (λj hj=>?_)
 .refine a.of (bx (o:=oB (ob (C5 x v).S h) ((ob x.S h).Fields.set k v)) hR1 hh1 rfl ho) (fD (o:=oB (ob (C5 x v).S h) ((ob x.S h).Fields.set k v)) hR1 hh1 rfl ho) (λj i q=>(FQ (o:=oB (ob (C5 x v).S h) ((ob x.S h).Fields.set k v)) hR1 hh1 rfl ho).2 q) (λj hj q=>?_) (λj hj u hu=>?_)
  .rw[hob j (l1▸hj)];split;·rename_i e;subst e;exact q
   .exact q
  .rw[hob j (l1▸hj)] at hu;split at hu
   .rename_i e;subst e;rcases zaa hu with q | q
    .exact a.fl j hj u (by rw[hof];exact q)
    .rw[l1,q];exact hv
   .exact a.fl j hj u hu
 .intro i hi ht;dsimp only at hi ht |-;have hp:=A0 hR1 hh1;unfold cK at hi;rw[N6] at hi;have hce:=BR (o:=oB (ob (C5 x v).S h) ((ob x.S h).Fields.set k v)) hR1 hh1 rfl ho i;rw[hce] at ht |-;split at ht
  .rename_i e;subst e;rw[zb rfl];have:=b _ hp.1 (.inl hp.2.1);dsimp only;refine⟨?_,λq=>absurd q (by rw[hp.2.1];decide)⟩;rw[<-this.1,Q0 hR1 hp]
  .rename_i e;rw[za e];exact b i hi ht
 .rw[hob j hj];split;·rename_i e;subst e;rfl
  .rfl
 .have hi:=GW (o:=oB (ob (C5 x v).S h) ((ob x.S h).Fields.set k v)) hR1 hh1 rfl ho j;have hi2:=xV.jt hx.sh.sr j;have hi2:jt (C5 x v).S j=jt x.S j:=hi2;rw[hi2,hof] at hi;dsimp only at hi;have:=vr hk v j;have hrest:C5 x v=wS x (C5 x v).S:=tH x v;unfold pj pk;dsimp only;rw[show (C5 x v).T=x.T by rw[hrest],show (C5 x v).Roots=x.Roots by rw[hrest],show (C5 x v).Q=x.Q by rw[hrest]];omega
theorem Mq{t:Tb}(hT:HR t){k v:Int}{r:Tb × Int × Int}(h:P7 t k v=some r)(h0:r.2.2=0):HR r.1/\(∀y,own r.1 y+aE [r.2.1] y=own t y+aE [v] y)/\∀k' v',Has r.1 k' v'->Has t k' v'\/(k'=k/\v'=v/\v≠0):=by
 obtain⟨r',e1,e2,_,e3⟩:=FR hT k v;rw[h] at e1;cases e1;refine⟨e2,?_⟩;have hos:∀(i:Nat) (p:b8) (y:Int),i<t.length->own (t.set i p) y+(if (pt t i).State=1/\(pt t i).Val=y/\y≠0 then 1 else 0)=own t y+if p.State=1/\p.Val=y/\y≠0 then 1 else 0:=λi p y hi=>by
  have key:∀q:b8,(if ((q.State==1)&&((y != 0)&&(q.Val==y)))=true then 1 else 0:Nat)=if q.State=1/\q.Val=y/\y≠0 then 1 else 0:=λq=>by
   by_cases c:q.State=1/\q.Val=y/\y≠0
   .rw[zb c,zb (by simp[c.1,c.2.1,c.2.2])]
   .rw[za c,za (by simp only[zk,wf,bne_iff_ne,ne_eq];exact λq=>c ⟨q.1,q.2.2,q.2.1⟩)]
  have:=Ht hi p y;rw[key,key] at this;exact this
 rcases e3 with ⟨_,rfl⟩ | ⟨hk,hv,⟨i,hi,rfl⟩ | ⟨hn,rfl⟩⟩ | ⟨hk,hv,⟨i,hi,rfl⟩ | ⟨d,hn,hd,hf,hp,rfl⟩ | ⟨hn,ha,rfl⟩⟩;·simp at h0
 .refine⟨λy=>?_,λk' v' q=>.inl ((vM hT hi k' v').1 q).2⟩;have:=hos i ⟨2,0,0⟩ y hi.1;rw[G6,G6,R3];subst hv;dsimp only at this |-;rw[za (show ¬((2:Int)=1/\(0:Int)=y/\y≠0) by omega)] at this;rw[za (show ¬((0:Int)=y/\y≠0) by omega)];simp only[hi.2.1,true_and] at this;omega
 .refine⟨λy=>?_,λk' v' q=>.inl q⟩;rw[hv]
 .refine⟨λy=>?_,λk' v' q=>?_⟩
  .have:=hos i ⟨1,k,v⟩ y hi.1;rw[G6,G6,R3];simp only[hi.2.1,true_and] at this;dsimp only;omega
  .rcases (Bu hT (.old i hi) rfl k' v').1 q with ⟨a,b⟩ | ⟨_,b⟩;·exact .inr ⟨a,b,hv⟩
   .exact .inl b
 .refine⟨λy=>?_,λk' v' q=>?_⟩
  .have:=hos d ⟨1,k,v⟩ y hd;rw[G6,G6,R3];dsimp only;rw[za (show ¬((0:Int)=y/\y≠0) by omega)];simp only[hf,false_and,true_and,zY] at this;omega
  .rcases (Bu hT hp rfl k' v').1 q with ⟨a,b⟩ | ⟨_,b⟩;·exact .inr ⟨a,b,hv⟩
   .exact .inl b
 .simp at h0
noncomputable def jS(x:Hp)(v:Int)(t:Tb)(old:Int):Hp:=R6 (wT (C5 x v) t) old
theorem Dq{x:Hp}(hx:O2 x){k v:Int}(hk:k∈lv x.S)(hv:v=0\/v∈lv x.S){r:Tb × Int × Int}(h:P7 x.T k v=some r)(h0:r.2.2=0):O2 (jS x v r.1 r.2.1):=by
 have xV:=G3 hx.sh.sr v (f:=W5) λc=>D7;have l1:lv (C5 x v).S=lv x.S:=xV.lv;obtain⟨p1,p2,p3⟩:=Mq hx.sh.hr h h0;refine qu hx (λa b=>⟨a.table p1 λk' v' q=>?_,b⟩) rfl (λ_ _=>rfl) (λj hj=>?_)
 .rw[l1];rcases p3 k' v' q with q | ⟨rfl,rfl,hne⟩
  .exact hx.sh.pr k' v' q
  .exact⟨hk,hv.resolve_left hne⟩
 .have hi2:jt (C5 x v).S j=jt x.S j:=xV.jt hx.sh.sr j;have hrest:C5 x v=wS x (C5 x v).S:=tH x v;unfold pj pk;dsimp only;rw[show (C5 x v).Roots=x.Roots by rw[hrest],show (C5 x v).Q=x.Q by rw[hrest],hi2];have:=p2 j;omega
instance(s:a7)(h:Int)(i:Nat):Decidable (Z7 s h i):=by unfold Z7;infer_instance
abbrev Vz(o:o9)(n:Int):o9:=⟨o.Serial,o.Strong,n,o.Prog,o.Started,o.Fields⟩
def oH(s:a7)(i:Nat)(d:Int):a7:=putAt s i (Vz (ce s i).Val ((ce s i).Val.Weak+d))
def yC(s:a7)(i:Nat):a7:=G5 s i (if (ce s i).Gen=s.S.Last then ⟨3,(ce s i).Gen,z0⟩ else ⟨0,(ce s i).Gen+1,z0⟩)
def dE(s:a7)(i:Nat):Int:=1+(i:Int)+32*(ce s i).Gen
theorem GC{s:a7}{i:Nat}(hi:i<s.S.a8.length)(ht:Th (ce s i)):Z7 s (dE s i) i:=⟨hi,ht,rfl⟩
theorem uZ{s:a7}(hR:SR s){i:Nat}(hi:i<s.S.a8.length):1<=dE s i:=by
 have:=hR.cell i hi;unfold dE;omega
section
variable{s:a7}(hR:SR s){i:Nat}(hi:i<s.S.a8.length)(ht:Th (ce s i))
include hR hi ht
theorem wB{d:Int}(hd:0<=(ce s i).Val.Weak+d):SR (oH s i d):=by
 have:=hR.ok i hi ht;exact hR.put hi ht rfl ⟨this.s1,this.s2,this.st,hd,this.p1,this.p2,this.fl⟩
theorem fz(d:Int)(j:Nat):ce (oH s i d) j=if j=i then ⟨(ce s i).State,(ce s i).Gen,Vz (ce s i).Val ((ce s i).Val.Weak+d)⟩ else ce s j:=kS hi _ j
theorem lz{d:Int}(hd:0<=(ce s i).Val.Weak+d):Kn s (oH s i d):=by
 have hS:=wB hR hi ht hd;refine⟨hS,N6 ..,LD hR hi rfl hS,λk j=>uU hi _,λk hk=>?_⟩;have q:=A0 hR hk;rw[Q0 hS ((vE hi _).2 q),Q0 hR q,fz hR hi ht];split
 .rename_i e;rw[e];exact⟨_,_,rfl⟩
 .exact⟨_,_,rfl⟩
theorem lA{d:Int}(hd:0<=(ce s i).Val.Weak+d){k:Int}(hk:k∈lv s):(ob (oH s i d) k).Strong=(ob s k).Strong:=by
 have hS:=wB hR hi ht hd;have q:=A0 hR hk;rw[Q0 hS ((vE hi _).2 q),Q0 hR q,fz hR hi ht];split
 .rename_i e;rw[e]
 .rfl
omit ht in
theorem AY:SR (yC s i):=by
 have hc:=hR.cell i hi;have no:Ih (oo z0):=⟨rfl,rfl,rfl,rfl,rfl,rfl⟩;unfold yC;split;·exact hR.G5 hi ⟨by simp,by simp,hc.2.2.1,hc.2.2.2⟩ (λ_=>no) (λq=>absurd q (by unfold Th;simp))
 .refine hR.G5 hi ⟨by simp,by simp,?_,?_⟩ (λ_=>no) (λq=>absurd q (by unfold Th;simp));·show 0<=(ce s i).Gen+1;omega
  .show (ce s i).Gen+1<=s.S.Last;omega
omit hR ht in
theorem AV:∃c,(c.State=0\/c.State=3)/\yC s i=G5 s i c/\∀j,ce (yC s i) j=if j=i then c else ce s j:=by
 unfold yC;split;·exact⟨_,.inr rfl,rfl,λj=>L2 hi _ j⟩
 .exact⟨_,.inl rfl,rfl,λj=>L2 hi _ j⟩
omit ht in
theorem AW (h2:(ce s i).State=2):lv (yC s i)=lv s:=by
 obtain⟨c,c1,c2,_⟩:=AV (s:=s) hi;have hS:=AY hR hi;rw[c2] at hS |-;rw[Hd hR hi (by omega) hS,zbc];intro h hh;rw[zF];intro e;have:=(A0 hR hh).2.1;rw[e] at this;omega
omit ht in
theorem AX (h2:(ce s i).State=2) {k:Int} (hk:k∈lv s):ob (yC s i) k=ob s k:=by
 obtain⟨c,c1,c2,_⟩:=AV (s:=s) hi;have hS:=AY hR hi;rw[c2] at hS |-;refine Hl hR hi hS hk λe=>?_;have:=(A0 hR hk).2.1;rw[e] at this;omega
omit ht in
theorem Ty {k:Int} {j:Nat}:Z7 (yC s i) k j↔Z7 s k j/\j≠i:=by
 obtain⟨c,c1,c2,c3⟩:=AV (s:=s) hi;by_cases e:j=i
 .subst e;constructor
  .rintro⟨_,h,_⟩;rw[c3,zb rfl] at h;unfold Th at h;omega
  .rintro⟨_,h⟩;exact absurd rfl h
 .rw[c2,Kb hi c e];simp[e]
theorem Po(h2:(ce s i).State=2)(y:Int):jt (yC s i) y=jt s y:=by
 unfold jt;rw[AW hR hi h2];congr 1;refine zP λx hx=>?_;unfold outs;rw[AX hR hi h2 hx]
end
def jP(x:Hp)(h:Int)(d:Int):Hp:=if Z7 x.S h (D3 h) then wS x (oH x.S (D3 h) d) else x
def nY(x:Hp)(h:Int):Hp:=
 if Z7 x.S h (D3 h) then
  (if (ce x.S (D3 h)).State=2/\(ce x.S (D3 h)).Val.Weak=1 then wS x (yC (oH x.S (D3 h) (-1)) (D3 h)) else wS x (oH x.S (D3 h) (-1)))
 else x
abbrev jd(h call:Int):j5:=⟨h,h != 0,call⟩
def sj(x:Hp)(w:Nat):Int:=(x.a8.getD w ⟨0,false,0⟩).Target
def dP(x:Hp)(w:Nat)(h call:Int):Hp:=nY (jP (wC x (x.a8.set w (jd h call))) h 1) (sj x w)
theorem PL{l:List j5}{w:Nat}(hw:w<l.length)(c:j5){k:Int}(hk:k≠0):Cr (l.set w c) k+(if l[w].Target=k then 1 else 0)=Cr l k+if c.Target=k then 1 else 0:=by
 unfold Cr;rw[List.countP_set hw];have e:∀d:j5,(((k != 0)&&(d.Target==k))=true)=(d.Target=k):=λd=>by simp[hk]
 simp only[e];have:(if l[w].Target=k then 1 else 0)<=l.countP λc=>(k != 0)&&(c.Target==k):=by
  split
  .rename_i q;exact zbo.2 ⟨l[w],zj hw,by simp[q,hk]⟩
  .exact t8 _
 omega
theorem rA{l:List j5}{i:Nat}(hi:i<l.length)(h0:l[i].Target≠0):0<Cr l l[i].Target:=zbo.2 ⟨l[i],zj hi,by simp[h0]⟩
theorem Ee{x:Hp}(hx:O2 x){w:Nat}(hw:w<6){h call:Int}(hh:h=0\/h∈lv x.S)(hc : -1<=call/\call<=5)(hq:JG x.Q w=false):O2 (dP x w h call):=by
 have hR:=hx.sh.sr;have hwl:w<x.a8.length:=by rw[hx.sh.c6];exact hw
 have htg:sj x w=x.a8[w].Target:=by
  unfold sj;rw[zf,zc hwl];rfl
 have s1:mH (wC x (x.a8.set w (jd h call))):=by
  have:=hx.sh;refine⟨this.sr,this.hr,this.r6,by simpa using this.c6,this.cap,this.q30,this.tk,this.td,this.rt,this.fl,this.pr,λi hi=>?_⟩;dsimp only at hi |-;rw[zb2];rw[zae] at hi;split
  .rename_i e;subst e;dsimp only;refine⟨hc.1,hc.2,λq=>by simp[q],λq=>?_,λq=>?_⟩;·exact⟨_,(A0 hR (hh.resolve_left q)).d⟩
   .have q:h≠0:=by simpa using q
    exact⟨hh.resolve_left q,hq⟩
  .exact this.cl i hi
 have k2:∃s2,jP (wC x (x.a8.set w (jd h call))) h 1=wS (wC x (x.a8.set w (jd h call))) s2/\Kn x.S s2/\(∀k∈lv x.S,(ob s2 k).Strong=(ob x.S k).Strong) /\
   ∀i,i<x.S.S.a8.length->(ce s2 i).State=(ce x.S i).State/\(ce s2 i).Gen=(ce x.S i).Gen/\(ce s2 i).Val.Fields=(ce x.S i).Val.Fields/\(ce s2 i).Val.Strong=(ce x.S i).Val.Strong/\(Th (ce x.S i)->(ce s2 i).Val.Weak=(ce x.S i).Val.Weak+if h=dE x.S i then 1 else 0):=by
  unfold jP;rcases hh with h0 | hh
  .have hno:¬Z7 x.S h (D3 h):=λq=>by have:=q.MN hR;omega
   rw[za hno];refine⟨x.S,rfl,(ux.refl hR).kn hR,λ_ _=>rfl,λi hi=>⟨rfl,rfl,rfl,rfl,λht=>?_⟩⟩;have:=uZ hR hi;rw[za (by omega)];omega
  .have hp:=A0 hR hh;have hwk:=(hR.ok _ hp.1 (.inl hp.2.1)).wk;rw[zb hp.d];refine⟨_,rfl,lz hR hp.1 (.inl hp.2.1) (by omega),λk hk=>lA hR hp.1 (.inl hp.2.1) (by omega) hk,λi hi=>?_⟩;rw[fz hR hp.1 (.inl hp.2.1)];split
   .rename_i e;subst e;refine⟨rfl,rfl,rfl,rfl,λ_=>?_⟩;rw[zb (show h=dE x.S (D3 h) from hp.2.2)]
   .rename_i e;refine⟨rfl,rfl,rfl,rfl,λht=>?_⟩;rw[za];·omega
    .intro q;exact e (Z7.one hR (q▸GC hi ht) hp.d)
 obtain⟨s2,e2,kn2,st2,ce2⟩:=k2;have hR2:=kn2.sr;have len2:=kn2.len;have hS2:mH (wS (wC x (x.a8.set w (jd h call))) s2):=s1.kn kn2;have hdl2:∀i,i<x.S.S.a8.length->dE s2 i=dE x.S i:=λi hi=>by unfold dE;rw[(ce2 i hi).2.1]
 have th2:∀i,i<x.S.S.a8.length->(Th (ce s2 i)↔Th (ce x.S i)):=λi hi=>by unfold Th;rw[(ce2 i hi).1]
 have wk2:∀i,i<x.S.S.a8.length->Th (ce x.S i)->(ce s2 i).Val.Weak=(Cr (x.a8.set w (jd h call)) (dE x.S i):Int)+if sj x w=dE x.S i then 1 else 0:=λi hi ht=>by
  have h0:dE x.S i≠0:=by have:=uZ hR hi;omega
  have:=PL hwl (jd h call) h0;rw[(ce2 i hi).2.2.2.2 ht,(hx.wk i hi ht).1,htg];dsimp only at this;unfold dE at this |-;by_cases a:h=1+(i:Int)+32*(ce x.S i).Gen <;> by_cases b:x.a8[w].Target=1+(i:Int)+32*(ce x.S i).Gen
  .rw[zb a,zb b] at *;omega
  .rw[zb a,za b] at *;omega
  .rw[za a,zb b] at *;omega
  .rw[za a,za b] at *;omega
 have dd2:∀i,i<x.S.S.a8.length->(ce s2 i).State=2->(ce s2 i).Val.Fields = []/\(ce s2 i).Val.Strong=0:=λi hi q=>by
  obtain⟨a,_,b,c,_⟩:=ce2 i hi;rw[a] at q;rw[b,c];exact ((hx.wk i hi (.inr q)).2 q).2
 have nms2:∀k,pj (wS (wC x (x.a8.set w (jd h call))) s2) k=pj x k:=λk=>by
  unfold pj pk;dsimp only;rw[kn2.jt]
 have fair2:cg (wS (wC x (x.a8.set w (jd h call))) s2) []:=hx.fair.mv kn2.lv st2 λk _=>by rw[nms2]
 unfold dP;rw[e2];unfold nY;dsimp only;by_cases hold:sj x w=0
 .have hno:¬Z7 s2 (sj x w) (D3 (sj x w)):=λq=>by have:=q.MN hR2;omega
  rw[za hno];refine⟨hS2,λi hi ht=>?_,fair2⟩;dsimp only at hi ht |-;rw[len2] at hi;have ht':=(th2 i hi).1 ht;have h0:=uZ hR hi;have hw2:=wk2 i hi ht';rw[za (by omega)] at hw2;rw[show (1+(i:Int)+32*(ce s2 i).Gen)=dE x.S i from hdl2 i hi];refine⟨by omega,λq=>⟨?_,dd2 i hi q⟩⟩;have q':(ce x.S i).State=2:=by rw[<-(ce2 i hi).1];exact q
  have:=((hx.wk i hi ht').2 q').1;rw[(ce2 i hi).2.2.2.2 ht'];split <;> omega
 .obtain⟨p,hp⟩:∃p,Z7 x.S (sj x w) p:=by
   rw[htg] at hold |-;exact (hx.sh.cl w hwl).2.2.2.1 hold
  have hpp:=hp.D3 hR;have hp2:Z7 s2 (sj x w) p:=(kn2.ad _ _).2 hp;have hth:sj x w=dE x.S p:=hp.2.2;rw[hpp,zb hp2];have hpl2:=hp2.1;have hw2:=wk2 p hp.1 hp.2.1;rw[zb hth] at hw2;have hd:0<=(ce s2 p).Val.Weak+(-1):=by omega
  have kn3:=lz hR2 hpl2 hp2.2.1 hd;have hR3:=kn3.sr;have ce3:=fz hR2 hpl2 hp2.2.1 (-1);have hS3:mH (wS (wC x (x.a8.set w (jd h call))) (oH s2 p (-1))):=hS2.kn kn3;have fair3:cg (wS (wC x (x.a8.set w (jd h call))) (oH s2 p (-1))) []:=fair2.mv kn3.lv (λk hk=>lA hR2 hpl2 hp2.2.1 hd hk) λk _=>by
   unfold pj pk;dsimp only;rw[kn3.jt]
  have wk3:∀i,i<x.S.S.a8.length->Th (ce x.S i)->(ce (oH s2 p (-1)) i).Val.Weak=(Cr (x.a8.set w (jd h call)) (dE x.S i):Int):=λi hi ht=>by
   rw[ce3];by_cases e:i=p
   .subst e;rw[zb rfl];dsimp only;omega
   .rw[za e,wk2 i hi ht,za];·omega
    .intro q;exact e (Z7.one hR (q▸GC hi ht) hp)
  have cs3:∀i,(ce (oH s2 p (-1)) i).State=(ce s2 i).State/\(ce (oH s2 p (-1)) i).Gen=(ce s2 i).Gen/\(ce (oH s2 p (-1)) i).Val.Fields=(ce s2 i).Val.Fields/\(ce (oH s2 p (-1)) i).Val.Strong=(ce s2 i).Val.Strong:=λi=>by
   rw[ce3];split
   .rename_i e;subst e;exact⟨rfl,rfl,rfl,rfl⟩
   .exact⟨rfl,rfl,rfl,rfl⟩
  by_cases hg:(ce s2 p).State=2/\(ce s2 p).Val.Weak=1
  .-- the slot is given back
   rw[zb hg];have hpl3:p<(oH s2 p (-1)).S.a8.length:=by rw[kn3.len];exact hpl2
   have h23:(ce (oH s2 p (-1)) p).State=2:=by rw[(cs3 p).1];exact hg.1
   have hn0:Cr (x.a8.set w (jd h call)) (sj x w)=0:=by rw[hth];omega
   have hlv:=AW hR3 hpl3 h23;have hob:=λk hk=>AX (k:=k) hR3 hpl3 h23 hk;obtain⟨c,c1,c2,c3⟩:=AV (s:=oH s2 p (-1)) hpl3;refine⟨⟨AY hR3 hpl3,hS3.hr,hS3.r6,hS3.c6,hS3.cap,hS3.q30,λt htt=>?_,hS3.td,λv hv=>?_,λv hv u hu=>?_,λk v hkv=>?_,λi hi=>?_⟩,λi hi ht=>?_,?_⟩
   .obtain⟨a,b,d⟩:=hS3.tk t htt;refine⟨a,b,?_⟩;dsimp only at d |-;rw[hlv];rcases d with ⟨d1,d2,d3⟩ | d;·exact .inl ⟨d1,d2,by rw[hob _ d2];exact d3⟩
    .exact .inr d
   .dsimp only;rw[hlv];exact hS3.rt v hv
   .dsimp only at hv hu |-;rw[hlv] at hv |-;rw[hob _ hv] at hu;exact hS3.fl v hv u hu
   .dsimp only;rw[hlv];exact hS3.pr k v hkv
   .obtain⟨a1,a2,a3,a4,a5⟩:=hS3.cl i hi;refine⟨a1,a2,a3,λq=>?_,λq=>?_⟩
    .obtain⟨j,hj⟩:=a4 q;refine⟨j,(Ty hR3 hpl3).2 ⟨hj,λe=>?_⟩⟩;subst e;have e1:=(kn2.ad _ _).1 ((kn3.ad _ _).1 hj);have e2:(x.a8.set w (jd h call))[i].Target=sj x w:=e1.2.2.trans hp.2.2.symm;have:=rA hi q;dsimp only at this;rw[e2] at this;omega
    .dsimp only;rw[hlv];exact a5 q
   .dsimp only at hi ht |-;rw[show (yC (oH s2 p (-1)) p).S.a8.length=x.S.S.a8.length by rw[c2,Z6,kn3.len,len2]] at hi;rw[c3] at ht |-;split at ht;·unfold Th at ht;omega
    .rename_i e;rw[za e];have ht':Th (ce x.S i):=(th2 i hi).1 (by unfold Th at ht |-;rw[(cs3 i).1] at ht;exact ht);have:=wk3 i hi ht';rw[show (1+(i:Int)+32*(ce (oH s2 p (-1)) i).Gen)=dE x.S i by rw[(cs3 i).2.1];exact hdl2 i hi];refine⟨this,λq=>?_⟩;rw[(cs3 i).1] at q;rw[(cs3 i).2.2.1,(cs3 i).2.2.2,ce3,za e];refine⟨?_,dd2 i hi q⟩;have q':(ce x.S i).State=2:=by rw[<-(ce2 i hi).1];exact q
     have:=((hx.wk i hi ht').2 q').1;rw[(ce2 i hi).2.2.2.2 ht'];split <;> omega
   .refine fair3.mv hlv (λk hk=>by rw[hob k hk]) λk _=>?_;unfold pj pk;dsimp only;rw[Po hR3 hpl3 (.inr h23) h23]
  .rw[za hg];refine⟨hS3,λi hi ht=>?_,fair3⟩;dsimp only at hi ht |-;rw[kn3.len,len2] at hi;have ht':Th (ce x.S i):=(th2 i hi).1 (by unfold Th at ht |-;rw[(cs3 i).1] at ht;exact ht);have:=wk3 i hi ht';rw[show (1+(i:Int)+32*(ce (oH s2 p (-1)) i).Gen)=dE x.S i by rw[(cs3 i).2.1];exact hdl2 i hi];refine⟨this,λq=>?_⟩;rw[(cs3 i).1] at q;rw[(cs3 i).2.2.1,(cs3 i).2.2.2];refine⟨?_,dd2 i hi q⟩;rw[ce3];split
   .rename_i e;subst e;dsimp only;have:(ce s2 i).Val.Weak≠1:=λq2=>hg ⟨q,q2⟩;omega
   .have q':(ce x.S i).State=2:=by rw[<-(ce2 i hi).1];exact q
    have:=((hx.wk i hi ht').2 q').1;rw[(ce2 i hi).2.2.2.2 ht'];split <;> omega
def qz(c:j5):H3:=⟨c.Target,c.Intact,c.Call⟩
def hO(x:Hp):o6:=⟨sO x.S,x.Roots,x.a8.map qz,x.T.map R8,Cf x.Q⟩
structure HB (x:Hp):Prop where
 sb:SB x.S
 fb:FB x.S
 rb:LB x.Roots
 cb:∀c∈x.a8,c.Target<=9223372036854775807
 tb:TB x.T
 qb:∀t∈x.Q.L,t.At<=9223372036854775807
theorem LC{β:Type}{b:Nat}{f:Int × List β->Option ((Int × List β) ⊕ List β)}(n:Nat)(g:Nat->β)(hb:0<b)(h:n*b<=140737488355328)
  (hs:∀(k:Nat) acc,k<n->f ((k:Int),acc)=(app b acc [g k]).bind λv=>some (.inl (z8 ((k:Int)+1),v)))(he:∀acc,f ((n:Int),acc)=some (.inr acc)):lp f (0,[])=some ((List.range n).map g):=by
 have hl:n*1<=n*b:=Nat.mul_le_mul_left _ hb;refine fZ (fy n (λk l=>l=(List.range k).map g) (λe=>e=(List.range n).map g) (by omega) (by simp) ?_ ?_)
 .rintro k l hk rfl;have h3:(k+1)*b<=n*b:=zn _ hk;refine .inl ⟨(List.range (k+1)).map g,?_,rfl⟩;rw[hs k _ hk,C3 hb (by simp;omega),Yx,p8,List.range_succ,zad];rfl
 .rintro l rfl;exact⟨_,he _,rfl⟩
theorem MZ{s:a7}(hR:SR s){h:Int}(hh:h∈lv s):cK s h (ob s h)=s:=by
 have q:=A0 hR hh;unfold cK putAt;rw[Q0 hR q];have e:s.S.a8.set (D3 h) ⟨(ce s (D3 h)).State,(ce s (D3 h)).Gen,(ce s (D3 h)).Val⟩=s.S.a8:=by
  rw[show (⟨(ce s (D3 h)).State,(ce s (D3 h)).Gen,(ce s (D3 h)).Val⟩:b7)=ce s (D3 h) from rfl,E9 q.1];exact List.set_getElem_self q.1
 rw[e]
section
variable{x:Hp}(hR:SR x.S)
include hR
theorem Lr{h:Int}(hh:h<=9223372036854775807):iO x h=some (decide (h∈lv x.S)):=by
 unfold iO;obtain⟨e,h1,h2⟩:=aI (y4.2 hR) hh;rw[h1,Yx];congr 1;rw[zbm,wf,zF,h2]
theorem vc{h:Int}(hh:h<=9223372036854775807):gm (hO x) h=some (decide (h∈lv x.S)):=by
 unfold gm;obtain⟨e,h1,h2⟩:=aI (y4.2 hR) hh;rw[show (hO x).S=sO x.S from rfl,qX x.S (by have:=hR.len;omega) hh,h1,wd,Yx];congr 1;rw[zbm,wf,zF,h2]
theorem dY{h:Int}(hh:h<=9223372036854775807):L5 x h=some (decide (h=0\/h∈lv x.S)):=by
 unfold L5;by_cases q:h=0
 .subst q;simp[z6]
 .have e:(h==0)=false:=by simpa using q
  rw[e];simp only[md,jR,zb6];rw[Lr hR hh,Yx];simp[q]
theorem vd{h:Int}(hh:h<=9223372036854775807):gn (hO x) h=some (decide (h=0\/h∈lv x.S)):=by
 unfold gn;by_cases q:h=0
 .subst q;simp[z6]
 .have e:(h==0)=false:=by simpa using q
  rw[e];simp only[md,jR,zb6];rw[vc hR hh,Yx];simp[q]
theorem TI{c:Int}(hc:c<=9223372036854775807):oi c=some (W5 c):=by
 unfold oi gy G2 W5;simp only[Yx];by_cases q:12<=c
 .rw[zb (by simpa using q),zb q,Yx]
 .rw[za (by simpa using q),za q,Yx];by_cases q2:c<0
  .rw[zb (show 0 > c from q2),zb q2];rfl
  .rw[za (show ¬0 > c from q2),za q2,F7 (by omega) (by omega)]
theorem CS{c:Int}(hc:c<=9223372036854775807):vj c=some (W5 c):=by
 unfold vj jV W5;simp only[Yx];by_cases q:12<=c
 .rw[zb (by simpa using q),zb q]
 .rw[za (by simpa using q),za q];by_cases q2:c<0
  .rw[zb (by simpa using q2),zb q2]
  .rw[za (by simpa using q2),za q2,F7 (by omega) (by omega)]
omit hR in
theorem Mz {s:a7} (hR:SR s) {h:Int} (hh:h∈lv s) {n:Int} (hn:0<=n):K6 s h (Ad (ob s h) n)=some (cK s h (Ad (ob s h) n),0):=by
 have:=J3 hR hh;exact rZ (o:=Ad (ob s h) n) hR hh rfl ⟨this.s1,this.s2,hn,this.wk,this.p1,this.p2,this.fl⟩
omit hR in
theorem sa {s:a7} (hR:SR s) {h:Int} (hh:h∈lv s) {o:o9} (hs:o.Serial=(ob s h).Serial) (ho:xK s o):P3 (sO s) h (oo o)=some (sO (cK s h o),0):=by
 have:=I1 hR hh;rw[Nd s hR.len (by omega) o,rZ hR hh hs ho];rfl
theorem ke{h:Int}(hh:h<=9223372036854775807)(hB:∀k∈lv x.S,(ob x.S k).Strong<=9223372036854775807):aK x h=some (C5 x h):=by
 unfold aK W3 C5 sf;obtain⟨e,h1,h2⟩:=aI (y4.2 hR) hh;rw[h1,Yx];by_cases q:h∈lv x.S
 .have e0:=h2.2 q;subst e0;rw[zb q,TI hR (hB h q)];simp only[md,zU,Yx];have:=Mz hR q (D7 (J3 hR q).st);rw[this];rfl
 .have:(e==0)=false:=by simpa using λc=>q (h2.1 c)
  rw[this,za q];rfl
theorem rU{h:Int}(hh:h<=9223372036854775807)(hB:∀k∈lv x.S,(ob x.S k).Strong<=9223372036854775807):bZ (hO x) h=some (hO (C5 x h)):=by
 unfold bZ lL C5 sf;obtain⟨e,h1,h2⟩:=aI (y4.2 hR) hh;have hg:M0 (hO x).S h=some (oo (ob x.S h),e):=by
  rw[show (hO x).S=sO x.S from rfl,qX x.S (by have:=hR.len;omega) hh,h1];rfl
 rw[hg,Yx];by_cases q:h∈lv x.S
 .have e0:=h2.2 q;subst e0;have hs:vj (oo (ob x.S h),(0:Int)).1.Strong=some (W5 (ob x.S h).Strong):=CS hR (hB h q);rw[zb q,hs,Yx];simp only[Yx,zav,zm,zY];have ok:=J3 hR q;have:=sa (o:=Ad (ob x.S h) (W5 (ob x.S h).Strong)) hR q rfl ⟨ok.s1,ok.s2,D7 ok.st,ok.wk,ok.p1,ok.p2,ok.fl⟩;rw[show P3 (hO x).S h ⟨(oo (ob x.S h)).Serial,W5 (ob x.S h).Strong,(oo (ob x.S h)).Weak,(oo (ob x.S h)).Prog,(oo (ob x.S h)).Started,(oo (ob x.S h)).Fields⟩=_ from this];rfl
 .have he:(e != 0)=true:=by simpa using λc=>q (h2.1 c)
  have hb:(oo (ob x.S h)).Strong<=9223372036854775807:=by
   rw[pL (y4.2 hR) hh q];decide
  rw[CS hR hb,Yx,Yx];simp only[he,zU];rw[za q];rfl
omit hR in
theorem SZ (c:Int) (h1 : -1000000<=c):db c=some (jE c):=by
 unfold db sK dV G2 jE;simp only[Yx];by_cases q:12<=c
 .rw[zb (by simpa using q),zb q];rfl
 .rw[za (by simpa using q),za q];by_cases q2:c<1
  .rw[zb (by simpa using q2),zb q2];rfl
  .rw[za (by simpa using q2),za q2,F7 (by omega) (by omega)];rfl
theorem ee{h:Int}(hh:h<=9223372036854775807):C8 x h=some (R6 x h):=by
 unfold C8 N8 R6 sf;obtain⟨e,h1,h2⟩:=aI (y4.2 hR) hh;rw[h1,Yx];by_cases q:h∈lv x.S
 .have e0:=h2.2 q;subst e0;have ok:=J3 hR q;rw[zb q,SZ _ (by have:=ok.st;dsimp only;omega)];simp only[md,zU,Yx];have:=Mz hR q (P1 ok.st);rw[this];rfl
 .have:(e==0)=false:=by simpa using λc=>q (h2.1 c)
  rw[this,za q];rfl
theorem oP{h:Int}(hh:h<=9223372036854775807):J1 (hO x) h=some (hO (R6 x h)):=by
 unfold J1 lL R6 sf;obtain⟨e,h1,h2⟩:=aI (y4.2 hR) hh;have hg:M0 (hO x).S h=some (oo (ob x.S h),e):=by
  rw[show (hO x).S=sO x.S from rfl,qX x.S (by have:=hR.len;omega) hh,h1];rfl
 rw[hg,Yx];by_cases q:h∈lv x.S
 .have e0:=h2.2 q;subst e0;have ok:=J3 hR q;have put:∀n,0<=n->P3 (hO x).S h ⟨(oo (ob x.S h)).Serial,n,(oo (ob x.S h)).Weak,(oo (ob x.S h)).Prog,(oo (ob x.S h)).Started,(oo (ob x.S h)).Fields⟩=some (sO (cK x.S h (Ad (ob x.S h) n)),0):=λn hn=>
   sa (o:=Ad (ob x.S h) n) hR q rfl ⟨ok.s1,ok.s2,hn,ok.wk,ok.p1,ok.p2,ok.fl⟩
  have hs:(oo (ob x.S h)).Strong=(ob x.S h).Strong:=rfl;rw[zb q];unfold Bx jV jE;simp only[Yx,hs];by_cases q1:12<=(ob x.S h).Strong
  .rw[zb (by simpa using q1),zb q1];simp only[Yx,zav,zm,zY];rw[put 12 (by decide)];rfl
  .rw[za (by simpa using q1),za q1];by_cases q2:(ob x.S h).Strong<1
   .rw[zb (by simpa using q2),zb q2];simp only[Yx,show ((11:Int) != 0)=true from rfl,zU];rw[show Ad (ob x.S h) (ob x.S h).Strong=ob x.S h from rfl,MZ hR q]
   .rw[za (by simpa using q2),za q2,F7 (by omega) (by have:=ok.st;omega)];simp only[Yx,zav,zm,zY];rw[put _ (by omega)];rfl
 .have he:(e != 0)=true:=by simpa using λc=>q (h2.1 c)
  rw[za q,pL (y4.2 hR) hh q];unfold Bx jV;simp only[Yx];rfl
end
theorem JA{x:Hp}(hR:SR x.S)(hB:SB x.S):∀k∈lv x.S,(ob x.S k).Strong<=9223372036854775807:=λk hk=>(Ae (y4.2 hR) hB hk).2
end Go.Sh
