/- A part. -/
import Derived.Test.YtjlokngooekbcaaGreatET2
set_option linter.unusedVariables false
set_option linter.unusedSimpArgs false
set_option linter.unusedSectionVars false
namespace Go.Sh
section
variable{s:a7}(hR:SR s){i:Nat}(hi:i<s.S.Cells.length)
include hR hi
theorem Ys(st g:Int):aP (sO s) ⟨(pl (sO s)).Cells.set i ⟨st,g,0⟩,(pl (sO s)).Last⟩=some ⟨(sO s).Cells.set i ⟨st,g,oo (ce s i).Val⟩,s.S.Last,s.Serial⟩:=by
 have hlen:=hR.len;have J7:i<(pl (sO s)).Cells.length:=by rw[cC,C9];exact hi
 rw[AX _ _ (by rw[C9];omega) (by simp[cC])];congr 1;congr 1;refine zbc (by simp) λk h1 h2=>?_;have hk:k<s.S.Cells.length:=by simpa[C9] using h1
 have hk2:k<(sO s).Cells.length:=by rw[C9];exact hk
 have hk3:k<(pl (sO s)).Cells.length:=by rw[cC];exact hk2
 simp only[wt,List.getElem_range,zb4];have e1:(sO s).Cells.getD k ⟨0,0,oo z0⟩=cO (ce s k):=by
  rw[zf,zc hk2,F5 hk];simp[sO]
 have e2:((pl (sO s)).Cells.set i ⟨st,g,0⟩).getD k ⟨0,0,0⟩=if k=i then ⟨st,g,0⟩ else xJ k (cO (ce s k)):=by
  rw[kS J7];split;·rfl
  .rw[zf,zc hk3,F5 hk];simp[pl,sO]
 rw[e1,e2];by_cases e:k=i
 .subst e;rw[zb rfl,zb rfl];rfl
 .rw[za e,za (za2 e)];rw[F5 hk];simp[sO,xJ,cO]
theorem Yt(st g:Int)(o:D2):bV ⟨(sO s).Cells.set i ⟨st,g,oo (ce s i).Val⟩,s.S.Last,s.Serial⟩ (i:Int) o=some ⟨(sO s).Cells.set i ⟨st,g,o⟩,s.S.Last,s.Serial⟩:=by
 have hlen:=hR.len;unfold bV;have hi2:i<((sO s).Cells.set i ⟨st,g,oo (ce s i).Val⟩).length:=by simp[C9];exact hi
 rw[O4 (by omega) (by simp[C9];omega),a1b,r8 hi2,a1b];simp[List.set_set]
theorem QO:∃h:i<(pl (sO s)).Cells.length,(pl (sO s)).Cells[i]=⟨(ce s i).State,(ce s i).Gen,(i:Int)⟩:=by
 have J7:i<(pl (sO s)).Cells.length:=by rw[cC,C9];exact hi
 refine⟨J7,?_⟩;rw[F5 hi];simp[pl,sO,xJ,cO]
end
theorem Yo{s:a7}(hR:SR s):(∀i,i<s.S.Cells.length->(ce s i).State≠0)->ll (pl (sO s)) 0=some (pl (sO s),0,4):=λhf=>by
 have hlen:=hR.len;have el:(pl (sO s)).Cells.length=s.S.Cells.length:=by rw[cC,C9]
 unfold ll;simp only[jn];refine N6 (pl (sO s)).Cells.length (λk=>True) (by omega) trivial (λk hk _=>?_) (λhP=>⟨.inr (),by simp,rfl⟩);refine .inl ⟨?_,trivial⟩;obtain⟨h1,h2⟩:=QO hR (show k<s.S.Cells.length by omega);have:=hf k (by omega);simp only[zo,hk,zt,zD,r8 hk,a1b];rw[h2,za (by simpa using this),l6]
theorem US{s:a7}(hR:SR s){i:Nat}(hF:YI s i):ll (pl (sO s)) 0=some (⟨(pl (sO s)).Cells.set i ⟨1,(ce s i).Gen,0⟩,(pl (sO s)).Last⟩,dY s i,0):=by
 have hlen:=hR.len;have el:(pl (sO s)).Cells.length=s.S.Cells.length:=by rw[cC,C9]
 obtain⟨hi,h0,hmin⟩:=hF;have hc:=hR.cell i hi;have l9:=hR.l9;unfold ll;simp only[jn];refine N6 (pl (sO s)).Cells.length (λk=>k<=i) (by omega) (by omega) (λk hk hP=>?_) (λhP=>by omega);obtain⟨h1,h2⟩:=QO hR (show k<s.S.Cells.length by omega);rcases zy k i with g | g
 .refine .inl ⟨?_,g⟩;have:=hmin k g;simp only[zo,hk,zt,zD,r8 hk,a1b];rw[h2,za (by simpa using this),l6]
 .have:k=i:=by omega
  subst this;refine .inr ⟨.inl _,?_,rfl⟩;simp only[zo,hk,zt,zD,r8 hk,a1b];rw[h2,zb (by simpa using h0)];have w3:∀c:z6,Z5 (pl (sO s)) (k:Int) c=some ⟨(pl (sO s)).Cells.set k c,(pl (sO s)).Last⟩:=λc=>by
   unfold Z5;rw[O4 (by omega) (by omega),a1b,r8 hk,a1b,zV]
  rw[w3,a1b,jG,zb (by dsimp only;omega),a1b];rfl
theorem Zi{s:a7}(hR:SR s)(hb:s.Serial<9223372036854775807)(a p:Int) :
  (∃e,e≠0/\U8 s a p=some (s,0,e)/\dL (sO s) a p=some (sO s,0,e)) \/
  ((0<=a/\a<=4)/\(-1<=p/\p<=5)/\∃i,YI s i/\U8 s a p=some (fw s i a.toNat p,dY s i,0)/\dL (sO s) a p=some (sO (fw s i a.toNat p),dY s i,0)):=by
 have hser:=hR.aV;have hlen:=hR.len;have r1:∀n:Nat,n<=4->tU (n:Int)=some (List.replicate n 0,0):=λn hn=>by
  unfold tU;rw[za (by simp;omega),Ac (by omega) (by omega)];rfl
 rcases Zh hR hb a p with ⟨h1,e⟩ | ⟨h1,h2,e⟩ | ⟨h1,h2,h3,e⟩ | ⟨h1,h2,i,h3,e⟩
 .refine .inl ⟨1,by decide,e,?_⟩;unfold dL tU;rw[zb (by simp;omega)];rfl
 .refine .inl ⟨13,by decide,e,?_⟩;obtain⟨n,rfl⟩:∃n:Nat,a=n:=⟨a.toNat,by omega⟩;unfold dL;rw[r1 n (by omega),a1b,za (by simp),zb (by simp;omega)]
 .refine .inl ⟨4,by decide,e,?_⟩;obtain⟨n,rfl⟩:∃n:Nat,a=n:=⟨a.toNat,by omega⟩;unfold dL;rw[r1 n (by omega),a1b,za (by simp),za (by simp;omega),dF _ (by rw[C9];omega),a1b,Yo hR h3,a1b,zb (by simp)]
 .refine .inr ⟨h1,h2,i,h3,e,?_⟩;obtain⟨n,rfl⟩:∃n:Nat,a=n:=⟨a.toNat,by omega⟩;have hi:=h3.1;have hc:=hR.cell i hi;have l9:=hR.l9;unfold dL;rw[r1 n (by omega),a1b,za (by simp),za (by simp;omega),dF _ (by rw[C9];omega),a1b,US hR h3,a1b,za (by simp),Ys hR hi,a1b,oV,zb (by unfold qT dY;dsimp only;omega),a1b,
   show (dY s i-1) % 32=(i:Int) by unfold dY;omega,Yt hR hi,a1b,G4 (by show _<=s.Serial+1;omega) (by show s.Serial+1<=_;omega)]
  unfold fw;rw[zV];simp only[sO,zcg];rfl
abbrev LS(o:k8):s6:=⟨o.Kind,o.A,o.B,o.C⟩
structure Dn (x:Hp) (o:k8) (z:Hp) (v:Int):Prop where
 rt:P5 z
 sl:SL z
 ev:Ev x z
 cw:Cw x z (if o.Kind=6 then o.A else -1)
 mc:z7 x o=some (da z,v,0)
 rf:E1 (hO x) (LS o)=some (hO (da z),v,0)
def Er(x:Hp)(o:k8)(e:Int):Prop:=e≠0/\z7 x o=some (x,0,e)/\E1 (hO x) (LS o)=some (hO x,0,e)
theorem Zl{x:Hp}(hx:P5 x)(hS:SL x){i:Nat}(hi:i<x.S.S.Cells.length)(h0:(ce x.S i).State=0){n:Nat}(hn:n<=4){p:Int}(hp : -1<=p/\p<=5):SL (wS x (fw x.S i n p)):=λk hk=>by
 have hR:=hx.sh.sr;have hk':k∈lv (fw x.S i n p):=hk;show (ob (fw x.S i n p) k).Strong<=_;rw[LL hR hi h0 hn hp] at hk';rcases zB.1 hk' with q | q
 .rw[CB hR hi h0 hn hp q];exact hS k q
 .rw[zO.1 q,vE hR hi h0 hn hp];show (0:Int)<=_;decide
theorem qw{y:Hp}(hy:P5 y){a:Int}(ha:0<=a/\a<=5){h:Int}(hh:h=0\/h∈lv y.S):sd (da (H9 y a.toNat h)) a=h/\aV (da (H9 y a.toNat h)) h=aV y h:=by
 have hz:=aU hy (r:=a.toNat) (by omega) hh;have st:=pw hz;have w:=eY hz;have e1:(da (H9 y a.toNat h)).Roots=y.Roots.set a.toNat h:=st.rt.trans (iQ y a.toNat h).1;have h6:=hy.sh.r6;have e2:sd (da (H9 y a.toNat h)) a=h:=by
  unfold sd;rw[za (by omega),e1,zf,List.getElem?_set_self (by omega)];rfl
 refine⟨e2,?_⟩;have k:=bZ hy.sh.sr a.toNat h;rcases wV w.sh a with q | q
 .rw[e2] at q;subst q;rw[Mv w.sh,Mv hy.sh]
 .rw[e2] at q;have h1:=(st.ob h q).1;have h2:=st.lv h q;rw[k.lv] at h2;exact h1.trans (k.ob h h2)
section
variable{x:Hp}{a b c:Int}
theorem nE{o:k8}{y:Hp}{e:Int}(he:e≠0):Bt x o (y,e)=some (x,0,e):=by
 unfold Bt;rw[zb (by simpa using he)]
theorem Vn{z:Hp}(hz:P5 z)(hS:SL z){k:Int}(hk:k≠5/\k≠6/\k≠8/\k≠10):Bt x ⟨k,a,b,c⟩ (z,0)=some (da z,aV (da z) (sd (da z) a),0):=by
 unfold Bt W3;rw[za (by simp),gV hz hS,a1b];simp only[jn];rw[za (by simp;omega),za (by simp;omega)];have:(k==8)=false:=by simp;omega
 rw[this,za (by simp),za (by simp;omega),Lh (eY hz).sh];rfl
theorem Kv{o:k8}{v e:Int}(he:e≠0):D4 ⟨x,o⟩ v e=some (x,e):=by
 unfold D4;rw[zb (by simpa using he)]
theorem QT{y:c5}{v e:Int}(he:e≠0):rT y a (v,e)=some (y,0,e):=by
 unfold rT;rw[zb (by simpa using he)]
theorem NK{y z:c5}{v e:Int}(he:e≠0):rO y (z,v,e)=some (y,0,e):=by
 unfold rO;rw[zb (by simpa using he)]
variable(hx:P5 x)(hS:SL x)
include hx hS
theorem qD{k:Int}(ha:0<=a/\a<=5){h:Int}(hh:h=0\/h∈lv x.S):D4 ⟨x,⟨k,a,b,c⟩⟩ h 0=some (H9 x a.toNat h,0):=by
 unfold D4;rw[za (by simp),Mo hx hS a (tH hx hS hh),za (by omega),zb hh];rfl
theorem Zx(ha:0<=a/\a<=5){h:Int}(hh:h=0\/h∈lv x.S):rT (hO x) a (h,0)=some (hO (da (H9 x a.toNat h)),aV x h,0):=by
 have hz:=aU hx (r:=a.toNat) (by omega) hh;have zS:=iR hx.sh.sr hS a.toNat h;obtain⟨e1,e2⟩:=qw hx ha hh;unfold rT;rw[za (by simp),Kf hx hS a (tH hx hS hh),za (by omega),zb hh,a1b,lN hz zS,a1b,YM (eY hz).sh,e1,e2];rfl
theorem lR{k:Int}(hk:k=2\/k=3\/k=4\/k=7\/k=9)(hc:D0 k a b c=0)(ha:0<=a/\a<=5){h:Int}(hh:h=0\/h∈lv x.S)
  (h1:z7 x ⟨k,a,b,c⟩=Bt x ⟨k,a,b,c⟩ (H9 x a.toNat h,0))(h2:cU (hO x) ⟨k,a,b,c⟩=some (h,0)):Dn x ⟨k,a,b,c⟩ (H9 x a.toNat h) (aV x h):=by
 have hz:=aU hx (r:=a.toNat) (by omega) hh;have zS:=iR hx.sh.sr hS a.toNat h;obtain⟨e1,e2⟩:=qw hx ha hh;refine⟨hz,zS,(bZ hx.sh.sr a.toNat h).ev,Cw.same (iQ x a.toNat h).2.1 _,?_,?_⟩;·rw[h1,Vn hz zS (by omega),e1,e2]
 .show E1 (hO x) ⟨k,a,b,c⟩=_;rw[Mh hk hc,h2,a1b,Zx hx hS ha hh]
theorem d2(hc:D0 2 a b c=0):Dn x ⟨2,a,b,c⟩ (H9 x a.toNat (sd x b)) (aV x (sd x b)):=by
 obtain⟨ha,hb⟩:=Wq hc;refine lR hx hS (.inl rfl) hc ha (wV hx.sh b) ?_ ?_
 .rw[a0p hc];unfold J8;rw[nm hx.sh,a1b,qD hx hS ha (wV hx.sh b)];rfl
 .unfold cU;rw[zb (by rfl),show (hO x).Roots=x.Roots from rfl,wU hx.sh hb];rfl
theorem d3(hc:D0 3 a b c=0):Dn x ⟨3,a,b,c⟩ (H9 x a.toNat 0) 0:=by
 have ha:=a0h hc;have:=lR (b:=b) (c:=c) hx hS (.inr (.inl rfl)) hc ha (h:=0) (.inl rfl) ?_ ?_;·rwa [Mv hx.sh] at this
 .rw[a0q hc];unfold aB;rw[qD hx hS ha (.inl rfl)];rfl
 .rfl
theorem d4(hc:D0 4 a b c=0):(sd x b=0/\Er x ⟨4,a,b,c⟩ 2)\/(∃e,aZ x.S (sd x b) c=some (0,e)/\Er x ⟨4,a,b,c⟩ e) \/
  (sd x b∈lv x.S/\∃n:Nat,c=n/\∃hn:n<(ob x.S (sd x b)).Fields.length,Dn x ⟨4,a,b,c⟩ (H9 x a.toNat (ob x.S (sd x b)).Fields[n]) (aV x (ob x.S (sd x b)).Fields[n])):=by
 obtain⟨ha,hb,_⟩:=a0i hc;have hm:z7 x ⟨4,a,b,c⟩=_:=a0r hc;unfold aC at hm;rw[ld hx.sh,a1b] at hm;have hr:E1 (hO x) ⟨4,a,b,c⟩=_:=Mh (by omega) hc;have hnm:cU (hO x) ⟨4,a,b,c⟩=(W8 (hO x) b).bind λv2=>if (v2.2 != 0) then some (0,v2.2) else (eQ (hO x).S v2.1 c).bind λv3=>some (v3.1,v3.2):=rfl
 rw[sM hx.sh hb,a1b] at hnm;by_cases h0:sd x b=0
 .refine .inl ⟨h0,by decide,?_,?_⟩
  .rw[hm];unfold xy;rw[zb h0,zb (by simp),a1b,nE (by decide)]
  .show E1 (hO x) ⟨4,a,b,c⟩=_;rw[hr,hnm];unfold xy;rw[zb h0,zb (by simp),a1b,QT (by decide)]
 .have has:xy x b=(sd x b,0):=by unfold xy;rw[za h0]
  rw[has,za (by simp)] at hm hnm;right;rcases wv hx hS (sd x b) c (wW hx.sh b) with ⟨e,he,f1,f2⟩ | ⟨hl,n,hn0,hn,f1,f2⟩
  .refine .inl ⟨e,f1,he,?_,?_⟩
   .rw[hm];dsimp only;rw[f1,a1b,Kv he,a1b,a1b,nE he]
   .show E1 (hO x) ⟨4,a,b,c⟩=_;rw[hr,hnm];dsimp only;rw[show (hO x).S=sO x.S from rfl,f2,a1b,a1b,QT he]
  .refine .inr ⟨hl,n,hn0,hn,?_⟩;have hv:=hx.sh.fl _ hl _ (zd hn);refine lR hx hS (by omega) hc ha hv ?_ ?_
   .rw[hm];dsimp only;rw[f1,a1b,qD hx hS ha hv];rfl
   .rw[hnm];dsimp only;rw[show (hO x).S=sO x.S from rfl,f2];rfl
theorem TG{n:Nat}(hn:n<6):∃h:n<x.Cells.length,lV x.Cells n=some (if x.Cells[n].Target=0\/x.Cells[n].Intact=false then (0,9) else (x.Cells[n].Target,0))/\oZ (hO x).Cells n=some (if x.Cells[n].Target=0\/x.Cells[n].Intact=false then (0,9) else (x.Cells[n].Target,0)):=by
 have c6:=hx.sh.c6;have hl:n<x.Cells.length:=by omega
 have hl2:n<(x.Cells.map nB).length:=by simp;exact hl
 refine⟨hl,?_,?_⟩
 .unfold lV lW;have:(decide ((n:Int)>=0)&&decide ((n:Int)<(x.Cells.length:Int)))=true:=by simp;omega
  rw[this,a1b,za (by simp),r8 hl,a1b];by_cases q:x.Cells[n].Target=0\/x.Cells[n].Intact=false
  .rw[zb q,zb (by rcases q with q | q <;> simp[q])]
  .rw[za q,za (by simpa using q)]
 .unfold oZ;show (if _ then _ else (ix (x.Cells.map nB) (n:Int)).bind _)=_;rw[za (by simp[hO];omega),r8 hl2,a1b,wt];by_cases q:x.Cells[n].Target=0\/x.Cells[n].Intact=false
  .rw[zb q,zb (by rcases q with q | q <;> simp[nB,q])]
  .rw[za q,za (by simpa[nB] using q)];rfl
theorem d7(hc:D0 7 a b c=0):∃h:b.toNat<x.Cells.length,((x.Cells[b.toNat].Intact=false/\Er x ⟨7,a,b,c⟩ 9) \/
  (x.Cells[b.toNat].Intact=true/\Dn x ⟨7,a,b,c⟩ (H9 x a.toNat x.Cells[b.toNat].Target) (aV x x.Cells[b.toNat].Target))):=by
 obtain⟨ha,hb⟩:=a0l hc;obtain⟨n,rfl⟩:∃n:Nat,b=n:=⟨b.toNat,by omega⟩;obtain⟨hl,l1,l2⟩:=TG hx hS (n:=n) (by omega);rw[zV];refine⟨hl,?_⟩;have hm:z7 x ⟨7,a,n,c⟩=_:=a0u hc;unfold Z3 at hm;rw[show lV (w7.mk x ⟨7,a,n,c⟩).x.Cells (w7.mk x ⟨7,a,n,c⟩).o.B=_ from l1,a1b] at hm;have hr:E1 (hO x) ⟨7,a,n,c⟩=_:=Mh (by omega) hc;have hnm:cU (hO x) ⟨7,a,n,c⟩=(oZ (hO x).Cells n).bind λv4=>some (v4.1,v4.2):=rfl;rw[l2,a1b] at hnm;have cl:=hx.sh.cl n hl;cases hI:x.Cells[n].Intact
 .left;rw[zb (.inr hI)] at hm hnm;refine⟨rfl,by decide,?_,?_⟩
  .rw[hm];dsimp only;rw[Kv (by decide),a1b,a1b];exact nE (e:=9) (by decide)
  .show E1 (hO x) ⟨7,a,n,c⟩=_;rw[hr,hnm,a1b,QT (by decide)]
 .right;have ht:=(cl.2.2.2.2 hI).1;have ht0:x.Cells[n].Target≠0:=λe=>qO hx.sh.sr (e▸ht);rw[za (by simp[ht0,hI])] at hm hnm;refine⟨rfl,lR hx hS (by omega) hc ha (.inr ht) ?_ hnm⟩;rw[hm];dsimp only;rw[qD hx hS ha (.inr ht)];rfl
theorem d9(hc:D0 9 a b c=0):(sd x b=0/\Er x ⟨9,a,b,c⟩ 2)\/(sd x b∈lv x.S/\(∀v,¬Has x.T (sd x b) v)/\Er x ⟨9,a,b,c⟩ 9) \/
  (sd x b∈lv x.S/\∃v,Has x.T (sd x b) v/\Dn x ⟨9,a,b,c⟩ (H9 x a.toNat v) (aV x v)):=by
 obtain⟨ha,hb⟩:=a0n hc;have hT:=hx.sh.hr;have hm:z7 x ⟨9,a,b,c⟩=_:=a0w hc;unfold bo at hm;rw[ld hx.sh,a1b] at hm;have hr:E1 (hO x) ⟨9,a,b,c⟩=_:=Mh (by omega) hc;have hnm:cU (hO x) ⟨9,a,b,c⟩=(W8 (hO x) b).bind λv2=>if (v2.2 != 0) then some (0,v2.2) else (uf (hO x).T v2.1).bind λv3=>some (v3.1,v3.2):=rfl
 rw[sM hx.sh hb,a1b] at hnm;by_cases h0:sd x b=0
 .refine .inl ⟨h0,by decide,?_,?_⟩
  .rw[hm];unfold xy;rw[zb h0,zb (by simp),a1b,nE (by decide)]
  .show E1 (hO x) ⟨9,a,b,c⟩=_;rw[hr,hnm];unfold xy;rw[zb h0,zb (by simp),a1b,QT (by decide)]
 .have has:xy x b=(sd x b,0):=by unfold xy;rw[za h0]
  have hl:=(wV hx.sh b).resolve_left h0;rw[has,za (by simp)] at hm hnm;dsimp only at hm hnm;have g2:uf (hO x).T (sd x b)=(N5 x.T (sd x b)).bind λv=>some (v.1,v.2):=by
   unfold uf;rw[show (hO x).T=x.T.map J7 from rfl,QX hT]
  unfold vo at hm;rw[g2] at hnm;right;by_cases hv:∃v,Has x.T (sd x b) v
  .obtain⟨v,hv⟩:=hv;rw[Lt hT hv] at hm hnm;refine .inr ⟨hl,v,hv,lR hx hS (by omega) hc ha (.inr (hx.sh.pr _ _ hv).2) ?_ hnm⟩;rw[hm,a1b,a1b];dsimp only;rw[qD hx hS ha (.inr (hx.sh.pr _ _ hv).2)];rfl
  .have hv':∀v,¬Has x.T (sd x b) v:=λv q=>hv ⟨v,q⟩;rw[Nq hT hv'] at hm hnm;refine .inl ⟨hl,hv',by decide,?_,?_⟩
   .rw[hm,a1b,a1b];dsimp only;rw[Kv (by decide),a1b,a1b];exact nE (e:=9) (by decide)
   .show E1 (hO x) ⟨9,a,b,c⟩=_;rw[hr,hnm,a1b,a1b,a1b];exact QT (e:=9) (by decide)
end
section
variable{x:Hp}{a b c:Int}
theorem YT{z:Hp}(hz:P5 z)(hS:SL z){k:Int}{r:Int}(hk:k=5/\r=c\/(k=6\/k=8)/\r=b):Bt x ⟨k,a,b,c⟩ (z,0)=some (da z,aV z (sd z r),0):=by
 unfold Bt W3;rw[za (by simp),gV hz hS,a1b];simp only[jn];rcases hk with ⟨rfl,rfl⟩ | ⟨rfl | rfl,rfl⟩
 .rw[zb (by rfl),Lh hz.sh];rfl
 .rw[za (by decide),zb (by rfl),zb (by rfl),Lh hz.sh];rfl
 .rw[za (by decide),za (by decide),zb (by rfl),Lh hz.sh];rfl
variable(hx:P5 x)(hS:SL x)
include hx hS
theorem Zw{z:Hp}(hz:P5 z)(zS:SL z){h:Int}(hh:h=0\/h∈lv x.S):rO (hO x) (hO z,h,0)=some (hO (da z),aV x h,0):=by
 unfold rO;rw[za (by simp),lN hz zS,a1b,Rq hx.sh (tH hx hS hh)];rfl
theorem rZ{z:Hp}(hz:P5 z)(zS:SL z)(k:Ks x.S z.S)(er:z.Roots=x.Roots){kd r:Int}(hk:kd=5/\r=c\/(kd=6\/kd=8)/\r=b)(hc:D0 kd a b c=0)(cw:Cw x z (if kd=6 then a else -1))
  (h1:z7 x ⟨kd,a,b,c⟩=Bt x ⟨kd,a,b,c⟩ (z,0))(h2:bu (hO x) ⟨kd,a,b,c⟩=some (hO z,sd x r,0)):Dn x ⟨kd,a,b,c⟩ z (aV x (sd x r)):=by
 refine⟨hz,zS,k.ev,cw,?_,?_⟩;·rw[h1,YT hz zS hk,UH er,Yf hx.sh k (wV hx.sh r)]
 .show E1 (hO x) ⟨kd,a,b,c⟩=_;rw[Mg (by omega) hc,h2,a1b,Zw hx hS hz zS (wV hx.sh r)]
theorem d5(hc:D0 5 a b c=0):(sd x a=0/\Er x ⟨5,a,b,c⟩ 2)\/(∃e,eH x (sd x a) b (sd x c)=some (x,e)/\Er x ⟨5,a,b,c⟩ e) \/
  (sd x a∈lv x.S/\∃n:Nat,b=n/\n<(ob x.S (sd x a)).Fields.length/\Dn x ⟨5,a,b,c⟩ (cq x (sd x a) n (sd x c)) (aV x (sd x c))):=by
 obtain⟨ha,hb,hcc⟩:=a0j hc;have hm:z7 x ⟨5,a,b,c⟩=_:=a0s hc;unfold Y5 at hm;rw[ld hx.sh,a1b] at hm;have hr:E1 (hO x) ⟨5,a,b,c⟩=_:=Mg (by omega) hc;have hnm:bu (hO x) ⟨5,a,b,c⟩=(W8 (hO x) a).bind λv4=>if (v4.2 != 0) then some (hO x,0,v4.2) else (iJ (hO x) c).bind λv5=>(gR (hO x) v4.1 b v5).bind λv6=>some (v6.1,v5,v6.2):=rfl
 rw[sM hx.sh ha,a1b,Rn hx.sh (by omega)] at hnm;by_cases h0:sd x a=0
 .have has:xy x a=(0,2):=by unfold xy;rw[zb h0]
  rw[has,zb (by simp)] at hm hnm;refine .inl ⟨h0,by decide,?_,?_⟩
  .rw[hm,a1b];exact nE (e:=2) (by decide)
  .show E1 (hO x) ⟨5,a,b,c⟩=_;rw[hr,hnm,a1b];exact NK (e:=2) (by decide)
 .have has:xy x a=(sd x a,0):=by unfold xy;rw[za h0]
  rw[has,za (by simp)] at hm hnm;dsimp only at hm hnm;rw[nm hx.sh,a1b] at hm;rw[a1b] at hnm;right;rcases Pt hx hS (sd x a) b (sd x c) (wW hx.sh a) (wW hx.sh c) with ⟨e,he,f1,f2⟩ | ⟨hl,hv,n,hn0,hn,f1,f2⟩
  .refine .inl ⟨e,f1,he,?_,?_⟩;·rw[hm,f1,a1b,a1b,nE he]
   .show E1 (hO x) ⟨5,a,b,c⟩=_;rw[hr,hnm,f2,a1b,a1b,NK he]
  .refine .inr ⟨hl,n,hn0,hn,rZ hx hS (DP hx hl hn hv) (Nk hx.sh.sr hS hl _ _) (Cg hx.sh.sr hl hn _) (oE _ _ _ _).1 (.inl ⟨rfl,rfl⟩) hc (Cw.same (oE _ _ _ _).2.1 _) ?_ ?_⟩
   .rw[hm,f1];rfl
   .rw[hnm,f2];rfl
theorem d6(hc:D0 6 a b c=0):(sd x b=0/\Er x ⟨6,a,b,c⟩ 2)\/(∃e,bm x a (sd x b) c=some (x,e)/\Er x ⟨6,a,b,c⟩ e) \/
  (II x.Q a=false/\Dn x ⟨6,a,b,c⟩ (eC x a.toNat (sd x b) c) (aV x (sd x b))):=by
 obtain⟨ha,hb,hcc⟩:=a0k hc;have hm:z7 x ⟨6,a,b,c⟩=_:=a0t hc;unfold V2 at hm;have hr:E1 (hO x) ⟨6,a,b,c⟩=_:=Mg (by omega) hc;have key:(z7 x ⟨6,a,b,c⟩=(((bm x a (sd x b) c).bind λv1=>some (v1.1,v1.2)).bind (Bt x ⟨6,a,b,c⟩))/\bu (hO x) ⟨6,a,b,c⟩=(dM (hO x) a (sd x b) c).bind λv1=>some (v1.1,sd x b,v1.2))\/(sd x b=0/\Er x ⟨6,a,b,c⟩ 2):=by
  by_cases h1:b = -1
  .subst h1;left;rw[AO hx.sh (r:=-1) (by omega)];refine⟨?_,rfl⟩;rw[hm,zb (by rfl)]
  .rw[za (by simpa using h1),ld hx.sh,a1b] at hm;have hnm:bu (hO x) ⟨6,a,b,c⟩=(W8 (hO x) b).bind λv4=>if (v4.2 != 0) then some (hO x,0,v4.2) else (dM (hO x) a v4.1 c).bind λv7=>some (v7.1,v4.1,v7.2):=by
    unfold bu;rw[za (by simp;omega)];rfl
   rw[sM hx.sh (by omega),a1b] at hnm;by_cases h0:sd x b=0
   .have has:xy x b=(0,2):=by unfold xy;rw[zb h0]
    rw[has,zb (by simp)] at hm hnm;refine .inr ⟨h0,by decide,?_,?_⟩
    .rw[hm,a1b];exact nE (e:=2) (by decide)
    .show E1 (hO x) ⟨6,a,b,c⟩=_;rw[hr,hnm,a1b];exact NK (e:=2) (by decide)
   .have has:xy x b=(sd x b,0):=by unfold xy;rw[za h0]
    rw[has,za (by simp)] at hm hnm;exact .inl ⟨hm,hnm⟩
 rcases key with ⟨hm,hnm⟩ | key
 .right;rcases Ve hx a (sd x b) c (wW hx.sh b) hcc with ⟨e,he,f1,f2⟩ | ⟨hh,n,rfl,hn,hw,f1,f2⟩
  .refine .inl ⟨e,f1,he,?_,?_⟩;·rw[hm,f1,a1b,a1b,nE he]
   .show E1 (hO x) ⟨6,a,b,c⟩=_;rw[hr,hnm,f2,a1b,a1b,NK he]
  .rw[zV];obtain⟨r1,r2,_,_⟩:=Bc x n (sd x b) c;refine .inr ⟨hw,rZ hx hS (IA hx hn hh hcc hw) (RC hx hS hn _ _) (Iz hx hn _ _) r1 (.inr ⟨.inl rfl,rfl⟩) hc (by rw[zb rfl];exact Cw.set r2) ?_ ?_⟩
   .rw[hm,f1];rfl
   .rw[hnm,f2];rfl
 .exact .inl key
theorem d8(hc:D0 8 a b c=0):(sd x a=0/\Er x ⟨8,a,b,c⟩ 2)\/(sd x a∈lv x.S/\∃e,gM x (sd x a) (sd x b)=some (x,e)/\Er x ⟨8,a,b,c⟩ e) \/
  (sd x a∈lv x.S/\∃r,V8 x.T (sd x a) (sd x b)=some r/\r.2.2=0/\Dn x ⟨8,a,b,c⟩ (lg x (sd x b) r.1 r.2.1) (aV x (sd x b))):=by
 obtain⟨ha,hb⟩:=a0m hc;have hm:z7 x ⟨8,a,b,c⟩=_:=a0v hc;unfold aD at hm;rw[ld hx.sh,a1b] at hm;have hr:E1 (hO x) ⟨8,a,b,c⟩=_:=Mg (by omega) hc;have hnm:bu (hO x) ⟨8,a,b,c⟩=(W8 (hO x) a).bind λv4=>if (v4.2 != 0) then some (hO x,0,v4.2) else (iJ (hO x) b).bind λv8=>(lA (hO x) v4.1 v8).bind λv9=>some (v9.1,v8,v9.2):=rfl
 rw[sM hx.sh ha,a1b,Rn hx.sh (by omega)] at hnm;by_cases h0:sd x a=0
 .have has:xy x a=(0,2):=by unfold xy;rw[zb h0]
  rw[has,zb (by simp)] at hm hnm;refine .inl ⟨h0,by decide,?_,?_⟩
  .rw[hm,a1b];exact nE (e:=2) (by decide)
  .show E1 (hO x) ⟨8,a,b,c⟩=_;rw[hr,hnm,a1b];exact NK (e:=2) (by decide)
 .have has:xy x a=(sd x a,0):=by unfold xy;rw[za h0]
  have hl:=(wV hx.sh a).resolve_left h0;rw[has,za (by simp)] at hm hnm;dsimp only at hm hnm;rw[nm hx.sh,a1b] at hm;rw[a1b] at hnm;right;rcases Uk hx hS (sd x a) (sd x b) (wW hx.sh a) (wW hx.sh b) with ⟨e,he,f1,f2⟩ | ⟨hl,hv,r,r1,r2,f1,f2⟩
  .refine .inl ⟨hl,e,f1,he,?_,?_⟩;·rw[hm,f1,a1b,a1b,nE he]
   .show E1 (hO x) ⟨8,a,b,c⟩=_;rw[hr,hnm,f2,a1b,a1b,NK he]
  .refine .inr ⟨hl,r,r1,r2,rZ hx hS (Hm hx hl hv r1 r2) (QJ hx.sh.sr hS _ _ _) (Hl hx.sh.sr _ _ _) (sa _ _ _ _).1 (.inr ⟨.inr rfl,rfl⟩) hc (Cw.same (sa _ _ _ _).2.1 _) ?_ ?_⟩
   .rw[hm,f1];rfl
   .rw[hnm,f2];rfl
theorem d10(hz:zr x = [])(hc:D0 10 a b c=0):Dn x ⟨10,a,b,c⟩ x (if sd x a=sd x b then 1 else 0):=by
 obtain⟨ha,hb⟩:=YO hc;refine⟨hx,hS,Ev.refl x,Cw.refl x _,?_,?_⟩
 .rw[YU hc];unfold R2 Bt W3;rw[a1b,za (by simp),gV hx hS,a1b];simp only[jn];rw[za (by decide),za (by decide),za (by decide),zb (by rfl),nm hx.sh,a1b,nm hx.sh,a1b];by_cases q:sd x a=sd x b
  .rw[zb (by simpa using q),zb q];rfl
  .rw[za (by simpa using q),za q];rfl
 .show E1 (hO x) ⟨10,a,b,c⟩=_;rw[XV hc,show (hO x).Roots=x.Roots from rfl,wU hx.sh ha,a1b,wU hx.sh hb,a1b,Ij hz];by_cases q:sd x a=sd x b
  .rw[zb (by simpa using q),zb q]
  .rw[za (by simpa using q),za q]
theorem d1(hb:x.S.Serial<9223372036854775807)(hc:D0 1 a b c=0):(∃e,U8 x.S b c=some (x.S,0,e)/\Er x ⟨1,a,b,c⟩ e) \/
  (b.toNat<=4/\(-1<=c/\c<=5)/\∃i,YI x.S i/\Dn x ⟨1,a,b,c⟩ (H9 (wS x (fw x.S i b.toNat c)) a.toNat (dY x.S i)) (x.S.Serial+1)):=by
 obtain⟨ha,hbb,hcc⟩:=a0g hc;have hR:=hx.sh.sr;have hm:z7 x ⟨1,a,b,c⟩=_:=a0o hc;unfold V1 at hm;dsimp only at hm;have hr:E1 (hO x) ⟨1,a,b,c⟩=_:=ZG hc;rw[show (hO x).S=sO x.S from rfl] at hr;rcases Zi hR hb b c with ⟨e,he,f1,f2⟩ | ⟨_,_,i,hF,f1,f2⟩
 .refine .inl ⟨e,f1,he,?_,?_⟩;·rw[hm,f1,a1b,zb (by simpa using he),a1b,nE he]
  .show E1 (hO x) ⟨1,a,b,c⟩=_;rw[hr,f2,a1b,zb (by simpa using he)]
 .refine .inr ⟨by omega,hcc,i,hF,?_⟩;obtain⟨hi,h0,_⟩:=hF;have hn:b.toNat<=4:=by omega
  have hy:=Qj hx hi h0 hn hcc;have yS:=Zl hx hS hi h0 hn hcc;have hh:dY x.S i=0\/dY x.S i∈lv (wS x (fw x.S i b.toNat c)).S:=.inr (by
   show _∈lv (fw x.S i b.toNat c);rw[LL hR hi h0 hn hcc];exact zaq _ (zO.2 rfl))
  have hz:=aU hy (r:=a.toNat) (by omega) hh;have zS:=iR hy.sh.sr yS a.toNat (dY x.S i);obtain⟨e1,e2⟩:=qw hy ha hh;have e3:aV (wS x (fw x.S i b.toNat c)) (dY x.S i)=x.S.Serial+1:=by
   show (ob (fw x.S i b.toNat c) (dY x.S i)).Serial=_;rw[vE hR hi h0 hn hcc]
  refine⟨hz,zS,(Zk hx hi h0 hn hcc).ks (bZ hy.sh.sr a.toNat _),Cw.same (iQ (wS x (fw x.S i b.toNat c)) a.toNat _).2.1 _,?_,?_⟩
  .rw[hm,f1,a1b,za (by simp)];dsimp only;rw[show D4 ⟨⟨fw x.S i b.toNat c,x.Roots,x.Cells,x.T,x.Q⟩,⟨1,a,b,c⟩⟩ (dY x.S i) 0=_ from qD hy yS ha hh,a1b,a1b,Vn hz zS (by omega),e1,e2,e3]
  .show E1 (hO x) ⟨1,a,b,c⟩=_;rw[hr,f2,a1b,za (by simp)];dsimp only;rw[show W7 ⟨sO (fw x.S i b.toNat c),(hO x).Roots,(hO x).Cells,(hO x).T,(hO x).Q⟩ a (dY x.S i)=_ from Kf hy yS a (tH hy yS hh),za (by omega),zb hh,a1b,lN hz zS,a1b,YM (eY hz).sh,e1,e2,e3];rfl
end
theorem Wv{x:Hp}(hx:P5 x)(hS:SL x)(hz:zr x = [])(hb:x.S.Serial<9223372036854775807)(o:k8):(∃e,Er x o e)\/∃z v,Dn x o z v:=by
 obtain⟨k,a,b,c⟩:=o;by_cases hc:D0 k a b c=0
 .have:=LC hc;have hk:k=1\/k=2\/k=3\/k=4\/k=5\/k=6\/k=7\/k=8\/k=9\/k=10\/k=11\/k=12:=by omega
  rcases hk with rfl | rfl | rfl | rfl | rfl | rfl | rfl | rfl | rfl | rfl | rfl | rfl
  .rcases d1 hx hS hb hc with ⟨e,_,h⟩ | ⟨_,_,i,_,h⟩;·exact .inl ⟨e,h⟩
   .exact .inr ⟨_,_,h⟩
  .exact .inr ⟨_,_,d2 hx hS hc⟩
  .exact .inr ⟨_,_,d3 hx hS hc⟩
  .rcases d4 hx hS hc with ⟨_,h⟩ | ⟨e,_,h⟩ | ⟨_,n,_,_,h⟩;·exact .inl ⟨_,h⟩
   .exact .inl ⟨_,h⟩
   .exact .inr ⟨_,_,h⟩
  .rcases d5 hx hS hc with ⟨_,h⟩ | ⟨e,_,h⟩ | ⟨_,n,_,_,h⟩;·exact .inl ⟨_,h⟩
   .exact .inl ⟨_,h⟩
   .exact .inr ⟨_,_,h⟩
  .rcases d6 hx hS hc with ⟨_,h⟩ | ⟨e,_,h⟩ | ⟨_,h⟩;·exact .inl ⟨_,h⟩
   .exact .inl ⟨_,h⟩
   .exact .inr ⟨_,_,h⟩
  .obtain⟨_,⟨_,h⟩ | ⟨_,h⟩⟩:=d7 hx hS hc;·exact .inl ⟨_,h⟩
   .exact .inr ⟨_,_,h⟩
  .rcases d8 hx hS hc with ⟨_,h⟩ | ⟨_,e,_,h⟩ | ⟨_,r,_,_,h⟩;·exact .inl ⟨_,h⟩
   .exact .inl ⟨_,h⟩
   .exact .inr ⟨_,_,h⟩
  .rcases d9 hx hS hc with ⟨_,h⟩ | ⟨_,_,h⟩ | ⟨_,v,_,h⟩;·exact .inl ⟨_,h⟩
   .exact .inl ⟨_,h⟩
   .exact .inr ⟨_,_,h⟩
  .exact .inr ⟨_,_,d10 hx hS hz hc⟩
  .obtain⟨h1,h2⟩:=DJ (x:=x) (a:=a) (b:=b) (c:=c) (.inl rfl) hc;exact .inl ⟨14,by decide,h1,h2⟩
  .obtain⟨h1,h2⟩:=DJ (x:=x) (a:=a) (b:=b) (c:=c) (.inr rfl) hc;exact .inl ⟨14,by decide,h1,h2⟩
 .obtain⟨h1,h2⟩:=Pe (x:=x) (o:=⟨k,a,b,c⟩) hc;exact .inl ⟨_,hc,h1,h2⟩
noncomputable def Bu(x:Hp)(o:k8):Hp × Int × Int:=(z7 x o).getD (x,0,0)
structure Yz (x:Hp) (o:k8) (y:Hp) (v e:Int):Prop where
 rt:P5 y
 sl:SL y
 zr:zr y = []
 ev:Ev x y
 cw:Cw x y (if o.Kind=6 then o.A else -1)
 er:e≠0->y=x/\v=0
 mc:z7 x o=some (y,v,e)
 rf:E1 (hO x) (LS o)=some (hO y,v,e)
theorem Dn.nxt{x z:Hp}{o:k8}{v:Int}(d:Dn x o z v):Yz x o (da z) v 0:=by
 have st:=pw d.rt;exact⟨eY d.rt,Mx d.rt d.sl,CQ d.rt,d.ev.stl st,d.cw.trans (st.cw _),λh=>absurd rfl h,d.mc,d.rf⟩
theorem TV{x:Hp}(hx:P5 x)(hS:SL x)(hz:zr x = [])(hb:x.S.Serial<9223372036854775807)(o:k8):∃y v e,Yz x o y v e:=by
 rcases Wv hx hS hz hb o with ⟨e,h1,h2,h3⟩ | ⟨z,v,d⟩;·exact⟨x,0,e,hx,hS,hz,Ev.refl x,Cw.refl x _,λ_=>⟨rfl,rfl⟩,h2,h3⟩
 .exact⟨_,_,_,d.nxt⟩
theorem mN{x:Hp}(hx:P5 x)(hS:SL x)(hz:zr x = [])(hb:x.S.Serial<9223372036854775807)(o:k8):Yz x o (Bu x o).1 (Bu x o).2.1 (Bu x o).2.2:=by
 obtain⟨y,v,e,h⟩:=TV hx hS hz hb o;have:Bu x o=(y,v,e):=by unfold Bu;rw[h.mc];rfl
 rw[this];exact h
noncomputable def runs(x:Hp)(l:List k8):Hp × List Int:=l.foldl (λp o=>((Bu p.1 o).1,p.2 ++ [(Bu p.1 o).2.1])) (x,[])
theorem qy(x:Hp)(l:List k8)(o:k8):runs x (l ++ [o])=((Bu (runs x l).1 o).1,(runs x l).2 ++ [(Bu (runs x l).1 o).2.1]):=by
 unfold runs;rw[za4];rfl
theorem Ie{x:Hp}(hx:P5 x)(hS:SL x)(hz:zr x = [])(l:List k8)(hb:x.S.Serial+l.length<9223372036854775807)(P:Hp->Prop)(h0:P x)
  (hs:∀(y:Hp) (o:k8),o∈l->P5 y->Yz y o (Bu y o).1 (Bu y o).2.1 (Bu y o).2.2->P y->P (Bu y o).1):∀k,k<=l.length ->
  P5 (runs x (l.take k)).1/\SL (runs x (l.take k)).1/\zr (runs x (l.take k)).1 = []/\(runs x (l.take k)).1.S.Serial<=x.S.Serial+k/\(runs x (l.take k)).2.length=k/\P (runs x (l.take k)).1
 | 0,_=>⟨hx,hS,hz,by show x.S.Serial<=_;omega,rfl,h0⟩
 | k+1,hk=>by
  obtain⟨a1,a2,a3,a4,a5,a6⟩:=Ie hx hS hz l hb P h0 hs k (by omega);have hk':k<l.length:=by omega
  have n:=mN a1 a2 a3 (by omega) l[k];rw[O7 hk',qy];exact⟨n.rt,n.sl,n.zr,by have:=n.ev.s2;show (Bu _ _).1.S.Serial<=_;omega,by simp[a5],hs _ _ (zd hk') a1 n a6⟩
theorem run_eq{x:Hp}(hx:P5 x)(hS:SL x)(hz:zr x = [])(l:List k8)(hl:l.length<=1000)(hb:x.S.Serial+l.length<9223372036854775807) :
  fG x l=some (runs x l)/\ux (hO x) (l.map LS)=some (hO (runs x l).1,(runs x l).2):=by
 have all:=Ie hx hS hz l hb (λ_=>True) trivial (λ_ _ _ _ _ _=>trivial);constructor
 .unfold fG;simp only[jn];refine M7 (T:=Hp × List Int) l.length (λk acc=>acc=runs x (l.take k)) (by omega) rfl (λk acc hk hP=>?_) (λacc hP=>?_)
  .subst hP;obtain⟨a1,a2,a3,a4,a5,_⟩:=all k (by omega);have n:=mN a1 a2 a3 (by omega) l[k];refine .inl ⟨_,?_,rfl⟩;rw[O7 hk,qy];show (if _ then _ else _)=_;rw[zb (by simpa using hk),r8 hk,a1b,n.mc,a1b,B3 (by omega) (by rw[a5];simp;omega),a1b,l6]
  .subst hP;refine⟨runs x (l.take l.length),?_,?_⟩
   .show (if _ then _ else _)=_;rw[za (by simp)]
   .rw[zK]
 .unfold ux;simp only[jn];refine M7 (T:=c5 × List Int) (l.map LS).length (λk acc=>acc=(hO (runs x (l.take k)).1,(runs x (l.take k)).2)) (by simp;omega) rfl (λk acc hk hP=>?_) (λacc hP=>?_)
  .subst hP;have hk':k<l.length:=by simpa using hk
   obtain⟨a1,a2,a3,a4,a5,_⟩:=all k (by omega);have n:=mN a1 a2 a3 (by omega) l[k];refine .inl ⟨_,?_,rfl⟩;rw[O7 hk',qy];show (if _ then _ else _)=_;rw[zb (by simpa using hk'),r8 hk,a1b,wt];dsimp only;rw[n.rf,a1b,B3 (by omega) (by rw[a5];simp;omega),a1b,l6]
  .subst hP;refine⟨(hO (runs x (l.take (l.map LS).length)).1,(runs x (l.take (l.map LS).length)).2),?_,?_⟩
   .show (if _ then _ else _)=_;rw[za (by simp)]
   .rw[wd,zK]
section
variable{x:Hp}(hB:HB x)
include hB
end
def Bl(k:Nat)(l:Int)(p:Nat):Hp:=⟨⟨⟨List.replicate k ⟨0,0,z0⟩,l⟩,0⟩,List.replicate 6 0,List.replicate 6 ⟨0,false,-1⟩,List.replicate p ⟨0,0,0⟩,⟨[],30⟩⟩
section
variable{x:Hp}(hB:HB x)
include hB
end
def xh(o:k8):s6:=⟨o.Kind,o.A,o.B,o.C⟩
abbrev OS(o:k8):Int:=D0 o.Kind o.A o.B o.C
theorem Lm(k a b c:Int):X7 [k,a,b,c]=some (if D0 k a b c≠0 then (⟨0,0,0,0⟩,D0 k a b c) else (⟨k,a,b,c⟩,0)):=by
 unfold X7;rw[za (by simp)];show (aI ⟨k,a,b,c⟩).bind _=_;rw[sS,a1b];by_cases h:D0 k a b c=0
 .rw[za (by simpa using h),za (by simpa using h)]
 .rw[zb (by simpa using h),zb h]
theorem Pd(k a b c:Int):cD [k,a,b,c]=some (if D0 k a b c≠0 then (⟨0,0,0,0⟩,D0 k a b c) else (⟨k,a,b,c⟩,0)):=by
 unfold cD;rw[za (by simp)];show (bt ⟨k,a,b,c⟩).bind _=_;rw[jo,a1b];by_cases h:D0 k a b c=0
 .rw[za (by simpa using h),za (by simpa using h)]
 .rw[zb (by simpa using h),zb h]
theorem four(l:List Int):(∃k a b c,l = [k,a,b,c])\/l.length≠4:=by
 match l with
 | []=>exact .inr (by simp)
 | [_]=>exact .inr (by simp)
 | [_,_]=>exact .inr (by simp)
 | [_,_,_]=>exact .inr (by simp)
 | [k,a,b,c]=>exact .inl ⟨k,a,b,c,rfl⟩
 | _::_::_::_::_::l=>exact .inr (by simp)
theorem DH{l:List Int}(h:l.length≠4):X7 l=some (⟨0,0,0,0⟩,14)/\cD l=some (⟨0,0,0,0⟩,14):=by
 unfold X7 cD;have:(((l.length:Int) != 4))=true:=by simp;omega
 rw[zb this,zb this];exact⟨rfl,rfl⟩
def bS(l:List Int):k8 × Int:=(X7 l).getD (⟨0,0,0,0⟩,0)
theorem Gy(l:List Int):X7 l=some (bS l)/\cD l=some (xh (bS l).1,(bS l).2):=by
 unfold bS;rcases four l with ⟨k,a,b,c,rfl⟩ | h
 .rw[Lm,Pd];refine⟨rfl,?_⟩;rw[ut];by_cases h:D0 k a b c≠0
  .rw[zb h,zb h];rfl
  .rw[za h,za h];rfl
 .rw[(DH h).1,(DH h).2];exact⟨rfl,rfl⟩
def Hi(o:k8):Bool:=((decide (o.Kind>=1))&&(decide (o.Kind<=10)))&&(OS o==0)
def Ho(p:List k8):Bool:=decide (p.length<=6)&&p.all Hi
def vK(l:List (List k8)):Bool:=decide (l.length<=6)&&l.all Ho
section
variable{l:List (List k8)}(hl:l.length<=12)(hp:∀p∈l,p.length<=12)
include hl hp
theorem JN:gS (l.map (List.map xh))=some (vK l):=by
 unfold gS vK;rw[wd];by_cases h6:l.length > 6
 .rw[zb (by simp;omega),zA (by omega)];rfl
 .rw[za (by simp;omega),zp (by omega),wn];simp only[jn];have key:=Jx (f:=λ(s23:Int)=>
   if (decide (s23<(l.length:Int))) then
     (ix (l.map (List.map xh)) s23).bind λv34=>
     if (decide ((v34.length:Int) > 6)) then
      some (.inr (.inl false))
     else
     (lp (S:=Int) (E:=Bool ⊕ Unit) (λ(s36:Int)=>
      if (decide (s36<(v34.length:Int))) then
       (ix v34 s36).bind λv38=>
       (T3 v38).bind λv39=>
       (u5 ((!v39)==false) 0 (bt v38)).bind λv40=>
       if ((!v39)||(v40 != 0)) then
        some (.inr (.inl false))
       else
       some (.inl (A1 (s36+1)))
      else
      some (.inr (.inr ()))) 0).bind λe35=>
     match e35 with
     | .inl w=>some (.inr (.inl w))
     | .inr w=>some (Sum.inl (A1 (s23+1)))
   else
   some (.inr (.inr ()))) l Ho (.inr ()) (Sum.inl (β:=Unit) false) (by omega) (λk hk=>?_) (by simp)
  .refine FZ key ?_;cases l.all Ho <;> rfl
  .rw[zb (by simpa using hk),bn,r8 hk,zM,a1b,wd];unfold Ho;have hm:=hp _ (zd hk);generalize l[k]=p at hm |-;by_cases hq:p.length > 6
   .rw[zb (by simp;omega),zA (by omega)];rfl
   .rw[za (by simp;omega),zp (by omega),wn];have k2:=Jx (f:=λ(s36:Int)=>
      if (decide (s36<(p.length:Int))) then
       (ix (p.map xh) s36).bind λv38=>
       (T3 v38).bind λv39=>
       (u5 ((!v39)==false) 0 (bt v38)).bind λv40=>
       if ((!v39)||(v40 != 0)) then
        some (.inr (.inl false))
       else
       some (Sum.inl (A1 (s36+1)))
      else
      some (.inr (.inr ()))) p Hi (.inr ()) (Sum.inl (β:=Unit) false) (by omega) (λj hj=>?_) (by simp)
    .refine zbv (FZ k2 (r:=if p.all Hi=true then some (.inl (A1 ((k:Int)+1))) else some (.inr (.inl false))) ?_) ?_;·cases p.all Hi <;> rfl
     .rw[l6]
    .rw[zb (by simpa using hj),bn,r8 hj,zM,a1b,jo];unfold Hi T3;rw[a1b,l6];rw[show (xh p[j]).Kind=p[j].Kind from rfl];cases ((decide (p[j].Kind>=1))&&(decide (p[j].Kind<=10)));·rfl
     .by_cases h:OS p[j]=0
      .have e:D0 p[j].Kind (xh p[j]).A (xh p[j]).B (xh p[j]).C=0:=h;rw[e,h];rfl
      .have e1:(D0 p[j].Kind p[j].A p[j].B p[j].C != 0)=true:=by simpa using h
       have e2:(OS p[j]==0)=false:=by simpa using h
       rw[e2];refine FZ (a:=OS p[j]) rfl ?_;rw[show (OS p[j] != 0)=true from e1];rfl
end
noncomputable def RM(x:Hp):List Int:=Tx x.S x.T
noncomputable def bE(x:Hp):List Int:=WA x.S x.T (RM x)
theorem bj{x:Hp}{h:Int}:h∈bE x↔h∈lv x.S/\¬bP x.S x.T (RM x) h:=by
 classical
 unfold bE WA;rw[zn,zx]
section
variable{x:Hp}(hx:P5 x)
include hx
theorem fY:(bE x).Nodup:=zb1 _ (tI (x8.2 hx.sh.sr))
theorem eG:∀d∈bE x,d∈lv x.S:=λd hd=>(bj.1 hd).1
theorem Mq{h:Int}(hl:h∈lv x.S)(hs:(ob x.S h).Strong<12):AK x.S x.T h=(Y9 (nZ x) h:Int):=GB.2 hx.fair h hl hs
theorem Lv{h:Int}(hl:h∈lv x.S)(ho:h∈nZ x):h∈RM x:=by
 refine xF.2 ⟨hl,?_⟩;by_cases hs:(ob x.S h).Strong<12
 .left;rw[Mq hx hl hs];have:=dU.2 ⟨λe=>qO hx.sh.sr (e▸hl),ho⟩;omega
 .exact .inr (by omega)
theorem PG{h:Int}(hh:h∈RM x):h∈lv x.S/\(h∈nZ x\/12<=(ob x.S h).Strong):=by
 obtain⟨hl,hs⟩:=xF.1 hh;refine⟨hl,?_⟩;by_cases q:(ob x.S h).Strong<12
 .rcases hs with hs | hs
  .rw[Mq hx hl q] at hs;exact .inl (dU.1 (by omega)).2
  .omega
 .exact .inr (by omega)
theorem Ts:∀d∈bE x,d∉nZ x:=λd hd q=>by
 obtain⟨a,b⟩:=bj.1 hd;exact b (.base (Lv hx a q) a)
theorem Tr:∀h∈lv x.S,h∉bE x->∀v∈(ob x.S h).Fields,v∉bE x:=λh hh hn v hv q=>by
 obtain⟨a,b⟩:=bj.1 q;have hr:bP x.S x.T (RM x) h:=zP λr=>hn (bj.2 ⟨hh,r⟩);exact b (.step hr (mO.2 ⟨hv,λe=>qO hx.sh.sr (e▸a)⟩) a)
theorem Tt:∀k v,Has x.T k v->k∉bE x->v∉bE x:=λk v hk hn q=>by
 obtain⟨a,b⟩:=bj.1 q;have hr:bP x.S x.T (RM x) k:=zP λr=>hn (bj.2 ⟨(hx.sh.pr k v hk).1,r⟩);exact b (.pair hk hr a)
theorem Z8:P5 (fU x (bE x)):=Cc hx (fY hx) (eG hx) (Ts hx) (Tr hx) (Tt hx)
end
theorem AH:∀(l:List Int) {x:Hp} (hR:SR x.S) {h:Int} (hh:h∈lv x.S) (hs:12<=(ob x.S h).Strong),12<=(ob (l.foldl T2 x).S h).Strong
 | [],_,_,_,_,hs=>hs
 | v::l,x,hR,h,hh,hs=>by
  have k1:=I0 hR v (f:=kP) λc=>Q3;refine AH l (x:=T2 x v) k1.sr (by
   show h∈lv (uL x v kP).S;rw[k1.lv];exact hh) ?_
  show 12<=(ob (uL x v kP).S h).Strong;rw[wb (x:=x) hR (h:=v) (f:=kP) (λc=>Q3) hh];split
  .unfold kP;rw[zb hs];omega
  .exact hs
section
variable{x:Hp}(hx:P5 x)
include hx
theorem yM{h:Int}:h∈lv (fU x (bE x)).S↔bP x.S x.T (RM x) h:=by
 rw[IX hx.sh.sr (fY hx) (eG hx),zn,zx,bj];constructor
 .rintro⟨a,b⟩;exact zP λr=>b ⟨a,r⟩
 .intro r;exact⟨r.live,λq=>q.2 r⟩
theorem Za{h:Int}(hh:h∈lv (fU x (bE x)).S):(ob (fU x (bE x)).S h).Serial=(ob x.S h).Serial/\(ob (fU x (bE x)).S h).Prog=(ob x.S h).Prog/\(ob (fU x (bE x)).S h).Fields=(ob x.S h).Fields/\(ob (fU x (bE x)).S h).Started=(ob x.S h).Started:=by
 have r:=(yM hx).1 hh;obtain⟨n,e⟩:=IY hx.sh.sr (fY hx) (eG hx) r.live (λq=>(bj.1 q).2 r);rw[e];exact⟨rfl,rfl,rfl,rfl⟩
theorem PA{h:Int}(hh:h∈lv (fU x (bE x)).S)(hs:12<=(ob x.S h).Strong):12<=(ob (fU x (bE x)).S h).Strong:=by
 have r:=(yM hx).1 hh;have g:=dw (bE x) hx.sh.sr (fY hx) (eG hx);have hn:h∉bE x:=λq=>(bj.1 q).2 r;refine AH _ (x:=jb x (bE x) (nC x.T (bE x)).1) g.sr ?_ ?_
 .show h∈lv (mB x.S (bE x));rw[g.lv,zn];exact⟨r.live,by simpa using hn⟩
 .show 12<=(ob (mB x.S (bE x)) h).Strong;rw[g.ob h r.live hn];exact hs
theorem WH:nZ (fU x (bE x))=nZ x:=by
 obtain⟨e1,_,_,e4⟩:=sN hx.sh.sr (fY hx) (eG hx);unfold nZ;rw[e1,e4,yQ _ _ _ λt ht=>by
  obtain⟨w,_,rfl,_⟩:=gA.1 ht;simp]
theorem Tq{h:Int}(hh:bP x.S x.T (RM x) h):bP (fU x (bE x)).S (fU x (bE x)).T (RM (fU x (bE x))) h:=by
 have w:=Z8 hx;obtain⟨_,_,e3,_⟩:=sN hx.sh.sr (fY hx) (eG hx);have hlen:(bE x).length<=1000:=by
  have:=iD (fY hx) (eG hx);have:=H2 (x8.2 hx.sh.sr);omega
 obtain⟨_,_,_,_,w5,_⟩:=iY hx.sh.hr (bE x) hlen;induction hh with
 | base h1 h2=>
  have hl:=(yM hx).2 (.base h1 h2);refine .base ?_ hl;rcases (PG hx h1).2 with q | q
  .exact Lv w hl (by rw[WH hx];exact q)
  .exact xF.2 ⟨hl,.inr (PA hx hl q)⟩
 | step q0 q1 q2 ih=>
  refine .step ih ?_ ((yM hx).2 (.step q0 q1 q2));unfold outs at q1 |-;rw[(Za hx ((yM hx).2 q0)).2.2.1];exact q1
 | pair q1 q0 q2 ih=>
  refine .pair ?_ ih ((yM hx).2 (.pair q1 q0 q2));rw[e3];exact (w5 _ _).2 ⟨λq=>(bj.1 q).2 q0,q1⟩
theorem GJ:bE (fU x (bE x)) = []:=za1.2 λh hh=>by
 obtain⟨a,b⟩:=bj.1 hh;exact b (Tq hx ((yM hx).1 a))
end
theorem Gu{x:Hp}(hx:P5 x)(hg:bE x = []):zr x = []:=za1.2 λh hh=>by
 have hl:=(cI.1 hh).1;have hs:=(cI.1 hh).2;have hf:=FY hx hh;have h0:h≠0:=λe=>qO hx.sh.sr (e▸hl);have r:bP x.S x.T (RM x) h:=zP λr=>by
  have:h∈bE x:=bj.2 ⟨hl,r⟩;rw[hg] at this;cases this
 unfold qP at hf;cases r with
 | base h1 h2=>
  rcases (PG hx h1).2 with q | q
  .have:=dU.2 ⟨h0,q⟩;omega
  .omega
 | step q0 q1 q2=>
  have:=Ed (y:=h) q0.live;have h1:=dU.2 ⟨h0,q1⟩;omega
 | pair q1 q0 q2=>
  have:=Ep q1 h0;omega
theorem yO{x:Hp}(hx:P5 x):da (fU x (bE x))=fU x (bE x):=Ij (Gu (Z8 hx) (GJ hx))
theorem PJ{c:Int}(h:0<=c):1<=W2 c:=by unfold W2;split <;> (try split) <;> omega
theorem JP{x:Hp}(hR:SR x.S){h:Int}(hh:h∈lv x.S){k:Int}(hk:k∈lv x.S):(ob (gO x h).S k).Strong=if k=h then W2 (ob x.S k).Strong else (ob x.S k).Strong:=by
 have oko:=L1 hR hh;have ho:Bp x.S (ez (ob x.S h)):=⟨oko.s1,oko.s2,oko.st,oko.wk,oko.p1,oko.p2,oko.fl⟩;have r1:=bN (o:=ez (ob x.S h)) hR hh rfl ho;have l1:lv (cZ x.S h (ez (ob x.S h)))=lv x.S:=gj (o:=ez (ob x.S h)) hR hh rfl ho;have hr:=I8 hR hk;have e1:(ob (cZ x.S h (ez (ob x.S h))) k).Strong=(ob x.S k).Strong:=by
  rw[eX (o:=ez (ob x.S h)) hR hh rfl ho (by omega)];split;·rename_i e;subst e;rfl
  .rfl
 have:=wb (x:=⟨cZ x.S h (ez (ob x.S h)),x.Roots,x.Cells,x.T,⟨x.Q.L ++ [wE x h],x.Q.Cap⟩⟩) r1 (h:=h) (f:=W2) (λc=>E7) (k:=k) (by
  show k∈lv (cZ x.S h (ez (ob x.S h)));rw[l1];exact hk)
 rw[show (ob (gO x h).S k).Strong=_ from this];show (if k=h then W2 (ob (cZ x.S h (ez (ob x.S h))) k).Strong else (ob (cZ x.S h (ez (ob x.S h))) k).Strong)=_;rw[e1]
theorem XN{x:Hp}(hx:P5 x)(hz:zr x = []){h:Int}(hh:h∈lv x.S):zr (gO x h) = []:=za1.2 λk hk=>by
 obtain⟨a,b⟩:=cI.1 hk;rw[Ey hx.sh.sr hh] at a;rw[JP hx.sh.sr hh a] at b;have h0:=(L1 hx.sh.sr a).st;have hn:(ob x.S k).Strong≠0:=λq=>by
  have:k∈zr x:=cI.2 ⟨a,q⟩;rw[hz] at this;cases this
 split at b;·have:=PJ h0;omega
 .exact hn b
structure Qd (x y:Hp) (l:List Int):Prop where
 rt:P5 y
 sl:SL y
 zr:zr y = []
 lv:lv y.S=lv x.S
 ob:∀k∈Sh.lv x.S,∃n,Sh.ob y.S k=CS (if k∈l then ez (Sh.ob x.S k) else Sh.ob x.S k) n
 ro:y.Roots=x.Roots
 ce:y.Cells=x.Cells
 t:y.T=x.T
 q:y.Q=⟨x.Q.L++l.map (wE x),x.Q.Cap⟩
 aV:y.S.Serial=x.S.Serial
theorem Up{x:Hp}(hR:SR x.S){h:Int}(hh:h∈lv x.S):(gO x h).S.Serial=x.S.Serial:=(mS hR hh).1.aV
theorem JQ:∀(l:List Int) {x:Hp},P5 x->SL x->Sh.zr x = []->l.Nodup->(∀h∈l,h∈Sh.lv x.S/\due (Sh.ob x.S h)=true)->Qd x (l.foldl gO x) l
 | [],x,hx,hS,hz,_,_=>⟨hx,hS,hz,rfl,λk hk=>⟨(Sh.ob x.S k).Strong,by rw[za (by simp)];rfl⟩,rfl,rfl,rfl,by simp,rfl⟩
 | h::l,x,hx,hS,hz,hn,hd=>by
  obtain⟨hl,hdu⟩:=hd h (zl ..);have hR:=hx.sh.sr;rw[zam] at hn;have q2:=hdu;unfold due at q2;rw[zj,zx,zbg] at q2;have h1:=vL hx hl q2.1 q2.2;have h2:=QS hR hS hl;have h3:=XN hx hz hl;have lq:=Ey hR hl;have oq:∀k∈Sh.lv x.S,k≠h->∃n,Sh.ob (gO x h).S k=CS (Sh.ob x.S k) n:=λk hk hne=>by
   obtain⟨n,e⟩:=Am hR hl hk;rw[za hne] at e;exact⟨n,e⟩
  have ih:=JQ l h1 h2 h3 hn.2 λk hk=>by
   obtain⟨a,b⟩:=hd k (zC _ hk);obtain⟨n,e⟩:=oq k a λe=>hn.1 (e▸hk);refine⟨by rw[lq];exact a,?_⟩;rw[e];exact b
  obtain⟨_,k1,k2,k3,k4⟩:=mS hR hl;refine⟨ih.rt,ih.sl,ih.zr,ih.lv.trans lq,λk hk=>?_,ih.ro.trans k1,ih.ce.trans k2,ih.t.trans k3,?_,ih.aV.trans (Up hR hl)⟩
  .obtain⟨n,e⟩:=ih.ob k (by rw[lq];exact hk);obtain⟨m,e2⟩:=Am hR hl hk;refine⟨n,?_⟩;show Sh.ob (l.foldl gO (gO x h)).S k=_;rw[e];by_cases c:k=h
   .subst c;rw[za hn.1,zb (zl ..),e2,zb rfl]
   .rw[za c] at e2;by_cases c2:k∈l
    .rw[zb c2,zb (zC _ c2),e2]
    .rw[za c2,za (λq=>by
      rcases zY.1 q with r | r
      .exact c r
      .exact c2 r),e2]
  .show (l.foldl gO (gO x h)).Q=_;rw[ih.q,k4];have:l.map (wE (gO x h))=l.map (wE x):=zG λk hk=>by
    obtain⟨a,_⟩:=hd k (zC _ hk);obtain⟨n,e⟩:=oq k a λe=>hn.1 (e▸hk);show (⟨1,k,(Sh.ob (gO x h).S k).Prog⟩:l5)=⟨1,k,(Sh.ob x.S k).Prog⟩;rw[e]
   rw[this];simp
noncomputable def mj(x:Hp):List Int:=(bE x).filter λh=>due (Sh.ob x.S h)
noncomputable def Ga(x:Hp):Hp:=if mj x = [] then fU x (bE x) else (mj x).foldl gO x
theorem Dy{x:Hp}:∀h∈mj x,h∈Sh.lv x.S/\due (Sh.ob x.S h)=true:=λh hh=>by
 obtain⟨a,b⟩:=zn.1 hh;exact⟨(bj.1 a).1,b⟩
theorem OL{x:Hp}(hx:P5 x):(mj x).Nodup:=zb1 _ (fY hx)
theorem OM{x:Hp}(hx:P5 x)(hS:SL x)(hz:zr x = []):Qd x ((mj x).foldl gO x) (mj x):=JQ _ hx hS hz (OL hx) Dy
theorem DB{x:Hp}(hx:P5 x)(hS:SL x)(hz:zr x = []):P5 (Ga x)/\SL (Ga x)/\zr (Ga x) = []:=by
 unfold Ga;split;·exact⟨Z8 hx,ON hx.sh.sr hS (fY hx) (eG hx),Gu (Z8 hx) (GJ hx)⟩
 .have q:=OM hx hS hz;exact⟨q.rt,q.sl,q.zr⟩
theorem OZ{y:Hp}(h:mj y = []):Ga y=fU y (bE y):=by
 unfold Ga;rw[zb h]
section
variable{x:Hp}(hx:P5 x)
include hx
end
structure Rs (x:Hp) (n:Nat):Prop where
 rt:P5 x
 sl:SL x
 zr:zr x = []
 aV:x.S.Serial<=n
theorem Tv{k p:Nat}{l:Int}(hk:1<=k/\k<=24)(hl:0<=l/\l<=9)(hp:1<=p/\p<=8) :
  oO k l p=some (Bl k l p)/\P5 (Bl k l p)/\SL (Bl k l p)/\zr (Bl k l p) = []:=by
 have e1:qA k l=some (Bl k l p).S:=by
  unfold qA cH;rw[za (by simp;omega),Ac (by omega) (by omega)];rfl
 have h3:sz (sO (Bl k l p).S):=by
  refine⟨by simp[sO,Bl];omega,hl.1,hl.2,by simp[sO,Bl],λi h=>?_,λi h=>?_,λi h q=>?_,λi h k hk q=>?_⟩;·simp[sO,cO,Bl];omega
  .simp[sO,cO,oo,CX,Bl]
  .exfalso;simp[sO,cO,oo,CZ,Bl] at q
  .exfalso;simp[sO,cO,oo,CZ,Bl] at q
 have hR:SR (Bl k l p).S:=x8.1 h3;have hce:∀i,ce (Bl k l p).S i=⟨0,0,z0⟩:=λi=>by
  unfold ce Bl;dsimp only;rw[zf,List.getElem?_replicate];split <;> rfl
 have hlv:lv (Bl k l p).S = []:=za1.2 λh hh=>by
  obtain⟨i,q⟩:=(gn hR).1 hh;have:=q.2.1;rw[hce] at this;cases this
 refine⟨?_,⟨⟨hR,(Yr (V:=Int) (λ_ _=>True) hp.1 hp.2).1,rfl,rfl,rfl,t7 _,(λt ht=>nomatch ht),List.Pairwise.nil,(λh hh=>.inl (zbt.1 hh).2),λh hh=>?_,λa v hv=>?_,λi hi=>?_⟩,λi hi ht=>?_,λh hh=>?_⟩,λh hh=>?_,?_⟩
 .unfold oO;rw[za (by simp;omega),e1,a1b,show mk 8 6 (0:Int)=some (List.replicate 6 0) from rfl,a1b];refine FZ (a:=List.replicate 6 ⟨0,false,-1⟩) (by kernel_rfl) ?_;rw[Xl hp.1 hp.2,a1b];refine FZ (a:=⟨[],30⟩) (by kernel_rfl) ?_;rfl
 .rw[hlv] at hh;cases hh
 .obtain⟨i,hi,_⟩:=hv;have:=hi.2.1;rw[show (Bl k l p).T=List.replicate p ⟨0,0,0⟩ from rfl,Aj] at this;cases this
 .have:(Bl k l p).Cells[i]=⟨0,false,-1⟩:=List.getElem_replicate ..;rw[this];exact⟨by decide,by decide,λ_=>rfl,λh=>absurd rfl h,λh=>by cases h⟩
 .rw[hce] at ht;rcases ht with h | h <;> cases h
 .rw[hlv] at hh;cases hh
 .rw[hlv] at hh;cases hh
 .unfold zr;rw[hlv];rfl
theorem Ya{k p:Nat}{l:Int}(hk:1<=k/\k<=24)(hl:0<=l/\l<=9)(hp:1<=p/\p<=8):oO k l p=some (Bl k l p)/\Rs (Bl k l p) 0:=by
 obtain⟨a,b,c,d⟩:=Tv hk hl hp;exact⟨a,b,c,d,ms _⟩
section
variable{x:Hp}(hx:P5 x)(hS:SL x)
include hx hS
theorem Ja:P0 x=some (bE x):=by
 have hB:=Vw hx hS;unfold P0;rw[Jp (x8.2 hx.sh.sr) hx.sh.hr hB.tb hB.fb hB.sb];rfl
theorem OP:cV (hO x)=some (bE x):=by
 have hB:=Vw hx hS;unfold cV;rw[show (hO x).S=sO x.S from rfl,show (hO x).T=x.T.map J7 from rfl,DU (x8.2 hx.sh.sr) hx.sh.hr hB.tb hB.sb];rfl
theorem ti:(bE x).length<=24:=we (zN ..) (H2 (x8.2 hx.sh.sr))
theorem Wn:fk x=some (mj x):=by
 have hR:=hx.sh.sr;have hl:=ti hx hS;unfold fk;rw[Ja hx hS,a1b];unfold I7;simp only[jn];refine FZ (a:=mj x) ?_ rfl;refine M7 (bE x).length (λk b=>b=((bE x).take k).filter λh=>due (Sh.ob x.S h)) (by omega) rfl (λk b hk hP=>?_) (λb hP=>?_)
 .subst hP;have hm:=eG hx _ (zd hk);have hle:(((bE x).take k).filter λh=>due (Sh.ob x.S h)).length<=24:=we (zN ..) (by simp;omega);refine .inl ⟨_,?_,rfl⟩;rw[zb (by simpa using hk),r8 hk,a1b,O7 hk,zak];unfold fW;rw[vx hR hm,a1b,a1b];have e:(decide ((ob x.S (bE x)[k],(0:Int)).1.Prog>=0) && !(ob x.S (bE x)[k],(0:Int)).1.Started)=due (ob x.S (bE x)[k]):=rfl;rw[e];cases hd:due (ob x.S (bE x)[k])
  .rw[za (by simp),l6];simp[hd]
  .rw[zb rfl,B3 (by omega) (by simp;omega),a1b,l6];simp[hd]
 .subst hP;refine⟨_,za (by simp),?_⟩;rw[zK];rfl
theorem YN:qq (hO x)=some (mj x):=by
 have hR:=hx.sh.sr;have hl:=ti hx hS;unfold qq;rw[OP hx hS,a1b];simp only[jn];refine M7 (bE x).length (λk b=>b=((bE x).take k).filter λh=>due (Sh.ob x.S h)) (by omega) rfl (λk b hk hP=>?_) (λb hP=>?_)
 .subst hP;have hm:=eG hx _ (zd hk);have hle:(((bE x).take k).filter λh=>due (Sh.ob x.S h)).length<=24:=we (zN ..) (by simp;omega);refine .inl ⟨_,?_,rfl⟩;rw[zb (by simpa using hk),r8 hk,a1b,O7 hk,zak,Pf hx hS (dC hR hm),a1b,zp hm,wn];cases hd:due (ob x.S (bE x)[k])
  .rw[za (by simp),l6];simp[hd]
  .rw[zb rfl,B3 (by omega) (by simp;omega),a1b,l6];simp[hd]
 .subst hP;refine⟨_,za (by simp),?_⟩;rw[zK];rfl
theorem Wr:fm x=some (decide (bE x = [])):=by
 unfold fm;rw[Ja hx hS,a1b];congr 1;cases bE x <;> simp <;> omega
theorem YP:qs (hO x)=some (decide (bE x = [])):=by
 unfold qs;rw[OP hx hS,a1b];congr 1;cases bE x <;> simp <;> omega
noncomputable def RK(x:Hp):Int:=if mj x = [] then ((lv x.S).length:Int)-((lv (Ga x).S).length:Int) else 0
omit hx hS in
theorem Qc {l:List Int} (hn:l.Nodup) (hm:∀d∈l,d∈lv x.S):Zg x l=l:=by
 have key:∀(l b:List Int),(b++l).Nodup->(∀d∈l,d∈lv x.S)->l.foldl (λb h=>if h∈lv x.S/\h∉b then b ++ [h] else b) b=b++l:=by
  intro l;induction l with
  | nil=>intro b _ _;simp
  | cons a l ih=>
   intro b hn hm;rw[zah];have ha:a∉b:=λq=>by
    rw[zb3] at hn;exact hn.2.2 a q a (zl ..) rfl
   rw[zb ⟨hm a (zl ..),ha⟩,ih (b ++ [a]) (by simpa using hn) λd hd=>hm d (zC _ hd)];simp
 exact key l [] (by simpa using hn) hm
variable(hz:zr x = [])
include hz
theorem MC{k:Nat}(hk:k<(mj x).length):(((mj x).take k).foldl gO x)=(((mj x).take k).foldl gO x)/\P5 (((mj x).take k).foldl gO x)/\SL (((mj x).take k).foldl gO x)/\(mj x)[k]∈lv (((mj x).take k).foldl gO x).S/\due (ob (((mj x).take k).foldl gO x).S (mj x)[k])=true:=by
 have hn:=OL hx;have q:=JQ ((mj x).take k) hx hS hz ((List.take_sublist ..).nodup hn) λh hh=>Dy h (zax hh);obtain⟨a,b⟩:=Dy (mj x)[k] (zd hk);refine⟨rfl,q.rt,q.sl,by rw[q.lv];exact a,?_⟩;obtain⟨n,e⟩:=q.ob _ a;have hnot:(mj x)[k]∉(mj x).take k:=λh=>by
  have:=O7 hk;have hs:((mj x).take (k+1)).Nodup:=(List.take_sublist ..).nodup hn;rw[this,zb3] at hs;exact hs.2.2 _ h _ (List.mem_singleton_self _) rfl
 rw[e,za hnot];exact b
theorem Dz:(mj x).length<=24:=we (zN ..) (ti hx hS)
theorem Ws:Z1 x=some (Ga x,((mj x).length:Int),RK x):=by
 have hR:=hx.sh.sr;have hl:=Dz hx hS hz;obtain⟨c1,c2,c3⟩:=DB hx hS hz;unfold Z1;rw[Wn hx hS,a1b];simp only[jn];refine M7 (mj x).length (λk b=>b=((mj x).take k).foldl gO x) (by omega) rfl (λk b hk hP=>?_) (λb hP=>?_)
 .subst hP;obtain⟨_,r1,r2,r3,r4⟩:=MC hx hS hz hk;refine .inl ⟨_,?_,rfl⟩;rw[zb (by simpa using hk),r8 hk,a1b,CG r1 r2 (dC r1.sh.sr r3),a1b,l6,O7 hk,za4];unfold VH;rw[zb ⟨r3,r4⟩];rfl
 .subst hP;refine⟨_,za (by simp),?_⟩;rw[zK];by_cases hb:mj x = []
  .have e:Ga x=fU x (bE x):=OZ hb;rw[za (by simp[hb])];unfold RK;rw[zb hb,e,hb];have h1:=fY hx;have h2:=eG hx;have hlive:=dB (x8.2 hR);have hlive2:=dB (x8.2 (Z8 hx).sh.sr);have l1:=H2 (x8.2 hR);have l2:=H2 (x8.2 (Z8 hx).sh.sr);show (P0 x).bind _=_;rw[Ja hx hS,a1b,List.foldl_nil,Li hx h1 h2 (Mn hx) (by rw[tG hR _ (by have:=ti hx hS;omega) λh hh=>dC hR (h2 h hh),Qc h1 h2]),a1b,gV (Z8 hx) (by rw[<-e];exact c2),a1b,yO hx,hlive,a1b,hlive2,a1b,G4 (by omega) (by omega)];rfl
  .have:0<(mj x).length:=List.length_pos_iff.2 hb;rw[zb (by simp;omega)];unfold RK Ga;rw[za hb,za hb]
theorem YR:jP (hO x)=some (hO (Ga x),((mj x).length:Int),RK x):=by
 have hR:=hx.sh.sr;have hl:=Dz hx hS hz;obtain⟨c1,c2,c3⟩:=DB hx hS hz;unfold jP;rw[YN hx hS,a1b];simp only[jn];by_cases hb:mj x = []
 .have e:Ga x=fU x (bE x):=OZ hb;rw[za (by simp[hb])];unfold RK;rw[zb hb,e,hb];have h1:=fY hx;have h2:=eG hx;have hlive:=km (x8.2 hR);have hlive2:=km (x8.2 (Z8 hx).sh.sr);have l1:=H2 (x8.2 hR);have l2:=H2 (x8.2 (Z8 hx).sh.sr);rw[OP hx hS,a1b,Cd hx h1 h2 (Mn hx) (by rw[Pg hR _ (by have:=ti hx hS;omega) λh hh=>dC hR (h2 h hh),Qc h1 h2]),a1b,lN (Z8 hx) (by rw[<-e];exact c2),a1b,yO hx,show (hO x).S=sO x.S from rfl,hlive,a1b,show (hO (fU x (bE x))).S=sO (fU x (bE x)).S from rfl,hlive2,a1b,G4 (by omega) (by omega)];rfl
 .have hp:0<(mj x).length:=List.length_pos_iff.2 hb;rw[zb (by simp;omega)];refine M7 (mj x).length (λk b=>b=hO (((mj x).take k).foldl gO x)) (by omega) rfl (λk b hk hP=>?_) (λb hP=>?_)
  .subst hP;obtain⟨_,r1,r2,r3,r4⟩:=MC hx hS hz hk;refine .inl ⟨_,?_,rfl⟩;rw[zb (by simpa using hk),r8 hk,a1b,Ht r1 r2 (dC r1.sh.sr r3),a1b,l6,O7 hk,za4];unfold VH;rw[zb ⟨r3,r4⟩];rfl
  .subst hP;refine⟨_,za (by simp),?_⟩;rw[zK];unfold RK Ga;rw[za hb,za hb]
end
theorem Ti{x:Hp}(hx:P5 x)(hS:SL x)(hz:zr x = []):(Ga x).S.Serial=x.S.Serial:=by
 unfold Ga;split
 .have g:=dw (bE x) hx.sh.sr (fY hx) (eG hx);exact (iO ((bE x).flatMap (outs x.S)++(nC x.T (bE x)).2) (x:=jb x (bE x) (nC x.T (bE x)).1) g.sr).1.aV.trans g.aV
 .exact (OM hx hS hz).aV
def Sv(s s':a7):Prop:=s'.S.Cells.length=s.S.Cells.length/\∀i,i<s.S.Cells.length->(ce s i).Gen<=(ce s' i).Gen/\((ce s' i).Gen=(ce s i).Gen->((ce s i).State≠0->(ce s' i).State≠0)/\((ce s' i).State=1->(ce s i).State=0\/((ce s i).State=1/\((ce s i).Val.Started=true->(ce s' i).Val.Started=true))))
theorem Sv.refl(s:a7):Sv s s:=⟨rfl,λi _=>⟨ms _,λ_=>⟨id,λh=>.inr ⟨h,id⟩⟩⟩⟩
theorem Sv.trans{a b c:a7}(h:Sv a b)(q:Sv b c):Sv a c:=by
 obtain⟨h1,h2⟩:=h;obtain⟨q1,q2⟩:=q;refine⟨q1.trans h1,λi hi=>?_⟩;obtain⟨a1,a2⟩:=h2 i hi;obtain⟨b1,b2⟩:=q2 i (by omega);refine⟨by omega,λe=>?_⟩;obtain⟨a3,a4⟩:=a2 (by omega);obtain⟨b3,b4⟩:=b2 (by omega);refine⟨λh=>b3 (a3 h),λh=>?_⟩;rcases b4 h with r | ⟨r,r'⟩
 .exact .inl (zP λn=>a3 n r)
 .rcases a4 r with k | ⟨k,k'⟩
  .exact .inl k
  .exact .inr ⟨k,λs=>r' (k' s)⟩
def KH(s:a7)(h:Int):Prop:=∃(i:Nat) (g:Int),i<s.S.Cells.length/\h=1+(i:Int)+32*g/\(g<(ce s i).Gen\/(g=(ce s i).Gen/\(ce s i).State≠0/\((ce s i).State=1->(ce s i).Val.Started=true)))
theorem Sv.ZL{s s':a7}(h:Sv s s'){k:Int}(q:KH s k):KH s' k:=by
 obtain⟨i,g,hi,e,q⟩:=q;obtain⟨h1,h2⟩:=h;obtain⟨a,b⟩:=h2 i hi;refine⟨i,g,by omega,e,?_⟩;rcases q with q | ⟨q1,q2,q3⟩
 .exact .inl (by omega)
 .by_cases c:(ce s' i).Gen=(ce s i).Gen
  .obtain⟨b1,b2⟩:=b c;refine .inr ⟨by omega,b1 q2,λr=>?_⟩;rcases b2 r with k | ⟨k1,k2⟩
   .exact absurd k q2
   .exact k2 (q3 k1)
  .exact .inl (by omega)
theorem NW{s:a7}(hR:SR s){h:Int}(hh:h∈lv s)(hs:(ob s h).Started=false):¬KH s h:=by
 rintro⟨i,g,hi,e,q⟩;obtain⟨j,hj⟩:=(gn hR).1 hh;have hl:=hR.len;have hij:i=j:=by
  have:=hj.2.2;have:=hj.1;omega
 subst hij;have:=hj.2.2;rcases q with q | ⟨q1,q2,q3⟩
 .omega
 .rw[Q5 hR hj,q3 hj.2.1] at hs;cases hs
theorem xa.sv{s s':a7}(hR:SR s)(k:xa s s'):Sv s s':=⟨k.len,λi hi=>by
 obtain⟨a,b,_,_,_⟩:=k.ce i hi;refine⟨by omega,λ_=>⟨by omega,λh=>.inr ⟨by omega,λq=>?_⟩⟩⟩;have h1:At s (dY s i) i:=⟨hi,by omega,rfl⟩;have h2:At s' (dY s i) i:=⟨by rw[k.len];exact hi,h,by rw[b];rfl⟩;have hl:=I8 hR ((gn hR).2 ⟨i,h1⟩);obtain⟨n,e⟩:=k.ob (dY s i) (by omega);rw[Q5 k.sr h2,Q5 hR h1] at e;rw[e];exact q⟩
theorem Rp{s:a7}(hR:SR s){h:Int}(hh:h∈lv s){o:n7}(hs:o.Serial=(ob s h).Serial)(ho:Bp s o)(hst:(ob s h).Started=true->o.Started=true):Sv s (cZ s h o):=⟨Mu s h o,λi hi=>by
 have q:=B5 hR hh;rw[Ft hR hh hs ho];split
 .rename_i e;subst e;refine⟨ms _,λ_=>⟨id,λr=>.inr ⟨q.2.1,λk=>hst ?_⟩⟩⟩;rw[Q5 hR q];exact k
 .exact⟨ms _,λ_=>⟨id,λr=>.inr ⟨r,id⟩⟩⟩⟩
theorem Qh{s:a7}(hR:SR s){i:Nat}(hi:i<s.S.Cells.length)(ht:Th (ce s i))(d:Int):Sv s (pY s i d):=⟨O5 ..,λj hj=>by
 rw[gb hR hi ht];split
 .rename_i e;subst e;exact⟨ms _,λ_=>⟨id,λr=>.inr ⟨r,id⟩⟩⟩
 .exact⟨ms _,λ_=>⟨id,λr=>.inr ⟨r,id⟩⟩⟩⟩
theorem WO{s:a7}{i:Nat}(hi:i<s.S.Cells.length):Sv s (Cp s i):=⟨Z6 ..,λj hj=>by
 unfold Cp;rw[M2 hi];by_cases e:j=i
 .subst e;rw[zb rfl];split;·exact⟨ms _,λ_=>⟨λ_=>(by decide:(3:Int)≠0),λr=>absurd (show (3:Int)=1 from r) (by decide)⟩⟩
  .refine⟨by show _<=(ce s j).Gen+1;omega,λr=>?_⟩;have:(ce s j).Gen+1=(ce s j).Gen:=r;omega
 .rw[za e];exact⟨ms _,λ_=>⟨id,λr=>.inr ⟨r,id⟩⟩⟩⟩
theorem Gn.sv{s s':a7}{ds:List Int}(g:Gn s s' ds):Sv s s':=⟨g.len,λj hj=>by
 rw[g.ce];split
 .unfold Of;split
  .split;·exact⟨ms _,λ_=>⟨λ_=>(by decide:(3:Int)≠0),λr=>absurd (show (3:Int)=1 from r) (by decide)⟩⟩
   .refine⟨by show _<=(Sh.ce s j).Gen+1;omega,λr=>?_⟩;have:(Sh.ce s j).Gen+1=(Sh.ce s j).Gen:=r;omega
  .exact⟨ms _,λ_=>⟨λ_=>(by decide:(2:Int)≠0),λr=>absurd (show (2:Int)=1 from r) (by decide)⟩⟩
 .exact⟨ms _,λ_=>⟨id,λr=>.inr ⟨r,id⟩⟩⟩⟩
theorem Zm{s:a7}(hR:SR s){i:Nat}(hi:i<s.S.Cells.length)(h0:(ce s i).State=0){n:Nat}(hn:n<=4){p:Int}(hp : -1<=p/\p<=5):Sv s (fw s i n p):=⟨kq hR hi h0 hn hp,λj hj=>by
 rw[nP hR hi h0 hn hp];split
 .rename_i e;subst e;exact⟨ms _,λ_=>⟨λr=>absurd h0 r,λ_=>.inl h0⟩⟩
 .exact⟨ms _,λ_=>⟨id,λr=>.inr ⟨r,id⟩⟩⟩⟩
theorem Ki{x:Hp}(hR:SR x.S)(h:Int):Sv x.S (D8 x h).S:=(I0 hR h (f:=W2) λc=>E7).sv hR
theorem Fi{x:Hp}(hR:SR x.S)(h:Int):Sv x.S (T2 x h).S:=(I0 hR h (f:=kP) λc=>Q3).sv hR
theorem Ia{x:Hp}(hR:SR x.S)(r:Nat)(h:Int):Sv x.S (H9 x r h).S:=
 (Ki hR h).trans (Fi (x:=wR (D8 x h) (x.Roots.set r h)) (gi hR h) _)
theorem Nl{x:Hp}(hR:SR x.S){h:Int}(hh:h∈lv x.S){n:Nat}(hn:n<(ob x.S h).Fields.length)(v:Int):Sv x.S (cq x h n v).S:=by
 have k1:=Fp hR v;have hh1:h∈lv (D8 x v).S:=by rw[k1.lv];exact hh
 have hof:(ob (D8 x v).S h).Fields=(ob x.S h).Fields:=by
  obtain⟨n,e⟩:=(I0 hR v (f:=W2) λc=>E7).ob h (by have:=I8 hR hh;omega);show (ob (uL x v W2).S h).Fields=_;rw[e]
 have ho:Bp (D8 x v).S (pV (ob (D8 x v).S h) ((ob x.S h).Fields.set n v)):=by
  have:=L1 k1.sr hh1;refine⟨this.s1,this.s2,this.st,this.wk,this.p1,this.p2,?_⟩;have h4:=this.fl;rw[hof] at h4;simpa using h4
 have k2:=Rp (o:=pV (ob (D8 x v).S h) ((ob x.S h).Fields.set n v)) k1.sr hh1 rfl ho id;exact ((Ki hR v).trans k2).trans (Fi (x:=wS (D8 x v) (cZ (D8 x v).S h (pV (ob (D8 x v).S h) ((ob x.S h).Fields.set n v)))) (bN (o:=pV (ob (D8 x v).S h) ((ob x.S h).Fields.set n v)) k1.sr hh1 rfl ho) _)
theorem QK{x:Hp}(hR:SR x.S)(v:Int)(t:Tb)(old:Int):Sv x.S (lg x v t old).S:=
 (Ki hR v).trans (Fi (x:=wT (D8 x v) t) (gi hR v) old)
theorem Xj{x:Hp}(hR:SR x.S)(h d:Int):Sv x.S (kY x h d).S:=by
 unfold kY;split
 .rename_i q;exact Qh hR q.1 q.2.1 d
 .exact Sv.refl _
theorem UZ{x:Hp}(hR:SR x.S)(h:Int):Sv x.S (pC x h).S:=by
 unfold pC;split
 .rename_i q;have k:=Qh hR q.1 q.2.1 (-1);split;·exact k.trans (WO (by rw[k.1];exact q.1))
  .exact k
 .exact Sv.refl _
theorem RD{x:Hp}(hx:P5 x)(n:Nat)(h call:Int):Sv x.S (eC x n h call).S:=by
 have hR:=hx.sh.sr;unfold eC;have s1:Sv x.S (kY (wC x (x.Cells.set n (jV h call))) h 1).S:=Xj (x:=wC x (x.Cells.set n (jV h call))) hR h 1;refine s1.trans (UZ ?_ _);unfold kY;split
 .rename_i q;have:=(hR.ok _ q.1 q.2.1).wk;exact Ab hR q.1 q.2.1 (by omega)
 .exact hR
theorem Wo{x:Hp}(hR:SR x.S){ds:List Int}(hn:ds.Nodup)(hm:∀d∈ds,d∈lv x.S):Sv x.S (fU x ds).S:=by
 have g:=dw ds hR hn hm;exact g.sv.trans ((iO (ds.flatMap (outs x.S)++(nC x.T ds).2) (x:=jb x ds (nC x.T ds).1) g.sr).1.sv g.sr)
theorem XM{x:Hp}(hR:SR x.S){h:Int}(hh:h∈lv x.S):Sv x.S (gO x h).S:=by
 have oko:=L1 hR hh;have ho:Bp x.S (ez (ob x.S h)):=⟨oko.s1,oko.s2,oko.st,oko.wk,oko.p1,oko.p2,oko.fl⟩;exact (Rp (o:=ez (ob x.S h)) hR hh rfl ho λ_=>rfl).trans ((mS hR hh).1.sv (bN (o:=ez (ob x.S h)) hR hh rfl ho))
theorem Yn{x:Hp}(hx:P5 x):Sv x.S (Mz x).S:=by
 cases h:zr x with
 | nil=>rw[qC h];exact Sv.refl _
 | cons z l=>
  have hz:z∈zr x:=by rw[h];exact zl ..
  have hzl:=(cI.1 hz).1;rw[iU h];split;·exact XM hx.sh.sr hzl
  .exact Wo hx.sh.sr (by simp) (by simpa using hzl)
theorem Yj{x:Hp}(hx:P5 x)(n:Nat):Sv x.S (xl n x).S:=by
 induction n with
 | zero=>exact Sv.refl _
 | succ n ih=>rw[dT];exact ih.trans (Yn (bz hx n))
theorem UJ{x:Hp}(hx:P5 x):Sv x.S (da x).S:=Yj hx 100
structure Fw (x y:Hp):Prop where
 sv:Sv x.S y.S
 q:∃l,y.Q=⟨x.Q.L++l,x.Q.Cap⟩/\∀t∈l,t.Kind=1->¬KH x.S t.At
theorem Fw.of{x y:Hp}(h:Sv x.S y.S)(q:y.Q=x.Q):Fw x y:=⟨h,[],by rw[q,my],λt ht=>by cases ht⟩
theorem Fw.refl(x:Hp):Fw x x:=Fw.of (Sv.refl _) rfl
theorem Fw.trans{x y z:Hp}(a:Fw x y)(b:Fw y z):Fw x z:=by
 obtain⟨l,q1,q2⟩:=a.q;obtain⟨m,r1,r2⟩:=b.q;refine⟨a.sv.trans b.sv,l++m,by rw[r1,q1,zad],λt ht hk=>?_⟩;rcases zB.1 ht with h | h
 .exact q2 t h hk
 .exact λs=>r2 t h hk (a.sv.ZL s)
theorem Fy{x:Hp}(hx:P5 x):Fw x (da x):=by
 obtain⟨l,q1,q2,_⟩:=(pw hx).q;exact⟨UJ hx,l,q1,λt ht hk=>NW hx.sh.sr (q2 t ht hk).1 (q2 t ht hk).2⟩
theorem iP{x:Hp}(hR:SR x.S)(r:Nat)(h:Int):Fw x (H9 x r h):=Fw.of (Ia hR r h) (iQ x r h).2.2.2
theorem YV{x:Hp}(hx:P5 x)(hS:SL x)(hz:zr x = [])(hb:x.S.Serial<9223372036854775807)(o:k8):(∃e,Er x o e)\/∃z v,Dn x o z v/\Fw x z:=by
 have hR:=hx.sh.sr;obtain⟨k,a,b,c⟩:=o;by_cases hc:D0 k a b c=0
 .have:=LC hc;have hk:k=1\/k=2\/k=3\/k=4\/k=5\/k=6\/k=7\/k=8\/k=9\/k=10\/k=11\/k=12:=by omega
  rcases hk with rfl | rfl | rfl | rfl | rfl | rfl | rfl | rfl | rfl | rfl | rfl | rfl
  .rcases d1 hx hS hb hc with ⟨e,_,h⟩ | ⟨hn,hcc,i,hF,h⟩;·exact .inl ⟨e,h⟩
   .obtain⟨hi,h0,_⟩:=hF;have k1:Fw x (wS x (fw x.S i b.toNat c)):=Fw.of (Zm hR hi h0 hn hcc) rfl;exact .inr ⟨_,_,h,k1.trans (iP (x:=wS x (fw x.S i b.toNat c)) (Hc hR hi h0 hn hcc) _ _)⟩
  .exact .inr ⟨_,_,d2 hx hS hc,iP hR _ _⟩
  .exact .inr ⟨_,_,d3 hx hS hc,iP hR _ _⟩
  .rcases d4 hx hS hc with ⟨_,h⟩ | ⟨e,_,h⟩ | ⟨_,n,_,_,h⟩;·exact .inl ⟨_,h⟩
   .exact .inl ⟨_,h⟩
   .exact .inr ⟨_,_,h,iP hR _ _⟩
  .rcases d5 hx hS hc with ⟨_,h⟩ | ⟨e,_,h⟩ | ⟨hl,n,_,hn,h⟩;·exact .inl ⟨_,h⟩
   .exact .inl ⟨_,h⟩
   .exact .inr ⟨_,_,h,Fw.of (Nl hR hl hn _) (oE _ _ _ _).2.2.2⟩
  .rcases d6 hx hS hc with ⟨_,h⟩ | ⟨e,_,h⟩ | ⟨_,h⟩;·exact .inl ⟨_,h⟩
   .exact .inl ⟨_,h⟩
   .exact .inr ⟨_,_,h,Fw.of (RD hx _ _ _) (Bc _ _ _ _).2.2.2⟩
  .obtain⟨_,⟨_,h⟩ | ⟨_,h⟩⟩:=d7 hx hS hc;·exact .inl ⟨_,h⟩
   .exact .inr ⟨_,_,h,iP hR _ _⟩
  .rcases d8 hx hS hc with ⟨_,h⟩ | ⟨_,e,_,h⟩ | ⟨_,r,_,_,h⟩;·exact .inl ⟨_,h⟩
   .exact .inl ⟨_,h⟩
   .exact .inr ⟨_,_,h,Fw.of (QK hR _ _ _) (sa _ _ _ _).2.2.2⟩
  .rcases d9 hx hS hc with ⟨_,h⟩ | ⟨_,_,h⟩ | ⟨_,v,_,h⟩;·exact .inl ⟨_,h⟩
   .exact .inl ⟨_,h⟩
   .exact .inr ⟨_,_,h,iP hR _ _⟩
  .exact .inr ⟨_,_,d10 hx hS hz hc,Fw.refl x⟩
  .obtain⟨h1,h2⟩:=DJ (x:=x) (a:=a) (b:=b) (c:=c) (.inl rfl) hc;exact .inl ⟨14,by decide,h1,h2⟩
  .obtain⟨h1,h2⟩:=DJ (x:=x) (a:=a) (b:=b) (c:=c) (.inr rfl) hc;exact .inl ⟨14,by decide,h1,h2⟩
 .obtain⟨h1,h2⟩:=Pe (x:=x) (o:=⟨k,a,b,c⟩) hc;exact .inl ⟨_,hc,h1,h2⟩
theorem Ww{x:Hp}(hx:P5 x)(hS:SL x)(hz:zr x = [])(hb:x.S.Serial<9223372036854775807)(o:k8):Fw x (Bu x o).1:=by
 rcases YV hx hS hz hb o with ⟨e,_,h,_⟩ | ⟨z,v,d,f⟩
 .have:Bu x o=(x,0,e):=by unfold Bu;rw[h];rfl
  rw[this];exact Fw.refl x
 .have:Bu x o=(da z,v,0):=by unfold Bu;rw[d.mc];rfl
  rw[this];exact f.trans (Fy d.rt)
theorem ZH{x:Hp}(h1:jX x)(h2:Wk x){L:List Int}(h3:cJ x L){r:Nat}(hr:r<6){h:Int}(hh:h=0\/h∈lv x.S):jX (H9 x r h)/\Wk (H9 x r h)/\cJ (H9 x r h) L:=by
 have BA:=I0 h1.sr h (f:=W2) λc=>E7;have l1:lv (D8 x h).S=lv x.S:=BA.lv;have f1:cJ (D8 x h) (h::L):=Ic h1.sr h3 h;have s1:jX (D8 x h):=h1.st h (f:=W2) λc=>E7;have s2:jX (wR (D8 x h) (x.Roots.set r h)):=s1.roots (by rw[zbm];exact h1.r6) λv hv=>by
  rw[l1];rcases zbw hv with q | q
  .exact h1.rt v q
  .exact q▸hh
 have w1:Wk (D8 x h):=h2.st h1.sr h (f:=W2) λc=>E7;have one:∀v k,Y9 [v] k=if v=k/\k≠0 then 1 else 0:=λv k=>by rw[I1,S0,so]
 have f2:cJ (wR (D8 x h) (x.Roots.set r h)) (x.Roots.getD r 0::L):=f1.mv rfl (λ_ _=>rfl) λk hk=>by
  have:=xZ (l:=x.Roots) (r:=r) (by rw[h1.r6];exact hr) h k;rw[one,one] at this;rw[vV x h];unfold qP nZ;dsimp only;rw[L9,L9,wh,wh,I1 h L,I1 (x.Roots.getD r 0) L];omega
 exact⟨s2.st _ λc=>Q3,Wk.st (x:=wR (D8 x h) (x.Roots.set r h)) w1 s2.sr _ λc=>Q3,uE (x:=wR (D8 x h) (x.Roots.set r h)) s2.sr f2⟩
abbrev uP(x:Hp)(ts:List l5):Hp:=wQ x ⟨ts,x.Q.Cap⟩
noncomputable def vt(x:Hp)(ts:List l5)(h:Int):Hp:=T2 (H9 (uP x ts) 5 h) h
section
variable{x:Hp}(hx:P5 x){t:l5}{ts:List l5}(hq:x.Q.L=t::ts)
include hx hq
theorem FL:jX (uP x ts):=by
 have h:=hx.sh;refine⟨h.sr,h.hr,h.r6,h.c6,h.cap,?_,λu hu=>h.tk u (by rw[hq];exact zC _ hu),?_,h.rt,h.fl,h.pr,λi hi=>?_⟩
 .have:=h.q30;rw[hq,zE] at this;show ts.length<=30;omega
 .have:=h.td;rw[hq,zbu] at this;exact this.2
 .obtain⟨a,b,c,d,e⟩:=h.cl i hi;refine⟨a,b,c,d,λq=>⟨(e q).1,?_⟩⟩;have:=(e q).2;rw[zbf] at this |-;intro r;obtain⟨u,hu,k1,k2⟩:=jW.1 r;exact this (jW.2 ⟨u,by rw[hq];exact zC _ hu,k1,k2⟩)
theorem Iw:cJ (uP x ts) (if t.Kind=1 then [t.At] else []):=hx.fair.mv rfl (λ_ _=>rfl) λh _=>by
 unfold qP nZ xf;dsimp only;rw[hq,rx];by_cases k:t.Kind=1
 .rw[zb k,zb (by simpa using k),u8,L9,L9,I1 t.At (List.map _ _),I1 t.At [],S0];omega
 .rw[za k,za (by simpa using k),S0]
theorem IZ(hk:t.Kind≠1):P5 (uP x ts):=⟨FL hx hq,hx.wk,by have:=Iw hx hq;rwa [za hk] at this⟩
theorem Jj(hk:t.Kind=1):t.At∈lv x.S/\(ob x.S t.At).Started=true:=by
 rcases (hx.sh.tk t (by rw[hq];exact zl ..)).2.2 with ⟨_,b,c⟩ | ⟨b,_⟩;·exact⟨b,c⟩
 .omega
theorem kR(hk:t.Kind=1):P5 (vt x ts t.At):=by
 have f:=Iw hx hq;rw[zb hk] at f;obtain⟨a,b,c⟩:=ZH (FL hx hq) (x:=uP x ts) hx.wk f (r:=5) (by decide) (.inr (Jj hx hq hk).1);exact⟨a.st _ λc=>Q3,b.st a.sr _ λc=>Q3,uE a.sr c⟩
omit hq in
theorem Jk (hS:SL x) (h:Int):SL (vt x ts h):=by
 have k:=iR (x:=uP x ts) hx.sh.sr hS 5 h;exact Fg [h] (bZ (x:=uP x ts) hx.sh.sr 5 h).sr k
omit hq in
theorem Wz (h:Int):Ks x.S (vt x ts h).S:=by
 have k:=bZ (x:=uP x ts) hx.sh.sr 5 h;exact k.trans (Fh k.sr h)
omit hq in
theorem Pu (h:Int):(vt x ts h).Roots=x.Roots.set 5 h/\(vt x ts h).Cells=x.Cells/\(vt x ts h).T=x.T/\(vt x ts h).Q=⟨ts,x.Q.Cap⟩:=by
 obtain⟨a,b,c,d⟩:=AI (H9 (uP x ts) 5 h) h;obtain⟨a',b',c',d'⟩:=iQ (uP x ts) 5 h;exact⟨a.trans a',b.trans b',c.trans c',d.trans d'⟩
omit hq in
theorem Wy (h:Int):Fw (uP x ts) (vt x ts h):=Fw.of ((Ia (x:=uP x ts) hx.sh.sr 5 h).trans (Fi (bZ (x:=uP x ts) hx.sh.sr 5 h).sr h)) (Pu hx h).2.2.2
end
def Gd(ps:List (List k8))(n:Int):List k8:=if n<0\/(ps.length:Int)<=n then [] else ps.getD n.toNat []
noncomputable def pre(x:Hp)(t:l5)(ts:List l5):Hp:=if t.Kind=1 then da (vt x ts t.At) else uP x ts
noncomputable def XQ(ps:List (List k8))(x:Hp)(t:l5)(ts:List l5):Hp:=(runs (pre x t ts) (Gd ps t.Prog)).1
noncomputable def Ng(ps:List (List k8))(x:Hp)(t:l5)(ts:List l5):Hp:=if t.Kind=1 then da (H9 (XQ ps x t ts) 5 0) else XQ ps x t ts
structure Oh (x:Hp):Prop where
 rt:P5 x
 sl:SL x
 zr:zr x = []
theorem Yz.ok{x y:Hp}{o:k8}{v e:Int}(n:Yz x o y v e):Oh y:=⟨n.rt,n.sl,n.zr⟩
theorem Mw{x:Hp}(h:P5 x)(s:SL x):Oh (da x):=⟨eY h,Mx h s,CQ h⟩
theorem Rm{x:Hp}(hx:Oh x)(l:List k8)(hb:x.S.Serial+l.length<9223372036854775807):Oh (runs x l).1/\Fw x (runs x l).1/\(runs x l).1.S.Serial<=x.S.Serial+l.length/\(runs x l).2.length=l.length:=by
 have key:∀k,k<=l.length->Oh (runs x (l.take k)).1/\Fw x (runs x (l.take k)).1/\(runs x (l.take k)).1.S.Serial<=x.S.Serial+k/\(runs x (l.take k)).2.length=k:=by
  intro k;induction k with
  | zero=>exact λ_=>⟨hx,Fw.refl x,by show x.S.Serial<=_;omega,rfl⟩
  | succ k ih=>
   intro hk;obtain⟨a,b,c,d⟩:=ih (by omega);have hk':k<l.length:=by omega
   have n:=mN a.rt a.sl a.zr (by omega) l[k];rw[O7 hk',qy];exact⟨n.ok,b.trans (Ww a.rt a.sl a.zr (by omega) _),by have:=n.ev.s2;show (Bu _ _).1.S.Serial<=_;omega,by simp[d]⟩
 have:=key l.length (zI _);rwa [zK] at this
section
variable{x:Hp}(hx:Oh x){t:l5}{ts:List l5}(hq:x.Q.L=t::ts)(ps:List (List k8))
include hx hq
theorem JL:Oh (pre x t ts):=by
 unfold pre;split
 .rename_i k;exact Mw (kR hx.rt hq k) (Jk hx.rt hx.sl _)
 .rename_i k;exact⟨IZ hx.rt hq k,hx.sl,hx.zr⟩
theorem XE:Fw (uP x ts) (pre x t ts):=by
 unfold pre;split
 .rename_i k;exact (Wy hx.rt _).trans (Fy (kR hx.rt hq k))
 .exact Fw.refl _
theorem Et:(pre x t ts).S.Serial=x.S.Serial:=by
 unfold pre;split
 .rename_i k;rw[(pw (kR hx.rt hq k)).aV,(Wz hx.rt _).aV]
 .rfl
variable(hb:x.S.Serial+(Gd ps t.Prog).length<9223372036854775807)
include hb
theorem Fb:Oh (XQ ps x t ts)/\Fw (uP x ts) (XQ ps x t ts)/\(XQ ps x t ts).S.Serial<=x.S.Serial+(Gd ps t.Prog).length:=by
 have e:=Et hx hq;obtain⟨a,b,c,_⟩:=Rm (JL hx hq) (Gd ps t.Prog) (by rw[e];exact hb);exact⟨a,(XE hx hq).trans b,by rw[e] at c;exact c⟩
theorem Tn:Oh (Ng ps x t ts)/\Fw (uP x ts) (Ng ps x t ts)/\(Ng ps x t ts).S.Serial<=x.S.Serial+(Gd ps t.Prog).length/\(t.Kind=1->sd (Ng ps x t ts) 5=0):=by
 obtain⟨a,b,c⟩:=Fb hx hq ps hb;unfold Ng;split
 .have hz:=aU a.rt (r:=5) (by decide) (h:=0) (.inl rfl);have k:=bZ a.rt.sh.sr 5 0;refine⟨Mw hz (iR a.rt.sh.sr a.sl 5 0),(b.trans (iP a.rt.sh.sr 5 0)).trans (Fy hz),?_,λ_=>(qw a.rt (a:=5) (by decide) (h:=0) (.inl rfl)).1⟩;rw[(pw hz).aV,k.aV];exact c
 .exact⟨a,b,c,λq=>absurd q (by assumption)⟩
end
def IG(ps:List (List k8))(t:l5):Int:=1+((Gd ps t.Prog).length:Int)
def can(ps:List (List k8))(p:Hp × Int):Prop:=∃t ts,p.1.Q.L=t::ts/\IG ps t<=p.2
noncomputable def Xn(ps:List (List k8))(p:Hp × Int):Hp × Int:=match p.1.Q.L with
 | []=>p
 | t::ts=>if IG ps t<=p.2 then (Ng ps p.1 t ts,p.2-IG ps t) else p
noncomputable def dN(ps:List (List k8)):Nat->Hp × Int->Hp × Int
 | 0,p=>p
 | n+1,p=>dN ps n (Xn ps p)
section
variable(ps:List (List k8))
theorem xB(n:Nat)(p:Hp × Int):dN ps (n+1) p=Xn ps (dN ps n p):=by
 induction n generalizing p with
 | zero=>rfl
 | succ n ih=>exact ih (Xn ps p)
theorem TU{p:Hp × Int}(h:p.1.Q.L = []):Xn ps p=p:=by unfold Xn;rw[h]
theorem tN{p:Hp × Int}{t:l5}{ts:List l5}(h:p.1.Q.L=t::ts):Xn ps p=if IG ps t<=p.2 then (Ng ps p.1 t ts,p.2-IG ps t) else p:=by unfold Xn;rw[h]
theorem Gs{p:Hp × Int}{t:l5}{ts:List l5}(h:p.1.Q.L=t::ts):can ps p↔IG ps t<=p.2:=by
 constructor
 .rintro⟨u,us,e,c⟩;rw[h] at e;injection e with e1 e2
  rw[e1];exact c
 .exact λc=>⟨t,ts,h,c⟩
theorem sW(t:l5):1<=IG ps t:=by unfold IG;omega
theorem Ll{p:Hp × Int}(hb:0<=p.2):∃n:Nat,(n:Int)<=p.2/\¬can ps (dN ps n p)/\∀j,j<n->can ps (dN ps j p):=by
 have key:∀m:Nat,(∃n:Nat,n<=m/\¬can ps (dN ps n p))\/((dN ps m p).2+m<=p.2/\0<=(dN ps m p).2):=by
  intro m;induction m with
  | zero=>exact .inr ⟨by show p.2+((0:Nat):Int)<=_;omega,hb⟩
  | succ m ih=>
   rcases ih with ⟨n,h1,h2⟩ | ⟨h1,h2⟩;·exact .inl ⟨n,by omega,h2⟩
   .by_cases q:can ps (dN ps m p)
    .right;obtain⟨t,ts,e,c⟩:=q;have:=sW ps t;rw[xB,tN ps e,zb c];dsimp only;omega
    .exact .inl ⟨m,by omega,q⟩
 have hex:∃n:Nat,(n:Int)<=p.2/\¬can ps (dN ps n p):=by
  rcases key (p.2.toNat+1) with ⟨n,h1,h2⟩ | ⟨h1,h2⟩
  .rcases zy n (p.2.toNat+1) with q | q
   .exact⟨n,by omega,h2⟩
   .have hn:n=p.2.toNat+1:=by omega
    rcases key p.2.toNat with ⟨n,h1,h2⟩ | ⟨h1,h3⟩;·exact⟨n,by omega,h2⟩
    .refine⟨p.2.toNat,by omega,λ⟨t,ts,e,c⟩=>?_⟩;have:=sW ps t;omega
  .omega
 obtain⟨n,⟨hn,hz⟩,hmin⟩:=Y3 hex;refine⟨n,hn,hz,λj hj=>zP λq=>?_⟩;have:=hmin j ⟨by omega,q⟩;omega
theorem DE{p:Hp × Int}(hx:Oh p.1)(hb:0<=p.2)(hs:p.1.S.Serial+p.2<9223372036854775807):∀n,Oh (dN ps n p).1/\0<=(dN ps n p).2/\(dN ps n p).2<=p.2/\(dN ps n p).1.S.Serial+(dN ps n p).2<=p.1.S.Serial+p.2
 | 0=>⟨hx,hb,ms _,ms _⟩
 | n+1=>by
  obtain⟨a,b,c,d⟩:=DE hx hb hs n;rw[xB];cases e:(dN ps n p).1.Q.L with
  | nil=>rw[TU ps e];exact⟨a,b,c,d⟩
  | cons t ts=>
   rw[tN ps e];split
   .rename_i q;have q2:=q;unfold IG at q2;obtain⟨r1,_,r3,_⟩:=Tn a e ps (by omega);refine⟨r1,?_,?_,?_⟩;·dsimp only;omega
    .have:=sW ps t;dsimp only;omega
    .dsimp only;unfold IG;omega
   .exact⟨a,b,c,d⟩
end
noncomputable def dn(ps:List (List k8))(p:Hp × Int):Nat:=if h:0<=p.2 then Classical.choose (Ll ps h) else 0
theorem Ln(ps:List (List k8)){p:Hp × Int}(h:0<=p.2):(dn ps p:Int)<=p.2/\¬can ps (dN ps (dn ps p) p)/\∀j,j<dn ps p->can ps (dN ps j p):=by
 unfold dn;rw[dif_pos h];exact zar (Ll ps h)
noncomputable def dr(ps:List (List k8))(p:Hp × Int):Hp × Int:=dN ps (dn ps p) p
theorem YW(ps:List (List k8)){x:Hp}{f:Int}(hx:Oh x)(hf:0<=f)(hs:x.S.Serial+f<9223372036854775807):Oh (dr ps (x,f)).1/\0<=(dr ps (x,f)).2/\(dr ps (x,f)).2<=f/\(dr ps (x,f)).1.S.Serial+(dr ps (x,f)).2<=x.S.Serial+f:=DE ps (p:=(x,f)) hx hf hs _
section
variable{x:Hp}(hx:jX x)(hS:∀k∈lv x.S,(ob x.S k).Strong<=9223372036854775807)
include hx hS
theorem PW{h:Int}(hh:h=0\/h∈lv x.S):h<=9223372036854775807:=by
 rcases hh with q | q
 .omega
 .have:=I8 hx.sr q;omega
theorem Rg(k:Int){h:Int}(hh:h<=9223372036854775807):bl x k h=some (if k<0\/5<k then (x,6) else if h=0\/h∈lv x.S then (H9 x k.toNat h,0) else (x,3)):=by
 have hR:=hx.sr;have r6:=hx.r6;unfold bl;by_cases hk:k<0\/5<k
 .rw[zb hk,zb (by rw[r6];simp;omega)]
 .rw[za hk,za (by rw[r6];simp;omega),eM hR hh,a1b];by_cases hn:h=0\/h∈lv x.S
  .rw[zb hn,zp hn,za (by simp)];obtain⟨n,rfl⟩:∃n:Nat,k=n:=⟨k.toNat,by omega⟩;have hn6:n<6:=by omega
   have hnl:n<x.Roots.length:=by omega
   have old:x.Roots[n]<=9223372036854775807:=PW hx hS (hx.rt _ (zd hnl));have e1:=lK x h;have hn2:n<(D8 x h).Roots.length:=by rw[e1.1];exact hnl
   rw[r8 hnl,a1b];unfold G8 R1 O0;rw[lI hR hh hS,a1b];dsimp only;rw[O4 (by omega) (by rw[e1.1];omega),a1b,r8 hn2,a1b,a1b];have hrel:=eV (x:=wR (D8 x h) (x.Roots.set n h)) (gi hR h) old;rw[zV,e1.1,show E2 ⟨(D8 x h).S,x.Roots.set n h,(D8 x h).Cells,(D8 x h).T,(D8 x h).Q⟩ x.Roots[n]=_ from hrel];unfold H9;rw[zf,zc hnl];rfl
  .rw[za hn,zA hn,zb (by simp)]
theorem UC(k:Int){h:Int}(hh:h<=9223372036854775807):W7 (hO x) k h=some (if k<0\/5<k then (hO x,6) else if h=0\/h∈lv x.S then (hO (H9 x k.toNat h),0) else (hO x,3)):=by
 have hR:=hx.sr;have r6:=hx.r6;unfold W7;by_cases hk:k<0\/5<k
 .rw[zb hk,zb (by simp;omega)]
 .rw[za hk,za (by simp;omega),mK hR hh,a1b];by_cases hn:h=0\/h∈lv x.S
  .rw[zb hn,zp hn,za (by simp)];obtain⟨n,rfl⟩:∃n:Nat,k=n:=⟨k.toNat,by omega⟩;have hnl:n<x.Roots.length:=by omega
   have hnl':n<(hO x).Roots.length:=hnl;have old:x.Roots[n]<=9223372036854775807:=PW hx hS (hx.rt _ (zd hnl));have e1:=lK x h;have r6':(hO x).Roots.length=6:=r6;rw[r8 hnl',a1b,pj hR hh hS,a1b,O4 (by omega) (by rw[r6'];omega),a1b,r8 hnl',a1b];have hrel:=gU (x:=wR (D8 x h) (x.Roots.set n h)) (gi hR h) old;rw[zV];rw[show G0 ⟨(hO (D8 x h)).S,(hO x).Roots.set n h,(hO (D8 x h)).Cells,(hO (D8 x h)).T,(hO (D8 x h)).Q⟩ (hO x).Roots[n]=_ from hrel];unfold H9;rw[zf,zc hnl];rfl
  .rw[za hn,zA hn,zb (by simp)]
end
theorem JM(ps:List (List k8))(n:Int):ig ps n=some (Gd ps n):=by
 unfold ig Gd;by_cases h:n<0\/(ps.length:Int)<=n
 .rw[zb (by simpa using h),zb h]
 .rw[za (by simpa using h),za h];obtain⟨k,rfl⟩:∃k:Nat,n=k:=⟨n.toNat,by omega⟩;have hk:k<ps.length:=by omega
  rw[r8 hk,a1b,zV,zf,zc hk];rfl
abbrev xM(ps:List (List k8)):List (List s6):=ps.map (List.map LS)
theorem QP(ps:List (List k8))(n:Int):lG (xM ps) n=some ((Gd ps n).map LS):=by
 unfold lG Gd;rw[wd];by_cases h:n<0\/(ps.length:Int)<=n
 .rw[zb (by simpa using h),zb h];rfl
 .rw[za (by simpa using h),za h];obtain⟨k,rfl⟩:∃k:Nat,n=k:=⟨n.toNat,by omega⟩;have hk:k<ps.length:=by omega
  have hk2:k<(xM ps).length:=by simpa using hk
  rw[r8 hk2,a1b,zV,zf,zc hk];simp[xM]
def Mp(ps:List (List k8)):Prop:=∀p∈ps,p.length<=6
theorem xK{ps:List (List k8)}(h:Mp ps)(n:Int):(Gd ps n).length<=6:=by
 unfold Gd;split;·simp
 .rename_i q;have hk:n.toNat<ps.length:=by omega
  rw[zf,zc hk];exact h _ (zd hk)
theorem Lk{ps:List (List k8)}(h:Mp ps)(t:l5):mo ps t=some (IG ps t):=by
 have:=xK h t.Prog;unfold mo IG;rw[JM,a1b,G4 (by omega) (by omega)]
theorem Pa{ps:List (List k8)}(h:Mp ps)(t:l5):lE (xM ps) ⟨t.Kind,t.At,t.Prog⟩=some (IG ps t):=by
 have:=xK h t.Prog;unfold lE IG;show (lG (xM ps) t.Prog).bind _=_;rw[QP,a1b,wd,G4 (by omega) (by omega)]
theorem DL(x:Hp):cL x=some (x.Q.L.isEmpty):=by
 unfold cL;rw[FH,a1b];unfold Ku;cases x.Q.L <;> rfl
theorem Lo(x:Hp):gT (hO x)=some (x.Q.L.isEmpty):=by
 unfold gT;show some ((((x.Q.L.map _).length:Nat):Int)==0)=_;cases x.Q.L with
 | nil=>rfl
 | cons a l=>simp;omega
section
variable{x:Hp}(hx:Oh x){t:l5}{ts:List l5}(hq:x.Q.L=t::ts){ps:List (List k8)}(hm:Mp ps)(hb:x.S.Serial<9000000000000000000)
include hx hq hm hb
theorem RA:mq x ps=some (Ng ps x t ts,t,0):=by
 have J7:=xK hm t.Prog;have pok:=JL hx hq;have pser:=Et hx hq;obtain⟨rok,_,_⟩:=Fb hx hq ps (by omega);have hrun:=(run_eq pok.rt pok.sl pok.zr (Gd ps t.Prog) (by omega) (by rw[pser];omega)).1;have hrun':fG (pre x t ts) (Gd ps t.Prog)=some (XQ ps x t ts,(runs (pre x t ts) (Gd ps t.Prog)).2):=hrun;have hz:=aU rok.rt (r:=5) (by decide) (h:=0) (.inl rfl);have zS:=iR rok.rt.sh.sr rok.sl 5 0;unfold mq;rw[FH,a1b];have e:Ku x.Q=(⟨ts,x.Q.Cap⟩,t,0):=by unfold Ku;rw[hq]
 rw[e];dsimp only;rw[za (by simp)];simp only[jn];by_cases k:t.Kind=1
 .have hk:(t.Kind==1)=true:=by simpa using k
  have hat:=(Jj hx.rt hq k).1;have ush:=FL hx.rt hq;have hm1:=dC hx.rt.sh.sr hat;have e1:bl ⟨x.S,x.Roots,x.Cells,x.T,⟨ts,x.Q.Cap⟩⟩ 5 t.At=some (H9 (uP x ts) 5 t.At,0):=by
   have:=Rg (x:=uP x ts) ush hx.sl 5 hm1;rw[za (by omega),zb (.inr hat)] at this;exact this
  have e2:E2 (H9 (uP x ts) 5 t.At) t.At=some (vt x ts t.At):=eV (bZ (x:=uP x ts) hx.rt.sh.sr 5 t.At).sr hm1;have e3:=gV (kR hx.rt hq k) (Jk hx.rt hx.sl t.At);have e4:pre x t ts=da (vt x ts t.At):=by unfold pre;rw[zb k]
  have e5:=Mo rok.rt rok.sl 5 (h:=0) (by decide);rw[za (by omega),zb (.inl rfl)] at e5;rw[zb hk,e1,a1b];dsimp only;rw[e2,a1b,e3,a1b,JM,a1b,<-e4,hrun',a1b,zb hk];dsimp only;rw[e5,a1b];refine FZ (gV hz zS) ?_;unfold Ng;rw[zb k];rfl
 .have hk:¬(t.Kind==1)=true:=by simpa using k
  have e4:pre x t ts=uP x ts:=by unfold pre;rw[za k]
  rw[za hk,JM,a1b,show (⟨x.S,x.Roots,x.Cells,x.T,⟨ts,x.Q.Cap⟩⟩:b7)=pre x t ts from e4.symm,hrun',a1b,za hk];unfold Ng;rw[za k]
theorem Yk:uz (hO x) (xM ps)=some (hO (Ng ps x t ts),su t,0):=by
 have J7:=xK hm t.Prog;have pok:=JL hx hq;have pser:=Et hx hq;obtain⟨rok,_,_⟩:=Fb hx hq ps (by omega);have hrun:=(run_eq pok.rt pok.sl pok.zr (Gd ps t.Prog) (by omega) (by rw[pser];omega)).2;have hrun':ux (hO (pre x t ts)) ((Gd ps t.Prog).map LS)=some (hO (XQ ps x t ts),(runs (pre x t ts) (Gd ps t.Prog)).2):=hrun;have hz:=aU rok.rt (r:=5) (by decide) (h:=0) (.inl rfl);have zS:=iR rok.rt.sh.sr rok.sl 5 0;unfold uz;rw[show (hO x).Q=gl x.Q from rfl,XP,a1b];have e:Ku x.Q=(⟨ts,x.Q.Cap⟩,t,0):=by unfold Ku;rw[hq]
 rw[e];dsimp only;rw[za (by simp)];simp only[jn];have hkk:(su t).Kind=t.Kind:=rfl;have hka:(su t).At=t.At:=rfl;have hkp:(su t).Prog=t.Prog:=rfl;rw[hkk,hka,hkp];by_cases k:t.Kind=1
 .have hk:(t.Kind==1)=true:=by simpa using k
  have hat:=(Jj hx.rt hq k).1;have ush:=FL hx.rt hq;have hm1:=dC hx.rt.sh.sr hat;have e1:W7 (hO (uP x ts)) 5 t.At=some (hO (H9 (uP x ts) 5 t.At),0):=by
   have:=UC (x:=uP x ts) ush hx.sl 5 hm1;rw[za (by omega),zb (.inr hat)] at this;exact this
  have e2:G0 (hO (H9 (uP x ts) 5 t.At)) t.At=some (hO (vt x ts t.At)):=gU (bZ (x:=uP x ts) hx.rt.sh.sr 5 t.At).sr hm1;have e3:=lN (kR hx.rt hq k) (Jk hx.rt hx.sl t.At);have e4:pre x t ts=da (vt x ts t.At):=by unfold pre;rw[zb k]
  have e5:=Kf rok.rt rok.sl 5 (h:=0) (by decide);rw[za (by omega),zb (.inl rfl)] at e5;rw[zb hk,show (⟨(hO x).S,(hO x).Roots,(hO x).Cells,(hO x).T,gl ⟨ts,x.Q.Cap⟩⟩:c5)=hO (uP x ts) from rfl,e1,a1b];dsimp only;rw[e2,a1b,e3,a1b,QP,a1b,<-e4,hrun',a1b,zb hk];dsimp only;rw[e5,a1b];refine FZ (lN hz zS) ?_;unfold Ng;rw[zb k];rfl
 .have hk:¬(t.Kind==1)=true:=by simpa using k
  have e4:pre x t ts=uP x ts:=by unfold pre;rw[za k]
  rw[za hk,QP,a1b,show (⟨(hO x).S,(hO x).Roots,(hO x).Cells,(hO x).T,gl ⟨ts,x.Q.Cap⟩⟩:c5)=hO (pre x t ts) by rw[e4];rfl,hrun',a1b,za hk];unfold Ng;rw[za k]
end
section
variable{x:Hp}(hx:Oh x){ps:List (List k8)}(hm:Mp ps){f:Int}(hf:0<=f)(hf2:f<=1000000)(hb:x.S.Serial<8000000000000000000)
include hx hm hf hf2 hb
def YE(p:Hp × Int):Int:=if p.1.Q.L.isEmpty then 0 else 12
theorem drain_eq:fD x ps f=some ((dr ps (x,f)).1,(dn ps (x,f):Int),(dr ps (x,f)).2,YE (dr ps (x,f))):=by
 obtain⟨a1,a2,a3⟩:=Ln ps (p:=(x,f)) hf;have all:=DE ps (p:=(x,f)) hx hf (by show x.S.Serial+f<_;omega);unfold fD;simp only[jn];dsimp only at a1;refine dA (λk=>((dN ps k (x,f)).2,(dN ps k (x,f)).1,(k:Int),(dN ps k (x,f)).2,(dN ps k (x,f)).1)) rfl (dn ps (x,f)) (λ_=>True) (by omega) trivial (λk hk _=>.inl ⟨?_,trivial⟩) (λ_=>⟨((dn ps (x,f):Int),(dr ps (x,f)).2,(dr ps (x,f)).1),?_,?_⟩)
 .obtain⟨b1,b2,b3,b4⟩:=all k;obtain⟨t,ts,e,c⟩:=a3 k hk;dsimp only at b2 b3 b4;have hc:=sW ps t;rw[DL,e,a1b];show (cY _).bind _=_;rw[FH,a1b];have e2:Ku (dN ps k (x,f)).1.Q=(⟨ts,(dN ps k (x,f)).1.Q.Cap⟩,t,0):=by unfold Ku;rw[e]
  rw[e2];dsimp only;rw[Lk hm,a1b,za (by simp;omega),RA b1 e hm (by omega),a1b,G4 (by omega) (by omega),l6,xB,tN ps e,zb c]
 .rw[DL,a1b];cases e:(dN ps (dn ps (x,f)) (x,f)).1.Q.L with
  | nil=>rfl
  | cons t ts=>
   have hc:¬IG ps t<=(dN ps (dn ps (x,f)) (x,f)).2:=λq=>a2 ((Gs ps e).2 q);show (cY _).bind _=_;rw[FH,a1b];have e2:Ku (dN ps (dn ps (x,f)) (x,f)).1.Q=(⟨ts,(dN ps (dn ps (x,f)) (x,f)).1.Q.Cap⟩,t,0):=by unfold Ku;rw[e]
   rw[e2];dsimp only;rw[Lk hm,a1b,zb (by simp;omega)];rfl
 .dsimp only;rw[DL,a1b];unfold YE;cases (dr ps (x,f)).1.Q.L.isEmpty <;> rfl
theorem To:lF (hO x) (xM ps) f=some (hO (dr ps (x,f)).1,(dn ps (x,f):Int),(dr ps (x,f)).2,YE (dr ps (x,f))):=by
 obtain⟨a1,a2,a3⟩:=Ln ps (p:=(x,f)) hf;have all:=DE ps (p:=(x,f)) hx hf (by show x.S.Serial+f<_;omega);unfold lF;simp only[jn];dsimp only at a1;refine dA (λk=>((dN ps k (x,f)).2,(k:Int),hO (dN ps k (x,f)).1)) rfl (dn ps (x,f)) (λ_=>True) (by omega) trivial (λk hk _=>.inl ⟨?_,trivial⟩) (λ_=>?_)
 .obtain⟨b1,b2,b3,b4⟩:=all k;obtain⟨t,ts,e,c⟩:=a3 k hk;dsimp only at b2 b3 b4;have hc:=sW ps t;rw[Lo,e,a1b];have e2:ix (hO (dN ps k (x,f)).1).Q.L 0=some (su t):=by
   show ix ((dN ps k (x,f)).1.Q.L.map su) 0=_;rw[e];rfl
  show (ix (hO (dN ps k (x,f)).1).Q.L 0).bind _=_;rw[e2,a1b,show lE (xM ps) (su t)=_ from Pa hm t,a1b,za (by simp;omega),Yk b1 e hm (by omega),a1b,G4 (by omega) (by omega),l6,xB,tN ps e,zb c]
 .cases e:(dN ps (dn ps (x,f)) (x,f)).1.Q.L with
  | nil=>
   refine⟨.inr ((dr ps (x,f)).2,(dn ps (x,f):Int),hO (dr ps (x,f)).1),?_,?_⟩
   .rw[Lo,e];rfl
   .unfold YE;have e':(dr ps (x,f)).1.Q.L = []:=e;rw[e'];rfl
  | cons t ts=>
   have hc:¬IG ps t<=(dN ps (dn ps (x,f)) (x,f)).2:=λq=>a2 ((Gs ps e).2 q);refine⟨.inl (hO (dr ps (x,f)).1,(dn ps (x,f):Int),(dr ps (x,f)).2,12),?_,?_⟩
   .rw[Lo,e,a1b];have e2:ix (hO (dN ps (dn ps (x,f)) (x,f)).1).Q.L 0=some (su t):=by
     show ix ((dN ps (dn ps (x,f)) (x,f)).1.Q.L.map su) 0=_;rw[e];rfl
    show (ix (hO (dN ps (dn ps (x,f)) (x,f)).1).Q.L 0).bind _=_;rw[e2,a1b,show lE (xM ps) (su t)=_ from Pa hm t,a1b,zb (by simp;omega)];rfl
   .unfold YE;have e':(dr ps (x,f)).1.Q.L=t::ts:=e;rw[e'];rfl
end
theorem Zn{l:List (List k8)}(h:vK l=true):Mp l/\l.length<=6:=by
 unfold vK at h;rw[zj,zx,zh] at h;refine⟨λp hp=>?_,h.1⟩;have:=h.2 p hp;unfold Ho at this;rw[zj,zx] at this;exact this.1
theorem Ze(s:a7)(h:s.S.Cells.length<=30):ye s=some (sO s):=by
 unfold ye;simp only[jn,yf,a1b];have e:=iB (b:=80) cO s.S.Cells (by omega) (by omega);simp only[cO,oo] at e;rw[e];rfl
theorem UL(s:a7):qJ s=some (decide (Sm s)):=by
 unfold qJ;simp only[jn];refine N6 (min s.S.Cells.length 30) (λk=>∀j (h:j<s.S.Cells.length),j<k->s.S.Cells[j].Val.Fields.length<=10) (by omega) (λ_ _ h=>by omega) (λk hk hP=>?_) (λhP=>?_)
 .have hk1:k<s.S.Cells.length:=by omega
  have hk2:k<30:=by omega
  have hc:((decide ((k:Int)<(s.S.Cells.length:Int)))&&(decide ((k:Int)<30)))=true:=by simp;omega
  by_cases g:s.S.Cells[k].Val.Fields.length<=10
  .refine .inl ⟨?_,λj h hj=>?_⟩
   .rw[hc];simp only[zD,r8 hk1,a1b];rw[za (by simp;omega),l6]
   .rcases zy j k with q | q
    .exact hP j h q
    .have:j=k:=by omega
     subst this;exact g
  .refine .inr ⟨.inl false,?_,?_⟩
   .rw[hc];simp only[zD,r8 hk1,a1b];rw[zb (by simp;omega)]
   .simp only;rw[zA (λq:Sm s=>g (q.2 k hk1))]
 .refine⟨.inr (),?_,?_⟩
  .rw[show ((decide (((min s.S.Cells.length 30:Nat):Int)<(s.S.Cells.length:Int)))&&(decide (((min s.S.Cells.length 30:Nat):Int)<30)))=false by
    rcases zy s.S.Cells.length 30 with q | q
    .simp;omega
    .simp;omega]
   rfl
  .simp only;congr 1;rw[za0];constructor
   .intro q;exact⟨by omega,λi h=>hP i h (by omega)⟩
   .intro q;have:=q.1;omega
theorem ZM(t:Tb)(h:t.length<=1000):yg t=some (t.map J7):=by
 unfold yg;simp only[jn];have e:=iB (b:=24) J7 t (by omega) (by omega);simp only[J7] at e;rw[e];rfl
theorem YQ(l:List g9)(h:l.length<=1000):qH l=some (l.map nB):=by
 unfold qH;simp only[jn];have e:=iB (b:=24) nB l (by omega) (by omega);simp only[nB] at e;rw[e];rfl
theorem ZN(q:TQ)(h:q.L.length<=1000):qL q=some (gl q):=by
 unfold qL;simp only[jn];have e:=iB (b:=24) su q.L (by omega) (by omega);simp only[su] at e;rw[e];rfl
theorem PH{x:Hp}(h1:x.S.S.Cells.length<=30)(h2:x.Cells.length<=1000)(h3:x.T.length<=1000)(h4:x.Q.L.length<=1000):dW x=some (hO x):=by
 unfold dW;rw[Ze x.S h1,a1b,YQ x.Cells h2,a1b,ZM x.T h3,a1b,ZN x.Q h4,a1b];rfl
theorem xE{x:Hp}(h:jX x):dW x=some (hO x):=by
 have h1:=h.sr.len;have h2:=h.c6;have h3:=h.hr.l8;have h4:=h.q30;exact PH (by omega) (by omega) (by omega) (by omega)
theorem GC(x:Hp):qI x=some (decide (wm x)):=by
 unfold qI;rw[UL,a1b];congr 1;rw[zan];simp only[zj,zx];unfold wm;constructor
 .rintro⟨⟨⟨⟨a,b⟩,c⟩,d⟩,e⟩;exact⟨a,by omega,by omega,by omega,by omega⟩
 .rintro⟨a,b,c,d,e⟩;exact⟨⟨⟨⟨a,by omega⟩,by omega⟩,by omega⟩,by omega⟩
theorem YZ{x:Hp}(h:jX x):qI x=some true:=by rw[GC,zp h.a0B]
theorem UN{x:Hp}(hB:HB x):∃b,qK x=some b/\(b=true->P5 x/\x.S.Serial<1000000000):=by
 unfold qK;rw[GC,a1b];by_cases c:wm x/\x.S.Serial<1000000000
 .have e:((decide (wm x))&&(decide (x.S.Serial<1000000000)))=true:=by simp[c.1,c.2]
  rw[e];obtain⟨f,f2,f3,f4,f5⟩:=c.1;simp only[zF,J9,wn];rw[PH f.1 (by omega) (by omega) (by omega),a1b];obtain⟨b,h1,h2⟩:=GP x hB (by have:=f.1;omega) (by omega) (by omega) (by omega) (by omega);rw[h1,a1b];exact⟨b,rfl,λq=>⟨h2.1 q,c.2⟩⟩
 .have e:((decide (wm x))&&(decide (x.S.Serial<1000000000)))=false:=by
   rw[Bool.and_eq_false_iff,zba,zba];exact Decidable.not_and_iff_or_not.1 c
  rw[e];exact⟨false,by simp[u5],λq=>by cases q⟩
noncomputable def eo(ps:List (List k8))(x:Hp)(o:k8):Hp × Int × Int:=
 if o.Kind=11 then (Ga x,RK x-((mj x).length:Int),0)
 else if o.Kind=12 then ((dr ps (x,o.A)).1,(dn ps (x,o.A):Int),YE (dr ps (x,o.A)))
 else Bu x o
noncomputable def er(ps:List (List k8))(x:Hp)(row:List Int):Hp × Int × Int:=if (bS row).2≠0 then (x,0,(bS row).2) else eo ps x (bS row).1
noncomputable def ju(ps:List (List k8))(x:Hp)(rows:List (List Int)):Hp × List (Int × Int):=rows.foldl (λp r=>((er ps p.1 r).1,p.2 ++ [(er ps p.1 r).2])) (x,[])
theorem Po(ps:List (List k8))(x:Hp)(l:List (List Int))(r:List Int):ju ps x (l ++ [r])=((er ps (ju ps x l).1 r).1,(ju ps x l).2 ++ [(er ps (ju ps x l).1 r).2]):=by
 unfold ju;rw[za4];rfl
theorem DO(ps:List (List k8)):∀(l:List (List Int)) (x:Hp) (a:List (Int × Int)),l.foldl (λp r=>((er ps p.1 r).1,p.2 ++ [(er ps p.1 r).2])) (x,a)=((ju ps x l).1,a++(ju ps x l).2)
 | [],x,a=>by simp[ju]
 | r::l,x,a=>by
  unfold ju;rw[zah,zah,DO ps l,DO ps l _ ([]++_)];simp
theorem Lp(ps:List (List k8))(x:Hp)(l m:List (List Int)):ju ps x (l++m)=((ju ps (ju ps x l).1 m).1,(ju ps x l).2++(ju ps (ju ps x l).1 m).2):=by
 have:ju ps x (l++m)=m.foldl (λp r=>((er ps p.1 r).1,p.2 ++ [(er ps p.1 r).2])) (ju ps x l):=by
  unfold ju;rw[za4]
 rw[this];exact DO ps m (ju ps x l).1 (ju ps x l).2
theorem Lq(ps:List (List k8))(x:Hp)(l:List (List Int)):(ju ps x l).2.length=l.length:=by
 induction l generalizing x with
 | nil=>rfl
 | cons r l ih=>
  have:=Lp ps x [r] l;rw[List.singleton_append] at this;rw[this,zT,ih];show 1+l.length=l.length+1;omega
theorem DF{row:List Int}(h:(bS row).2=0):D0 (bS row).1.Kind (bS row).1.A (bS row).1.B (bS row).1.C=0:=by
 unfold bS at h |-;rcases four row with ⟨k,a,b,c,rfl⟩ | hl
 .rw[Lm,ut] at h |-;by_cases q:D0 k a b c≠0
  .rw[zb q] at h;exact absurd h q
  .rw[za q];exact Classical.not_not.1 q
 .rw[(DH hl).1,ut] at h;exact absurd h (by decide)
theorem OR{a b c:Int}(h:D0 12 a b c=0):0<=a/\a<=200:=Cq (by decide) (show O2 a 0 200 12=0 from h)
section
variable{ps:List (List k8)}(hm:Mp ps){x:Hp}(hx:Oh x)(hb:x.S.Serial<7000000000000000000)
include hm hx hb
theorem YX{o:k8}(ho:o.Kind=12->0<=o.A/\o.A<=200):Oh (eo ps x o).1/\(eo ps x o).1.S.Serial<=x.S.Serial+201:=by
 unfold eo;split
 .obtain⟨a,b,c⟩:=DB hx.rt hx.sl hx.zr;refine⟨⟨a,b,c⟩,?_⟩;show (Ga x).S.Serial<=_;rw[Ti hx.rt hx.sl hx.zr];omega
 .split
  .rename_i h;obtain⟨h0,h2⟩:=ho h;obtain⟨a,b,c,d⟩:=YW ps hx h0 (by omega);exact⟨a,by show (dr ps (x,o.A)).1.S.Serial<=_;omega⟩
  .have n:=mN hx.rt hx.sl hx.zr (by omega) o;have:=n.ev.s2;exact⟨n.ok,by omega⟩
theorem Vr(row:List Int):Oh (er ps x row).1/\(er ps x row).1.S.Serial<=x.S.Serial+201:=by
 unfold er;split;·exact⟨hx,by show x.S.Serial<=_;omega⟩
 .rename_i h;have hc:=DF (Classical.not_not.1 h);refine YX hm hx hb λhk=>?_;rw[hk] at hc;exact OR hc
end
theorem Je{ps:List (List k8)}(hm:Mp ps){x:Hp}(hx:Oh x):∀(l:List (List Int)),x.S.Serial+201*(l.length:Int)<7000000000000000000->Oh (ju ps x l).1/\(ju ps x l).1.S.Serial<=x.S.Serial+201*(l.length:Int):=by
 intro l;induction l generalizing x with
 | nil=>exact λ_=>⟨hx,by show x.S.Serial<=_;simp⟩
 | cons r l ih=>
  intro hb;rw[zE] at hb |-;obtain⟨a,b⟩:=Vr hm hx (by omega) r;obtain⟨c,d⟩:=ih a (by omega);have e:=Lp ps x [r] l;rw[List.singleton_append] at e;rw[e];exact⟨c,by
   have:(ju ps (ju ps x [r]).1 l).1.S.Serial<=(er ps x r).1.S.Serial+201*(l.length:Int):=d;show (ju ps (ju ps x [r]).1 l).1.S.Serial<=_;omega⟩
def vn(l:List c4)(k:Int):Nat:=l.countP λc=>c.State==k
theorem Gw(l:List c4)(c:c4)(k:Int):vn (l ++ [c]) k=vn l k+if c.State=k then 1 else 0:=by
 unfold vn;rw[List.countP_append];simp[List.countP_cons]
noncomputable def UO(x:Hp):List Int:=(lv x.S).map λh=>aV x h
theorem PZ{s:a7}(hR:SR s){h:Int}(hh:h∈lv s):sk s.S.Cells h=(ob s h).Serial:=by
 obtain⟨i,hi⟩:=(gn hR).1 hh;rw[OJ hR hi,Q5 hR hi]
theorem Yi{x:Hp}(hR:SR x.S):(UO x).Pairwise (· < ·):=by
 unfold UO;rw[List.pairwise_map];refine List.Pairwise.imp_of_mem (λ{a b} ha hb h=>?_) (jB (x8.2 hR)).2.2;rw[PZ hR ha,PZ hR hb] at h;exact h
theorem Rw{x:Hp}(hR:SR x.S):(UO x).mergeSort (λx y=>decide (x<=y))=UO x:=
 List.mergeSort_of_pairwise ((Yi hR).imp λh=>zp (by omega))
theorem My{x:Hp}(hR:SR x.S):(UO x).length<=24:=by
 unfold UO;rw[wd];exact H2 (x8.2 hR)
inductive Fm (x:Hp) (o:k8) (z:Hp) (v:Int):Prop
 | new (i:Nat) (hF:YI x.S i) (hk:o.Kind=1) (ha:0<=o.A/\o.A<=5) (hn:o.B.toNat<=4) (hc : -1<=o.C/\o.C<=5) (hv:v=x.S.Serial+1) (hz:z=H9 (wS x (fw x.S i o.B.toNat o.C)) o.A.toNat (dY x.S i)):Fm x o z v
 | root (h:Int) (hk:o.Kind≠1) (ha:0<=o.A/\o.A<=5) (hh:h=0\/h∈lv x.S) (hz:z=H9 x o.A.toNat h):Fm x o z v
 | field (h:Int) (n:Nat) (u:Int) (hk:o.Kind=5) (hl:h∈lv x.S) (hn:n<(ob x.S h).Fields.length) (hu:u=0\/u∈lv x.S) (hz:z=cq x h n u):Fm x o z v
 | weak (h:Int) (hk:o.Kind=6) (ha:0<=o.A/\o.A<=5) (hc : -1<=o.C/\o.C<=5) (hh:h=0\/h∈lv x.S) (hw:II x.Q o.A=false) (hz:z=eC x o.A.toNat h o.C):Fm x o z v
 | pair (h u:Int) (r:Tb × Int × Int) (hk:o.Kind=8) (hl:h∈lv x.S) (hu:u=0\/u∈lv x.S) (hr:V8 x.T h u=some r) (h0:r.2.2=0) (hz:z=lg x u r.1 r.2.1):Fm x o z v
 | same (hk:o.Kind=10) (hz:z=x):Fm x o z v
theorem Fm.ks{x z:Hp}{o:k8}{v:Int}(hx:P5 x)(f:Fm x o z v)(hk:o.Kind≠1):Ks x.S z.S:=by
 have hR:=hx.sh.sr;cases f with
 | new i hF hk'=>exact absurd hk' hk
 | root h _ ha hh hz=>rw[hz];exact bZ hR _ _
 | field h n u _ hl hn hu hz=>rw[hz];exact Cg hR hl hn u
 | weak h _ ha hc hh hw hz=>rw[hz];exact Iz hx (by omega) h _
 | pair h u r _ hl hu hr h0 hz=>rw[hz];exact Hl hR u _ _
 | same _ hz=>rw[hz];exact Ks.refl hR
def YA(p:Int × Int):m8:=⟨p.1,p.2⟩
def YB(p:Int × Int):E9:=⟨p.1,p.2⟩
section
variable{ps:List (List k8)}(hm:Mp ps){x:Hp}(hx:Oh x)(hb:x.S.Serial<7000000000000000000)
include hm hx hb
theorem OQ : -24<=RK x-((mj x).length:Int)/\RK x-((mj x).length:Int)<=24:=by
 have h1:=Dz hx.rt hx.sl hx.zr;have h2:(lv x.S).length<=24:=H2 (x8.2 hx.rt.sh.sr);obtain⟨c1,_,_⟩:=DB hx.rt hx.sl hx.zr;have h3:(lv (Ga x).S).length<=24:=H2 (x8.2 c1.sh.sr);unfold RK;split
 .rename_i e;rw[e];simp;omega
 .omega
theorem edo(row:List Int):kQ ⟨x,ps⟩ row=some (⟨(er ps x row).1,ps⟩,YA (er ps x row).2):=by
 unfold kQ;rw[(Gy row).1,a1b];unfold er;by_cases h:(bS row).2=0
 .rw[za (show ¬(((bS row).2 != 0)=true) by simp[h]),za (show ¬((bS row).2≠0) by simp[h])];have hc:=DF h;generalize (bS row).1=o at hc;unfold mr eo;by_cases k11:o.Kind=11
  .rw[zb (by simp[k11]),zb k11];refine zbv (b:=(Z1 x).bind λv4=>some (⟨v4.1,ps⟩,⟨A1 (v4.2.2-v4.2.1),0⟩)) rfl ?_;obtain⟨b1,b2⟩:=OQ hm hx hb;rw[Ws hx.rt hx.sl hx.zr,a1b];dsimp only;rw[G4 (by omega) (by omega)];rfl
  .rw[za (by simp[k11]),za k11];by_cases k12:o.Kind=12
   .rw[zb (by simp[k12]),zb k12];refine zbv (b:=(fD x ps o.A).bind λv5=>some (⟨v5.1,ps⟩,⟨v5.2.1,v5.2.2.2⟩)) rfl ?_;rw[k12] at hc;obtain⟨a0,a2⟩:=OR hc;rw[drain_eq hx hm a0 (by omega) (by omega),a1b];rfl
   .rw[za (by simp[k12]),za k12];refine zbv (b:=(z7 x o).bind λv3=>some (⟨v3.1,ps⟩,⟨v3.2.1,v3.2.2⟩)) rfl ?_;rw[(mN hx.rt hx.sl hx.zr (by omega) o).mc,a1b];rfl
 .rw[zb (by simpa using h),zb h];rfl
theorem rdo(row:List Int):AA ⟨hO x,xM ps⟩ row=some (⟨hO (er ps x row).1,xM ps⟩,YB (er ps x row).2):=by
 unfold AA;rw[(Gy row).2,a1b];unfold er;by_cases h:(bS row).2=0
 .rw[za (show ¬(((bS row).2 != 0)=true) by simp[h]),za (show ¬((bS row).2≠0) by simp[h])];have hc:=DF h;generalize (bS row).1=o at hc;unfold eo;by_cases k11:o.Kind=11
  .rw[zb (by simp[k11,xh]),zb k11];obtain⟨b1,b2⟩:=OQ hm hx hb;dsimp only;rw[YR hx.rt hx.sl hx.zr,a1b];dsimp only;rw[G4 (by omega) (by omega)];rfl
  .rw[za (by simp[k11,xh]),za k11];by_cases k12:o.Kind=12
   .rw[zb (by simp[k12,xh]),zb k12];rw[k12] at hc;obtain⟨a0,a2⟩:=OR hc;refine zbv (b:=(lF (hO x) (xM ps) o.A).bind λv3=>some (⟨v3.1,xM ps⟩,⟨v3.2.1,v3.2.2.2⟩)) rfl ?_;rw[To hx hm a0 (by omega) (by omega),a1b];rfl
   .rw[za (by simp[k12,xh]),za k12];refine zbv (b:=(E1 (hO x) (LS o)).bind λv3=>some (⟨v3.1,xM ps⟩,⟨v3.2.1,v3.2.2⟩)) rfl ?_;rw[(mN hx.rt hx.sl hx.zr (by omega) o).rf,a1b];rfl
 .rw[zb (by simpa using h),zb h];rfl
end
section
variable{ps:List (List k8)}(hm:Mp ps){x:Hp}(hx:Oh x)
include hm hx
theorem Im{rows:List (List Int)}{k:Nat}(hk:k<rows.length):ju ps x (rows.take (k+1))=((er ps (ju ps x (rows.take k)).1 rows[k]).1,(ju ps x (rows.take k)).2 ++ [(er ps (ju ps x (rows.take k)).1 rows[k]).2]):=by
 rw[zw hk,Po]
theorem a0x(rows:List (List Int))(hl:rows.length<=1000)(hb:x.S.Serial<6000000000000000000):il ⟨x,ps⟩ rows=some (⟨(ju ps x rows).1,ps⟩,(ju ps x rows).2.map YA):=by
 unfold il;simp only[jn];refine M7 rows.length (λk s=>s=((⟨(ju ps x (rows.take k)).1,ps⟩:p7),(ju ps x (rows.take k)).2.map YA)) (by omega) rfl (λk s hk hs=>.inl ⟨_,?_,rfl⟩) (λs hs=>⟨s,za (by simp),by rw[hs,zK]⟩);subst hs;obtain⟨o1,o2⟩:=Je hm hx (rows.take k) (by simp;omega);have hlen:=Lq ps x (rows.take k);have hkl:(rows.take k).length=k:=by simp;omega
 dsimp only;rw[zb (by simpa using hk),r8 hk,a1b,edo hm o1 (by rw[hkl] at o2;omega),a1b,B3 (by omega) (by simp[hlen];omega),a1b,l6,Im hm hx hk];simp
theorem a0S(rows:List (List Int))(hl:rows.length<=1000)(hb:x.S.Serial<6000000000000000000):xV ⟨hO x,xM ps⟩ rows=some (⟨hO (ju ps x rows).1,xM ps⟩,(ju ps x rows).2.map YB):=by
 unfold xV;simp only[jn];refine M7 rows.length (λk s=>s=((⟨hO (ju ps x (rows.take k)).1,xM ps⟩:z8),(ju ps x (rows.take k)).2.map YB)) (by omega) rfl (λk s hk hs=>.inl ⟨_,?_,rfl⟩) (λs hs=>⟨s,za (by simp),by rw[hs,zK]⟩);subst hs;obtain⟨o1,o2⟩:=Je hm hx (rows.take k) (by simp;omega);have hlen:=Lq ps x (rows.take k);have hkl:(rows.take k).length=k:=by simp;omega
 dsimp only;rw[zb (by simpa using hk),r8 hk,a1b,rdo hm o1 (by rw[hkl] at o2;omega),a1b,B3 (by omega) (by simp[hlen];omega),a1b,l6,Im hm hx hk];simp
end
def RP(x:Hp):A4:=⟨vn x.S.S.Cells 0,vn x.S.S.Cells 1,vn x.S.S.Cells 2,vn x.S.S.Cells 3⟩
theorem UT{s:a7}(hR:SR s):T7 s.S=some ⟨vn s.S.Cells 0,vn s.S.Cells 1,vn s.S.Cells 2,vn s.S.Cells 3⟩:=by
 unfold T7;simp only[jn];have hlen:=hR.len;refine M7 s.S.Cells.length (λk t=>t=⟨vn (s.S.Cells.take k) 0,vn (s.S.Cells.take k) 1,vn (s.S.Cells.take k) 2,vn (s.S.Cells.take k) 3⟩) (by omega) (by simp[vn]) (λk t hk ht=>.inl ?_) (λt ht=>⟨_,by simp;rfl,by rw[ht,zK]⟩);have hc:=hR.cell k hk;rw[F5 hk] at hc;subst ht;simp only[zo,hk,zt,zD,r8 hk,a1b];have hle:∀j,vn (s.S.Cells.take k) j<=24:=λj=>we za5 (by simp;omega);have h0:=hle 0;have h1:=hle 1;have h2:=hle 2;have h3:=hle 3;rw[zw hk];simp only[Gw];refine⟨_,?_,rfl⟩;have hst:s.S.Cells[k].State=0\/s.S.Cells[k].State=1\/s.S.Cells[k].State=2\/s.S.Cells[k].State=3:=by omega
 rcases hst with e | e | e | e <;> rw[e] <;> simp[A4.ix,A4.l,A4.st,ix] <;> rw[l6,l6] <;> simp
theorem Wm{n:Int}(h0:0<=n)(h3:n<=3):vi .i64 n 3=n:=by
 have:n=0\/n=1\/n=2\/n=3:=by omega
 rcases this with rfl | rfl | rfl | rfl <;> decide
theorem UU{s:a7}(hR:SR s):qd (pl (sO s))=some ⟨vn s.S.Cells 0,vn s.S.Cells 1,vn s.S.Cells 2,vn s.S.Cells 3⟩:=by
 have J7:(pl (sO s)).Cells.length=s.S.Cells.length:=by simp[pl,sO]
 unfold qd;simp only[jn];have hlen:=hR.len;refine M7 s.S.Cells.length (λk t=>t=⟨vn (s.S.Cells.take k) 0,vn (s.S.Cells.take k) 1,vn (s.S.Cells.take k) 2,vn (s.S.Cells.take k) 3⟩) (by omega) (by simp[vn]) (λk t hk ht=>.inl ?_) (λt ht=>⟨_,by simp[J7];rfl,by rw[ht,zK]⟩);have hc:=hR.cell k hk;rw[F5 hk] at hc;have hk':k<(pl (sO s)).Cells.length:=by rw[J7];exact hk
 have es:(pl (sO s)).Cells[k].State=s.S.Cells[k].State:=by simp[pl,sO,xJ,cO]
 subst ht;dsimp only;rw[zb (by rw[J7];simpa using hk),r8 hk',a1b,es,Wm hc.1 hc.2.1];have hle:∀j,vn (s.S.Cells.take k) j<=24:=λj=>we za5 (by simp;omega);have h0:=hle 0;have h1:=hle 1;have h2:=hle 2;have h3:=hle 3;rw[zw hk];simp only[Gw];refine⟨_,?_,rfl⟩;have hst:s.S.Cells[k].State=0\/s.S.Cells[k].State=1\/s.S.Cells[k].State=2\/s.S.Cells[k].State=3:=by omega
 rcases hst with e | e | e | e <;> rw[e] <;> simp[A4.ix,A4.l,A4.st,ix] <;> rw[l6,l6] <;> simp
section
variable{ps:List (List k8)}{x:Hp}(hx:P5 x)
include hx
theorem YY:dq ⟨x,ps⟩=some (RP x):=by
 unfold dq;dsimp only;rw[UT hx.sh.sr,a1b];rfl
theorem a0T:qv ⟨hO x,xM ps⟩=some (RP x):=by
 have hl:=hx.sh.sr.len;unfold qv;show (K6 (sO x.S)).bind _=_;rw[dF (sO x.S) (by simp[sO];omega),a1b,UU hx.sh.sr,a1b];rfl
theorem Pj:dm ⟨x,ps⟩=some (UO x):=by
 have hR:=hx.sh.sr;have l24:(lv x.S).length<=24:=H2 (x8.2 hR);unfold dm;simp only[jn];rw[dB (x8.2 hR),a1b];refine M7 (lv x.S).length (λk l=>l=((lv x.S).take k).map λh=>aV x h) (by omega) rfl (λk l hk hl=>.inl ⟨_,?_,rfl⟩) (λl hl=>⟨l,za (by simp),?_⟩)
 .subst hl;dsimp only;have:=I8 hR (zd hk);rw[zb (by simpa using hk),r8 hk,a1b,Rr hx.sh (by omega),a1b,B3 (by omega) (by simp;omega),a1b,l6,zw hk,zaa];rfl
 .subst hl;rw[zK];show (qz (UO x)).bind _=_;have:=My (x:=x) hR;unfold qz;rw[zb (by omega),Rw hR];rfl
theorem QZ:qt ⟨hO x,xM ps⟩=some (UO x):=by
 have hR:=hx.sh.sr;have l24:(lv x.S).length<=24:=H2 (x8.2 hR);unfold qt;show (T6 (sO x.S)).bind _=_;rw[km (x8.2 hR),a1b];simp only[jn];refine M7 (lv x.S).length (λk l=>l=((lv x.S).take k).map λh=>aV x h) (by omega) rfl (λk l hk hl=>.inl ⟨_,?_,rfl⟩) (λl hl=>⟨l,za (by simp),?_⟩)
 .subst hl;dsimp only;have:=I8 hR (zd hk);rw[zb (by simpa using hk),r8 hk,a1b,Rq hx.sh (by omega),a1b,B3 (by omega) (by simp;omega),a1b,l6,zw hk,zaa];rfl
 .subst hl;rw[zK];rfl
theorem Pn(hS:SL x):dp ⟨x,ps⟩=some (x.Q.L.isEmpty&&decide (bE x = [])):=by
 unfold dp;dsimp only;rw[DL,a1b,Wr hx hS];cases x.Q.L.isEmpty <;> rfl
theorem Ri(hS:SL x):qu ⟨hO x,xM ps⟩=some (x.Q.L.isEmpty&&decide (bE x = [])):=by
 unfold qu;dsimp only;rw[Lo,a1b,YP hx hS];cases x.Q.L.isEmpty <;> rfl
end
theorem Rs.oh{x:Hp}{n:Nat}(h:Rs x n):Oh x:=⟨h.rt,h.sl,h.zr⟩
theorem Bg{l:List (List k8)}(hl:l.length<=12)(hp:∀p∈l,p.length<=12):lT l=some (xM l):=by
 unfold lT;simp only[jn];refine M7 l.length (λk acc=>acc=(l.take k).map (List.map LS)) (by omega) (by simp) (λk acc hk hacc=>.inl ⟨_,?_,rfl⟩) (λacc hacc=>⟨_,za (by simp),by rw[hacc,zK]⟩);subst hacc;have hm:=hp _ (zd hk);dsimp only;rw[zb (by simpa using hk)];have e:=iB (b:=32) LS l[k] (by omega) (by omega);simp only[LS] at e;simp only[r8 hk,a1b];rw[e,a1b,B3 (by omega) (by simp;omega),a1b,l6,zw hk,zaa];rfl
theorem Yp(l:List (List k8)):∃b,uX l=some b/\(b=true->l.length<=10/\∀p∈l,p.length<=10):=by
 unfold uX;simp only[jn];refine DG (Q:=λb=>b=true->l.length<=10/\(∀p∈l,p.length<=10)) (min l.length 10) (λk=>∀h:k<l.length,(l[k]).length<=10) (by have:min l.length 10<=10:=Nat.min_le_right ..;omega) (λk hk=>?_) ?_ (λhP=>?_) (λhP=>?_)
 .have hkl:k<l.length:=by omega
  have hk10:k<10:=by omega
  have c:((decide (((k:Nat):Int)<(l.length:Int)))&&(decide (((k:Nat):Int)<10)))=true:=by simp;omega
  by_cases q:(l[k]).length<=10
  .refine⟨_,?_,.inl ⟨λ_=>q,rfl⟩⟩;rw[zb c,r8 hkl,a1b,za (by simp;omega),l6]
  .refine⟨_,?_,.inr ⟨λh=>q (h hkl),rfl⟩⟩;rw[zb c,r8 hkl,a1b,zb (by simp;omega)]
 .rw[za (by simp;omega)]
 .refine⟨_,rfl,λh=>?_⟩;have h10:l.length<=10:=by have:=zbl h;omega
  refine⟨h10,λp hp=>?_⟩;obtain⟨k,hk,rfl⟩:=q9 hp;exact hP k (by omega) hk
 .exact⟨false,rfl,λh=>by cases h⟩
theorem XZ{x:Hp}{n:Nat}(hx:Rs x n)(hn:n<=1000000){ps:List (List k8)}(hm:Mp ps){rows:List (List Int)}(hl:rows.length<=1000){r:z8 × List E9}(h:xV ⟨hO x,xM ps⟩ rows=some r) :
  il ⟨x,ps⟩ rows=some (⟨Vv r.1.X,ps⟩,r.2.map λa=>⟨a.V,a.E⟩)/\Rs (Vv r.1.X) (n+201*rows.length)/\(ju ps x rows).1=Vv r.1.X/\(ju ps x rows).2=r.2.map λa=>(a.V,a.E):=by
 have hs:=hx.aV;have e:=a0S hm hx.oh rows hl (by omega);rw[h] at e;have e:=zai e;obtain⟨o1,o2⟩:=Je hm hx.oh rows (by omega);have a1:(ju ps x rows).1=Vv r.1.X:=by rw[e,WQ]
 have a2:(ju ps x rows).2=r.2.map λa=>(a.V,a.E):=by
  rw[e,zb7];conv=>lhs;rw[<-List.map_id (ju ps x rows).2]
  exact zG λp _=>rfl
 refine⟨?_,⟨a1▸o1.rt,a1▸o1.sl,a1▸o1.zr,?_⟩,a1,a2⟩
 .rw[a0x hm hx.oh rows hl (by omega),a1,a2,zb7];congr 1
 .have:(Vv r.1.X).S.Serial<=x.S.Serial+201*(rows.length:Int):=a1▸o2;show (Vv r.1.X).S.Serial<=((n+201*rows.length:Nat):Int);omega
def Rh:List (List Int):=[[1,0,1,(-1)],[5,0,0,0],[3,0,0,0],[11,0,0,0],[11,0,0,0],[12,9,0,0],[2,0],[4,0,1,0]]
def a0R:z8 × List E9:=(xV ⟨hO (Bl 4 5 8),[]⟩ Rh).getD (⟨hO a0D,[]⟩,[])
theorem Xk:Mp []:=λ_ h=>by cases h
theorem UK:lU=some true:=by
 obtain⟨a1,a2⟩:=Ya (k:=4) (p:=8) (l:=5) (by decide) (by decide) (by decide);obtain⟨b1,b2,_,_⟩:=XZ a2 (by decide) Xk (rows:=Rh) (by decide) (r:=a0R) (by kernel_rfl);unfold lU;refine FZ (a:=((⟨Bl 4 5 8,[]⟩:p7),(0:Int))) (by unfold ij;refine FZ (a:=true) (by kernel_rfl) ?_;refine FZ a1 ?_;kernel_rfl) ?_;refine FZ b1 ?_;dsimp only;rw[Pj b2.rt,YY b2.rt,Pn b2.rt b2.sl,<-QZ (ps:=[]) b2.rt,<-Ri (ps:=[]) b2.rt b2.sl];kernel_rfl
theorem Xf{x:Hp}(hx:jX x){ps:List (List k8)}(hl:ps.length<=12)(hp:∀p∈ps,p.length<=12):pF ⟨x,ps⟩=some ⟨hO x,xM ps⟩:=by
 unfold pF;dsimp only;first
 | rw[xE hx,a1b,Bg hl hp,a1b]
 | rw[Bg hl hp,a1b,xE hx,a1b]
theorem engineDoes{x:Hp}{l:List (List k8)}{row:List Int}(hB:HB x):iW x l row=some true:=by
 unfold iW;obtain⟨b,h1,h2⟩:=UN hB;rw[h1,a1b,UK];cases b;·rfl
 .obtain⟨hx,hb⟩:=h2 rfl;obtain⟨c,h3,h4⟩:=Yp l;have q:∀ {α:Type} (d:α) (z:Option α),u5 ((!true)==false) d z=z:=λ_ _=>rfl;rw[q,xE hx.sh,a1b,q,NU hx.sh.sr,a1b,h3];by_cases hz:zr x = []
  .rw[zp hz];have q2:∀ {α:Type} (d:α) (z:Option α),u5 (((!true)||(!true))==false) d z=z:=λ_ _=>rfl;rw[q2,a1b];cases c;·rfl
   .obtain⟨hl,hp⟩:=h4 rfl;have hp12:∀p∈l,p.length<=12:=λp q=>by have:=hp p q;omega
    have q3:∀ {α:Type} (d:α) (z:Option α),u5 ((((!true)||(!true))||(!true))==false) d z=z:=λ_ _=>rfl;rw[q3,Bg (by omega) hp12,a1b,q3];have e2:gS (xM l)=some (vK l):=JN (by omega) hp12;rw[e2,a1b];cases hq:vK l;·rfl
    .have hm:=(Zn hq).1;cases hd:decide ((row.length:Int) > 10)
     .simp only[zbq,Bool.or_self,zF,J9,a1b,zg,zU];have ho:Oh x:=⟨hx,SB.sl hx.sh.sr hB.sb,hz⟩;obtain⟨o1,o2⟩:=Vr hm ho (by omega) row;rw[edo hm ho (by omega) row,a1b,Xf hx.sh (by omega) hp12,a1b,rdo hm ho (by omega) row,a1b];dsimp only;rw[YZ o1.rt.sh,a1b,zF,J9,xE o1.rt.sh,a1b,J9,Yc o1.rt.sh,a1b];have ea:((true&&true)&&(((YA (er l x row).2).V==(YB (er l x row).2).V)&&(((YA (er l x row).2).E==(YB (er l x row).2).E)&&true)))=true:=by simp[YA,YB]
      rw[ea,zF,J9,YY hx,a1b,J9,a0T hx,a1b];have et:(true&&(((RP x).a==(RP x).a)&&(((RP x).b==(RP x).b)&&(((RP x).c==(RP x).c)&&(((RP x).d==(RP x).d)&&true)))))=true:=by simp
      have hsl:=My (x:=x) hx.sh.sr;rw[et,zF,J9,Pj hx,a1b,J9,QZ hx,a1b,J9,yU (by omega),a1b];simp only[Bool.and_self,zF,J9];rw[Pn hx ho.sl,a1b,Ri hx ho.sl,a1b];simp
     .rfl
  .rw[zA hz];rfl
end Go.Sh
