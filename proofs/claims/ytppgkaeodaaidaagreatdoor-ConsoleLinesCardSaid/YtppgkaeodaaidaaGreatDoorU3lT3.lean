/- A part. -/
import Derived.Test.YtppgkaeodaaidaaGreatDoorU3lT2
set_option linter.unusedVariables false
set_option linter.unusedSimpArgs false
set_option linter.unusedSectionVars false
namespace Go.Sh
abbrev Jk(o:l6):u7:=⟨o.Kind,o.A,o.B,o.C⟩
structure Dn (x:Hp) (o:l6) (z:Hp) (v:Int):Prop where
 rt:R9 z
 sl:SL z
 ev:Ev x z
 cw:Cw x z (if o.Kind=6 then o.A else -1)
 mc:A8 x o=some (eM z,v,0)
 rf:F6 (hO x) (Jk o)=some (hO (eM z),v,0)
def Er(x:Hp)(o:l6)(e:Int):Prop:=e≠0/\A8 x o=some (x,0,e)/\F6 (hO x) (Jk o)=some (hO x,0,e)
theorem a2V{x:Hp}(hx:R9 x)(hS:SL x){i:Nat}(hi:i<x.S.S.a8.length)(h0:(ce x.S i).State=0){n:Nat}(hn:n<=4){p:Int}(hp : -1<=p/\p<=5):SL (wS x (gR x.S i n p)):=λk hk=>by
 have g:=hx.sh.sr;have e:k∈lv (gR x.S i n p):=hk;show (ob (gR x.S i n p) k).Strong<=_;rw[NY g hi h0 hn hp] at e;rcases zC.1 e with q | q
 .rw[Ey g hi h0 hn hp q];exact hS k q
 .rw[zR.1 q,xt g hi h0 hn hp];show (0:Int)<=_;decide
theorem sw{y:Hp}(hy:R9 y){a:Int}(ha:0<=a/\a<=5){h:Int}(hh:h=0\/h∈lv y.S):sd (eM (K1 y a.toNat h)) a=h/\V3 (eM (K1 y a.toNat h)) h=V3 y h:=by
 have hz:=cd hy (r:=a.toNat) Δ hh;have st:=re hz;have w:=gH hz;have j:(eM (K1 y a.toNat h)).Roots=y.Roots.set a.toNat h:=st.rt.trans (kp y a.toNat h).1;have m:=hy.sh.r6;have e:sd (eM (K1 y a.toNat h)) a=h:=by
  unfold sd;rw[za Δ,j,zg,zaa Δ];rfl
 refine⟨e,?_⟩;have k:=dz hy.sh.sr a.toNat h;rcases tE w.sh a with q | q
 .rw[e] at q;subst q;rw[Kg w.sh,Kg hy.sh]
 .rw[e] at q;have h1:=(st.ob h q).1;have g:=st.lv h q;rw[k.lv] at g;exact h1.trans (k.ob h g)
section
variable{x:Hp}{a b c:Int}
theorem pK{o:l6}{y:Hp}{e:Int}(he:e≠0):Ds x o (y,e)=some (x,0,e):=by
 unfold Ds;rw[zc (Ω he)]
theorem YQ{z:Hp}(hz:R9 z)(hS:SL z){k:Int}(hk:k≠5/\k≠6/\k≠8/\k≠10):Ds x ⟨k,a,b,c⟩ (z,0)=some (eM z,V3 (eM z) (sd (eM z) a),0):=by
 unfold Ds ar;rw[za Ψ,jE hz hS,a4L];simp only[jn];rw[za Ξ,za Ξ];have:(k==8)=false:=by simp;omega
 rw[this,za Ψ,za Ξ,Im (gH hz).sh];rfl
theorem MK{o:l6}{v e:Int}(he:e≠0):E5 ⟨x,o⟩ v e=some (x,e):=by
 unfold E5;rw[zc (Ω he)]
theorem Ug{y:e6}{v e:Int}(he:e≠0):rT y a (v,e)=some (y,0,e):=by
 unfold rT;rw[zc (Ω he)]
theorem Qs{y z:e6}{v e:Int}(he:e≠0):rO y (z,v,e)=some (y,0,e):=by
 unfold rO;rw[zc (Ω he)]
variable(hx:R9 x)(hS:SL x)
include hx hS
theorem sC{k:Int}(ha:0<=a/\a<=5){h:Int}(hh:h=0\/h∈lv x.S):E5 ⟨x,⟨k,a,b,c⟩⟩ h 0=some (K1 x a.toNat h,0):=by
 unfold E5;rw[za Ψ,OF hx hS a (vm hx hS hh),za Δ,zc hh];rfl
theorem a3m(ha:0<=a/\a<=5){h:Int}(hh:h=0\/h∈lv x.S):rT (hO x) a (h,0)=some (hO (eM (K1 x a.toNat h)),V3 x h,0):=by
 have hz:=cd hx (r:=a.toNat) Δ hh;have zS:=kq hx.sh.sr hS a.toNat h;obtain⟨e,g⟩:=sw hx ha hh;unfold rT;rw[za Ψ,Mv hx hS a (vm hx hS hh),za Δ,zc hh,a4L,ny hz zS,a4L,a0e (gH hz).sh,e,g];rfl
theorem nE{k:Int}(hk:k=2\/k=3\/k=4\/k=7\/k=9)(hc:D5 k a b c=0)(ha:0<=a/\a<=5){h:Int}(hh:h=0\/h∈lv x.S)
  (h1:A8 x ⟨k,a,b,c⟩=Ds x ⟨k,a,b,c⟩ (K1 x a.toNat h,0))(j:eG (hO x) ⟨k,a,b,c⟩=some (h,0)):Dn x ⟨k,a,b,c⟩ (K1 x a.toNat h) (V3 x h):=by
 have hz:=cd hx (r:=a.toNat) Δ hh;have zS:=kq hx.sh.sr hS a.toNat h;obtain⟨e,g⟩:=sw hx ha hh;refine⟨hz,zS,(dz hx.sh.sr a.toNat h).ev,Cw.same (kp x a.toNat h).2.1 _,?_,?_⟩;·rw[h1,YQ hz zS Δ,e,g]
 .show F6 (hO x) ⟨k,a,b,c⟩=_;rw[Oz hk hc,j,a4L,a3m hx hS ha hh]
theorem d2(hc:D5 2 a b c=0):Dn x ⟨2,a,b,c⟩ (K1 x a.toNat (sd x b)) (V3 x (sd x b)):=by
 obtain⟨ha,hb⟩:=a0k hc;refine nE hx hS (.inl rfl) hc ha (tE hx.sh b) ?_ ?_
 .rw[a3Z hc];unfold M4;rw[pv hx.sh,a4L,sC hx hS ha (tE hx.sh b)];rfl
 .unfold eG;rw[zc Ωm,show (hO x).Roots=x.Roots from rfl,yH hx.sh hb];rfl
theorem d3(hc:D5 3 a b c=0):Dn x ⟨3,a,b,c⟩ (K1 x a.toNat 0) 0:=by
 have ha:=a3P hc;have:=nE (b:=b) (c:=c) hx hS (.inr (.inl rfl)) hc ha (h:=0) (.inl rfl) ?_ ?_;·rwa [Kg hx.sh] at this
 .rw[a30 hc];unfold bH;rw[sC hx hS ha (.inl rfl)];rfl
 .rfl
theorem d4(hc:D5 4 a b c=0):(sd x b=0/\Er x ⟨4,a,b,c⟩ 2)\/(∃e,Y2 x.S (sd x b) c=some (0,e)/\Er x ⟨4,a,b,c⟩ e) \/
  (sd x b∈lv x.S/\∃n:Nat,c=n/\∃hn:n<(ob x.S (sd x b)).Fields.length,Dn x ⟨4,a,b,c⟩ (K1 x a.toNat (ob x.S (sd x b)).Fields[n]) (V3 x (ob x.S (sd x b)).Fields[n])):=by
 obtain⟨ha,hb,_⟩:=a3Q hc;have hm:A8 x ⟨4,a,b,c⟩=_:=a34 hc;unfold bI at hm;rw[mL hx.sh,a4L] at hm;have hr:F6 (hO x) ⟨4,a,b,c⟩=_:=Oz Δ hc;have g:eG (hO x) ⟨4,a,b,c⟩=(ay (hO x) b).bind λv2=>if (v2.2 != 0) then some (0,v2.2) else (gy (hO x).S v2.1 c).bind λv3=>some (v3.1,v3.2):=rfl
 rw[uE hx.sh hb,a4L] at g;by_cases h0:sd x b=0
 .refine .inl ⟨h0,Θ,?_,?_⟩
  .rw[hm];unfold Av;rw[zc h0,zc Ψ,a4L,pK Θ]
  .show F6 (hO x) ⟨4,a,b,c⟩=_;rw[hr,g];unfold Av;rw[zc h0,zc Ψ,a4L,Ug Θ]
 .have has:Av x b=(sd x b,0):=by unfold Av;rw[za h0]
  rw[has,za Ψ] at hm g;right;rcases yk hx hS (sd x b) c (yI hx.sh b) with ⟨e,he,f1,f2⟩ | ⟨hl,n,j,hn,f1,f2⟩
  .refine .inl ⟨e,f1,he,?_,?_⟩
   .rw[hm];dsimp only;rw[f1,a4L,MK he,a4L,a4L,pK he]
   .show F6 (hO x) ⟨4,a,b,c⟩=_;rw[hr,g];dsimp only;rw[show (hO x).S=sO x.S from rfl,f2,a4L,a4L,Ug he]
  .refine .inr ⟨hl,n,j,hn,?_⟩;have hv:=hx.sh.fl _ hl _ (zk hn);refine nE hx hS Δ hc ha hv ?_ ?_
   .rw[hm];dsimp only;rw[f1,a4L,sC hx hS ha hv];rfl
   .rw[g];dsimp only;rw[show (hO x).S=sO x.S from rfl,f2];rfl
theorem Xk{n:Nat}(hn:n<6):∃h:n<x.a8.length,nJ x.a8 n=some (if x.a8[n].Target=0\/x.a8[n].Intact=false then (0,9) else (x.a8[n].Target,0))/\qK (hO x).a8 n=some (if x.a8[n].Target=0\/x.a8[n].Intact=false then (0,9) else (x.a8[n].Target,0)):=by
 have c6:=hx.sh.c6;have hl:n<x.a8.length:=Δ
 have e:n<(x.a8.map uw).length:=by simp;exact hl
 refine⟨hl,?_,?_⟩
 .unfold nJ nK;have:(decide ((n:Int)>=0)&&decide ((n:Int)<(x.a8.length:Int)))=true:=by simp;omega
  rw[this,a4L,za Ψ,x8 hl,a4L];by_cases q:x.a8[n].Target=0\/x.a8[n].Intact=false
  .rw[zc q,zc (by rcases q with q | q <;> simp[q])]
  .rw[za q,za (Ω q)]
 .unfold qK;show (if _ then _ else (ix (x.a8.map uw) (n:Int)).bind _)=_;rw[za (by simp[hO];omega),x8 e,a4L,rx];by_cases q:x.a8[n].Target=0\/x.a8[n].Intact=false
  .rw[zc q,zc (by rcases q with q | q <;> simp[uw,q])]
  .rw[za q,za (by simpa[uw] using q)];rfl
theorem d7(hc:D5 7 a b c=0):∃h:b.toNat<x.a8.length,((x.a8[b.toNat].Intact=false/\Er x ⟨7,a,b,c⟩ 9) \/
  (x.a8[b.toNat].Intact=true/\Dn x ⟨7,a,b,c⟩ (K1 x a.toNat x.a8[b.toNat].Target) (V3 x x.a8[b.toNat].Target))):=by
 obtain⟨ha,hb⟩:=a3T hc;obtain⟨n,rfl⟩:∃n:Nat,b=n:=⟨b.toNat,Δ⟩;obtain⟨hl,l1,u⟩:=Xk hx hS (n:=n) Δ;rw[zO];refine⟨hl,?_⟩;have hm:A8 x ⟨7,a,n,c⟩=_:=a4b hc;unfold aU at hm;rw[show nJ (y5.mk x ⟨7,a,n,c⟩).x.a8 (y5.mk x ⟨7,a,n,c⟩).o.B=_ from l1,a4L] at hm;have hr:F6 (hO x) ⟨7,a,n,c⟩=_:=Oz Δ hc;have g:eG (hO x) ⟨7,a,n,c⟩=(qK (hO x).a8 n).bind λq=>some (q.1,q.2):=rfl;rw[u,a4L] at g;have cl:=hx.sh.cl n hl;cases j:x.a8[n].Intact
 .left;rw[zc (.inr j)] at hm g;refine⟨rfl,Θ,?_,?_⟩
  .rw[hm];dsimp only;rw[MK Θ,a4L,a4L];exact pK (e:=9) Θ
  .show F6 (hO x) ⟨7,a,n,c⟩=_;rw[hr,g,a4L,Ug Θ]
 .right;have ht:=(cl.2.2.2.2 j).1;have m:x.a8[n].Target≠0:=λe=>sM hx.sh.sr (e▸ht);rw[za (by simp[m,j])] at hm g;refine⟨rfl,nE hx hS Δ hc ha (.inr ht) ?_ g⟩;rw[hm];dsimp only;rw[sC hx hS ha (.inr ht)];rfl
theorem d9(hc:D5 9 a b c=0):(sd x b=0/\Er x ⟨9,a,b,c⟩ 2)\/(sd x b∈lv x.S/\(∀v,¬Has x.T (sd x b) v)/\Er x ⟨9,a,b,c⟩ 9) \/
  (sd x b∈lv x.S/\∃v,Has x.T (sd x b) v/\Dn x ⟨9,a,b,c⟩ (K1 x a.toNat v) (V3 x v)):=by
 obtain⟨ha,hb⟩:=a3V hc;have hT:=hx.sh.hr;have hm:A8 x ⟨9,a,b,c⟩=_:=a4d hc;unfold cG at hm;rw[mL hx.sh,a4L] at hm;have hr:F6 (hO x) ⟨9,a,b,c⟩=_:=Oz Δ hc;have g:eG (hO x) ⟨9,a,b,c⟩=(ay (hO x) b).bind λv2=>if (v2.2 != 0) then some (0,v2.2) else (vO (hO x).T v2.1).bind λv3=>some (v3.1,v3.2):=rfl
 rw[uE hx.sh hb,a4L] at g;by_cases h0:sd x b=0
 .refine .inl ⟨h0,Θ,?_,?_⟩
  .rw[hm];unfold Av;rw[zc h0,zc Ψ,a4L,pK Θ]
  .show F6 (hO x) ⟨9,a,b,c⟩=_;rw[hr,g];unfold Av;rw[zc h0,zc Ψ,a4L,Ug Θ]
 .have has:Av x b=(sd x b,0):=by unfold Av;rw[za h0]
  have hl:=(tE hx.sh b).resolve_left h0;rw[has,za Ψ] at hm g;dsimp only at hm g;have m:vO (hO x).T (sd x b)=(Q5 x.T (sd x b)).bind λv=>some (v.1,v.2):=by
   unfold vO;rw[show (hO x).T=x.T.map O2 from rfl,Um hT]
  unfold xc at hm;rw[m] at g;right;by_cases hv:∃v,Has x.T (sd x b) v
  .obtain⟨v,hv⟩:=hv;rw[NI hT hv] at hm g;refine .inr ⟨hl,v,hv,nE hx hS Δ hc ha (.inr (hx.sh.pr _ _ hv).2) ?_ g⟩;rw[hm,a4L,a4L];dsimp only;rw[sC hx hS ha (.inr (hx.sh.pr _ _ hv).2)];rfl
  .have j:∀v,¬Has x.T (sd x b) v:=λv q=>hv ⟨v,q⟩;rw[PT hT j] at hm g;refine .inl ⟨hl,j,Θ,?_,?_⟩
   .rw[hm,a4L,a4L];dsimp only;rw[MK Θ,a4L,a4L];exact pK (e:=9) Θ
   .show F6 (hO x) ⟨9,a,b,c⟩=_;rw[hr,g,a4L,a4L,a4L];exact Ug (e:=9) Θ
end
section
variable{x:Hp}{a b c:Int}
theorem a2x{z:Hp}(hz:R9 z)(hS:SL z){k:Int}{r:Int}(hk:k=5/\r=c\/(k=6\/k=8)/\r=b):Ds x ⟨k,a,b,c⟩ (z,0)=some (eM z,V3 z (sd z r),0):=by
 unfold Ds ar;rw[za Ψ,jE hz hS,a4L];simp only[jn];rcases hk with ⟨rfl,rfl⟩ | ⟨rfl | rfl,rfl⟩
 .rw[zc Ωm,Im hz.sh];rfl
 .rw[za Θ,zc Ωm,zc Ωm,Im hz.sh];rfl
 .rw[za Θ,za Θ,zc Ωm,Im hz.sh];rfl
variable(hx:R9 x)(hS:SL x)
include hx hS
theorem a3l{z:Hp}(hz:R9 z)(zS:SL z){h:Int}(hh:h=0\/h∈lv x.S):rO (hO x) (hO z,h,0)=some (hO (eM z),V3 x h,0):=by
 unfold rO;rw[za Ψ,ny hz zS,a4L,UF hx.sh (vm hx hS hh)];rfl
theorem uc{z:Hp}(hz:R9 z)(zS:SL z)(k:Ks x.S z.S)(er:z.Roots=x.Roots){kd r:Int}(hk:kd=5/\r=c\/(kd=6\/kd=8)/\r=b)(hc:D5 kd a b c=0)(cw:Cw x z (if kd=6 then a else -1))
  (h1:A8 x ⟨kd,a,b,c⟩=Ds x ⟨kd,a,b,c⟩ (z,0))(e:cK (hO x) ⟨kd,a,b,c⟩=some (hO z,sd x r,0)):Dn x ⟨kd,a,b,c⟩ z (V3 x (sd x r)):=by
 refine⟨hz,zS,k.ev,cw,?_,?_⟩;·rw[h1,a2x hz zS hk,Yj er,a1N hx.sh k (tE hx.sh r)]
 .show F6 (hO x) ⟨kd,a,b,c⟩=_;rw[Oy Δ hc,e,a4L,a3l hx hS hz zS (tE hx.sh r)]
theorem d5(hc:D5 5 a b c=0):(sd x a=0/\Er x ⟨5,a,b,c⟩ 2)\/(∃e,bQ x (sd x a) b (sd x c)=some (x,e)/\Er x ⟨5,a,b,c⟩ e) \/
  (sd x a∈lv x.S/\∃n:Nat,b=n/\n<(ob x.S (sd x a)).Fields.length/\Dn x ⟨5,a,b,c⟩ (dQ x (sd x a) n (sd x c)) (V3 x (sd x c))):=by
 obtain⟨ha,hb,u⟩:=a3R hc;have hm:A8 x ⟨5,a,b,c⟩=_:=a38 hc;unfold aJ at hm;rw[mL hx.sh,a4L] at hm;have hr:F6 (hO x) ⟨5,a,b,c⟩=_:=Oy Δ hc;have g:cK (hO x) ⟨5,a,b,c⟩=(ay (hO x) a).bind λm=>if (m.2 != 0) then some (hO x,0,m.2) else (kg (hO x) c).bind λo=>(jC (hO x) m.1 b o).bind λq=>some (q.1,o,q.2):=rfl
 rw[uE hx.sh ha,a4L,UC hx.sh Δ] at g;by_cases h0:sd x a=0
 .have has:Av x a=(0,2):=by unfold Av;rw[zc h0]
  rw[has,zc Ψ] at hm g;refine .inl ⟨h0,Θ,?_,?_⟩
  .rw[hm,a4L];exact pK (e:=2) Θ
  .show F6 (hO x) ⟨5,a,b,c⟩=_;rw[hr,g,a4L];exact Qs (e:=2) Θ
 .have has:Av x a=(sd x a,0):=by unfold Av;rw[za h0]
  rw[has,za Ψ] at hm g;dsimp only at hm g;rw[pv hx.sh,a4L] at hm;rw[a4L] at g;right;rcases Sf hx hS (sd x a) b (sd x c) (yI hx.sh a) (yI hx.sh c) with ⟨e,he,f1,f2⟩ | ⟨hl,hv,n,j,hn,f1,f2⟩
  .refine .inl ⟨e,f1,he,?_,?_⟩;·rw[hm,f1,a4L,a4L,pK he]
   .show F6 (hO x) ⟨5,a,b,c⟩=_;rw[hr,g,f2,a4L,a4L,Qs he]
  .refine .inr ⟨hl,n,j,hn,uc hx hS (FY hx hl hn hv) (PL hx.sh.sr hS hl _ _) (Ea hx.sh.sr hl hn _) (qs _ _ _ _).1 (.inl ⟨rfl,rfl⟩) hc (Cw.same (qs _ _ _ _).2.1 _) ?_ ?_⟩
   .rw[hm,f1];rfl
   .rw[g,f2];rfl
theorem d6(hc:D5 6 a b c=0):(sd x b=0/\Er x ⟨6,a,b,c⟩ 2)\/(∃e,ak x a (sd x b) c=some (x,e)/\Er x ⟨6,a,b,c⟩ e) \/
  (QQ x.Q a=false/\Dn x ⟨6,a,b,c⟩ (gg x a.toNat (sd x b) c) (V3 x (sd x b))):=by
 obtain⟨ha,hb,j⟩:=a3S hc;have hm:A8 x ⟨6,a,b,c⟩=_:=a4a hc;unfold Z7 at hm;have hr:F6 (hO x) ⟨6,a,b,c⟩=_:=Oy Δ hc;have key:(A8 x ⟨6,a,b,c⟩=(((ak x a (sd x b) c).bind λm=>some (m.1,m.2)).bind (Ds x ⟨6,a,b,c⟩))/\cK (hO x) ⟨6,a,b,c⟩=(fF (hO x) a (sd x b) c).bind λm=>some (m.1,sd x b,m.2))\/(sd x b=0/\Er x ⟨6,a,b,c⟩ 2):=by
  by_cases h1:b = -1
  .subst h1;left;rw[CK hx.sh (r:=-1) Δ];refine⟨?_,rfl⟩;rw[hm,zc Ωm]
  .rw[za (Ω h1),mL hx.sh,a4L] at hm;have g:cK (hO x) ⟨6,a,b,c⟩=(ay (hO x) b).bind λo=>if (o.2 != 0) then some (hO x,0,o.2) else (fF (hO x) a o.1 c).bind λq=>some (q.1,o.1,q.2):=by
    unfold cK;rw[za Ξ];rfl
   rw[uE hx.sh Δ,a4L] at g;by_cases h0:sd x b=0
   .have has:Av x b=(0,2):=by unfold Av;rw[zc h0]
    rw[has,zc Ψ] at hm g;refine .inr ⟨h0,Θ,?_,?_⟩
    .rw[hm,a4L];exact pK (e:=2) Θ
    .show F6 (hO x) ⟨6,a,b,c⟩=_;rw[hr,g,a4L];exact Qs (e:=2) Θ
   .have has:Av x b=(sd x b,0):=by unfold Av;rw[za h0]
    rw[has,za Ψ] at hm g;exact .inl ⟨hm,g⟩
 rcases key with ⟨hm,g⟩ | key
 .right;rcases YD hx a (sd x b) c (yI hx.sh b) j with ⟨e,he,f1,f2⟩ | ⟨hh,n,rfl,hn,hw,f1,f2⟩
  .refine .inl ⟨e,f1,he,?_,?_⟩;·rw[hm,f1,a4L,a4L,pK he]
   .show F6 (hO x) ⟨6,a,b,c⟩=_;rw[hr,g,f2,a4L,a4L,Qs he]
  .rw[zO];obtain⟨u,v,_,_⟩:=Da x n (sd x b) c;refine .inr ⟨hw,uc hx hS (KF hx hn hh j hw) (Ve hx hS hn _ _) (KE hx hn _ _) u (.inr ⟨.inl rfl,rfl⟩) hc (by rw[zc rfl];exact Cw.set v) ?_ ?_⟩
   .rw[hm,f1];rfl
   .rw[g,f2];rfl
 .exact .inl key
theorem d8(hc:D5 8 a b c=0):(sd x a=0/\Er x ⟨8,a,b,c⟩ 2)\/(sd x a∈lv x.S/\∃e,eC x (sd x a) (sd x b)=some (x,e)/\Er x ⟨8,a,b,c⟩ e) \/
  (sd x a∈lv x.S/\∃r,V0 x.T (sd x a) (sd x b)=some r/\r.2.2=0/\Dn x ⟨8,a,b,c⟩ (mN x (sd x b) r.1 r.2.1) (V3 x (sd x b))):=by
 obtain⟨ha,hb⟩:=a3U hc;have hm:A8 x ⟨8,a,b,c⟩=_:=a4c hc;unfold bJ at hm;rw[mL hx.sh,a4L] at hm;have hr:F6 (hO x) ⟨8,a,b,c⟩=_:=Oy Δ hc;have g:cK (hO x) ⟨8,a,b,c⟩=(ay (hO x) a).bind λj=>if (j.2 != 0) then some (hO x,0,j.2) else (kg (hO x) b).bind λq=>(mZ (hO x) j.1 q).bind λu=>some (u.1,q,u.2):=rfl
 rw[uE hx.sh ha,a4L,UC hx.sh Δ] at g;by_cases h0:sd x a=0
 .have has:Av x a=(0,2):=by unfold Av;rw[zc h0]
  rw[has,zc Ψ] at hm g;refine .inl ⟨h0,Θ,?_,?_⟩
  .rw[hm,a4L];exact pK (e:=2) Θ
  .show F6 (hO x) ⟨8,a,b,c⟩=_;rw[hr,g,a4L];exact Qs (e:=2) Θ
 .have has:Av x a=(sd x a,0):=by unfold Av;rw[za h0]
  have hl:=(tE hx.sh a).resolve_left h0;rw[has,za Ψ] at hm g;dsimp only at hm g;rw[pv hx.sh,a4L] at hm;rw[a4L] at g;right;rcases XM hx hS (sd x a) (sd x b) (yI hx.sh a) (yI hx.sh b) with ⟨e,he,f1,f2⟩ | ⟨hl,hv,r,m,o,f1,f2⟩
  .refine .inl ⟨hl,e,f1,he,?_,?_⟩;·rw[hm,f1,a4L,a4L,pK he]
   .show F6 (hO x) ⟨8,a,b,c⟩=_;rw[hr,g,f2,a4L,a4L,Qs he]
  .refine .inr ⟨hl,r,m,o,uc hx hS (Jo hx hl hv m o) (TV hx.sh.sr hS _ _ _) (Jn hx.sh.sr _ _ _) (ud _ _ _ _).1 (.inr ⟨.inr rfl,rfl⟩) hc (Cw.same (ud _ _ _ _).2.1 _) ?_ ?_⟩
   .rw[hm,f1];rfl
   .rw[g,f2];rfl
theorem d10(hz:zr x = [])(hc:D5 10 a b c=0):Dn x ⟨10,a,b,c⟩ x (if sd x a=sd x b then 1 else 0):=by
 obtain⟨ha,hb⟩:=a2t hc;refine⟨hx,hS,Ev.refl x,Cw.refl x _,?_,?_⟩
 .rw[a2y hc];unfold V8 Ds ar;rw[a4L,za Ψ,jE hx hS,a4L];simp only[jn];rw[za Θ,za Θ,za Θ,zc Ωm,pv hx.sh,a4L,pv hx.sh,a4L];by_cases q:sd x a=sd x b
  .rw[zc (Ω q),zc q];rfl
  .rw[za (Ω q),za q];rfl
 .show F6 (hO x) ⟨10,a,b,c⟩=_;rw[a1E hc,show (hO x).Roots=x.Roots from rfl,yH hx.sh ha,a4L,yH hx.sh hb,a4L,Kl hz];by_cases q:sd x a=sd x b
  .rw[zc (Ω q),zc q]
  .rw[za (Ω q),za q]
theorem d1(hb:x.S.Serial<9223372036854775807)(hc:D5 1 a b c=0):(∃e,T6 x.S b c=some (x.S,0,e)/\Er x ⟨1,a,b,c⟩ e) \/
  (b.toNat<=4/\(-1<=c/\c<=5)/\∃i,Fst x.S i/\Dn x ⟨1,a,b,c⟩ (K1 (wS x (gR x.S i b.toNat c)) a.toNat (cX x.S i)) (x.S.Serial+1)):=by
 obtain⟨ha,u,g⟩:=a3O hc;have j:=hx.sh.sr;have hm:A8 x ⟨1,a,b,c⟩=_:=a3Y hc;unfold Z6 at hm;dsimp only at hm;have hr:F6 (hO x) ⟨1,a,b,c⟩=_:=a3o hc;rw[show (hO x).S=sO x.S from rfl] at hr;rcases a2R j hb b c with ⟨e,he,f1,f2⟩ | ⟨_,_,i,hF,f1,f2⟩
 .refine .inl ⟨e,f1,he,?_,?_⟩;·rw[hm,f1,a4L,zc (Ω he),a4L,pK he]
  .show F6 (hO x) ⟨1,a,b,c⟩=_;rw[hr,f2,a4L,zc (Ω he)]
 .refine .inr ⟨Δ,g,i,hF,?_⟩;obtain⟨hi,h0,_⟩:=hF;have hn:b.toNat<=4:=by omega
  have hy:=Ts hx hi h0 hn g;have yS:=a2V hx hS hi h0 hn g;have hh:cX x.S i=0\/cX x.S i∈lv (wS x (gR x.S i b.toNat c)).S:=.inr (by
   show _∈lv (gR x.S i b.toNat c);rw[NY j hi h0 hn g];exact za0 _ (zR.2 rfl))
  have hz:=cd hy (r:=a.toNat) Δ hh;have zS:=kq hy.sh.sr yS a.toNat (cX x.S i);obtain⟨m,o⟩:=sw hy ha hh;have q:V3 (wS x (gR x.S i b.toNat c)) (cX x.S i)=x.S.Serial+1:=by
   show (ob (gR x.S i b.toNat c) (cX x.S i)).Serial=_;rw[xt j hi h0 hn g]
  refine⟨hz,zS,(a2U hx hi h0 hn g).ks (dz hy.sh.sr a.toNat _),Cw.same (kp (wS x (gR x.S i b.toNat c)) a.toNat _).2.1 _,?_,?_⟩
  .rw[hm,f1,a4L,za Ψ];dsimp only;rw[show E5 ⟨⟨gR x.S i b.toNat c,x.Roots,x.a8,x.T,x.Q⟩,⟨1,a,b,c⟩⟩ (cX x.S i) 0=_ from sC hy yS ha hh,a4L,a4L,YQ hz zS Δ,m,o,q]
  .show F6 (hO x) ⟨1,a,b,c⟩=_;rw[hr,f2,a4L,za Ψ];dsimp only;rw[show ax ⟨sO (gR x.S i b.toNat c),(hO x).Roots,(hO x).a8,(hO x).T,(hO x).Q⟩ a (cX x.S i)=_ from Mv hy yS a (vm hy yS hh),za Δ,zc hh,a4L,ny hz zS,a4L,a0e (gH hz).sh,m,o,q];rfl
end
theorem a0p{x:Hp}(hx:R9 x)(hS:SL x)(hz:zr x = [])(hb:x.S.Serial<9223372036854775807)(o:l6):(∃e,Er x o e)\/∃z v,Dn x o z v:=by
 obtain⟨k,a,b,c⟩:=o;by_cases hc:D5 k a b c=0
 .have:=Gu hc;have hk:k=1\/k=2\/k=3\/k=4\/k=5\/k=6\/k=7\/k=8\/k=9\/k=10\/k=11\/k=12:=by omega
  rcases hk with rfl | rfl | rfl | rfl | rfl | rfl | rfl | rfl | rfl | rfl | rfl | rfl
  .rcases d1 hx hS hb hc with ⟨e,_,h⟩ | ⟨_,_,i,_,h⟩;·exact .inl ⟨e,h⟩
   .exact .inr ⟨_,_,h⟩
  .exact .inr ⟨_,_,d2 hx hS hc⟩
  .exact .inr ⟨_,_,d3 hx hS hc⟩
  .rcases d4 hx hS hc with ⟨_,h⟩ | ⟨e,_,h⟩ | ⟨_,n,_,_,h⟩;·exact .inl ⟨_,h⟩
   .exact .inl ⟨_,h⟩
   .exact .inr ⟨_,_,h⟩
  .rcases d5 hx hS hc with ⟨_,h⟩ | ⟨e,_,h⟩ | ⟨_,n,_,_,h⟩;·exact .inl ⟨_,h⟩
   .exact .inl ⟨_,h⟩
   .exact .inr ⟨_,_,h⟩
  .rcases d6 hx hS hc with ⟨_,h⟩ | ⟨e,_,h⟩ | ⟨_,h⟩;·exact .inl ⟨_,h⟩
   .exact .inl ⟨_,h⟩
   .exact .inr ⟨_,_,h⟩
  .obtain⟨_,⟨_,h⟩ | ⟨_,h⟩⟩:=d7 hx hS hc;·exact .inl ⟨_,h⟩
   .exact .inr ⟨_,_,h⟩
  .rcases d8 hx hS hc with ⟨_,h⟩ | ⟨_,e,_,h⟩ | ⟨_,r,_,_,h⟩;·exact .inl ⟨_,h⟩
   .exact .inl ⟨_,h⟩
   .exact .inr ⟨_,_,h⟩
  .rcases d9 hx hS hc with ⟨_,h⟩ | ⟨_,_,h⟩ | ⟨_,v,_,h⟩;·exact .inl ⟨_,h⟩
   .exact .inl ⟨_,h⟩
   .exact .inr ⟨_,_,h⟩
  .exact .inr ⟨_,_,d10 hx hS hz hc⟩
  .obtain⟨h1,g⟩:=xb (x:=x) (a:=a) (b:=b) (c:=c) (.inl rfl) hc;exact .inl ⟨14,Θ,h1,g⟩
  .obtain⟨h1,g⟩:=xb (x:=x) (a:=a) (b:=b) (c:=c) (.inr rfl) hc;exact .inl ⟨14,Θ,h1,g⟩
 .obtain⟨h1,g⟩:=Lj (x:=x) (o:=⟨k,a,b,c⟩) hc;exact .inl ⟨_,hc,h1,g⟩
noncomputable def yj(x:Hp)(o:l6):Hp × Int × Int:=(A8 x o).getD (x,0,0)
structure Nxt (x:Hp) (o:l6) (y:Hp) (v e:Int):Prop where
 rt:R9 y
 sl:SL y
 zr:zr y = []
 ev:Ev x y
 cw:Cw x y (if o.Kind=6 then o.A else -1)
 er:e≠0->y=x/\v=0
 mc:A8 x o=some (y,v,e)
 rf:F6 (hO x) (Jk o)=some (hO y,v,e)
theorem Dn.nxt{x z:Hp}{o:l6}{v:Int}(d:Dn x o z v):Nxt x o (eM z) v 0:=by
 have st:=re d.rt;exact⟨gH d.rt,OM d.rt d.sl,EP d.rt,d.ev.stl st,d.cw.trans (st.cw _),λh=>absurd rfl h,d.mc,d.rf⟩
theorem Xy{x:Hp}(hx:R9 x)(hS:SL x)(hz:zr x = [])(hb:x.S.Serial<9223372036854775807)(o:l6):∃y v e,Nxt x o y v e:=by
 rcases a0p hx hS hz hb o with ⟨e,h1,g,j⟩ | ⟨z,v,d⟩;·exact⟨x,0,e,hx,hS,hz,Ev.refl x,Cw.refl x _,λ_=>⟨rfl,rfl⟩,g,j⟩
 .exact⟨_,_,_,d.nxt⟩
theorem oN{x:Hp}(hx:R9 x)(hS:SL x)(hz:zr x = [])(hb:x.S.Serial<9223372036854775807)(o:l6):Nxt x o (yj x o).1 (yj x o).2.1 (yj x o).2.2:=by
 obtain⟨y,v,e,h⟩:=Xy hx hS hz hb o;have:yj x o=(y,v,e):=by unfold yj;rw[h.mc];rfl
 rw[this];exact h
noncomputable def runs(x:Hp)(l:List l6):Hp × List Int:=l.foldl (λp o=>((yj p.1 o).1,p.2 ++ [(yj p.1 o).2.1])) (x,[])
theorem sx(x:Hp)(l:List l6)(o:l6):runs x (l ++ [o])=((yj (runs x l).1 o).1,(runs x l).2 ++ [(yj (runs x l).1 o).2.1]):=by
 unfold runs;rw[za5];rfl
theorem Kd{x:Hp}(hx:R9 x)(hS:SL x)(hz:zr x = [])(l:List l6)(hb:x.S.Serial+l.length<9223372036854775807)(P:Hp->Prop)(h0:P x)
  (hs:∀(y:Hp) (o:l6),o∈l->R9 y->Nxt y o (yj y o).1 (yj y o).2.1 (yj y o).2.2->P y->P (yj y o).1):∀k,k<=l.length ->
  R9 (runs x (l.take k)).1/\SL (runs x (l.take k)).1/\zr (runs x (l.take k)).1 = []/\(runs x (l.take k)).1.S.Serial<=x.S.Serial+k/\(runs x (l.take k)).2.length=k/\P (runs x (l.take k)).1
 | 0,_=>⟨hx,hS,hz,by show x.S.Serial<=_;omega,rfl,h0⟩
 | k+1,hk=>by
  obtain⟨g,j,m,v,q,u⟩:=Kd hx hS hz l hb P h0 hs k Δ;have e:k<l.length:=Δ
  have n:=oN g j m Δ l[k];rw[R8 e,sx];exact⟨n.rt,n.sl,n.zr,by have:=n.ev.s2;show (yj _ _).1.S.Serial<=_;omega,by simp[q],hs _ _ (zk e) g n u⟩
theorem run_eq{x:Hp}(hx:R9 x)(hS:SL x)(hz:zr x = [])(l:List l6)(hl:l.length<=1000)(hb:x.S.Serial+l.length<9223372036854775807) :
  ij x l=some (runs x l)/\wa (hO x) (l.map Jk)=some (hO (runs x l).1,(runs x l).2):=by
 have all:=Kd hx hS hz l hb (λ_=>True) trivial (λ_ _ _ _ _ _=>trivial);constructor
 .unfold ij;simp only[jn];refine N7 (T:=Hp × List Int) l.length (λk acc=>acc=runs x (l.take k)) Δ rfl (λk acc hk e=>?_) (λacc e=>?_)
  .subst e;obtain⟨j,m,o,u,q,_⟩:=all k Δ;have n:=oN j m o Δ l[k];refine .inl ⟨_,?_,rfl⟩;rw[R8 hk,sx];show (if _ then _ else _)=_;rw[zc (Ω hk),x8 hk,a4L,n.mc,a4L,B5 Δ (by rw[q];simp;omega),a4L,p9]
  .subst e;refine⟨runs x (l.take l.length),?_,?_⟩
   .show (if _ then _ else _)=_;rw[za Ψ]
   .rw[zM]
 .unfold wa;simp only[jn];refine N7 (T:=e6 × List Int) (l.map Jk).length (λk acc=>acc=(hO (runs x (l.take k)).1,(runs x (l.take k)).2)) Ξ rfl (λk acc hk e=>?_) (λacc e=>?_)
  .subst e;have g:k<l.length:=by simpa using hk
   obtain⟨j,m,o,u,q,_⟩:=all k Δ;have n:=oN j m o Δ l[k];refine .inl ⟨_,?_,rfl⟩;rw[R8 g,sx];show (if _ then _ else _)=_;rw[zc (Ω (g)),x8 hk,a4L,rx];dsimp only;rw[n.rf,a4L,B5 Δ (by rw[q];simp;omega),a4L,p9]
  .subst e;refine⟨(hO (runs x (l.take (l.map Jk).length)).1,(runs x (l.take (l.map Jk).length)).2),?_,?_⟩
   .show (if _ then _ else _)=_;rw[za Ψ]
   .rw[zX,zM]
section
variable{x:Hp}(hB:HB x)
include hB
end
def Ez(k:Nat)(l:Int)(p:Nat):Hp:=⟨⟨⟨List.replicate k ⟨0,0,z0⟩,l⟩,0⟩,List.replicate 6 0,List.replicate 6 ⟨0,false,-1⟩,List.replicate p ⟨0,0,0⟩,⟨[],30⟩⟩
theorem SC{k p:Nat}{l:Int}(hk:1<=k/\k<=24)(hl:0<=l/\l<=9)(hp:1<=p/\p<=8) :
  mE k l p=some (Ez k l p)/\sj k l p=some (hO (Ez k l p))/\R9 (Ez k l p)/\SL (Ez k l p)/\zr (Ez k l p) = []:=by
 have j:jF k l=some (Ez k l p).S:=by
  unfold jF aN;rw[za Ξ,mJ Δ Δ];rfl
 obtain⟨a,h1,o,u,_⟩:=a3a k l;rw[j] at h1;have ha:=t8 h1;subst ha;have m:SR (Ez k l p).S:=A6.1 u;have g:∀i,ce (Ez k l p).S i=⟨0,0,z0⟩:=λi=>by
  unfold ce Ez;dsimp only;rw[zg,List.getElem?_replicate];split <;> rfl
 have e:lv (Ez k l p).S = []:=za9.2 λh hh=>by
  obtain⟨i,q⟩:=(iV m).1 hh;have:=q.2.1;rw[g] at this;cases this
 refine⟨?_,?_,⟨⟨m,(a10 (V:=Int) (λ_ _=>True) hp.1 hp.2).1,rfl,rfl,rfl,rg _,(λt ht=>nomatch ht),List.Pairwise.nil,(λh hh=>.inl (zbn.1 hh).2),λh hh=>?_,λa v hv=>?_,λi hi=>?_⟩,λi hi ht=>?_,λh hh=>?_⟩,λh hh=>?_,?_⟩
 .unfold mE;rw[za Ξ,j,a4L,show mk 8 6 (0:Int)=some (List.replicate 6 0) from rfl,a4L];refine FE (a:=List.replicate 6 ⟨0,false,-1⟩) Φ ?_;rw[a01 hp.1 hp.2,a4L];refine FE (a:=⟨[],30⟩) Φ ?_;rfl
 .unfold sj;rw[za Ξ,o,a4L,show mk 8 6 (0:Int)=some (List.replicate 6 0) from rfl,a4L];refine FE (a:=List.replicate 6 ⟨0,false,-1⟩) Φ ?_;unfold GV;rw[za Ξ,mJ Δ Δ,a4L,a4L];refine FE (a:=⟨[],30⟩) Φ ?_;unfold hO Ez;dsimp only;rw[List.map_replicate,List.map_replicate];rfl
 .rw[e] at hh;cases hh
 .obtain⟨i,hi,_⟩:=hv;have:=hi.2.1;rw[show (Ez k l p).T=List.replicate p ⟨0,0,0⟩ from rfl,Cc] at this;cases this
 .have:(Ez k l p).a8[i]=⟨0,false,-1⟩:=List.getElem_replicate ..;rw[this];exact⟨Θ,Θ,λ_=>rfl,λh=>absurd rfl h,λh=>by cases h⟩
 .rw[g] at ht;rcases ht with h | h <;> cases h
 .rw[e] at hh;cases hh
 .rw[e] at hh;cases hh
 .unfold zr;rw[e];rfl
section
variable{x:Hp}(hB:HB x)
include hB
end
def yX(o:l6):u7:=⟨o.Kind,o.A,o.B,o.C⟩
abbrev FI(o:l6):Int:=D5 o.Kind o.A o.B o.C
theorem FO(k a b c:Int):aB [k,a,b,c]=some (if D5 k a b c≠0 then (⟨0,0,0,0⟩,D5 k a b c) else (⟨k,a,b,c⟩,0)):=by
 unfold aB;rw[za Ψ];show (Y6 ⟨k,a,b,c⟩).bind _=_;rw[qk,a4L];by_cases h:D5 k a b c=0
 .rw[za (Ω h),za (Ω h)]
 .rw[zc (Ω h),zc h]
theorem RS(k a b c:Int):dW [k,a,b,c]=some (if D5 k a b c≠0 then (⟨0,0,0,0⟩,D5 k a b c) else (⟨k,a,b,c⟩,0)):=by
 unfold dW;rw[za Ψ];show (cJ ⟨k,a,b,c⟩).bind _=_;rw[kU,a4L];by_cases h:D5 k a b c=0
 .rw[za (Ω h),za (Ω h)]
 .rw[zc (Ω h),zc h]
theorem four(l:List Int):(∃k a b c,l = [k,a,b,c])\/l.length≠4:=by
 match l with
 | []=>exact .inr Ψ
 | [_]=>exact .inr Ψ
 | [_,_]=>exact .inr Ψ
 | [_,_,_]=>exact .inr Ψ
 | [k,a,b,c]=>exact .inl ⟨k,a,b,c,rfl⟩
 | _::_::_::_::_::l=>exact .inr Ψ
theorem AB{l:List Int}(h:l.length≠4):aB l=some (⟨0,0,0,0⟩,14)/\dW l=some (⟨0,0,0,0⟩,14):=by
 unfold aB dW;have:(((l.length:Int) != 4))=true:=by simp;omega
 rw[zc this,zc this];exact⟨rfl,rfl⟩
def bF(l:List Int):l6 × Int:=(aB l).getD (⟨0,0,0,0⟩,0)
theorem Ix(l:List Int):aB l=some (bF l)/\dW l=some (yX (bF l).1,(bF l).2):=by
 unfold bF;rcases four l with ⟨k,a,b,c,rfl⟩ | h
 .rw[FO,RS];refine⟨rfl,?_⟩;rw[wp];by_cases h:D5 k a b c≠0
  .rw[zc h,zc h];rfl
  .rw[za h,za h];rfl
 .rw[(AB h).1,(AB h).2];exact⟨rfl,rfl⟩
def vz(o:l6):Bool:=((decide (o.Kind>=1))&&(decide (o.Kind<=10)))&&(FI o==0)
def yt(p:List l6):Bool:=decide (p.length<=6)&&p.all vz
def bu(l:List (List l6)):Bool:=decide (l.length<=6)&&l.all yt
section
variable{l:List (List l6)}(hl:l.length<=12)(hp:∀p∈l,p.length<=1000)
include hl hp
theorem Jt:gl l=some (bu l):=by
 unfold gl bu;by_cases G:l.length > 6
 .rw[zc Ξ,zH Δ];rfl
 .rw[za Ξ,zB Δ,zag];simp only[jn];have key:=Gv (f:=λ(q:Int)=>
   if (decide (q<(l.length:Int))) then
     (ix l q).bind λu=>
     if (decide ((u.length:Int) > 6)) then
      some (.inr (.inl false))
     else
     (lp (S:=Int) (E:=Bool ⊕ Unit) (λ(g:Int)=>
      if (decide (g<(u.length:Int))) then
       (ix u g).bind λm=>
       (gk m).bind λo=>
       (B8 ((!o)==false) 0 (Y6 m)).bind λv=>
       if ((!o)||(v != 0)) then
        some (.inr (.inl false))
       else
       some (.inl (z8 (g+1)))
      else
      some (.inr (.inr ()))) 0).bind λy=>
     match y with
     | .inl w=>some (.inr (.inl w))
     | .inr w=>some (Sum.inl (z8 (q+1)))
   else
   some (.inr (.inr ()))) l yt (.inr ()) (Sum.inl (β:=Unit) false) Δ (λk hk=>?_) Ψ
  .refine FE key ?_;cases l.all yt <;> rfl
  .rw[zc (Ω hk),x8 hk,a4L];unfold yt;have hm:=hp _ (zk hk);generalize l[k]=p at hm |-;by_cases hq:p.length > 6
   .rw[zc Ξ,zH Δ];rfl
   .rw[za Ξ,zB Δ,zag];have k2:=Gv (f:=λ(g:Int)=>
      if (decide (g<(p.length:Int))) then
       (ix p g).bind λm=>
       (gk m).bind λo=>
       (B8 ((!o)==false) 0 (Y6 m)).bind λv=>
       if ((!o)||(v != 0)) then
        some (.inr (.inl false))
       else
       some (Sum.inl (z8 (g+1)))
      else
      some (.inr (.inr ()))) p vz (.inr ()) (Sum.inl (β:=Unit) false) Δ (λj hj=>?_) Ψ
    .refine zcf (FE k2 (r:=if p.all vz=true then some (.inl (z8 ((k:Int)+1))) else some (.inr (.inl false))) ?_) ?_;·cases p.all vz <;> rfl
     .rw[p9]
    .rw[zc (Ω hj),x8 hj,a4L,qk];unfold vz gk;rw[a4L,p9];cases ((decide (p[j].Kind>=1))&&(decide (p[j].Kind<=10)));·rfl
     .by_cases h:FI p[j]=0
      .have e:D5 p[j].Kind p[j].A p[j].B p[j].C=0:=h;rw[e,h];rfl
      .have z:(D5 p[j].Kind p[j].A p[j].B p[j].C != 0)=true:=by simpa using h
       have F:(FI p[j]==0)=false:=Ω h
       rw[F];refine FE (a:=FI p[j]) rfl ?_;rw[show (FI p[j] != 0)=true from z];rfl
theorem Cb:gD (l.map (List.map yX))=some (bu l):=by
 unfold gD bu;rw[zX];by_cases G:l.length > 6
 .rw[zc Ξ,zH Δ];rfl
 .rw[za Ξ,zB Δ,zag];simp only[jn];have key:=Gv (f:=λ(q:Int)=>
   if (decide (q<(l.length:Int))) then
     (ix (l.map (List.map yX)) q).bind λu=>
     if (decide ((u.length:Int) > 6)) then
      some (.inr (.inl false))
     else
     (lp (S:=Int) (E:=Bool ⊕ Unit) (λ(g:Int)=>
      if (decide (g<(u.length:Int))) then
       (ix u g).bind λm=>
       (X0 m).bind λo=>
       (B8 ((!o)==false) 0 (cJ m)).bind λv=>
       if ((!o)||(v != 0)) then
        some (.inr (.inl false))
       else
       some (.inl (z8 (g+1)))
      else
      some (.inr (.inr ()))) 0).bind λy=>
     match y with
     | .inl w=>some (.inr (.inl w))
     | .inr w=>some (Sum.inl (z8 (q+1)))
   else
   some (.inr (.inr ()))) l yt (.inr ()) (Sum.inl (β:=Unit) false) Δ (λk hk=>?_) Ψ
  .refine FE key ?_;cases l.all yt <;> rfl
  .rw[zc (Ω hk),dI,x8 hk,ww,a4L,zX];unfold yt;have hm:=hp _ (zk hk);generalize l[k]=p at hm |-;by_cases hq:p.length > 6
   .rw[zc Ξ,zH Δ];rfl
   .rw[za Ξ,zB Δ,zag];have k2:=Gv (f:=λ(g:Int)=>
      if (decide (g<(p.length:Int))) then
       (ix (p.map yX) g).bind λm=>
       (X0 m).bind λo=>
       (B8 ((!o)==false) 0 (cJ m)).bind λv=>
       if ((!o)||(v != 0)) then
        some (.inr (.inl false))
       else
       some (Sum.inl (z8 (g+1)))
      else
      some (.inr (.inr ()))) p vz (.inr ()) (Sum.inl (β:=Unit) false) Δ (λj hj=>?_) Ψ
    .refine zcf (FE k2 (r:=if p.all vz=true then some (.inl (z8 ((k:Int)+1))) else some (.inr (.inl false))) ?_) ?_;·cases p.all vz <;> rfl
     .rw[p9]
    .rw[zc (Ω hj),dI,x8 hj,ww,a4L,kU];unfold vz X0;rw[a4L,p9];rw[show (yX p[j]).Kind=p[j].Kind from rfl];cases ((decide (p[j].Kind>=1))&&(decide (p[j].Kind<=10)));·rfl
     .by_cases h:FI p[j]=0
      .have e:D5 p[j].Kind (yX p[j]).A (yX p[j]).B (yX p[j]).C=0:=h;rw[e,h];rfl
      .have z:(D5 p[j].Kind p[j].A p[j].B p[j].C != 0)=true:=by simpa using h
       have F:(FI p[j]==0)=false:=Ω h
       rw[F];refine FE (a:=FI p[j]) rfl ?_;rw[show (FI p[j] != 0)=true from z];rfl
end
noncomputable def Vs(x:Hp):List Int:=WZ x.S x.T
noncomputable def en(x:Hp):List Int:=fls x.S x.T (Vs x)
theorem cC{x:Hp}{h:Int}:h∈en x↔h∈lv x.S/\¬dj x.S x.T (Vs x) h:=by
 classical
 unfold en fls;rw[zy,zG]
section
variable{x:Hp}(hx:R9 x)
include hx
theorem iJ:(en x).Nodup:=zb4 _ (vn (A6.2 hx.sh.sr))
theorem gr:∀d∈en x,d∈lv x.S:=λd hd=>(cC.1 hd).1
theorem OG{h:Int}(hl:h∈lv x.S)(hs:(ob x.S h).Strong<12):EM x.S x.T h=(bx (rV x) h:Int):=Sb.2 hx.fair h hl hs
theorem NK{h:Int}(hl:h∈lv x.S)(ho:h∈rV x):h∈Vs x:=by
 refine AF.2 ⟨hl,?_⟩;by_cases hs:(ob x.S h).Strong<12
 .left;rw[OG hx hl hs];have:=fP.2 ⟨λe=>sM hx.sh.sr (e▸hl),ho⟩;omega
 .exact .inr Δ
theorem SA{h:Int}(hh:h∈Vs x):h∈lv x.S/\(h∈rV x\/12<=(ob x.S h).Strong):=by
 obtain⟨hl,hs⟩:=AF.1 hh;refine⟨hl,?_⟩;by_cases q:(ob x.S h).Strong<12
 .rcases hs with hs | hs
  .rw[OG hx hl q] at hs;exact .inl (fP.1 Δ).2
  .omega
 .exact .inr Δ
theorem WV:∀d∈en x,d∉rV x:=λd hd q=>by
 obtain⟨a,b⟩:=cC.1 hd;exact b (.base (NK hx a q) a)
theorem WU:∀h∈lv x.S,h∉en x->∀v∈(ob x.S h).Fields,v∉en x:=λh hh hn v hv q=>by
 obtain⟨a,b⟩:=cC.1 q;have hr:dj x.S x.T (Vs x) h:=so λr=>hn (cC.2 ⟨hh,r⟩);exact b (.step hr (oO.2 ⟨hv,λe=>sM hx.sh.sr (e▸a)⟩) a)
theorem WW:∀k v,Has x.T k v->k∉en x->v∉en x:=λk v hk hn q=>by
 obtain⟨a,b⟩:=cC.1 q;have hr:dj x.S x.T (Vs x) k:=so λr=>hn (cC.2 ⟨(hx.sh.pr k v hk).1,r⟩);exact b (.pair hk hr a)
theorem bc:R9 (iH x (en x)):=DW hx (iJ hx) (gr hx) (WV hx) (WU hx) (WW hx)
end
theorem CD:∀(l:List Int) {x:Hp} (e:SR x.S) {h:Int} (hh:h∈lv x.S) (hs:12<=(ob x.S h).Strong),12<=(ob (l.foldl W8 x).S h).Strong
 | [],_,_,_,_,hs=>hs
 | v::l,x,e,h,hh,hs=>by
  have k1:=K2 e v (f:=mq) λc=>U4;refine CD l (x:=W8 x v) k1.sr (by
   show h∈lv (wx x v mq).S;rw[k1.lv];exact hh) ?_
  show 12<=(ob (wx x v mq).S h).Strong;rw[xV (x:=x) e (h:=v) (f:=mq) (λc=>U4) hh];split
  .unfold mq;rw[zc hs];omega
  .exact hs
section
variable{x:Hp}(hx:R9 x)
include hx
theorem BC{h:Int}:h∈lv (iH x (en x)).S↔dj x.S x.T (Vs x) h:=by
 rw[Lb hx.sh.sr (iJ hx) (gr hx),zy,zG,cC];constructor
 .rintro⟨a,b⟩;exact so λr=>b ⟨a,r⟩
 .intro r;exact⟨r.live,λq=>q.2 r⟩
theorem a2H{h:Int}(hh:h∈lv (iH x (en x)).S):(ob (iH x (en x)).S h).Serial=(ob x.S h).Serial/\(ob (iH x (en x)).S h).Prog=(ob x.S h).Prog/\(ob (iH x (en x)).S h).Fields=(ob x.S h).Fields/\(ob (iH x (en x)).S h).Started=(ob x.S h).Started:=by
 have r:=(BC hx).1 hh;obtain⟨n,e⟩:=Lc hx.sh.sr (iJ hx) (gr hx) r.live (λq=>(cC.1 q).2 r);rw[e];exact⟨rfl,rfl,rfl,rfl⟩
theorem Ss{h:Int}(hh:h∈lv (iH x (en x)).S)(hs:12<=(ob x.S h).Strong):12<=(ob (iH x (en x)).S h).Strong:=by
 have r:=(BC hx).1 hh;have g:=fk (en x) hx.sh.sr (iJ hx) (gr hx);have hn:h∉en x:=λq=>(cC.1 q).2 r;refine CD _ (x:=kH x (en x) (pH x.T (en x)).1) g.sr ?_ ?_
 .show h∈lv (oA x.S (en x));rw[g.lv,zy];exact⟨r.live,Ω hn⟩
 .show 12<=(ob (oA x.S (en x)) h).Strong;rw[g.ob h r.live hn];exact hs
theorem a0D:rV (iH x (en x))=rV x:=by
 obtain⟨e,_,_,g⟩:=uG hx.sh.sr (iJ hx) (gr hx);unfold rV;rw[e,g,BG _ _ _ λt ht=>by
  obtain⟨w,_,rfl,_⟩:=jj.1 ht;simp]
theorem WT{h:Int}(hh:dj x.S x.T (Vs x) h):dj (iH x (en x)).S (iH x (en x)).T (Vs (iH x (en x))) h:=by
 have w:=bc hx;obtain⟨_,_,m,_⟩:=uG hx.sh.sr (iJ hx) (gr hx);have hlen:(en x).length<=1000:=by
  have:=jZ (iJ hx) (gr hx);have:=J5 (A6.2 hx.sh.sr);omega
 obtain⟨_,_,_,_,u,_⟩:=kE hx.sh.hr (en x) hlen;induction hh with
 | base h1 o=>
  have hl:=(BC hx).2 (.base h1 o);refine .base ?_ hl;rcases (SA hx h1).2 with q | q
  .exact NK w hl (by rw[a0D hx];exact q)
  .exact AF.2 ⟨hl,.inr (Ss hx hl q)⟩
 | step g e j ih=>
  refine .step ih ?_ ((BC hx).2 (.step g e j));unfold outs at e |-;rw[(a2H hx ((BC hx).2 g)).2.2.1];exact e
 | pair e g j ih=>
  refine .pair ?_ ih ((BC hx).2 (.pair e g j));rw[m];exact (u _ _).2 ⟨λq=>(cC.1 q).2 g,e⟩
theorem ID:en (iH x (en x)) = []:=za9.2 λh hh=>by
 obtain⟨a,b⟩:=cC.1 hh;exact b (WT hx ((BC hx).1 a))
end
theorem Ir{x:Hp}(hx:R9 x)(m:en x = []):zr x = []:=za9.2 λh hh=>by
 have hl:=(dZ.1 hh).1;have hs:=(dZ.1 hh).2;have hf:=HX hx hh;have h0:h≠0:=λe=>sM hx.sh.sr (e▸hl);have r:dj x.S x.T (Vs x) h:=so λr=>by
  have:h∈en x:=cC.2 ⟨hl,r⟩;rw[m] at this;cases this
 unfold sN at hf;cases r with
 | base h1 u=>
  rcases (SA hx h1).2 with q | q
  .have:=fP.2 ⟨h0,q⟩;omega
  .omega
 | step j g o=>
  have:=Gr (y:=h) j.live;have h1:=fP.2 ⟨h0,g⟩;omega
 | pair g j o=>
  have:=GK g h0;omega
variable {x:Hp}{h:Int}
theorem BD(hx:R9 x):eM (iH x (en x))=iH x (en x):=Kl (Ir (bc hx) (ID hx))
theorem SG{c:Int}(h:0<=c):1<=aq c:=Δg
theorem LV(g:SR x.S)(hh:h∈lv x.S){k:Int}(hk:k∈lv x.S):(ob (jB x h).S k).Strong=if k=h then aq (ob x.S k).Strong else (ob x.S k).Strong:=by
 have oko:=N5 g hh;have ho:Dm x.S (gb (ob x.S h)):=⟨oko.s1,oko.s2,oko.st,oko.wk,oko.p1,oko.p2,oko.fl⟩;have m:=de (o:=gb (ob x.S h)) g hh rfl ho;have l1:lv (eK x.S h (gb (ob x.S h)))=lv x.S:=iS (o:=gb (ob x.S h)) g hh rfl ho;have hr:=L5 g hk;have j:(ob (eK x.S h (gb (ob x.S h))) k).Strong=(ob x.S k).Strong:=by
  rw[gG (o:=gb (ob x.S h)) g hh rfl ho Δ];split;·rename_i e;subst e;rfl
  .rfl
 have:=xV (x:=⟨eK x.S h (gb (ob x.S h)),x.Roots,x.a8,x.T,⟨x.Q.L ++ [yv x h],x.Q.Cap⟩⟩) m (h:=h) (f:=aq) (λc=>G8) (k:=k) (by
  show k∈lv (eK x.S h (gb (ob x.S h)));rw[l1];exact hk)
 rw[show (ob (jB x h).S k).Strong=_ from this];show (if k=h then aq (ob (eK x.S h (gb (ob x.S h))) k).Strong else (ob (eK x.S h (gb (ob x.S h))) k).Strong)=_;rw[j]
theorem a1x(hx:R9 x)(hz:zr x = [])(hh:h∈lv x.S):zr (jB x h) = []:=za9.2 λk hk=>by
 obtain⟨a,b⟩:=dZ.1 hk;rw[GP hx.sh.sr hh] at a;rw[LV hx.sh.sr hh a] at b;have h0:=(N5 hx.sh.sr a).st;have hn:(ob x.S k).Strong≠0:=λq=>by
  have:k∈zr x:=dZ.2 ⟨a,q⟩;rw[hz] at this;cases this
 split at b;·have:=SG h0;omega
 .exact hn b
structure Qd (x y:Hp) (l:List Int):Prop where
 rt:R9 y
 sl:SL y
 zr:zr y = []
 lv:lv y.S=lv x.S
 ob:∀k∈Sh.lv x.S,∃n,Sh.ob y.S k=ET (if k∈l then gb (Sh.ob x.S k) else Sh.ob x.S k) n
 ro:y.Roots=x.Roots
 ce:y.a8=x.a8
 t:y.T=x.T
 q:y.Q=⟨x.Q.L++l.map (yv x),x.Q.Cap⟩
 V3:y.S.Serial=x.S.Serial
theorem XT(e:SR x.S)(hh:h∈lv x.S):(jB x h).S.Serial=x.S.Serial:=(oT e hh).1.V3
theorem LW:∀(l:List Int) {x:Hp},R9 x->SL x->Sh.zr x = []->l.Nodup->(∀h∈l,h∈Sh.lv x.S/\due (Sh.ob x.S h)=true)->Qd x (l.foldl jB x) l
 | [],x,hx,hS,hz,_,_=>⟨hx,hS,hz,rfl,λk hk=>⟨(Sh.ob x.S k).Strong,by rw[za Ψ];rfl⟩,rfl,rfl,rfl,Ψ,rfl⟩
 | h::l,x,hx,hS,hz,hn,hd=>by
  obtain⟨hl,u⟩:=hd h (zm ..);have g:=hx.sh.sr;rw[zax] at hn;have o:=u;unfold due at o;rw[zo,zG,zbp] at o;have h1:=xC hx hl o.1 o.2;have y:=Uf g hS hl;have z:=a1x hx hz hl;have lq:=GP g hl;have oq:∀k∈Sh.lv x.S,k≠h->∃n,Sh.ob (jB x h).S k=ET (Sh.ob x.S k) n:=λk hk v=>by
   obtain⟨n,e⟩:=Ch g hl hk;rw[za v] at e;exact⟨n,e⟩
  have ih:=LW l h1 y z hn.2 λk hk=>by
   obtain⟨a,b⟩:=hd k (zx _ hk);obtain⟨n,e⟩:=oq k a λe=>hn.1 (e▸hk);refine⟨by rw[lq];exact a,?_⟩;rw[e];exact b
  obtain⟨_,k1,k2,A,B⟩:=oT g hl;refine⟨ih.rt,ih.sl,ih.zr,ih.lv.trans lq,λk hk=>?_,ih.ro.trans k1,ih.ce.trans k2,ih.t.trans A,?_,ih.V3.trans (XT g hl)⟩
  .obtain⟨n,e⟩:=ih.ob k (by rw[lq];exact hk);obtain⟨m,j⟩:=Ch g hl hk;refine⟨n,?_⟩;show Sh.ob (l.foldl jB (jB x h)).S k=_;rw[e];by_cases c:k=h
   .subst c;rw[za hn.1,zc (zm ..),j,zc rfl]
   .rw[za c] at j;by_cases c2:k∈l
    .rw[zc c2,zc (zx _ c2),j]
    .rw[za c2,za (λq=>by
      rcases zV.1 q with r | r
      .exact c r
      .exact c2 r),j]
  .show (l.foldl jB (jB x h)).Q=_;rw[ih.q,B];have:l.map (yv (jB x h))=l.map (yv x):=we λk hk=>by
    obtain⟨a,_⟩:=hd k (zx _ hk);obtain⟨n,e⟩:=oq k a λe=>hn.1 (e▸hk);show (⟨1,k,(Sh.ob (jB x h).S k).Prog⟩:p8)=⟨1,k,(Sh.ob x.S k).Prog⟩;rw[e]
   rw[this];simp
noncomputable def mh(x:Hp):List Int:=(en x).filter λh=>due (Sh.ob x.S h)
noncomputable def HY(x:Hp):Hp:=if mh x = [] then iH x (en x) else (mh x).foldl jB x
theorem FF:∀h∈mh x,h∈Sh.lv x.S/\due (Sh.ob x.S h)=true:=λh hh=>by
 obtain⟨a,b⟩:=zy.1 hh;exact⟨(cC.1 a).1,b⟩
theorem RA(hx:R9 x):(mh x).Nodup:=zb4 _ (iJ hx)
theorem RB(hx:R9 x)(hS:SL x)(hz:zr x = []):Qd x ((mh x).foldl jB x) (mh x):=LW _ hx hS hz (RA hx) FF
theorem FK(hx:R9 x)(hS:SL x)(hz:zr x = []):R9 (HY x)/\SL (HY x)/\zr (HY x) = []:=by
 unfold HY;split;·exact⟨bc hx,RC hx.sh.sr hS (iJ hx) (gr hx),Ir (bc hx) (ID hx)⟩
 .have q:=RB hx hS hz;exact⟨q.rt,q.sl,q.zr⟩
noncomputable def out(x:Hp):List Int:=rV x++(lv x.S).filter λh=>decide (12<=(ob x.S h).Strong)
theorem RN{y:Hp}(h:mh y = []):HY y=iH y (en y):=by
 unfold HY;rw[zc h]
section
variable{x:Hp}(hx:R9 x)
include hx
end
structure Rs (x:Hp) (n:Nat):Prop where
 rt:R9 x
 sl:SL x
 zr:zr x = []
 V3:x.S.Serial<=n
section
variable{x:Hp}(hx:R9 x)(hS:SL x)
include hx hS
theorem RF:W9 x=some (en x):=by
 have hB:=YX hx hS;unfold W9;rw[Lz (A6.2 hx.sh.sr) hx.sh.hr hB.tb hB.fb hB.sb];rfl
theorem YP:iB (hO x)=some (en x):=by
 have hB:=YX hx hS;unfold iB;rw[show (hO x).S=sO x.S from rfl,show (hO x).T=x.T.map O2 from rfl,Ge (A6.2 hx.sh.sr) hx.sh.hr hB.tb hB.sb];rfl
theorem uW:(en x).length<=24:=ul (wt ..) (J5 (A6.2 hx.sh.sr))
theorem a0h:gL x=some (mh x):=by
 have j:=hx.sh.sr;have hl:=uW hx hS;unfold gL;rw[RF hx hS,a4L];unfold L4;simp only[jn];refine FE (a:=mh x) ?_ rfl;refine N7 (en x).length (λk b=>b=((en x).take k).filter λh=>due (Sh.ob x.S h)) Δ rfl (λk b hk g=>?_) (λb g=>?_)
 .subst g;have hm:=gr hx _ (zk hk);have m:(((en x).take k).filter λh=>due (Sh.ob x.S h)).length<=24:=ul (wt ..) Ξ;refine .inl ⟨_,?_,rfl⟩;rw[zc (Ω hk),x8 hk,a4L,R8 hk,zar];unfold iI;rw[xk j hm,a4L,a4L];have e:(decide ((ob x.S (en x)[k],(0:Int)).1.Prog>=0) && !(ob x.S (en x)[k],(0:Int)).1.Started)=due (ob x.S (en x)[k]):=rfl;rw[e];cases hd:due (ob x.S (en x)[k])
  .rw[za Ψ,p9];simp[hd]
  .rw[zc rfl,B5 Δ Ξ,a4L,p9];simp[hd]
 .subst g;refine⟨_,za Ψ,?_⟩;rw[zM];rfl
theorem a2s:sn (hO x)=some (mh x):=by
 have g:=hx.sh.sr;have hl:=uW hx hS;unfold sn;rw[YP hx hS,a4L];simp only[jn];refine N7 (en x).length (λk b=>b=((en x).take k).filter λh=>due (Sh.ob x.S h)) Δ rfl (λk b hk e=>?_) (λb e=>?_)
 .subst e;have hm:=gr hx _ (zk hk);have j:(((en x).take k).filter λh=>due (Sh.ob x.S h)).length<=24:=ul (wt ..) Ξ;refine .inl ⟨_,?_,rfl⟩;rw[zc (Ω hk),x8 hk,a4L,R8 hk,zar,RT hx hS (fw g hm),a4L,zB hm,zag];cases hd:due (ob x.S (en x)[k])
  .rw[za Ψ,p9];simp[hd]
  .rw[zc rfl,B5 Δ Ξ,a4L,p9];simp[hd]
 .subst e;refine⟨_,za Ψ,?_⟩;rw[zM];rfl
noncomputable def QR(x:Hp):Int:=if mh x = [] then ((lv x.S).length:Int)-((lv (HY x).S).length:Int) else 0
omit hx hS in
theorem Tl {l:List Int} (hn:l.Nodup) (hm:∀d∈l,d∈lv x.S):lvo x l=l:=by
 have key:∀(l b:List Int),(b++l).Nodup->(∀d∈l,d∈lv x.S)->l.foldl (λb h=>if h∈lv x.S/\h∉b then b ++ [h] else b) b=b++l:=by
  intro l;induction l with
  | nil=>intro b _ _;simp
  | cons a l ih=>
   intro b hn hm;rw[zaw];have ha:a∉b:=λq=>by
    rw[zb6] at hn;exact hn.2.2 a q a (zm ..) rfl
   rw[zc ⟨hm a (zm ..),ha⟩,ih (b ++ [a]) (Ω hn) λd hd=>hm d (zx _ hd)];simp
 exact key l [] (Ω hn) hm
variable(hz:zr x = [])
include hz
theorem OR{k:Nat}(hk:k<(mh x).length):(((mh x).take k).foldl jB x)=(((mh x).take k).foldl jB x)/\R9 (((mh x).take k).foldl jB x)/\SL (((mh x).take k).foldl jB x)/\(mh x)[k]∈lv (((mh x).take k).foldl jB x).S/\due (ob (((mh x).take k).foldl jB x).S (mh x)[k])=true:=by
 have hn:=RA hx;have q:=LW ((mh x).take k) hx hS hz ((List.take_sublist ..).nodup hn) λh hh=>FF h (zak hh);obtain⟨a,b⟩:=FF (mh x)[k] (zk hk);refine⟨rfl,q.rt,q.sl,by rw[q.lv];exact a,?_⟩;obtain⟨n,e⟩:=q.ob _ a;have g:(mh x)[k]∉(mh x).take k:=λh=>by
  have:=R8 hk;have hs:((mh x).take (k+1)).Nodup:=(List.take_sublist ..).nodup hn;rw[this,zb6] at hs;exact hs.2.2 _ h _ (List.mem_singleton_self _) rfl
 rw[e,za g];exact b
theorem FH:(mh x).length<=24:=ul (wt ..) (uW hx hS)
theorem a0l:aQ x=some (HY x,((mh x).length:Int),QR x):=by
 have g:=hx.sh.sr;have hl:=FH hx hS hz;obtain⟨c1,c2,y⟩:=FK hx hS hz;unfold aQ;rw[a0h hx hS,a4L];simp only[jn];refine N7 (mh x).length (λk b=>b=((mh x).take k).foldl jB x) Δ rfl (λk b hk m=>?_) (λb m=>?_)
 .subst m;obtain⟨_,o,u,q,v⟩:=OR hx hS hz hk;refine .inl ⟨_,?_,rfl⟩;rw[zc (Ω hk),x8 hk,a4L,EE o u (fw o.sh.sr q),a4L,p9,R8 hk,za5];unfold Zp;rw[zc ⟨q,v⟩];rfl
 .subst m;refine⟨_,za Ψ,?_⟩;rw[zM];by_cases hb:mh x = []
  .have e:HY x=iH x (en x):=RN hb;rw[za (by simp[hb])];unfold QR;rw[zc hb,e,hb];have h1:=iJ hx;have j:=gr hx;have hlive:=fv (A6.2 g);have hlive2:=fv (A6.2 (bc hx).sh.sr);have l1:=J5 (A6.2 g);have z:=J5 (A6.2 (bc hx).sh.sr);show (W9 x).bind _=_;rw[RF hx hS,a4L,List.foldl_nil,Nv hx h1 j (OE hx) (by rw[vl g _ (by have:=uW hx hS;omega) λh hh=>fw g (j h hh),Tl h1 j]),a4L,jE (bc hx) (by rw[<-e];exact c2),a4L,BD hx,hlive,a4L,hlive2,a4L,E3 Δ Δ];rfl
  .have:0<(mh x).length:=List.length_pos_iff.2 hb;rw[zc Ξ];unfold QR HY;rw[za hb,za hb]
theorem a2u:ly (hO x)=some (hO (HY x),((mh x).length:Int),QR x):=by
 have g:=hx.sh.sr;have hl:=FH hx hS hz;obtain⟨c1,c2,y⟩:=FK hx hS hz;unfold ly;rw[a2s hx hS,a4L];simp only[jn];by_cases hb:mh x = []
 .have e:HY x=iH x (en x):=RN hb;rw[za (by simp[hb])];unfold QR;rw[zc hb,e,hb];have h1:=iJ hx;have j:=gr hx;have hlive:=qB (A6.2 g);have hlive2:=qB (A6.2 (bc hx).sh.sr);have l1:=J5 (A6.2 g);have z:=J5 (A6.2 (bc hx).sh.sr);rw[YP hx hS,a4L,DX hx h1 j (OE hx) (by rw[RU g _ (by have:=uW hx hS;omega) λh hh=>fw g (j h hh),Tl h1 j]),a4L,ny (bc hx) (by rw[<-e];exact c2),a4L,BD hx,show (hO x).S=sO x.S from rfl,hlive,a4L,show (hO (iH x (en x))).S=sO (iH x (en x)).S from rfl,hlive2,a4L,E3 Δ Δ];rfl
 .have hp:0<(mh x).length:=List.length_pos_iff.2 hb;rw[zc Ξ];refine N7 (mh x).length (λk b=>b=hO (((mh x).take k).foldl jB x)) Δ rfl (λk b hk m=>?_) (λb m=>?_)
  .subst m;obtain⟨_,o,u,q,v⟩:=OR hx hS hz hk;refine .inl ⟨_,?_,rfl⟩;rw[zc (Ω hk),x8 hk,a4L,Jv o u (fw o.sh.sr q),a4L,p9,R8 hk,za5];unfold Zp;rw[zc ⟨q,v⟩];rfl
  .subst m;refine⟨_,za Ψ,?_⟩;rw[zM];unfold QR HY;rw[za hb,za hb]
end
variable {x:Hp}{s s':a7}{h:Int}{i:Nat}
theorem WI(hx:R9 x)(hS:SL x)(hz:zr x = []):(HY x).S.Serial=x.S.Serial:=by
 unfold HY;split
 .have g:=fk (en x) hx.sh.sr (iJ hx) (gr hx);exact (km ((en x).flatMap (outs x.S)++(pH x.T (en x)).2) (x:=kH x (en x) (pH x.T (en x)).1) g.sr).1.V3.trans g.V3
 .exact (RB hx hS hz).V3
def Sv(s s':a7):Prop:=s'.S.a8.length=s.S.a8.length/\∀i,i<s.S.a8.length->(ce s i).Gen<=(ce s' i).Gen/\((ce s' i).Gen=(ce s i).Gen->((ce s i).State≠0->(ce s' i).State≠0)/\((ce s' i).State=1->(ce s i).State=0\/((ce s i).State=1/\((ce s i).Val.Started=true->(ce s' i).Val.Started=true))))
theorem Sv.refl(s:a7):Sv s s:=⟨rfl,λi _=>⟨md _,λ_=>⟨id,λh=>.inr ⟨h,id⟩⟩⟩⟩
theorem Sv.trans{a b c:a7}(h:Sv a b)(q:Sv b c):Sv a c:=by
 obtain⟨h1,y⟩:=h;obtain⟨z,A⟩:=q;refine⟨z.trans h1,λi hi=>?_⟩;obtain⟨B,j⟩:=y i hi;obtain⟨C,o⟩:=A i Δ;refine⟨Δ,λe=>?_⟩;obtain⟨g,m⟩:=j Δ;obtain⟨u,v⟩:=o Δ;refine⟨λh=>u (g h),λh=>?_⟩;rcases v h with r | ⟨r,r'⟩
 .exact .inl (so λn=>g n r)
 .rcases m r with k | ⟨k,k'⟩
  .exact .inl k
  .exact .inr ⟨k,λs=>r' (k' s)⟩
def MT(s:a7)(h:Int):Prop:=∃(i:Nat) (g:Int),i<s.S.a8.length/\h=1+(i:Int)+32*g/\(g<(ce s i).Gen\/(g=(ce s i).Gen/\(ce s i).State≠0/\((ce s i).State=1->(ce s i).Val.Started=true)))
theorem Sv.a3u(h:Sv s s'){k:Int}(q:MT s k):MT s' k:=by
 obtain⟨i,g,hi,e,q⟩:=q;obtain⟨h1,u⟩:=h;obtain⟨a,b⟩:=u i hi;refine⟨i,g,Δ,e,?_⟩;rcases q with q | ⟨y,j,v⟩
 .exact .inl Δ
 .by_cases c:(ce s' i).Gen=(ce s i).Gen
  .obtain⟨m,o⟩:=b c;refine .inr ⟨Δ,m j,λr=>?_⟩;rcases o r with k | ⟨k1,k2⟩
   .exact absurd k j
   .exact k2 (v k1)
  .exact .inl Δ
theorem QF(m:SR s)(hh:h∈lv s)(hs:(ob s h).Started=false):¬MT s h:=by
 rintro⟨i,g,hi,e,q⟩;obtain⟨j,hj⟩:=(iV m).1 hh;have hl:=m.len;have hij:i=j:=by
  have:=hj.2.2;have:=hj.1;omega
 subst hij;have:=hj.2.2;rcases q with q | ⟨u,v,o⟩
 .omega
 .rw[V5 m hj,o hj.2.1] at hs;cases hs
theorem yO.sv(g:SR s)(k:yO s s'):Sv s s':=⟨k.len,λi hi=>by
 obtain⟨a,b,_,_,_⟩:=k.ce i hi;refine⟨Δ,λ_=>⟨Δ,λh=>.inr ⟨Δ,λq=>?_⟩⟩⟩;have h1:At s (cX s i) i:=⟨hi,Δ,rfl⟩;have j:At s' (cX s i) i:=⟨by rw[k.len];exact hi,h,by rw[b];rfl⟩;have hl:=L5 g ((iV g).2 ⟨i,h1⟩);obtain⟨n,e⟩:=k.ob (cX s i) Δ;rw[V5 k.sr j,V5 g h1] at e;rw[e];exact q⟩
theorem UE{s:a7}(g:SR s){h:Int}(hh:h∈lv s){o:u0}(hs:o.Serial=(ob s h).Serial)(ho:Dm s o)(j:(ob s h).Started=true->o.Started=true):Sv s (eK s h o):=⟨OK s h o,λi hi=>by
 have q:=C8 g hh;rw[Hz g hh hs ho];split
 .rename_i e;subst e;refine⟨md _,λ_=>⟨id,λr=>.inr ⟨q.2.1,λk=>j ?_⟩⟩⟩;rw[V5 g q];exact k
 .exact⟨md _,λ_=>⟨id,λr=>.inr ⟨r,id⟩⟩⟩⟩
theorem Tq(g:SR s)(hi:i<s.S.a8.length)(ht:Th (ce s i))(d:Int):Sv s (rR s i d):=⟨R5 ..,λj hj=>by
 rw[iN g hi ht];split
 .rename_i e;subst e;exact⟨md _,λ_=>⟨id,λr=>.inr ⟨r,id⟩⟩⟩
 .exact⟨md _,λ_=>⟨id,λr=>.inr ⟨r,id⟩⟩⟩⟩
theorem a0K(hi:i<s.S.a8.length):Sv s (Eh s i):=⟨aX ..,λj hj=>by
 unfold Eh;rw[P5 hi];by_cases e:j=i
 .subst e;rw[zc rfl];split;·exact⟨md _,λ_=>⟨λ_=>(by decide:(3:Int)≠0),λr=>absurd (show (3:Int)=1 from r) Θ⟩⟩
  .refine⟨by show _<=(ce s j).Gen+1;omega,λr=>?_⟩;have:(ce s j).Gen+1=(ce s j).Gen:=r;omega
 .rw[za e];exact⟨md _,λ_=>⟨id,λr=>.inr ⟨r,id⟩⟩⟩⟩
theorem Gn.sv{ds:List Int}(g:Gn s s' ds):Sv s s':=⟨g.len,λj hj=>by
 rw[g.ce];split
 .unfold QT;split
  .split;·exact⟨md _,λ_=>⟨λ_=>(by decide:(3:Int)≠0),λr=>absurd (show (3:Int)=1 from r) Θ⟩⟩
   .refine⟨by show _<=(Sh.ce s j).Gen+1;omega,λr=>?_⟩;have:(Sh.ce s j).Gen+1=(Sh.ce s j).Gen:=r;omega
  .exact⟨md _,λ_=>⟨λ_=>(by decide:(2:Int)≠0),λr=>absurd (show (2:Int)=1 from r) Θ⟩⟩
 .exact⟨md _,λ_=>⟨id,λr=>.inr ⟨r,id⟩⟩⟩⟩
theorem a2W(g:SR s)(hi:i<s.S.a8.length)(h0:(ce s i).State=0){n:Nat}(hn:n<=4){p:Int}(hp : -1<=p/\p<=5):Sv s (gR s i n p):=⟨lU g hi h0 hn hp,λj hj=>by
 rw[pR g hi h0 hn hp];split
 .rename_i e;subst e;exact⟨md _,λ_=>⟨λr=>absurd h0 r,λ_=>.inl h0⟩⟩
 .exact⟨md _,λ_=>⟨id,λr=>.inr ⟨r,id⟩⟩⟩⟩
theorem My(e:SR x.S)(h:Int):Sv x.S (F2 x h).S:=(K2 e h (f:=aq) λc=>G8).sv e
theorem Ht{x:Hp}(e:SR x.S)(h:Int):Sv x.S (W8 x h).S:=(K2 e h (f:=mq) λc=>U4).sv e
theorem JZ{x:Hp}(e:SR x.S)(r:Nat)(h:Int):Sv x.S (K1 x r h).S:=
 (My e h).trans (Ht (x:=wR (F2 x h) (x.Roots.set r h)) (iR e h) _)
theorem PM(hR:SR x.S)(hh:h∈lv x.S){n:Nat}(hn:n<(ob x.S h).Fields.length)(v:Int):Sv x.S (dQ x h n v).S:=by
 have k1:=Hw hR v;have g:h∈lv (F2 x v).S:=by rw[k1.lv];exact hh
 have j:(ob (F2 x v).S h).Fields=(ob x.S h).Fields:=by
  obtain⟨n,e⟩:=(K2 hR v (f:=aq) λc=>G8).ob h ΩJ;show (ob (wx x v aq).S h).Fields=_;rw[e]
 have ho:Dm (F2 x v).S (rJ (ob (F2 x v).S h) ((ob x.S h).Fields.set n v)):=by
  have:=N5 k1.sr g;refine⟨this.s1,this.s2,this.st,this.wk,this.p1,this.p2,?_⟩;have m:=this.fl;rw[j] at m;simpa using m
 have k2:=UE (o:=rJ (ob (F2 x v).S h) ((ob x.S h).Fields.set n v)) k1.sr g rfl ho id;exact ((My hR v).trans k2).trans (Ht (x:=wS (F2 x v) (eK (F2 x v).S h (rJ (ob (F2 x v).S h) ((ob x.S h).Fields.set n v)))) (de (o:=rJ (ob (F2 x v).S h) ((ob x.S h).Fields.set n v)) k1.sr g rfl ho) _)
theorem TW(e:SR x.S)(v:Int)(t:Tb)(old:Int):Sv x.S (mN x v t old).S:=
 (My e v).trans (Ht (x:=wT (F2 x v) t) (iR e v) old)
theorem a00{x:Hp}(e:SR x.S)(h d:Int):Sv x.S (mK x h d).S:=by
 unfold mK;split
 .rename_i q;exact Tq e q.1 q.2.1 d
 .exact Sv.refl _
theorem Yw(e:SR x.S)(h:Int):Sv x.S (rp x h).S:=by
 unfold rp;split
 .rename_i q;have k:=Tq e q.1 q.2.1 (-1);split;·exact k.trans (a0K (by rw[k.1];exact q.1))
  .exact k
 .exact Sv.refl _
theorem Vf(hx:R9 x)(n:Nat)(h call:Int):Sv x.S (gg x n h call).S:=by
 have e:=hx.sh.sr;unfold gg;have s1:Sv x.S (mK (wC x (x.a8.set n (lE h call))) h 1).S:=a00 (x:=wC x (x.a8.set n (lE h call))) e h 1;refine s1.trans (Yw ?_ _);unfold mK;split
 .rename_i q;have:=(e.ok _ q.1 q.2.1).wk;exact BU e q.1 q.2.1 Δ
 .exact e
theorem a0i(e:SR x.S){ds:List Int}(hn:ds.Nodup)(hm:∀d∈ds,d∈lv x.S):Sv x.S (iH x ds).S:=by
 have g:=fk ds e hn hm;exact g.sv.trans ((km (ds.flatMap (outs x.S)++(pH x.T ds).2) (x:=kH x ds (pH x.T ds).1) g.sr).1.sv g.sr)
theorem a1w(e:SR x.S)(hh:h∈lv x.S):Sv x.S (jB x h).S:=by
 have oko:=N5 e hh;have ho:Dm x.S (gb (ob x.S h)):=⟨oko.s1,oko.s2,oko.st,oko.wk,oko.p1,oko.p2,oko.fl⟩;exact (UE (o:=gb (ob x.S h)) e hh rfl ho λ_=>rfl).trans ((oT e hh).1.sv (de (o:=gb (ob x.S h)) e hh rfl ho))
theorem a1W{x:Hp}(hx:R9 x):Sv x.S (OP x).S:=by
 cases h:zr x with
 | nil=>rw[sA h];exact Sv.refl _
 | cons z l=>
  have hz:z∈zr x:=by rw[h];exact zm ..
  have e:=(dZ.1 hz).1;rw[ky h];split;·exact a1w hx.sh.sr e
  .exact a0i hx.sh.sr Ψ (Ω e)
theorem a1S{x:Hp}(hx:R9 x)(n:Nat):Sv x.S (Ac n x).S:=by
 induction n with
 | zero=>exact Sv.refl _
 | succ n ih=>rw[fN];exact ih.trans (a1W (cQ hx n))
theorem Yl(hx:R9 x):Sv x.S (eM x).S:=a1S hx 100
structure uu (x y:Hp):Prop where
 sv:Sv x.S y.S
 q:∃l,y.Q=⟨x.Q.L++l,x.Q.Cap⟩/\∀t∈l,t.Kind=1->¬MT x.S t.At
theorem uu.of{y:Hp}(h:Sv x.S y.S)(q:y.Q=x.Q):uu x y:=⟨h,[],by rw[q,t6],λt ht=>by cases ht⟩
theorem uu.refl(x:Hp):uu x x:=uu.of (Sv.refl _) rfl
theorem uu.trans{x y z:Hp}(a:uu x y)(b:uu y z):uu x z:=by
 obtain⟨l,e,g⟩:=a.q;obtain⟨m,j,o⟩:=b.q;refine⟨a.sv.trans b.sv,l++m,by rw[j,e,pu],λt ht hk=>?_⟩;rcases zC.1 ht with h | h
 .exact g t h hk
 .exact λs=>o t h hk (a.sv.a3u s)
theorem HC(hx:R9 x):uu x (eM x):=by
 obtain⟨l,g,e,_⟩:=(re hx).q;exact⟨Yl hx,l,g,λt ht hk=>QF hx.sh.sr (e t ht hk).1 (e t ht hk).2⟩
theorem ko{x:Hp}(e:SR x.S)(r:Nat)(h:Int):uu x (K1 x r h):=uu.of (JZ e r h) (kp x r h).2.2.2
theorem a2A(hx:R9 x)(hS:SL x)(hz:zr x = [])(hb:x.S.Serial<9223372036854775807)(o:l6):(∃e,Er x o e)\/∃z v,Dn x o z v/\uu x z:=by
 have g:=hx.sh.sr;obtain⟨k,a,b,c⟩:=o;by_cases hc:D5 k a b c=0
 .have:=Gu hc;have hk:k=1\/k=2\/k=3\/k=4\/k=5\/k=6\/k=7\/k=8\/k=9\/k=10\/k=11\/k=12:=by omega
  rcases hk with rfl | rfl | rfl | rfl | rfl | rfl | rfl | rfl | rfl | rfl | rfl | rfl
  .rcases d1 hx hS hb hc with ⟨e,_,h⟩ | ⟨hn,m,i,hF,h⟩;·exact .inl ⟨e,h⟩
   .obtain⟨hi,h0,_⟩:=hF;have k1:uu x (wS x (gR x.S i b.toNat c)):=uu.of (a2W g hi h0 hn m) rfl;exact .inr ⟨_,_,h,k1.trans (ko (x:=wS x (gR x.S i b.toNat c)) (Jf g hi h0 hn m) _ _)⟩
  .exact .inr ⟨_,_,d2 hx hS hc,ko g _ _⟩
  .exact .inr ⟨_,_,d3 hx hS hc,ko g _ _⟩
  .rcases d4 hx hS hc with ⟨_,h⟩ | ⟨e,_,h⟩ | ⟨_,n,_,_,h⟩;·exact .inl ⟨_,h⟩
   .exact .inl ⟨_,h⟩
   .exact .inr ⟨_,_,h,ko g _ _⟩
  .rcases d5 hx hS hc with ⟨_,h⟩ | ⟨e,_,h⟩ | ⟨hl,n,_,hn,h⟩;·exact .inl ⟨_,h⟩
   .exact .inl ⟨_,h⟩
   .exact .inr ⟨_,_,h,uu.of (PM g hl hn _) (qs _ _ _ _).2.2.2⟩
  .rcases d6 hx hS hc with ⟨_,h⟩ | ⟨e,_,h⟩ | ⟨_,h⟩;·exact .inl ⟨_,h⟩
   .exact .inl ⟨_,h⟩
   .exact .inr ⟨_,_,h,uu.of (Vf hx _ _ _) (Da _ _ _ _).2.2.2⟩
  .obtain⟨_,⟨_,h⟩ | ⟨_,h⟩⟩:=d7 hx hS hc;·exact .inl ⟨_,h⟩
   .exact .inr ⟨_,_,h,ko g _ _⟩
  .rcases d8 hx hS hc with ⟨_,h⟩ | ⟨_,e,_,h⟩ | ⟨_,r,_,_,h⟩;·exact .inl ⟨_,h⟩
   .exact .inl ⟨_,h⟩
   .exact .inr ⟨_,_,h,uu.of (TW g _ _ _) (ud _ _ _ _).2.2.2⟩
  .rcases d9 hx hS hc with ⟨_,h⟩ | ⟨_,_,h⟩ | ⟨_,v,_,h⟩;·exact .inl ⟨_,h⟩
   .exact .inl ⟨_,h⟩
   .exact .inr ⟨_,_,h,ko g _ _⟩
  .exact .inr ⟨_,_,d10 hx hS hz hc,uu.refl x⟩
  .obtain⟨h1,j⟩:=xb (x:=x) (a:=a) (b:=b) (c:=c) (.inl rfl) hc;exact .inl ⟨14,Θ,h1,j⟩
  .obtain⟨h1,j⟩:=xb (x:=x) (a:=a) (b:=b) (c:=c) (.inr rfl) hc;exact .inl ⟨14,Θ,h1,j⟩
 .obtain⟨h1,j⟩:=Lj (x:=x) (o:=⟨k,a,b,c⟩) hc;exact .inl ⟨_,hc,h1,j⟩
theorem a0r(hx:R9 x)(hS:SL x)(hz:zr x = [])(hb:x.S.Serial<9223372036854775807)(o:l6):uu x (yj x o).1:=by
 rcases a2A hx hS hz hb o with ⟨e,_,h,_⟩ | ⟨z,v,d,f⟩
 .have:yj x o=(x,0,e):=by unfold yj;rw[h];rfl
  rw[this];exact uu.refl x
 .have:yj x o=(eM z,v,0):=by unfold yj;rw[d.mc];rfl
  rw[this];exact f.trans (HC d.rt)
theorem a3q(h1:pY x)(e:Wk x){L:List Int}(g:ed x L){r:Nat}(hr:r<6)(hh:h=0\/h∈lv x.S):pY (K1 x r h)/\Wk (K1 x r h)/\ed (K1 x r h) L:=by
 have Dy:=K2 h1.sr h (f:=aq) λc=>G8;have l1:lv (F2 x h).S=lv x.S:=Dy.lv;have f1:ed (F2 x h) (h::L):=Kb h1.sr g h;have s1:pY (F2 x h):=h1.st h (f:=aq) λc=>G8;have s2:pY (wR (F2 x h) (x.Roots.set r h)):=s1.roots (by rw[zas];exact h1.r6) λv hv=>by
  rw[l1];rcases zan hv with q | q
  .exact h1.rt v q
  .exact q▸hh
 have w1:Wk (F2 x h):=e.st h1.sr h (f:=aq) λc=>G8;have one:∀v k,bx [v] k=if v=k/\k≠0 then 1 else 0:=λv k=>by rw[K8,W6,m7]
 have f2:ed (wR (F2 x h) (x.Roots.set r h)) (x.Roots.getD r 0::L):=f1.mv rfl (λ_ _=>rfl) λk hk=>by
  have:=AZ (l:=x.Roots) (r:=r) (by rw[h1.r6];exact hr) h k;rw[one,one] at this;rw[xO x h];unfold sN rV;dsimp only;rw[P0,P0,xY,xY,K8 h L,K8 (x.Roots.getD r 0) L];omega
 exact⟨s2.st _ λc=>U4,Wk.st (x:=wR (F2 x h) (x.Roots.set r h)) w1 s2.sr _ λc=>U4,wi (x:=wR (F2 x h) (x.Roots.set r h)) s2.sr f2⟩
abbrev wz(x:Hp)(ts:List p8):Hp:=wQ x ⟨ts,x.Q.Cap⟩
noncomputable def xg(x:Hp)(ts:List p8)(h:Int):Hp:=W8 (K1 (wz x ts) 5 h) h
section
variable{x:Hp}(hx:R9 x){t:p8}{ts:List p8}(hq:x.Q.L=t::ts)
include hx hq
theorem HO:pY (wz x ts):=by
 have h:=hx.sh;refine⟨h.sr,h.hr,h.r6,h.c6,h.cap,?_,λu hu=>h.tk u (by rw[hq];exact zx _ hu),?_,h.rt,h.fl,h.pr,λi hi=>?_⟩
 .have:=h.q30;rw[hq,zl] at this;show ts.length<=30;omega
 .have:=h.td;rw[hq,q9] at this;exact this.2
 .obtain⟨a,b,c,d,e⟩:=h.cl i hi;refine⟨a,b,c,d,λq=>⟨(e q).1,?_⟩⟩;have:=(e q).2;rw[zbj] at this |-;intro r;obtain⟨u,hu,k1,k2⟩:=lF.1 r;exact this (lF.2 ⟨u,by rw[hq];exact zx _ hu,k1,k2⟩)
theorem KB:ed (wz x ts) (if t.Kind=1 then [t.At] else []):=hx.fair.mv rfl (λ_ _=>rfl) λh _=>by
 unfold sN rV Dw;dsimp only;rw[hq,my];by_cases k:t.Kind=1
 .rw[zc k,zc (Ω k),ut,P0,P0,K8 t.At (List.map _ _),K8 t.At [],W6];omega
 .rw[za k,za (Ω k),W6]
theorem Le(hk:t.Kind≠1):R9 (wz x ts):=⟨HO hx hq,hx.wk,by have:=KB hx hq;rwa [za hk] at this⟩
theorem Lq(hk:t.Kind=1):t.At∈lv x.S/\(ob x.S t.At).Started=true:=by
 rcases (hx.sh.tk t (by rw[hq];exact zm ..)).2.2 with ⟨_,b,c⟩ | ⟨b,_⟩;·exact⟨b,c⟩
 .omega
theorem mr(hk:t.Kind=1):R9 (xg x ts t.At):=by
 have f:=KB hx hq;rw[zc hk] at f;obtain⟨a,b,c⟩:=a3q (HO hx hq) (x:=wz x ts) hx.wk f (r:=5) Θ (.inr (Lq hx hq hk).1);exact⟨a.st _ λc=>U4,b.st a.sr _ λc=>U4,wi a.sr c⟩
omit hq in
theorem Lr (hS:SL x) (h:Int):SL (xg x ts h):=by
 have k:=kq (x:=wz x ts) hx.sh.sr hS 5 h;exact Hr [h] (dz (x:=wz x ts) hx.sh.sr 5 h).sr k
omit hq in
theorem a0w (h:Int):Ks x.S (xg x ts h).S:=by
 have k:=dz (x:=wz x ts) hx.sh.sr 5 h;exact k.trans (Hs k.sr h)
omit hq in
theorem Sg (h:Int):(xg x ts h).Roots=x.Roots.set 5 h/\(xg x ts h).a8=x.a8/\(xg x ts h).T=x.T/\(xg x ts h).Q=⟨ts,x.Q.Cap⟩:=by
 obtain⟨a,b,c,d⟩:=CE (K1 (wz x ts) 5 h) h;obtain⟨e,g,j,d'⟩:=kp (wz x ts) 5 h;exact⟨a.trans e,b.trans g,c.trans j,d.trans d'⟩
omit hq in
theorem a0v (h:Int):uu (wz x ts) (xg x ts h):=uu.of ((JZ (x:=wz x ts) hx.sh.sr 5 h).trans (Ht (dz (x:=wz x ts) hx.sh.sr 5 h).sr h)) (Sg hx h).2.2.2
end
def Ic(ps:List (List l6))(n:Int):List l6:=if n<0\/(ps.length:Int)<=n then [] else ps.getD n.toNat []
noncomputable def pre(x:Hp)(t:p8)(ts:List p8):Hp:=if t.Kind=1 then eM (xg x ts t.At) else wz x ts
noncomputable def ran(ps:List (List l6))(x:Hp)(t:p8)(ts:List p8):Hp:=(runs (pre x t ts) (Ic ps t.Prog)).1
noncomputable def PH(ps:List (List l6))(x:Hp)(t:p8)(ts:List p8):Hp:=if t.Kind=1 then eM (K1 (ran ps x t ts) 5 0) else ran ps x t ts
structure Oh (x:Hp):Prop where
 rt:R9 x
 sl:SL x
 zr:zr x = []
theorem Nxt.ok{x y:Hp}{o:l6}{v e:Int}(n:Nxt x o y v e):Oh y:=⟨n.rt,n.sl,n.zr⟩
theorem OL{x:Hp}(h:R9 x)(s:SL x):Oh (eM x):=⟨gH h,OM h s,EP h⟩
theorem UB{x:Hp}(hx:Oh x)(l:List l6)(hb:x.S.Serial+l.length<9223372036854775807):Oh (runs x l).1/\uu x (runs x l).1/\(runs x l).1.S.Serial<=x.S.Serial+l.length/\(runs x l).2.length=l.length:=by
 have key:∀k,k<=l.length->Oh (runs x (l.take k)).1/\uu x (runs x (l.take k)).1/\(runs x (l.take k)).1.S.Serial<=x.S.Serial+k/\(runs x (l.take k)).2.length=k:=by
  intro k;induction k with
  | zero=>exact λ_=>⟨hx,uu.refl x,by show x.S.Serial<=_;omega,rfl⟩
  | succ k ih=>
   intro hk;obtain⟨a,b,c,d⟩:=ih Δ;have e:k<l.length:=Δ
   have n:=oN a.rt a.sl a.zr Δ l[k];rw[R8 e,sx];exact⟨n.ok,b.trans (a0r a.rt a.sl a.zr Δ _),by have:=n.ev.s2;show (yj _ _).1.S.Serial<=_;omega,by simp[d]⟩
 have:=key l.length (zq _);rwa [zM] at this
section
variable{x:Hp}(hx:Oh x){t:p8}{ts:List p8}(hq:x.Q.L=t::ts)(ps:List (List l6))
include hx hq
theorem LS:Oh (pre x t ts):=by
 unfold pre;split
 .rename_i k;exact OL (mr hx.rt hq k) (Lr hx.rt hx.sl _)
 .rename_i k;exact⟨Le hx.rt hq k,hx.sl,hx.zr⟩
theorem a1o:uu (wz x ts) (pre x t ts):=by
 unfold pre;split
 .rename_i k;exact (a0v hx.rt _).trans (HC (mr hx.rt hq k))
 .exact uu.refl _
theorem GM:(pre x t ts).S.Serial=x.S.Serial:=by
 unfold pre;split
 .rename_i k;rw[(re (mr hx.rt hq k)).V3,(a0w hx.rt _).V3]
 .rfl
variable(hb:x.S.Serial+(Ic ps t.Prog).length<9223372036854775807)
include hb
theorem Hm:Oh (ran ps x t ts)/\uu (wz x ts) (ran ps x t ts)/\(ran ps x t ts).S.Serial<=x.S.Serial+(Ic ps t.Prog).length:=by
 have e:=GM hx hq;obtain⟨a,b,c,_⟩:=UB (LS hx hq) (Ic ps t.Prog) (by rw[e];exact hb);exact⟨a,(a1o hx hq).trans b,by rw[e] at c;exact c⟩
theorem WO:Oh (PH ps x t ts)/\uu (wz x ts) (PH ps x t ts)/\(PH ps x t ts).S.Serial<=x.S.Serial+(Ic ps t.Prog).length/\(t.Kind=1->sd (PH ps x t ts) 5=0):=by
 obtain⟨a,b,c⟩:=Hm hx hq ps hb;unfold PH;split
 .have hz:=cd a.rt (r:=5) Θ (h:=0) (.inl rfl);have k:=dz a.rt.sh.sr 5 0;refine⟨OL hz (kq a.rt.sh.sr a.sl 5 0),(b.trans (ko a.rt.sh.sr 5 0)).trans (HC hz),?_,λ_=>(sw a.rt (a:=5) Θ (h:=0) (.inl rfl)).1⟩;rw[(re hz).V3,k.V3];exact c
 .exact⟨a,b,c,λq=>absurd q (by assumption)⟩
end
def KL(ps:List (List l6))(t:p8):Int:=1+((Ic ps t.Prog).length:Int)
def can(ps:List (List l6))(p:Hp × Int):Prop:=∃t ts,p.1.Q.L=t::ts/\KL ps t<=p.2
noncomputable def nxd(ps:List (List l6))(p:Hp × Int):Hp × Int:=match p.1.Q.L with
 | []=>p
 | t::ts=>if KL ps t<=p.2 then (PH ps p.1 t ts,p.2-KL ps t) else p
noncomputable def dN(ps:List (List l6)):Nat->Hp × Int->Hp × Int
 | 0,p=>p
 | n+1,p=>dN ps n (nxd ps p)
section
variable(ps:List (List l6))
theorem Az(n:Nat)(p:Hp × Int):dN ps (n+1) p=nxd ps (dN ps n p):=by
 induction n generalizing p with
 | zero=>rfl
 | succ n ih=>exact ih (nxd ps p)
theorem Xx{p:Hp × Int}(h:p.1.Q.L = []):nxd ps p=p:=by unfold nxd;rw[h]
theorem vy{p:Hp × Int}{t:p8}{ts:List p8}(h:p.1.Q.L=t::ts):nxd ps p=if KL ps t<=p.2 then (PH ps p.1 t ts,p.2-KL ps t) else p:=by unfold nxd;rw[h]
theorem Iq{p:Hp × Int}{t:p8}{ts:List p8}(h:p.1.Q.L=t::ts):can ps p↔KL ps t<=p.2:=by
 constructor
 .rintro⟨u,us,e,c⟩;rw[h] at e;injection e with g j
  rw[g];exact c
 .exact λc=>⟨t,ts,h,c⟩
theorem uM(t:p8):1<=KL ps t:=by unfold KL;omega
theorem NA{p:Hp × Int}(hb:0<=p.2):∃n:Nat,(n:Int)<=p.2/\¬can ps (dN ps n p)/\∀j,j<n->can ps (dN ps j p):=by
 have key:∀m:Nat,(∃n:Nat,n<=m/\¬can ps (dN ps n p))\/((dN ps m p).2+m<=p.2/\0<=(dN ps m p).2):=by
  intro m;induction m with
  | zero=>exact .inr ⟨by show p.2+((0:Nat):Int)<=_;omega,hb⟩
  | succ m ih=>
   rcases ih with ⟨n,h1,g⟩ | ⟨h1,g⟩;·exact .inl ⟨n,Δ,g⟩
   .by_cases q:can ps (dN ps m p)
    .right;obtain⟨t,ts,e,c⟩:=q;have:=uM ps t;rw[Az,vy ps e,zc c];dsimp only;omega
    .exact .inl ⟨m,Δ,q⟩
 have u:∃n:Nat,(n:Int)<=p.2/\¬can ps (dN ps n p):=by
  rcases key (p.2.toNat+1) with ⟨n,h1,g⟩ | ⟨h1,g⟩
  .rcases zE n (p.2.toNat+1) with q | q
   .exact⟨n,Δ,g⟩
   .have hn:n=p.2.toNat+1:=by omega
    rcases key p.2.toNat with ⟨n,h1,g⟩ | ⟨h1,v⟩;·exact⟨n,Δ,g⟩
    .refine⟨p.2.toNat,Δ,λ⟨t,ts,e,c⟩=>?_⟩;have:=uM ps t;omega
  .omega
 obtain⟨n,⟨hn,hz⟩,o⟩:=dP u;refine⟨n,hn,hz,λj hj=>so λq=>?_⟩;have:=o j ⟨Δ,q⟩;omega
theorem FN{p:Hp × Int}(hx:Oh p.1)(hb:0<=p.2)(hs:p.1.S.Serial+p.2<9223372036854775807):∀n,Oh (dN ps n p).1/\0<=(dN ps n p).2/\(dN ps n p).2<=p.2/\(dN ps n p).1.S.Serial+(dN ps n p).2<=p.1.S.Serial+p.2
 | 0=>⟨hx,hb,md _,md _⟩
 | n+1=>by
  obtain⟨a,b,c,d⟩:=FN hx hb hs n;rw[Az];cases e:(dN ps n p).1.Q.L with
  | nil=>rw[Xx ps e];exact⟨a,b,c,d⟩
  | cons t ts=>
   rw[vy ps e];split
   .rename_i q;have g:=q;unfold KL at g;obtain⟨j,_,m,_⟩:=WO a e ps Δ;refine⟨j,?_,?_,?_⟩;·dsimp only;omega
    .have:=uM ps t;dsimp only;omega
    .dsimp only;unfold KL;omega
   .exact⟨a,b,c,d⟩
end
noncomputable def dn(ps:List (List l6))(p:Hp × Int):Nat:=if h:0<=p.2 then Classical.choose (NA ps h) else 0
theorem FR(ps:List (List l6)){p:Hp × Int}(h:0<=p.2):(dn ps p:Int)<=p.2/\¬can ps (dN ps (dn ps p) p)/\∀j,j<dn ps p->can ps (dN ps j p):=by
 unfold dn;rw[dif_pos h];exact za1 (NA ps h)
noncomputable def dr(ps:List (List l6))(p:Hp × Int):Hp × Int:=dN ps (dn ps p) p
theorem a2B(ps:List (List l6)){x:Hp}{f:Int}(hx:Oh x)(hf:0<=f)(hs:x.S.Serial+f<9223372036854775807):Oh (dr ps (x,f)).1/\0<=(dr ps (x,f)).2/\(dr ps (x,f)).2<=f/\(dr ps (x,f)).1.S.Serial+(dr ps (x,f)).2<=x.S.Serial+f:=FN ps (p:=(x,f)) hx hf hs _
section
variable{x:Hp}(hx:pY x)(hS:∀k∈lv x.S,(ob x.S k).Strong<=9223372036854775807)
include hx hS
theorem Tg{h:Int}(hh:h=0\/h∈lv x.S):h<=9223372036854775807:=by
 rcases hh with q | q
 .omega
 .have:=L5 hx.sr q;omega
theorem Uu(k:Int){h:Int}(hh:h<=9223372036854775807):cE x k h=some (if k<0\/5<k then (x,6) else if h=0\/h∈lv x.S then (K1 x k.toNat h,0) else (x,3)):=by
 have j:=hx.sr;have r6:=hx.r6;unfold cE;by_cases hk:k<0\/5<k
 .rw[zc hk,zc Ω8]
 .rw[za hk,za Ω8,gv j hh,a4L];by_cases hn:h=0\/h∈lv x.S
  .rw[zc hn,zB hn,za Ψ];obtain⟨n,rfl⟩:∃n:Nat,k=n:=⟨k.toNat,Δ⟩;have o:n<6:=by omega
   have hnl:n<x.Roots.length:=Δ
   have old:x.Roots[n]<=9223372036854775807:=Tg hx hS (hx.rt _ (zk hnl));have g:=nv x h;have m:n<(F2 x h).Roots.length:=by rw[g.1];exact hnl
   rw[x8 hnl,a4L];unfold I5 V7 Q8;rw[ns j hh hS,a4L];dsimp only;rw[P4 Δ (by rw[g.1];omega),a4L,x8 m,a4L,a4L];have e:=gF (x:=wR (F2 x h) (x.Roots.set n h)) (iR j h) old;rw[zO,g.1,show F9 ⟨(F2 x h).S,x.Roots.set n h,(F2 x h).a8,(F2 x h).T,(F2 x h).Q⟩ x.Roots[n]=_ from e];unfold K1;rw[zg,zd hnl];rfl
  .rw[za hn,zH hn,zc Ψ]
theorem Yc(k:Int){h:Int}(hh:h<=9223372036854775807):ax (hO x) k h=some (if k<0\/5<k then (hO x,6) else if h=0\/h∈lv x.S then (hO (K1 x k.toNat h),0) else (hO x,3)):=by
 have j:=hx.sr;have r6:=hx.r6;unfold ax;by_cases hk:k<0\/5<k
 .rw[zc hk,zc Ξ]
 .rw[za hk,za Ξ,vr j hh,a4L];by_cases hn:h=0\/h∈lv x.S
  .rw[zc hn,zB hn,za Ψ];obtain⟨n,rfl⟩:∃n:Nat,k=n:=⟨k.toNat,Δ⟩;have hnl:n<x.Roots.length:=by omega
   have e:n<(hO x).Roots.length:=hnl;have old:x.Roots[n]<=9223372036854775807:=Tg hx hS (hx.rt _ (zk hnl));have m:=nv x h;have r6':(hO x).Roots.length=6:=r6;rw[x8 e,a4L,qW j hh hS,a4L,P4 Δ (by rw[r6'];omega),a4L,x8 e,a4L];have g:=jD (x:=wR (F2 x h) (x.Roots.set n h)) (iR j h) old;rw[zO];rw[show H5 ⟨(hO (F2 x h)).S,(hO x).Roots.set n h,(hO (F2 x h)).a8,(hO (F2 x h)).T,(hO (F2 x h)).Q⟩ (hO x).Roots[n]=_ from g];unfold K1;rw[zg,zd hnl];rfl
  .rw[za hn,zH hn,zc Ψ]
end
theorem LU(ps:List (List l6))(n:Int):jO ps n=some (Ic ps n):=by
 unfold jO Ic;by_cases h:n<0\/(ps.length:Int)<=n
 .rw[zc (Ω h),zc h]
 .rw[za (Ω h),za h];obtain⟨k,rfl⟩:∃k:Nat,n=k:=⟨n.toNat,Δ⟩;have hk:k<ps.length:=by omega
  rw[x8 hk,a4L,zO,zg,zd hk];rfl
abbrev mO(ps:List (List l6)):List (List u7):=ps.map (List.map Jk)
theorem Uc(ps:List (List l6))(n:Int):nh (mO ps) n=some ((Ic ps n).map Jk):=by
 unfold nh Ic;rw[zX];by_cases h:n<0\/(ps.length:Int)<=n
 .rw[zc (Ω h),zc h];rfl
 .rw[za (Ω h),za h];obtain⟨k,rfl⟩:∃k:Nat,n=k:=⟨n.toNat,Δ⟩;have hk:k<ps.length:=by omega
  have e:k<(mO ps).length:=Ω hk
  rw[x8 e,a4L,zO,zg,zd hk];simp[mO]
def Mp(ps:List (List l6)):Prop:=∀p∈ps,p.length<=6
theorem AL{ps:List (List l6)}(h:Mp ps)(n:Int):(Ic ps n).length<=6:=by
 unfold Ic;split;·simp
 .rename_i q;have hk:n.toNat<ps.length:=by omega
  rw[zg,zd hk];exact h _ (zk hk)
theorem Nz{ps:List (List l6)}(h:Mp ps)(t:p8):ot ps t=some (KL ps t):=by
 have:=AL h t.Prog;unfold ot KL;rw[LU,a4L,E3 Δ Δ]
theorem RO{ps:List (List l6)}(h:Mp ps)(t:p8):nc (mO ps) ⟨t.Kind,t.At,t.Prog⟩=some (KL ps t):=by
 have:=AL h t.Prog;unfold nc KL;show (nh (mO ps) t.Prog).bind _=_;rw[Uc,a4L,zX,E3 Δ Δ]
theorem Lk(x:Hp):hU x=some (x.Q.L.isEmpty):=by
 unfold hU;rw[HK,a4L];unfold MJ;cases x.Q.L <;> rfl
theorem RX(x:Hp):ng (hO x)=some (x.Q.L.isEmpty):=by
 unfold ng;show some ((((x.Q.L.map _).length:Nat):Int)==0)=_;cases x.Q.L with
 | nil=>rfl
 | cons a l=>simp;omega
section
variable{x:Hp}(hx:Oh x){t:p8}{ts:List p8}(hq:x.Q.L=t::ts){ps:List (List l6)}(hm:Mp ps)(hb:x.S.Serial<9000000000000000000)
include hx hq hm hb
theorem Vb:ou x ps=some (PH ps x t ts,t,0):=by
 have O2:=AL hm t.Prog;have pok:=LS hx hq;have pser:=GM hx hq;obtain⟨rok,_,_⟩:=Hm hx hq ps Δ;have o:=(run_eq pok.rt pok.sl pok.zr (Ic ps t.Prog) Δ (by rw[pser];omega)).1;have g:ij (pre x t ts) (Ic ps t.Prog)=some (ran ps x t ts,(runs (pre x t ts) (Ic ps t.Prog)).2):=o;have hz:=cd rok.rt (r:=5) Θ (h:=0) (.inl rfl);have zS:=kq rok.rt.sh.sr rok.sl 5 0;unfold ou;rw[HK,a4L];have e:MJ x.Q=(⟨ts,x.Q.Cap⟩,t,0):=by unfold MJ;rw[hq]
 rw[e];dsimp only;rw[za Ψ];simp only[jn];by_cases k:t.Kind=1
 .have hk:(t.Kind==1)=true:=by simpa using k
  have j:=(Lq hx.rt hq k).1;have ush:=HO hx.rt hq;have m:=fw hx.rt.sh.sr j;have v:cE ⟨x.S,x.Roots,x.a8,x.T,⟨ts,x.Q.Cap⟩⟩ 5 t.At=some (K1 (wz x ts) 5 t.At,0):=by
   have:=Uu (x:=wz x ts) ush hx.sl 5 m;rw[za Δ,zc (.inr j)] at this;exact this
  have y:F9 (K1 (wz x ts) 5 t.At) t.At=some (xg x ts t.At):=gF (dz (x:=wz x ts) hx.rt.sh.sr 5 t.At).sr m;have z:=jE (mr hx.rt hq k) (Lr hx.rt hx.sl t.At);have q:pre x t ts=eM (xg x ts t.At):=by unfold pre;rw[zc k]
  have u:=OF rok.rt rok.sl 5 (h:=0) Θ;rw[za Δ,zc (.inl rfl)] at u;rw[zc hk,v,a4L];dsimp only;rw[y,a4L,z,a4L,LU,a4L,<-q,g,a4L,zc hk];dsimp only;rw[u,a4L];refine FE (jE hz zS) ?_;unfold PH;rw[zc k];rfl
 .have hk:¬(t.Kind==1)=true:=by simpa using k
  have q:pre x t ts=wz x ts:=by unfold pre;rw[za k]
  rw[za hk,LU,a4L,show (⟨x.S,x.Roots,x.a8,x.T,⟨ts,x.Q.Cap⟩⟩:b7)=pre x t ts from q.symm,g,a4L,za hk];unfold PH;rw[za k]
theorem a1T:wb (hO x) (mO ps)=some (hO (PH ps x t ts),Dk t,0):=by
 have O2:=AL hm t.Prog;have pok:=LS hx hq;have pser:=GM hx hq;obtain⟨rok,_,_⟩:=Hm hx hq ps Δ;have o:=(run_eq pok.rt pok.sl pok.zr (Ic ps t.Prog) Δ (by rw[pser];omega)).2;have g:wa (hO (pre x t ts)) ((Ic ps t.Prog).map Jk)=some (hO (ran ps x t ts),(runs (pre x t ts) (Ic ps t.Prog)).2):=o;have hz:=cd rok.rt (r:=5) Θ (h:=0) (.inl rfl);have zS:=kq rok.rt.sh.sr rok.sl 5 0;unfold wb;rw[show (hO x).Q=sW x.Q from rfl,a1y,a4L];have e:MJ x.Q=(⟨ts,x.Q.Cap⟩,t,0):=by unfold MJ;rw[hq]
 rw[e];dsimp only;rw[za Ψ];simp only[jn];have v:(Dk t).Kind=t.Kind:=rfl;have u:(Dk t).At=t.At:=rfl;have y:(Dk t).Prog=t.Prog:=rfl;rw[v,u,y];by_cases k:t.Kind=1
 .have hk:(t.Kind==1)=true:=by simpa using k
  have j:=(Lq hx.rt hq k).1;have ush:=HO hx.rt hq;have m:=fw hx.rt.sh.sr j;have A:ax (hO (wz x ts)) 5 t.At=some (hO (K1 (wz x ts) 5 t.At),0):=by
   have:=Yc (x:=wz x ts) ush hx.sl 5 m;rw[za Δ,zc (.inr j)] at this;exact this
  have B:H5 (hO (K1 (wz x ts) 5 t.At)) t.At=some (hO (xg x ts t.At)):=jD (dz (x:=wz x ts) hx.rt.sh.sr 5 t.At).sr m;have C:=ny (mr hx.rt hq k) (Lr hx.rt hx.sl t.At);have q:pre x t ts=eM (xg x ts t.At):=by unfold pre;rw[zc k]
  have z:=Mv rok.rt rok.sl 5 (h:=0) Θ;rw[za Δ,zc (.inl rfl)] at z;rw[zc hk,show (⟨(hO x).S,(hO x).Roots,(hO x).a8,(hO x).T,sW ⟨ts,x.Q.Cap⟩⟩:e6)=hO (wz x ts) from rfl,A,a4L];dsimp only;rw[B,a4L,C,a4L,Uc,a4L,<-q,g,a4L,zc hk];dsimp only;rw[z,a4L];refine FE (ny hz zS) ?_;unfold PH;rw[zc k];rfl
 .have hk:¬(t.Kind==1)=true:=by simpa using k
  have q:pre x t ts=wz x ts:=by unfold pre;rw[za k]
  rw[za hk,Uc,a4L,show (⟨(hO x).S,(hO x).Roots,(hO x).a8,(hO x).T,sW ⟨ts,x.Q.Cap⟩⟩:e6)=hO (pre x t ts) by rw[q];rfl,g,a4L,za hk];unfold PH;rw[za k]
end
section
variable{x:Hp}(hx:Oh x){ps:List (List l6)}(hm:Mp ps){f:Int}(hf:0<=f)(hf2:f<=1000000)(hb:x.S.Serial<8000000000000000000)
include hx hm hf hf2 hb
def YT(p:Hp × Int):Int:=if p.1.Q.L.isEmpty then 0 else 12
theorem drain_eq:gZ x ps f=some ((dr ps (x,f)).1,(dn ps (x,f):Int),(dr ps (x,f)).2,YT (dr ps (x,f))):=by
 obtain⟨j,m,o⟩:=FR ps (p:=(x,f)) hf;have all:=FN ps (p:=(x,f)) hx hf (by show x.S.Serial+f<_;omega);unfold gZ;simp only[jn];dsimp only at j;refine fu (λk=>((dN ps k (x,f)).2,(dN ps k (x,f)).1,(k:Int),(dN ps k (x,f)).2,(dN ps k (x,f)).1)) rfl (dn ps (x,f)) (λ_=>True) Δ trivial (λk hk _=>.inl ⟨?_,trivial⟩) (λ_=>⟨((dn ps (x,f):Int),(dr ps (x,f)).2,(dr ps (x,f)).1),?_,?_⟩)
 .obtain⟨u,v,y,z⟩:=all k;obtain⟨t,ts,e,c⟩:=o k hk;dsimp only at v y z;have hc:=uM ps t;rw[Lk,e,a4L];show (eI _).bind _=_;rw[HK,a4L];have g:MJ (dN ps k (x,f)).1.Q=(⟨ts,(dN ps k (x,f)).1.Q.Cap⟩,t,0):=by unfold MJ;rw[e]
  rw[g];dsimp only;rw[Nz hm,a4L,za Ξ,Vb u e hm Δ,a4L,E3 Δ Δ,p9,Az,vy ps e,zc c]
 .rw[Lk,a4L];cases e:(dN ps (dn ps (x,f)) (x,f)).1.Q.L with
  | nil=>rfl
  | cons t ts=>
   have hc:¬KL ps t<=(dN ps (dn ps (x,f)) (x,f)).2:=λq=>m ((Iq ps e).2 q);show (eI _).bind _=_;rw[HK,a4L];have g:MJ (dN ps (dn ps (x,f)) (x,f)).1.Q=(⟨ts,(dN ps (dn ps (x,f)) (x,f)).1.Q.Cap⟩,t,0):=by unfold MJ;rw[e]
   rw[g];dsimp only;rw[Nz hm,a4L,zc Ξ];rfl
 .dsimp only;rw[Lk,a4L];unfold YT;cases (dr ps (x,f)).1.Q.L.isEmpty <;> rfl
theorem WQ:nf (hO x) (mO ps) f=some (hO (dr ps (x,f)).1,(dn ps (x,f):Int),(dr ps (x,f)).2,YT (dr ps (x,f))):=by
 obtain⟨m,o,u⟩:=FR ps (p:=(x,f)) hf;have all:=FN ps (p:=(x,f)) hx hf (by show x.S.Serial+f<_;omega);unfold nf;simp only[jn];dsimp only at m;refine fu (λk=>((dN ps k (x,f)).2,(k:Int),hO (dN ps k (x,f)).1)) rfl (dn ps (x,f)) (λ_=>True) Δ trivial (λk hk _=>.inl ⟨?_,trivial⟩) (λ_=>?_)
 .obtain⟨v,y,z,A⟩:=all k;obtain⟨t,ts,e,c⟩:=u k hk;dsimp only at y z A;have hc:=uM ps t;rw[RX,e,a4L];have j:ix (hO (dN ps k (x,f)).1).Q.L 0=some (Dk t):=by
   show ix ((dN ps k (x,f)).1.Q.L.map Dk) 0=_;rw[e];rfl
  show (ix (hO (dN ps k (x,f)).1).Q.L 0).bind _=_;rw[j,a4L,show nc (mO ps) (Dk t)=_ from RO hm t,a4L,za Ξ,a1T v e hm Δ,a4L,E3 Δ Δ,p9,Az,vy ps e,zc c]
 .cases e:(dN ps (dn ps (x,f)) (x,f)).1.Q.L with
  | nil=>
   refine⟨.inr ((dr ps (x,f)).2,(dn ps (x,f):Int),hO (dr ps (x,f)).1),?_,?_⟩
   .rw[RX,e];rfl
   .unfold YT;have g:(dr ps (x,f)).1.Q.L = []:=e;rw[g];rfl
  | cons t ts=>
   have hc:¬KL ps t<=(dN ps (dn ps (x,f)) (x,f)).2:=λq=>o ((Iq ps e).2 q);refine⟨.inl (hO (dr ps (x,f)).1,(dn ps (x,f):Int),(dr ps (x,f)).2,12),?_,?_⟩
   .rw[RX,e,a4L];have j:ix (hO (dN ps (dn ps (x,f)) (x,f)).1).Q.L 0=some (Dk t):=by
     show ix ((dN ps (dn ps (x,f)) (x,f)).1.Q.L.map Dk) 0=_;rw[e];rfl
    show (ix (hO (dN ps (dn ps (x,f)) (x,f)).1).Q.L 0).bind _=_;rw[j,a4L,show nc (mO ps) (Dk t)=_ from RO hm t,a4L,zc Ξ];rfl
   .unfold YT;have g:(dr ps (x,f)).1.Q.L=t::ts:=e;rw[g];rfl
end
theorem Zk{l:List (List l6)}(h:bu l=true):Mp l/\l.length<=6:=by
 unfold bu at h;rw[zo,zG,zf] at h;refine⟨λp hp=>?_,h.1⟩;have:=h.2 p hp;unfold yt at this;rw[zo,zG] at this;exact this.1
noncomputable def eo(ps:List (List l6))(x:Hp)(o:l6):Hp × Int × Int:=
 if o.Kind=11 then (HY x,QR x-((mh x).length:Int),0)
 else if o.Kind=12 then ((dr ps (x,o.A)).1,(dn ps (x,o.A):Int),YT (dr ps (x,o.A)))
 else yj x o
noncomputable def er(ps:List (List l6))(x:Hp)(row:List Int):Hp × Int × Int:=if (bF row).2≠0 then (x,0,(bF row).2) else eo ps x (bF row).1
theorem AA{row:List Int}(h:(bF row).2=0):D5 (bF row).1.Kind (bF row).1.A (bF row).1.B (bF row).1.C=0:=by
 unfold bF at h |-;rcases four row with ⟨k,a,b,c,rfl⟩ | hl
 .rw[FO,wp] at h |-;by_cases q:D5 k a b c≠0
  .rw[zc q] at h;exact absurd h q
  .rw[za q];exact Classical.not_not.1 q
 .rw[(AB hl).1,wp] at h;exact absurd h Θ
theorem Nx{a b c:Int}(h:D5 12 a b c=0):0<=a/\a<=200:=Ei Θ (show P8 a 0 200 12=0 from h)
section
variable{ps:List (List l6)}(hm:Mp ps){x:Hp}(hx:Oh x)(hb:x.S.Serial<7000000000000000000)
include hm hx hb
theorem a2D{o:l6}(ho:o.Kind=12->0<=o.A/\o.A<=200):Oh (eo ps x o).1/\(eo ps x o).1.S.Serial<=x.S.Serial+201:=by
 unfold eo;split
 .obtain⟨a,b,c⟩:=FK hx.rt hx.sl hx.zr;refine⟨⟨a,b,c⟩,?_⟩;show (HY x).S.Serial<=_;rw[WI hx.rt hx.sl hx.zr];omega
 .split
  .rename_i h;obtain⟨h0,e⟩:=ho h;obtain⟨a,b,c,d⟩:=a2B ps hx h0 Δ;exact⟨a,by show (dr ps (x,o.A)).1.S.Serial<=_;omega⟩
  .have n:=oN hx.rt hx.sl hx.zr Δ o;have:=n.ev.s2;exact⟨n.ok,Δ⟩
theorem a2E(row:List Int):Oh (er ps x row).1/\(er ps x row).1.S.Serial<=x.S.Serial+201:=by
 unfold er;split;·exact⟨hx,by show x.S.Serial<=_;omega⟩
 .rename_i h;have hc:=AA (Classical.not_not.1 h);refine a2D hm hx hb λhk=>?_;rw[hk] at hc;exact Nx hc
end
def uv(l:List c5)(k:Int):Nat:=l.countP λc=>c.State==k
theorem Iv(l:List c5)(c:c5)(k:Int):uv (l ++ [c]) k=uv l k+if c.State=k then 1 else 0:=by
 unfold uv;rw[List.countP_append];simp[List.countP_cons]
noncomputable def QU(x:Hp):List Int:=(lv x.S).map λh=>V3 x h
theorem Tj{s:a7}(e:SR s){h:Int}(hh:h∈lv s):sk s.S.a8 h=(ob s h).Serial:=by
 obtain⟨i,hi⟩:=(iV e).1 hh;rw[Rx e hi,V5 e hi]
theorem a1R{x:Hp}(e:SR x.S):(QU x).Pairwise (· < ·):=by
 unfold QU;rw[List.pairwise_map];refine List.Pairwise.imp_of_mem (λ{a b} ha hb h=>?_) (lg (A6.2 e)).2.2;rw[Tj e ha,Tj e hb] at h;exact h
theorem UP{x:Hp}(e:SR x.S):(QU x).mergeSort (λx y=>decide (x<=y))=QU x:=
 List.mergeSort_of_pairwise ((a1R e).imp λh=>zB Δ)
theorem HE{x:Hp}(e:SR x.S):(QU x).length<=24:=by
 unfold QU;rw[zX];exact J5 (A6.2 e)
inductive Fm (x:Hp) (o:l6) (z:Hp) (v:Int):Prop
 | new (i:Nat) (hF:Fst x.S i) (hk:o.Kind=1) (ha:0<=o.A/\o.A<=5) (hn:o.B.toNat<=4) (hc : -1<=o.C/\o.C<=5) (hv:v=x.S.Serial+1) (hz:z=K1 (wS x (gR x.S i o.B.toNat o.C)) o.A.toNat (cX x.S i)):Fm x o z v
 | root (h:Int) (hk:o.Kind≠1) (ha:0<=o.A/\o.A<=5) (hh:h=0\/h∈lv x.S) (hz:z=K1 x o.A.toNat h):Fm x o z v
 | field (h:Int) (n:Nat) (u:Int) (hk:o.Kind=5) (hl:h∈lv x.S) (hn:n<(ob x.S h).Fields.length) (hu:u=0\/u∈lv x.S) (hz:z=dQ x h n u):Fm x o z v
 | weak (h:Int) (hk:o.Kind=6) (ha:0<=o.A/\o.A<=5) (hc : -1<=o.C/\o.C<=5) (hh:h=0\/h∈lv x.S) (hw:QQ x.Q o.A=false) (hz:z=gg x o.A.toNat h o.C):Fm x o z v
 | pair (h u:Int) (r:Tb × Int × Int) (hk:o.Kind=8) (hl:h∈lv x.S) (hu:u=0\/u∈lv x.S) (hr:V0 x.T h u=some r) (h0:r.2.2=0) (hz:z=mN x u r.1 r.2.1):Fm x o z v
 | same (hk:o.Kind=10) (hz:z=x):Fm x o z v
theorem Fm.ks{x z:Hp}{o:l6}{v:Int}(hx:R9 x)(f:Fm x o z v)(hk:o.Kind≠1):Ks x.S z.S:=by
 have e:=hx.sh.sr;cases f with
 | new i hF g=>exact absurd g hk
 | root h _ ha hh hz=>rw[hz];exact dz e _ _
 | field h n u _ hl hn hu hz=>rw[hz];exact Ea e hl hn u
 | weak h _ ha hc hh hw hz=>rw[hz];exact KE hx Δ h _
 | pair h u r _ hl hu hr h0 hz=>rw[hz];exact Jn e u _ _
 | same _ hz=>rw[hz];exact Ks.refl e
def anE(p:Int × Int):F4:=⟨p.1,p.2⟩
def anR(p:Int × Int):M6:=⟨p.1,p.2⟩
section
variable{ps:List (List l6)}(hm:Mp ps){x:Hp}(hx:Oh x)(hb:x.S.Serial<7000000000000000000)
include hm hx hb
theorem Lf : -24<=QR x-((mh x).length:Int)/\QR x-((mh x).length:Int)<=24:=by
 have h1:=FH hx.rt hx.sl hx.zr;have g:(lv x.S).length<=24:=J5 (A6.2 hx.rt.sh.sr);obtain⟨c1,_,_⟩:=FK hx.rt hx.sl hx.zr;have j:(lv (HY x).S).length<=24:=J5 (A6.2 c1.sh.sr);unfold QR;split
 .rename_i e;rw[e];simp;omega
 .omega
theorem edo(row:List Int):rF ⟨x,ps⟩ row=some (⟨(er ps x row).1,ps⟩,anE (er ps x row).2):=by
 unfold rF;rw[(Ix row).1,a4L];unfold er;by_cases h:(bF row).2=0
 .rw[za (show ¬(((bF row).2 != 0)=true) by simp[h]),za (show ¬((bF row).2≠0) by simp[h])];have hc:=AA h;generalize (bF row).1=o at hc;unfold ov eo;by_cases g:o.Kind=11
  .rw[zc (by simp[g]),zc g];refine zcf (b:=(aQ x).bind λj=>some (⟨j.1,ps⟩,⟨z8 (j.2.2-j.2.1),0⟩)) rfl ?_;obtain⟨v,y⟩:=Lf hm hx hb;rw[a0l hx.rt hx.sl hx.zr,a4L];dsimp only;rw[E3 Δ Δ];rfl
  .rw[za (by simp[g]),za g];by_cases e:o.Kind=12
   .rw[zc (by simp[e]),zc e];refine zcf (b:=(gZ x ps o.A).bind λm=>some (⟨m.1,ps⟩,⟨m.2.1,m.2.2.2⟩)) rfl ?_;rw[e] at hc;obtain⟨q,u⟩:=Nx hc;rw[drain_eq hx hm q Δ Δ,a4L];rfl
   .rw[za (by simp[e]),za e];refine zcf (b:=(A8 x o).bind λv3=>some (⟨v3.1,ps⟩,⟨v3.2.1,v3.2.2⟩)) rfl ?_;rw[(oN hx.rt hx.sl hx.zr Δ o).mc,a4L];rfl
 .rw[zc (Ω h),zc h];rfl
theorem rdo(row:List Int):xH ⟨hO x,mO ps⟩ row=some (⟨hO (er ps x row).1,mO ps⟩,anR (er ps x row).2):=by
 unfold xH;rw[(Ix row).2,a4L];unfold er;by_cases h:(bF row).2=0
 .rw[za (show ¬(((bF row).2 != 0)=true) by simp[h]),za (show ¬((bF row).2≠0) by simp[h])];have hc:=AA h;generalize (bF row).1=o at hc;unfold eo;by_cases g:o.Kind=11
  .rw[zc (by simp[g,yX]),zc g];obtain⟨q,u⟩:=Lf hm hx hb;dsimp only;rw[a2u hx.rt hx.sl hx.zr,a4L];dsimp only;rw[E3 Δ Δ];rfl
  .rw[za (by simp[g,yX]),za g];by_cases e:o.Kind=12
   .rw[zc (by simp[e,yX]),zc e];rw[e] at hc;obtain⟨j,m⟩:=Nx hc;refine zcf (b:=(nf (hO x) (mO ps) o.A).bind λv3=>some (⟨v3.1,mO ps⟩,⟨v3.2.1,v3.2.2.2⟩)) rfl ?_;rw[WQ hx hm j Δ Δ,a4L];rfl
   .rw[za (by simp[e,yX]),za e];refine zcf (b:=(F6 (hO x) (Jk o)).bind λv3=>some (⟨v3.1,mO ps⟩,⟨v3.2.1,v3.2.2⟩)) rfl ?_;rw[(oN hx.rt hx.sl hx.zr Δ o).rf,a4L];rfl
 .rw[zc (Ω h),zc h];rfl
end
section
variable{ps:List (List l6)}(hm:Mp ps){x:Hp}(hx:Oh x)
include hm hx
end
def UT(x:Hp):A4:=⟨uv x.S.S.a8 0,uv x.S.S.a8 1,uv x.S.S.a8 2,uv x.S.S.a8 3⟩
theorem Yr{s:a7}(o:SR s):Y0 s.S=some ⟨uv s.S.a8 0,uv s.S.a8 1,uv s.S.a8 2,uv s.S.a8 3⟩:=by
 unfold Y0;simp only[jn];have hlen:=o.len;refine N7 s.S.a8.length (λk t=>t=⟨uv (s.S.a8.take k) 0,uv (s.S.a8.take k) 1,uv (s.S.a8.take k) 2,uv (s.S.a8.take k) 3⟩) Δ (by simp[uv]) (λk t hk ht=>.inl ?_) (λt ht=>⟨_,by simp;rfl,by rw[ht,zM]⟩);have hc:=o.cell k hk;rw[I0 hk] at hc;subst ht;simp only[zQ,hk,zY,wd,x8 hk,a4L];have g:∀j,uv (s.S.a8.take k) j<=24:=λj=>ul za3 Ξ;have h0:=g 0;have h1:=g 1;have q:=g 2;have u:=g 3;rw[zn hk];simp only[Iv];refine⟨_,?_,rfl⟩;have m:s.S.a8[k].State=0\/s.S.a8[k].State=1\/s.S.a8[k].State=2\/s.S.a8[k].State=3:=Δ
 rcases m with e | e | e | e <;> rw[e] <;> simp[A4.ix,A4.l,A4.st,ix] <;> rw[p9,p9] <;> simp
theorem a0g{n:Int}(h0:0<=n)(e:n<=3):wW .i64 n 3=n:=by
 have:n=0\/n=1\/n=2\/n=3:=Δ
 rcases this with rfl | rfl | rfl | rfl <;> decide
theorem Ys{s:a7}(q:SR s):rX (pl (sO s))=some ⟨uv s.S.a8 0,uv s.S.a8 1,uv s.S.a8 2,uv s.S.a8 3⟩:=by
 have O2:(pl (sO s)).a8.length=s.S.a8.length:=by simp[pl,sO]
 unfold rX;simp only[jn];have hlen:=q.len;refine N7 s.S.a8.length (λk t=>t=⟨uv (s.S.a8.take k) 0,uv (s.S.a8.take k) 1,uv (s.S.a8.take k) 2,uv (s.S.a8.take k) 3⟩) Δ (by simp[uv]) (λk t hk ht=>.inl ?_) (λt ht=>⟨_,by simp[O2];rfl,by rw[ht,zM]⟩);have hc:=q.cell k hk;rw[I0 hk] at hc;have m:k<(pl (sO s)).a8.length:=by rw[O2];exact hk
 have es:(pl (sO s)).a8[k].State=s.S.a8[k].State:=by simp[pl,sO,Dh,cO]
 subst ht;dsimp only;rw[zc (by rw[O2];simpa using hk),x8 m,a4L,es,a0g hc.1 hc.2.1];have g:∀j,uv (s.S.a8.take k) j<=24:=λj=>ul za3 Ξ;have h0:=g 0;have h1:=g 1;have u:=g 2;have v:=g 3;rw[zn hk];simp only[Iv];refine⟨_,?_,rfl⟩;have o:s.S.a8[k].State=0\/s.S.a8[k].State=1\/s.S.a8[k].State=2\/s.S.a8[k].State=3:=Δ
 rcases o with e | e | e | e <;> rw[e] <;> simp[A4.ix,A4.l,A4.st,ix] <;> rw[p9,p9] <;> simp
section
variable{ps:List (List l6)}{x:Hp}(hx:R9 x)
include hx
theorem a4e:jf ⟨x,ps⟩=some (UT x):=by
 unfold jf;dsimp only;rw[Yr hx.sh.sr,a4L];rfl
theorem a4t:nj ⟨hO x,mO ps⟩=some (UT x):=by
 have hl:=hx.sh.sr.len;unfold nj;show (R6 (sO x.S)).bind _=_;rw[jm (sO x.S) (by simp[sO];omega),a4L,Ys hx.sh.sr,a4L];rfl
theorem a0s:je ⟨x,ps⟩=some (QU x):=by
 have e:=hx.sh.sr;have g:(lv x.S).length<=24:=J5 (A6.2 e);unfold je;simp only[jn];rw[fv (A6.2 e),a4L];refine N7 (lv x.S).length (λk l=>l=((lv x.S).take k).map λh=>V3 x h) Δ rfl (λk l hk hl=>.inl ⟨_,?_,rfl⟩) (λl hl=>⟨l,za Ψ,?_⟩)
 .subst hl;dsimp only;have:=L5 e (zk hk);rw[zc (Ω hk),x8 hk,a4L,UH hx.sh Δ,a4L,B5 Δ Ξ,a4L,p9,zn hk,n7];rfl
 .subst hl;rw[zM];show (sy (QU x)).bind _=_;have:=HE (x:=x) e;unfold sy;rw[zc Δ,SS,UP e];rfl
theorem a1F:ni ⟨hO x,mO ps⟩=some (QU x):=by
 have e:=hx.sh.sr;have g:(lv x.S).length<=24:=J5 (A6.2 e);unfold ni;show (aW (sO x.S)).bind _=_;rw[qB (A6.2 e),a4L];simp only[jn];refine N7 (lv x.S).length (λk l=>l=((lv x.S).take k).map λh=>V3 x h) Δ rfl (λk l hk hl=>.inl ⟨_,?_,rfl⟩) (λl hl=>⟨l,za Ψ,?_⟩)
 .subst hl;dsimp only;have:=L5 e (zk hk);rw[zc (Ω hk),x8 hk,a4L,UF hx.sh Δ,a4L,B5 Δ Ξ,a4L,p9,zn hk,n7];rfl
 .subst hl;rw[zM];rfl
end
theorem Rs.oh{x:Hp}{n:Nat}(h:Rs x n):Oh x:=⟨h.rt,h.sl,h.zr⟩
theorem Zl{n last places:Int}{ps:List (List l6)}(hl:ps.length<=12)(hp:∀p∈ps,p.length<=1000) :
  (∃e,S9 n last places ps=some (⟨Xc,[]⟩,e)/\sq n last places (mO ps)=some (⟨hO Xc,[]⟩,e)/\(e=13\/e=1/\¬((1<=n/\n<=24)/\(0<=last/\last<=9)/\1<=places/\places<=8))) \/
  (∃k p:Nat,n=k/\places=p/\(1<=k/\k<=24)/\Mp ps/\Rs (Ez k last p) 0/\S9 n last places ps=some (⟨Ez k last p,ps⟩,0)/\sq n last places (mO ps)=some (⟨hO (Ez k last p),mO ps⟩,0)):=by
 have m:gl ps=some (bu ps):=Jt Δ hp;have o:gD (mO ps)=some (bu ps):=Cb Δ hp;unfold S9 sq;rw[m,o,a4L,a4L];cases hq:bu ps;·exact .inl ⟨13,rfl,rfl,.inl rfl⟩
 .simp only[zbu,zj,wf];by_cases h:(1<=n/\n<=24)/\(0<=last/\last<=9)/\1<=places/\places<=8
  .right;obtain⟨h1,q,u⟩:=h;obtain⟨k,rfl⟩:∃k:Nat,n=k:=⟨n.toNat,Δ⟩;obtain⟨p,rfl⟩:∃p:Nat,places=p:=⟨places.toNat,Δ⟩;obtain⟨g,j,hx,hS,hz⟩:=SC (k:=k) (p:=p) (l:=last) Δ q Δ;refine⟨k,p,rfl,rfl,Δ,(Zk hq).1,⟨hx,hS,hz,md _⟩,?_,?_⟩
   .rw[g,a4L,hx.sh.r6];rfl
   .rw[j,a4L,show (hO (Ez k last p)).Roots.length=6 from hx.sh.r6];rfl
  .left;have g:mE n last places=some Xc:=by
    unfold mE;rw[zc Ξ];rfl
   have j:sj n last places=some (hO Xc):=by
    unfold sj;rw[zc Ξ];rfl
   refine⟨1,?_,?_,.inr ⟨rfl,h⟩⟩;·rw[g];rfl
   .rw[j];rfl
theorem Te{S E:Type}{f:S->Option (S ⊕ E)}(Q:E->Prop)(h:∀s e,f s=some (.inr e)->Q e):∀(N:Nat) (s:S) (e:E),Td f N s=some e->Q e:=by
 intro N;induction N with
 | zero=>intro s e q;rw[BP] at q;cases q
 | succ N ih=>
  intro s e q;rw[mH] at q;cases hf:f s with
  | none=>rw[hf] at q;cases q
  | some y=>
   rw[hf] at q;cases y with
   | inl s'=>exact ih s' e q
   | inr g=>cases q;exact h s _ hf
theorem NS{S E:Type}{f:S->Option (S ⊕ E)}{s0:S}{e:E}(Q:E->Prop)(h:∀s e,f s=some (.inr e)->Q e)(q:lp f s0=some e):Q e:=by
 rw[IU] at q;exact Te Q h _ _ _ q
def EB(e:Int):Prop:=0<=e/\e<=40
variable {n:Int}{r:Int × Int}{s:a7}{x:b7}{a b c:Int}
theorem QO{r:List Int × Int}(h:wG n=some r):EB r.2:=by
 unfold wG at h;split at h;·cases h;exact Ωc
 .obtain⟨a,_,h⟩:=E7 h;cases h;exact Ωc
theorem Vd{l:List Int}(h:rq l n=some r):EB r.2:=by
 unfold rq at h;obtain⟨a,_,h⟩:=E7 h;split at h;·cases h;exact Ωc
 .obtain⟨b,_,h⟩:=E7 h;cases h;exact Ωc
theorem a0x{s:l4}(h:z6 s n=some r):EB r.2:=by
 unfold z6 at h;split at h;·cases h;exact Ωc
 .obtain⟨_,_,h⟩:=E7 h;split at h;·cases h;exact Ωc
  .obtain⟨_,_,h⟩:=E7 h;obtain⟨_,_,h⟩:=E7 h;split at h <;> cases h <;> exact Ωc
theorem a2I{r:u0 × Int}(h:B3 s n=some r):EB r.2:=by
 unfold B3 F5 at h;obtain⟨a,h1,h⟩:=E7 h;cases h;obtain⟨b,e,h1⟩:=E7 h1;split at h1;·cases h1;exact a0x e
 .obtain⟨c,_,h1⟩:=E7 h1;split at h1 <;> cases h1 <;> exact Ωc
theorem NC{m:Int}(h:Y2 s n m=some r):EB r.2:=by
 unfold Y2 at h;obtain⟨a,h1,h⟩:=E7 h;split at h;·cases h;exact a2I h1
 .obtain⟨b,e,h⟩:=E7 h;cases h;exact Vd e
theorem SD{r:b7 × Int}(h:bQ x a b c=some r):EB r.2:=by
 unfold bQ at h;obtain⟨u,h1,h⟩:=E7 h;split at h;·cases h;exact NC h1
 .obtain⟨v,e,h⟩:=E7 h;split at h;·cases h;exact Ωc
  .obtain⟨w,_,h⟩:=E7 h;cases h;exact Ωc
theorem Xb{r:b7 × Int}(h:ak x a b c=some r):EB r.2:=by
 unfold ak at h;obtain⟨u,h1,h⟩:=E7 h;split at h;·cases h;exact Ωc
 .obtain⟨v,e,h⟩:=E7 h;split at h;·cases h;exact Ωc
  .obtain⟨w,_,h⟩:=E7 h;obtain⟨w,_,h⟩:=E7 h;obtain⟨w,_,h⟩:=E7 h;cases h;exact Ωc
theorem a3i{t:List c8}{a b:Int}{r:List c8 × Int}(h:jU t a b=some r):EB r.2:=by
 unfold jU at h;obtain⟨u,h1,h⟩:=E7 h;split at h
 .obtain⟨w,_,h⟩:=E7 h;cases h;exact Ωc
 .simp only[jn] at h;obtain⟨v,_,h⟩:=E7 h;obtain⟨e,he,h⟩:=E7 h;have hq:=NS (λ(e:(List c8 × Int) ⊕ Unit)=>match e with
   | .inl w=>EB w.2
   | .inr _=>True) (λs e q=>by
    split at q
    .obtain⟨_,_,q⟩:=E7 q;obtain⟨_,_,q⟩:=E7 q;obtain⟨_,_,q⟩:=E7 q;split at q
     .obtain⟨_,_,q⟩:=E7 q;cases q;exact Ωc
     .cases q
    .cases q;trivial) he
  cases e with
  | inl w=>cases h;exact hq
  | inr w=>cases h;exact Ωc
theorem a0u{t:List c8}{r:List c8 × Int × Int}(h:V0 t a b=some r):EB r.2.2:=by
 unfold V0 at h;split at h;·cases h;exact Ωc
 .obtain⟨u,_,h⟩:=E7 h;split at h
  .obtain⟨v,_,h⟩:=E7 h;cases h;exact Ωc
  .obtain⟨v,e,h⟩:=E7 h;split at h;·cases h;exact a3i e
   .cases h;exact Ωc
theorem Xa{r:b7 × Int}(h:eC x a b=some r):EB r.2:=by
 unfold eC at h;split at h;·cases h;exact Ωc
 .obtain⟨u,_,h⟩:=E7 h;obtain⟨v,_,h⟩:=E7 h;split at h;·cases h;exact Ωc
  .obtain⟨w,hw,h⟩:=E7 h;split at h;·cases h;exact a0u hw
   .obtain⟨_,_,h⟩:=E7 h;cases h;exact Ωc
theorem a1Y{s:l4}{o:u0}{r:l4 × Int × Int}(h:H6 s o=some r):EB r.2.2:=by
 unfold H6 at h;simp only[jn] at h;obtain⟨v,_,h⟩:=E7 h;obtain⟨e,he,h⟩:=E7 h;have hq:=NS (λ(e:(l4 × Int × Int) ⊕ Unit)=>match e with
  | .inl w=>EB w.2.2
  | .inr _=>True) (λs e q=>by
   split at q
   .obtain⟨_,_,q⟩:=E7 q;split at q
    .obtain⟨_,_,q⟩:=E7 q;obtain⟨_,_,q⟩:=E7 q;obtain⟨_,_,q⟩:=E7 q;cases q;exact Ωc
    .cases q
   .cases q;trivial) he
 cases e with
 | inl w=>cases h;exact hq
 | inr w=>cases h;exact Ωc
theorem a0W{r:a7 × Int × Int}(h:T6 s a b=some r):EB r.2.2:=by
 unfold T6 at h;obtain⟨u,h1,h⟩:=E7 h;split at h;·cases h;exact QO h1
 .obtain⟨v,_,h⟩:=E7 h;split at h;·cases h;exact Ωc
  .obtain⟨w,hw,h⟩:=E7 h;split at h;·cases h;exact a1Y hw
   .cases h;exact Ωc
theorem xm{l m e:Int}(h:EB e):EB (P8 n l m e):=by
 unfold P8;split;·exact h
 .exact Ωc
theorem NF(h1:EB a)(e:EB b)(g:EB c):EB (bG a b c):=by
 unfold bG;split;·exact h1
 split;·exact e
 exact g
theorem Ny(k a b c:Int):EB (D5 k a b c):=by
 have d:∀ {n:Int},0<=n->n<=40->EB n:=λh1 e=>⟨h1,e⟩;unfold D5;repeat' split
 all_goals first
  | exact NF (xm (d Θ Θ)) (xm (d Θ Θ)) (xm (d Θ Θ))
  | exact NF (xm (d Θ Θ)) (xm (d Θ Θ)) (d Θ Θ)
  | exact xm (d Θ Θ)
  | exact d Θ Θ
section
variable{x:Hp}(hx:R9 x)(hS:SL x)(hz:zr x = [])(hb:x.S.Serial<9223372036854775807)
include hx
theorem UG{h:Int}(hh:h=0\/h∈lv x.S):0<=V3 x h/\V3 x h<=x.S.Serial:=by
 have e:=hx.sh.sr;rcases hh with rfl | hh
 .rw[Kg hx.sh];exact⟨md _,e.V3⟩
 .have o:=(N5 e hh);unfold V3;exact⟨by have:=o.s1;omega,o.s2⟩
include hS hz hb
theorem a2z(o:l6):(∃e,Er x o e/\EB e)\/∃z v,Dn x o z v/\0<=v/\v<=x.S.Serial+1:=by
 obtain⟨k,a,b,c⟩:=o;have sl:=tE hx.sh;have A:=hx.sh.sr;have s0:=A.V3;have sb:∀ {h:Int},(h=0\/h∈lv x.S)->0<=V3 x h/\V3 x h<=x.S.Serial+1:=λhh=>by have:=UG hx hh;omega
 have m:EB 2:=Ωc;have u:EB 9:=Ωc;have j:EB 14:=Ωc;by_cases hc:D5 k a b c=0
 .have:=Gu hc;have hk:k=1\/k=2\/k=3\/k=4\/k=5\/k=6\/k=7\/k=8\/k=9\/k=10\/k=11\/k=12:=by omega
  rcases hk with rfl | rfl | rfl | rfl | rfl | rfl | rfl | rfl | rfl | rfl | rfl | rfl
  .rcases d1 hx hS hb hc with ⟨e,q,h⟩ | ⟨hn,B,i,hF,h⟩;·exact .inl ⟨e,h,a0W q⟩
   .exact .inr ⟨_,_,h,Δ,Δ⟩
  .exact .inr ⟨_,_,d2 hx hS hc,sb (sl b)⟩
  .exact .inr ⟨_,_,d3 hx hS hc,Δ,Δ⟩
  .rcases d4 hx hS hc with ⟨_,h⟩ | ⟨e,q,h⟩ | ⟨hl,n,_,hn,h⟩;·exact .inl ⟨_,h,m⟩
   .exact .inl ⟨_,h,NC q⟩
   .exact .inr ⟨_,_,h,sb (hx.sh.fl _ hl _ (zk hn))⟩
  .rcases d5 hx hS hc with ⟨_,h⟩ | ⟨e,q,h⟩ | ⟨hl,n,_,hn,h⟩;·exact .inl ⟨_,h,m⟩
   .exact .inl ⟨_,h,SD q⟩
   .exact .inr ⟨_,_,h,sb (sl c)⟩
  .rcases d6 hx hS hc with ⟨_,h⟩ | ⟨e,q,h⟩ | ⟨hw,h⟩;·exact .inl ⟨_,h,m⟩
   .exact .inl ⟨_,h,Xb q⟩
   .exact .inr ⟨_,_,h,sb (sl b)⟩
  .obtain⟨hl,⟨_,h⟩ | ⟨y,h⟩⟩:=d7 hx hS hc;·exact .inl ⟨_,h,u⟩
   .exact .inr ⟨_,_,h,sb (.inr ((hx.sh.cl _ hl).2.2.2.2 y).1)⟩
  .rcases d8 hx hS hc with ⟨_,h⟩ | ⟨_,e,q,h⟩ | ⟨hl,r,h1,g,h⟩;·exact .inl ⟨_,h,m⟩
   .exact .inl ⟨_,h,Xa q⟩
   .exact .inr ⟨_,_,h,sb (sl b)⟩
  .rcases d9 hx hS hc with ⟨_,h⟩ | ⟨_,_,h⟩ | ⟨_,v,hv,h⟩;·exact .inl ⟨_,h,m⟩
   .exact .inl ⟨_,h,u⟩
   .exact .inr ⟨_,_,h,sb (.inr (hx.sh.pr _ _ hv).2)⟩
  .refine .inr ⟨_,_,d10 hx hS hz hc,?_⟩;split <;> omega
  .obtain⟨h1,g⟩:=xb (x:=x) (a:=a) (b:=b) (c:=c) (.inl rfl) hc;exact .inl ⟨14,⟨Θ,h1,g⟩,j⟩
  .obtain⟨h1,g⟩:=xb (x:=x) (a:=a) (b:=b) (c:=c) (.inr rfl) hc;exact .inl ⟨14,⟨Θ,h1,g⟩,j⟩
 .obtain⟨h1,g⟩:=Lj (x:=x) (o:=⟨k,a,b,c⟩) hc;exact .inl ⟨_,⟨hc,h1,g⟩,Ny _ _ _ _⟩
theorem a0q(o:l6):(0<=(yj x o).2.1/\(yj x o).2.1<=x.S.Serial+1)/\EB (yj x o).2.2:=by
 have s0:=hx.sh.sr.V3;rcases a2z hx hS hz hb o with ⟨e,h,he⟩ | ⟨z,v,d,h0,h1⟩
 .unfold yj;rw[h.2.1,wp];exact⟨⟨md _,by show (0:Int)<=_;omega⟩,he⟩
 .unfold yj;rw[d.mc,wp];exact⟨⟨h0,h1⟩,Ωc⟩
end
theorem YU{ps:List (List l6)}(hm:Mp ps){x:Hp}(hx:Oh x)(hb:x.S.Serial<7000000000000000000)(row:List Int):(-1000<=(er ps x row).2.1/\(er ps x row).2.1<=x.S.Serial+1000)/\EB (er ps x row).2.2:=by
 have s0:=hx.rt.sh.sr.V3;unfold er;split
 .refine⟨⟨by show (-1000:Int)<=0;omega,by show (0:Int)<=_;omega⟩,?_⟩;show EB (bF row).2;unfold bF;rcases four row with ⟨k,a,b,c,rfl⟩ | hl
  .rw[FO,wp];split;·exact Ny _ _ _ _
   .exact Ωc
  .rw[(AB hl).1,wp];exact Ωc
 .rename_i h;have hc:=AA (Classical.not_not.1 h);generalize (bF row).1=o at hc;unfold eo;split
  .have:=Lf hm hx hb;exact⟨⟨by show (-1000:Int)<=QR x-((mh x).length:Int);omega,by show QR x-((mh x).length:Int)<=_;omega⟩,Ωc⟩
  split
  .rename_i hk;rw[hk] at hc;have e:=Nx hc;obtain⟨g,_,_⟩:=FR ps (p:=(x,o.A)) e.1;refine⟨⟨by show (-1000:Int)<=(dn ps (x,o.A):Int);omega,by show (dn ps (x,o.A):Int)<=_;simp only at g;omega⟩,?_⟩;show EB (YT _);unfold YT;split <;> exact Ωc
  .have:=a0q hx.rt hx.sl hx.zr Δ o;exact⟨⟨Δ,Δ⟩,this.2⟩
def nm(e:List ByteArray):List Int × Bool:=if e.all (λw=>(xx (aA w)).2)=true then (e.map (λw=>(xx (aA w)).1),true) else ([],false)
theorem NZ(F:ByteArray->Option (Int × Bool))(e:List ByteArray)(hF:∀w∈e,F w=some (xx (aA w)))(hl:e.length<=100000) :
  (lp (S:=Int × (List Int)) (E:=((List Int) × Bool) ⊕ (List Int)) (λ((j,m):Int × (List Int))=>
   if (decide (j<(e.length:Int))) then
    (ix e j).bind λy=>
    (F y).bind λo=>
    if (!o.2) then
     some (.inr (.inl ([],false)))
    else
    (app 8 m [o.1]).bind λz=>
    some (.inl (z8 (j+1),z))
   else
   some (.inr (.inr m))) (0,[])).bind (λv=>
  match v with
  | .inl w=>some w
  | .inr w=>some (w,true))=some (nm e):=by
 refine N7 e.length (λk l=>l=(e.take k).map (λw=>(xx (aA w)).1)/\(e.take k).all (λw=>(xx (aA w)).2)=true) Δ ⟨rfl,rfl⟩ (λk l hk g=>?_) λl g=>⟨_,za Ψ,?_⟩
 .obtain⟨rfl,u⟩:=g;dsimp only;rw[zc (Ω hk),x8 hk,a4L,hF _ (zk hk),a4L];cases hb:(xx (aA e[k])).2
  .refine .inr ⟨_,zc rfl,?_⟩;unfold nm;rw[za λq=>by
    have:=zf.1 q _ (zk hk);rw[hb] at this;cases this]
  .refine .inl ⟨_,?_,rfl,?_⟩
   .rw[za Θ,B5 Θ Ξ,a4L,p9,zn hk,n7];rfl
   .rw[zn hk,List.all_append,u,zag];simp[hb]
 .obtain⟨rfl,u⟩:=g;rw[zM] at u |-;unfold nm;rw[zc u]
def ZY(e:List ByteArray):Prop:=e.length<=100000/\∀w∈e,w.size<1000000000
theorem Xw{e:List ByteArray}(h:ZY e):bD e=some (nm e):=by
 unfold bD;simp only[jn];exact NZ bN e (λw hw=>a3X w (h.2 w hw)) h.1
theorem Tx(e:List ByteArray):(nm e).1.length<=e.length:=by
 unfold nm;split;·simp
 .simp
def J9:List (ByteArray × Nat):=[(r9 [112,114,111,103],13),(r9 [104,101,97,112],14),(r9 [110,101,119],1),(r9 [99,111,112,121],2),(r9 [100,114,111,112],3),(r9 [108,111,97,100],4),(r9 [115,116,111,114,101],5),(r9 [119,101,97,107],6),(r9 [117,112],7),(r9 [112,97,105,114],8),(r9 [103,101,116],9),(r9 [115,97,109,101],10),(r9 [99,111,108,108,101,99,116],11),(r9 [100,114,97,105,110],12),(r9 [108,105,118,101,115],15),(r9 [114,111,111,116,115],16),(r9 [116,97,108,108,121],17)]
def gh(w:ByteArray):Nat:=(C0 J9 w).getD 0
def tJ(i:Nat):Int:=[0,3,2,1,3,3,3,2,2,2,2,0,1,0,3,0,0,0].getD i 0
def tj(i:Nat):l5:=
 if i=13 then ⟨some (75,none),some (76,none),true⟩
 else if i=14 then ⟨some (137,some 3),some (78,none),true⟩
 else if i=15 then ⟨some (137,some 0),some (80,none),false⟩
 else if i=16 then ⟨some (137,some 0),some (81,none),false⟩
 else if i=17 then ⟨some (137,some 0),some (82,none),false⟩
 else ⟨some (137,some (tJ i)),some (138,some (i:Int)),false⟩
theorem NX{K V W:Type}[BEq K](f:V->W)(k:K):∀l:List (K × V),C0 (l.map λp=>(p.1,f p.2)) k=(C0 l k).map f
 | []=>rfl
 | p::l=>by
  simp only[ut,C0];split;·rfl
  .exact NX f k l
theorem rP{K V:Type}[BEq K]{k:K}{v:V}:∀ {l:List (K × V)},C0 l k=some v->∃p∈l,p.2=v/\(k==p.1)=true
 | [],h=>by cases h
 | p::l,h=>by
  simp only[C0] at h;split at h
  .rename_i q;cases h;exact⟨p,zm ..,rfl,q⟩
  .obtain⟨g,h1,e⟩:=rP h;exact⟨g,zx _ h1,e⟩
theorem WH:gn=some (J9.map λp=>(p.1,tj p.2)):=Φ
theorem Dc{w:ByteArray}(h:gh w≠0):C0 J9 w=some (gh w)/\1<=gh w/\gh w<=17:=by
 unfold gh at h |-;cases hm:C0 J9 w with
 | none=>rw[hm] at h;exact absurd rfl h
 | some i=>
  rw[hm] at h;refine⟨rfl,by have:i≠0:=h;show 1<=i;omega,?_⟩;obtain⟨p,hp,rfl,_⟩:=rP hm;have:∀p∈J9,p.2<=17:=Θ
  exact this p hp
theorem Vj{w:ByteArray}(h:gh w=0):C0 J9 w=none:=by
 unfold gh at h;cases hm:C0 J9 w with
 | none=>rfl
 | some i=>
  rw[hm] at h;have h0:i=0:=h;obtain⟨p,hp,e,_⟩:=rP hm;have:∀p∈J9,p.2≠0:=Θ
  exact absurd (e.trans h0) (this p hp)
def QV(i n:Nat):Bool:=if i=13 then n % 4==1 else (n:Int)==tJ i
theorem US{i n:Nat}(h1:1<=i)(j:i<=17)(hn:n<=100000):rK (tj i).takes (n:Int)=some (QV i n):=by
 have hi:i=1\/i=2\/i=3\/i=4\/i=5\/i=6\/i=7\/i=8\/i=9\/i=10\/i=11\/i=12\/i=13\/i=14\/i=15\/i=16\/i=17:=Δ
 have e:rK (tj 13).takes (n:Int)=some (QV 13 n):=by
  show (rem (n:Int) 4).bind (λg=>some (g==1))=some (n % 4==1);rw[pj Δ Θ,a4L];congr 1;rw[zao,wl,wl];omega
 rcases hi with rfl | rfl | rfl | rfl | rfl | rfl | rfl | rfl | rfl | rfl | rfl | rfl | rfl | rfl | rfl | rfl | rfl
 all_goals first
  | exact e
  | rfl
def mo(n:Int):List UInt8:=aA ((nB n).getD ByteArray.empty)
theorem xa{n:Int}(h0 : -9223372036854775808<=n)(h1:n<=9223372036854775807):nB n=some (r9 (mo n))/\(mo n).length<=21:=by
 obtain⟨l,e,h⟩:=CN h0 h1;unfold mo;rw[e,wp,K9];exact⟨rfl,h⟩
def jP(e:Int):ByteArray:=r9 ([101,114,114,111,114,32]++mo e)
theorem tU{e:Int}(h:EB e):D6 e=some (jP e):=by
 obtain⟨h1,g⟩:=xa (n:=e) (by have:=h.1;omega) (by have:=h.2;omega);unfold D6;rw[h1,a4L,fJ Δt,a4L,K9,K9];rfl
def Ke(p:Int × Int):ByteArray:=if p.2≠0 then jP p.2 else r9 (mo p.1)
theorem Kf{p:Int × Int}(hv : -9223372036854775808<=p.1/\p.1<=9223372036854775807)(he:EB p.2):cy (anE p)=some (Ke p):=by
 unfold Ke;show (if (p.2 != 0)=true then (D6 p.2).bind (λe=>some e) else (nB p.1).bind λv2=>some v2)=_;by_cases q:p.2=0
 .rw[za (by simp[q]),za (by simp[q]),(xa hv.1 hv.2).1];rfl
 .rw[zc (Ω q),zc q,tU he];rfl
def iU(w:List UInt8)(l:List Int):List UInt8:=l.foldl (λw n=>w++32::mo n) w
theorem BQ(w:List UInt8)(l:List Int)(n:Int):iU w (l ++ [n])=iU w l++32::mo n:=by
 unfold iU;rw[za5];rfl
def I64(n:Int):Prop:=-9223372036854775808<=n/\n<=9223372036854775807
theorem Es(w:List UInt8)(l:List Int)(h:∀n∈l,I64 n):(iU w l).length<=w.length+22*l.length:=by
 induction l generalizing w with
 | nil=>exact zq _
 | cons n l ih=>
  have h1:=ih (w++32::mo n) λm hm=>h m (zx _ hm);have e:=(xa (h n (zm ..)).1 (h n (zm ..)).2).2;simp only[zD,zl] at h1 |-;show (iU (w++32::mo n) l).length<=_;omega
theorem xo{w:List UInt8}{l:List Int}(hw:w.length<=100)(hl:l.length<=100)(h:∀n∈l,I64 n):ai (r9 w) l=some (r9 (iU w l)):=by
 unfold ai;simp only[jn];refine oJ (λ(x:ByteArray × Int)=>∃k:Nat,x.2=(k:Int)/\k<=l.length/\x.1=r9 (iU w (l.take k))) (λx=>l.length-x.2.toNat) ⟨0,rfl,rg _,rfl⟩ Ωg ?_;rintro⟨s,kk⟩ ⟨k,h1,j,e⟩;simp only at h1 e;subst h1;subst e;by_cases hk:k<l.length
 .have hb:=h _ (zk hk);obtain⟨d1,d2⟩:=xa hb.1 hb.2;have hlen:=Es w (l.take k) λn hn=>h n (zak hn);have g:(l.take k).length<=100:=by rw[n9];omega
  refine .inl ⟨(r9 (iU w (l.take k)++32::mo l[k]),((k+1:Nat):Int)),?_,⟨k+1,rfl,hk,?_⟩,?_⟩
  .rw[zc (Ω hk),x8 hk,a4L,d1,a4L,fJ Δt,a4L,fJ (by rw[H9,H9,zD,K9,K9];simp only[zl,zT];omega),a4L,p9];simp only[K9];rfl
  .show r9 _=_;rw[zn hk,BQ]
  .simp only[zO];omega
 .rw[za (Ω hk)];refine .inr ⟨_,rfl,?_⟩;rw[zaj Δ]
structure Cn (c:k7) (n:Nat):Prop where
 pg:bu c.progs=true
 mp:Mp c.g.Progs
 rs:c.begun=true->Rs c.g.X n
theorem Cn.mono{c:k7}{n m:Nat}(h:Cn c n)(hm:n<=m):Cn c m:=
 ⟨h.pg,h.mp,λq=>⟨(h.rs q).rt,(h.rs q).sl,(h.rs q).zr,by have:=(h.rs q).V3;omega⟩⟩
theorem GL{l:List (List l6)}(h:bu l=true):l.length<=6/\∀p∈l,p.length<=6:=by
 refine⟨?_,(Zk h).1⟩;unfold bu at h;rw[zo] at h;exact zbh h.1
def okB:ByteArray:=r9 [111,107]
def noB:ByteArray:=r9 [110,111,32,104,101,97,112]
def nu(k:Int)(l:List Int):List Int:=k::(l++List.replicate (3-l.length) 0)
noncomputable def Ld(c:k7)(k:Int)(l:List Int):k7 × ByteArray:=
 (⟨⟨(er c.g.Progs c.g.X (nu k l)).1,c.g.Progs⟩,c.begun,c.progs⟩,Ke (er c.g.Progs c.g.X (nu k l)).2)
theorem a3s{x:Hp}{n:Nat}(h:Rs x n)(hn:n<=1000000):x.S.Serial<7000000000000000000:=by have:=h.V3;omega
theorem ZZ{x:Hp}{n:Nat}(h:Rs x n)(hn:n<=1000000){p:Int × Int}(hp:(-1000<=p.1/\p.1<=x.S.Serial+1000)/\EB p.2):cy (anE p)=some (Ke p):=
 Kf (by have:=h.V3;omega) hp.2
theorem a1J{c:k7}{n:Nat}(hc:Cn c n)(hb:c.begun=true)(hn:n<=1000000)(k:Int){l:List Int}(hl:l.length<=3) :
  T9 c l k=some (Ld c k l)/\Cn (Ld c k l).1 (n+201):=by
 have hr:=hc.rs hb;have e:=a3s hr hn;obtain⟨⟨x,ps⟩,b,pg⟩:=c;have hm:Mp ps:=hc.mp;have hr:Rs x n:=hr;refine⟨?_,hc.pg,hm,λ_=>?_⟩
 .unfold T9 Z5;have j:mk 8 4 (0:Int)=some [0,0,0,0]:=rfl;have m:Iu ([0,0,0,0].set (0:Int).toNat k) 1 l=some (nu k l):=by
   unfold Iu nu;rw[zc ⟨Θ,Ξ⟩];match l,hl with
   | [],_=>rfl
   | [a],_=>rfl
   | [a,b],_=>rfl
   | [a,b,c],_=>rfl
  have o:ix [(0:Int),0,0,0] 0=some 0:=rfl;rw[j,a4L,o,a4L,m,a4L,edo hm hr.oh e (nu k l),a4L];dsimp only;rw[ZZ hr hn (YU hm hr.oh e (nu k l))];rfl
 .obtain⟨g,q⟩:=a2E hm hr.oh e (nu k l);exact⟨g.rt,g.sl,g.zr,by have:=hr.V3;show (er ps x (nu k l)).1.S.Serial<=_;omega⟩
noncomputable def a0T(x:Hp):ByteArray:=r9 (iU [108,105,118,101,115] (QU x))
noncomputable def Di(x:Hp):List Int:=(List.range 6).map λ(r:Nat)=>V3 x (sd x (r:Int))
noncomputable def a1I(x:Hp):ByteArray:=r9 (iU [114,111,111,116,115] (Di x))
noncomputable def a1Z(x:Hp):ByteArray:=r9 (iU [116,97,108,108,121] [(UT x).a,(UT x).b,(UT x).c,(UT x).d])
section
variable{x:Hp}{ps:List (List l6)}(hx:R9 x){n:Nat}(hn:x.S.Serial<=n)(h1:n<=1000000)
include hx hn h1
theorem UO:∀m∈QU x,I64 m:=λm hm=>by
 unfold QU at hm;obtain⟨h,hh,rfl⟩:=zP.1 hm;have:=UG hx (.inr hh);exact⟨Δ,Δ⟩
theorem Uz:∀m∈Di x,I64 m:=λm hm=>by
 unfold Di at hm;obtain⟨r,_,rfl⟩:=zP.1 hm;have:=UG hx (tE hx.sh (r:Int));exact⟨Δ,Δ⟩
theorem UU:∀m ∈ [(UT x).a,(UT x).b,(UT x).c,(UT x).d],I64 m:=λm hm=>by
 have hl:=hx.sh.sr.len;have key:∀k,0<=((uv x.S.S.a8 k:Nat):Int)/\((uv x.S.S.a8 k:Nat):Int)<=24:=λk=>by
  have:uv x.S.S.a8 k<=x.S.S.a8.length:=za3;omega
 simp only[UT,zV,zb9,or_false] at hm;rcases hm with rfl | rfl | rfl | rfl <;> exact⟨by have:=key 0;have:=key 1;have:=key 2;have:=key 3;omega,by have:=key 0;have:=key 1;have:=key 2;have:=key 3;omega⟩
theorem Tc(b:Bool)(pg:List (List l6))(l:List Int):O0 ⟨⟨x,ps⟩,b,pg⟩ l=some (⟨⟨x,ps⟩,b,pg⟩,a0T x):=by
 unfold O0;rw[a0s hx,a4L,xo Θ (by have:=HE (x:=x) hx.sh.sr;omega) (UO hx hn h1)];rfl
theorem UW(b:Bool)(pg:List (List l6))(l:List Int):W5 ⟨⟨x,ps⟩,b,pg⟩ l=some (⟨⟨x,ps⟩,b,pg⟩,a1Z x):=by
 unfold W5;rw[a4e hx,a4L,xo Θ Ψ (UU hx hn h1)];rfl
theorem Uv(b:Bool)(pg:List (List l6))(l:List Int):O1 ⟨⟨x,ps⟩,b,pg⟩ l=some (⟨⟨x,ps⟩,b,pg⟩,a1I x):=by
 unfold O1;have q:mk 8 6 (0:Int)=some [0,0,0,0,0,0]:=rfl;rw[q,a4L];simp only[jn];refine N7 6 (λk t=>t.length=6/\t.take k=(Di x).take k) Θ ⟨rfl,rfl⟩ (λk t hk ht=>.inl ⟨t.set k (V3 x (sd x (k:Int))),?_,by rw[zas];exact ht.1,?_⟩) λt ht=>⟨t,za Ψ,?_⟩
 .dsimp only;rw[zc Ξ,Im hx.sh (k:Int),a4L,x8 (by rw[ht.1];exact hk),a4L,p9];rfl
 .have j:k<(Di x).length:=by unfold Di;rw[zX,List.length_range];exact hk
  have m:k<t.length:=by rw[ht.1];exact hk
  have o:(Di x)[k]? = some (V3 x (sd x (k:Int))):=by
   unfold Di;rw[zW,List.getElem?_range hk];rfl
  have e:(Di x)[k]=V3 x (sd x (k:Int)):=(zA.1 o).2;rw[zn (by rw[zas];exact m),List.getElem_set_self,List.take_set_of_le (zq _),ht.2,zn j,e]
 .have g:=ht.2;have hr:(Di x).length=6:=by unfold Di;rw[zX,List.length_range]
  rw[zaj Δ,zaj Δ] at g;subst g;rw[xo Θ Δ (Uz hx hn h1)];rfl
end
def cV:List Int->List l6
 | a::b::c::d::r=>⟨a,b,c,d⟩::cV r
 | _=>[]
theorem Og:∀l:List Int,(cV l).length*4<=l.length
 | []=>zq _
 | [_]=>by simp[cV]
 | [_,_]=>by simp[cV]
 | [_,_,_]=>by simp[cV]
 | a::b::c::d::r=>by
  have:=Og r;simp only[cV,zl];omega
def iw(p:List (List l6))(l:List Int):List (List l6):=(p++List.replicate ((l.headD 0).toNat+1-p.length) []).set (l.headD 0).toNat (cV (l.drop 1))
def Ip(c:k7)(l:List Int):k7 × ByteArray:=
 if l.headD 0<0\/l.headD 0 > 5 then (c,jP 13)
 else if bu (iw c.progs l)=true then (⟨c.g,c.begun,iw c.progs l⟩,okB) else (c,jP 13)
theorem Vr:EB 13:=Ωc
theorem Oo{p:List (List l6)}{l:List Int}(h0:0<=l.headD 0)(e:l.headD 0<=5)(hp:p.length<=6)(hq:∀q∈p,q.length<=6)(hl:l.length<=4000):(iw p l).length<=12/\∀q∈iw p l,q.length<=1000:=by
 unfold iw;refine⟨by rw[zas,zD,zbl];omega,λq hm=>?_⟩;rcases zan hm with h | rfl
 .rcases zC.1 h with h | h
  .have:=hq q h;omega
  .rw[(zbn.1 h).2];simp
 .have:=Og (l.drop 1);rw[zcb] at this;omega
theorem a1p{c:k7}{n:Nat}(hc:Cn c n){l:List Int}(hl:l.length % 4=1)(hm:l.length<=4000) :
  R3 c l=some (Ip c l)/\Cn (Ip c l).1 n:=by
 obtain⟨p6,q6⟩:=GL hc.pg;obtain⟨a,r,rfl⟩:∃a r,l=a::r:=by
  cases l with
  | nil=>simp at hl
  | cons a r=>exact⟨a,r,rfl⟩
 have e0:ix (a::r) 0=some a:=rfl;have hP:Ip c (a::r)=if a<0\/a > 5 then (c,jP 13) else if bu (iw c.progs (a::r))=true then (⟨c.g,c.begun,iw c.progs (a::r)⟩,okB) else (c,jP 13):=rfl
 unfold R3;rw[e0,a4L,hP];by_cases h:a<0\/a > 5
 .rw[zc Ωu,tU Vr,zc h];exact⟨rfl,hc⟩
 .rw[za Ωu,za h];obtain⟨k,rfl⟩:∃k:Nat,a=k:=⟨a.toNat,Δ⟩;have hw:z8 ((k:Int)+1)=((k+1:Nat):Int):=p9 Δ;have hmx:(if (c.progs.length:Int) > z8 ((k:Int)+1) then (c.progs.length:Int) else z8 ((k:Int)+1))=((max (k+1) c.progs.length:Nat):Int):=by
   rw[hw];split <;> omega
  have h12:max (k+1) c.progs.length<=12:=Δ
  rw[hmx,mJ Δ Δ,a4L];have N:yT (List.replicate (max (k+1) c.progs.length) ([]:List l6)) c.progs=some (c.progs++List.replicate (k+1-c.progs.length) []):=by
   unfold yT;rw[zc (by rw[zbl];omega),List.drop_replicate,show max (k+1) c.progs.length-c.progs.length=k+1-c.progs.length by omega]
  have R:k<(c.progs++List.replicate (k+1-c.progs.length) ([]:List l6)).length:=by simp;omega
  rw[N,a4L,x8 R,a4L];simp only[jn];have P:cut ((k:Int)::r) 1 ((((k:Int)::r).length:Nat):Int)=some r:=by
   have:=jN (xs:=(k:Int)::r) (i:=1) (j:=((k:Int)::r).length) Ψ (zq _);rw[zM] at this;exact this
  rw[P,a4L];have V:r.length % 4=0:=by simp only[zl] at hl;omega
  have hrl:r.length<=4000:=by simp only[zl] at hm;omega
  have O2:=Oo (p:=c.progs) (l:=(k:Int)::r) Ω6 Ω6 p6 q6 hm;have T:(c.progs++List.replicate (k+1-c.progs.length) ([]:List l6)).set (k:Int).toNat (cV r)=iw c.progs ((k:Int)::r):=by
   unfold iw;simp only[zcg,zO,List.drop_one,List.tail_cons]
  have key:∀K:List l6->Option (k7 × ByteArray),(lp (S:=(List Int) × (List l6)) (E:=(List l6)) (λ((m,o):(List Int) × (List l6))=>
   if (decide ((m.length:Int) > 0)) then
    (ix m 0).bind λq=>
    (ix m 1).bind λy=>
    (ix m 2).bind λz=>
    (ix m 3).bind λA=>
    (app 32 o [(⟨q,y,z,A⟩:l6)]).bind λB=>
    (cut m 4 (m.length:Int)).bind λC=>
    some (.inl (C,B))
   else
   some (.inr o)) (r,[])).bind K=K (cV r):=by
   intro K;have:(lp (S:=(List Int) × (List l6)) (E:=(List l6)) (λ((m,o):(List Int) × (List l6))=>
   if (decide ((m.length:Int) > 0)) then
    (ix m 0).bind λq=>
    (ix m 1).bind λy=>
    (ix m 2).bind λz=>
    (ix m 3).bind λA=>
    (app 32 o [(⟨q,y,z,A⟩:l6)]).bind λB=>
    (cut m 4 (m.length:Int)).bind λC=>
    some (.inl (C,B))
   else
   some (.inr o)) (r,[]))=some (cV r):=by
    refine cP (jX (λ(x:List Int × List l6)=>x.1.length % 4=0/\x.2.length+x.1.length<=4000/\x.2++cV x.1=cV r) (λe=>e=cV r) (λx=>x.1.length) ⟨V,ΩD,rfl⟩ Ωg ?_);rintro⟨u,v⟩ ⟨h1,H,G⟩;simp only at h1 H G;match u,h1,H,G with
    | [],_,_,G=>exact .inr ⟨_,rfl,by rw[<-G];simp[cV]⟩
    | [_],h1,_,_=>simp at h1
    | [_,_],h1,_,_=>simp at h1
    | [_,_,_],h1,_,_=>simp at h1
    | a::b::F::d::t,h1,H,G=>
     simp only[zl] at h1 H;have ct:cut (a::b::F::d::t) 4 (((a::b::F::d::t).length:Nat):Int)=some t:=by
      have:=jN (xs:=a::b::F::d::t) (i:=4) (j:=(a::b::F::d::t).length) ΩE (zq _);rw[zM] at this;exact this
     refine .inl ⟨(t,v ++ [⟨a,b,F,d⟩]),?_,⟨Ωg,ΩI,?_⟩,ΩE⟩
     .refine (zc (by simp only[zl,zI];omega)).trans ?_;show (app 32 v [(⟨a,b,F,d⟩:l6)]).bind _=_;rw[B5 Θ Ωs,a4L,ct];rfl
     .rw[<-G];simp[cV]
   rw[this];rfl
  rw[key,T,Jt O2.1 O2.2,a4L];cases hq:bu (iw c.progs ((k:Int)::r))
  .rw[zc Ωm,tU Vr,za Θ];exact⟨rfl,hc⟩
  .rw[za Θ,zc rfl];exact⟨rfl,hq,hc.mp,hc.rs⟩
noncomputable def Dq(c:k7)(l:List Int):k7 × ByteArray:=
 let r:=(S9 (l.getD 0 0) (l.getD 1 0) (l.getD 2 0) c.progs).getD (c.g,0)
 if r.2≠0 then (c,jP r.2) else (⟨r.1,true,c.progs⟩,okB)
theorem a0N{c:k7}{n:Nat}(hc:Cn c n){l:List Int}(hl:l.length=3) :
  Q4 c l=some (Dq c l)/\Cn (Dq c l).1 n:=by
 obtain⟨a,b,d,rfl⟩:∃a b d,l = [a,b,d]:=by
  match l,hl with
  | [a,b,d],_=>exact⟨a,b,d,rfl⟩
 obtain⟨A,z⟩:=GL hc.pg;have u:ix [a,b,d] 0=some a:=rfl;have v:ix [a,b,d] 1=some b:=rfl;have y:ix [a,b,d] 2=some d:=rfl;have o:Dq c [a,b,d]=if ((S9 a b d c.progs).getD (c.g,0)).2≠0 then (c,jP ((S9 a b d c.progs).getD (c.g,0)).2) else (⟨((S9 a b d c.progs).getD (c.g,0)).1,true,c.progs⟩,okB):=rfl
 unfold Q4;rw[u,a4L,v,a4L,y,a4L];rcases Zl (n:=a) (last:=b) (places:=d) (ps:=c.progs) Δ (λp hp=>by have:=z p hp;omega) with ⟨e,h1,_,m⟩ | ⟨k,p,_,_,_,hm,hr,h1,_⟩
 .have he:e≠0:=by rcases m with rfl | ⟨rfl,_⟩ <;> decide
  have hb:EB e:=by rcases m with rfl | ⟨rfl,_⟩ <;> constructor <;> simp
  have j:Dq c [a,b,d]=(c,jP e):=by
   rw[o,h1,wp];exact zc he
  rw[j,h1,a4L];refine⟨(zc (Ω he)).trans ?_,hc⟩;show (D6 e).bind _=_;rw[tU hb];rfl
 .have j:Dq c [a,b,d]=(⟨⟨Ez k b p,c.progs⟩,true,c.progs⟩,okB):=by
   rw[o,h1,wp];exact za (λq=>q rfl)
  rw[j,h1,a4L];exact⟨rfl,hc.pg,hm,λ_=>⟨hr.rt,hr.sl,hr.zr,by have:=hr.V3;show (Ez k b p).S.Serial<=_;omega⟩⟩
noncomputable def mg(c:k7)(i:Nat)(l:List Int):k7 × ByteArray:=
 if i=13 then Ip c l else if i=14 then Dq c l else if i=15 then (c,a0T c.g.X) else if i=16 then (c,a1I c.g.X) else if i=17 then (c,a1Z c.g.X) else Ld c i l
noncomputable def fH(c:k7)(w:ByteArray)(e:List ByteArray):k7 × ByteArray:=
 if gh w=0\/(nm e).2=false\/QV (gh w) (nm e).1.length=false then (c,jP 33)
 else if c.begun=false/\gh w≠13/\gh w≠14 then (c,noB)
 else mg c (gh w) (nm e).1
theorem e33:EB 33:=Ωc
variable {i n:Nat}{w:ByteArray}
theorem RV(h1:1<=i)(e:i<=17):(tj i).early=decide (i=13\/i=14):=by
 have hi:i=1\/i=2\/i=3\/i=4\/i=5\/i=6\/i=7\/i=8\/i=9\/i=10\/i=11\/i=12\/i=13\/i=14\/i=15\/i=16\/i=17:=Δ
 rcases hi with rfl | rfl | rfl | rfl | rfl | rfl | rfl | rfl | rfl | rfl | rfl | rfl | rfl | rfl | rfl | rfl | rfl <;> rfl
theorem a0a{c:k7}(hc:Cn c n)(hn:n<=1000000)(h1:1<=i)(g:i<=17){l:List Int}(ht:QV i l.length=true)(hm:l.length<=4000)(hb:c.begun=true\/i=13\/i=14) :
  rL (tj i).run c l=some (mg c i l)/\Cn (mg c i l).1 (n+201):=by
 have hi:(1<=i/\i<=12)\/i=13\/i=14\/i=15\/i=16\/i=17:=Δ
 rcases hi with hi | rfl | rfl | rfl | rfl | rfl
 .have e:c.begun=true:=by
   rcases hb with q | q | q
   .exact q
   .omega
   .omega
  have hl:l.length<=3:=by
   unfold QV at ht;rw[za Δ,wl] at ht;have:∀j:Nat,tJ j<=3:=λj=>by
    unfold tJ;rw[zg];rcases zE j 18 with q | q
    .have hj:∀j:Fin 18,(([0,3,2,1,3,3,3,2,2,2,2,0,1,0,3,0,0,0]:List Int)[j.1]?).getD 0<=3:=by decide
     exact hj ⟨j,q⟩
    .rw[p0 (Ω q)];decide
   have:=this i;omega
  have hf:rL (tj i).run c l=T9 c l i:=by
   unfold tj;rw[za Δ,za Δ,za Δ,za Δ,za Δ];rfl
  have ha:mg c i l=Ld c i l:=by
   unfold mg;rw[za Δ,za Δ,za Δ,za Δ,za Δ]
  rw[hf,ha];exact a1J hc e hn i hl
 .have hl:l.length % 4=1:=by
   have ht:(l.length % 4==1)=true:=ht;exact wl.1 ht
  obtain⟨a,b⟩:=a1p hc hl hm;exact⟨a,b.mono Δ⟩
 .have hl:l.length=3:=by
   have ht:((l.length:Int)==3)=true:=ht;have:=wl.1 ht;omega
  obtain⟨a,b⟩:=a0N hc hl;exact⟨a,b.mono Δ⟩
 all_goals
  have e:c.begun=true:=by
   rcases hb with q | q | q
   .exact q
   .omega
   .omega
  have hr:=hc.rs e;refine⟨?_,hc.mono Δ⟩;obtain⟨⟨x,ps⟩,b,pg⟩:=c
 .exact Tc hr.rt hr.V3 hn b pg l
 .exact Uv hr.rt hr.V3 hn b pg l
 .exact UW hr.rt hr.V3 hn b pg l
theorem CA{c:k7}(hc:Cn c n)(hn:n<=1000000){e:List ByteArray}(hw:ZY (w::e))(hm:e.length<=4000) :
  G2 c (w::e)=some (fH c w e)/\Cn (fH c w e).1 (n+201):=by
 have u:ZY e:=⟨by have:=hw.1;simp only[zl] at this;omega,λv hv=>hw.2 v (zx _ hv)⟩;have K:ix (w::e) 0=some w:=rfl;have B:cut (w::e) 1 (((w::e).length:Nat):Int)=some e:=by
  have:=jN (xs:=w::e) (i:=1) (j:=(w::e).length) Ψ (zq _);rw[zM] at this;exact this
 have hnl:=Tx e;have hE:∀ {q:Prop},fH c w e=(c,jP 33)->Cn (fH c w e).1 (n+201):=λh=>by rw[h];exact hc.mono Δ
 unfold G2;rw[WH,a4L,K,a4L,B,a4L,Xw u,a4L,NX];by_cases h0:gh w=0
 .have g:fH c w e=(c,jP 33):=zc (.inl h0);refine⟨?_,hE (q:=True) g⟩;rw[Vj h0,g];show (if (((!false)||(!(nm e).2))==false)=true then _ else (D6 33).bind _)=_;rw[za Ψ,tU e33];rfl
 obtain⟨hs,h1,m⟩:=Dc h0;rw[hs];cases C:(nm e).2
 .have g:fH c w e=(c,jP 33):=zc (.inr (.inl C));refine⟨?_,hE (q:=True) g⟩;rw[g];show (if (((!true)||(!false))==false)=true then _ else (D6 33).bind _)=_;rw[za Θ,tU e33];rfl
 show (if (((!true)||(!true))==false)=true then ((rK (tj (gh w)).takes ((nm e).1.length:Int)).bind λN=>if (!N)=true then (D6 33).bind (λP=>some (c,P)) else if ((!c.begun)&&(!(tj (gh w)).early))=true then some (c,noB) else (rL (tj (gh w)).run c (nm e).1).bind λF=>some (F.1,F.2)) else _)=_/\_;rw[zc Θ,US h1 m (by have:=u.1;omega),a4L];cases A:QV (gh w) (nm e).1.length
 .have g:fH c w e=(c,jP 33):=zc (.inr (.inr A));refine⟨?_,hE (q:=True) g⟩;rw[g,zc Θ,tU e33];rfl
 have E:¬(gh w=0\/(nm e).2=false\/QV (gh w) (nm e).1.length=false):=by rw[C,A];simp[h0]
 rw[za Θ,RV h1 m];by_cases o:c.begun=false/\gh w≠13/\gh w≠14
 .have g:fH c w e=(c,noB):=(za E).trans (zc o);refine⟨?_,by rw[g];exact hc.mono Δ⟩;rw[g,o.1,zH Δ,zc Θ]
 .have hb:c.begun=true\/gh w=13\/gh w=14:=by
   cases hq:c.begun
   .rw[hq] at o;by_cases z:gh w=13
    .exact .inr (.inl z)
    by_cases y:gh w=14
    .exact .inr (.inr y)
    exact absurd ⟨rfl,z,y⟩ o
   .exact .inl rfl
  obtain⟨G,H⟩:=a0a hc hn h1 m (l:=(nm e).1) A Δ hb;have g:fH c w e=mg c (gh w) (nm e).1:=(za E).trans (za o);rw[g];refine⟨?_,H⟩;rw[za (by
   rw[zo,zbp,zbp,decide_eq_false_iff_not];rintro⟨z,y⟩;rcases hb with q | q | q
   .rw[z] at q;cases q
   .exact y (.inl q)
   .exact y (.inr q)),G]
  rfl
def X6:List UInt8->List (List UInt8)->List UInt8->List (List (List UInt8))
 | w,r,[]=>if J1 w r = [] then [] else [J1 w r]
 | w,r,b::l=>if b=10 then (if J1 w r = [] then X6 [] [] l else J1 w r::X6 [] [] l) else if IK b=true then X6 [] (J1 w r) l else X6 (w ++ [b]) r l
def yd(xs:List (List UInt8)):List (List (List UInt8)):=(xs.map (br [] [])).filter λr => !(r == [])
theorem wL(x:List UInt8)(xs:List (List UInt8)):yd (x::xs)=(if br [] [] x = [] then [] else [br [] [] x])++yd xs:=by
 unfold yd;rw[ut,my];by_cases h:br [] [] x = []
 .rw[za (by simp[h]),zc h];rfl
 .rw[zc (by simp[h]),za h];rfl
theorem vp:∀(l w:List UInt8) (r:List (List UInt8)),∃x xs,Dj l=x::xs/\X6 w r l=(if br w r x = [] then [] else [br w r x])++yd xs
 | [],w,r=>⟨[],[],rfl,by
  show (if J1 w r = [] then [] else [J1 w r])=(if J1 w r = [] then [] else [J1 w r]) ++ [];rw[t6]⟩
 | b::l,w,r=>by
  by_cases hb:b=10
  .obtain⟨x,xs,h1,e⟩:=vp l [] [];refine⟨[],Dj l,by rw[Dj,zc hb],?_⟩;rw[X6,zc hb,e,h1,wL];show _=(if J1 w r = [] then [] else [J1 w r])++_;split <;> rfl
  .by_cases hB:IK b=true
   .obtain⟨x,xs,h1,e⟩:=vp l [] (J1 w r);refine⟨b::x,xs,by rw[Dj,za hb,h1],?_⟩;rw[X6,za hb,zc hB,e,br,zc hB]
   .obtain⟨x,xs,h1,e⟩:=vp l (w ++ [b]) r;refine⟨b::x,xs,by rw[Dj,za hb,h1],?_⟩;rw[X6,za hb,za hB,e,br,za hB]
theorem BS(l:List UInt8):X6 [] [] l=yd (Dj l):=by
 obtain⟨x,xs,h1,e⟩:=vp l [] [];rw[e,h1,wL]
theorem vo(m:List UInt8):∀(l w:List UInt8) (r:List (List UInt8)),X6 w r (l++10::m)=X6 w r l++X6 [] [] m
 | [],w,r=>by
  have e:X6 w r (10::m)=if J1 w r = [] then X6 [] [] m else J1 w r::X6 [] [] m:=by
   rw[X6];exact zc rfl
  rw[zbz,e];show _=(if J1 w r = [] then [] else [J1 w r])++X6 [] [] m;split <;> rfl
 | b::l,w,r=>by
  rw[List.cons_append,X6,X6];split
  .split;·exact vo m l [] []
   .rw[vo m l [] []];rfl
  split;·exact vo m l [] (J1 w r)
  .exact vo m l (w ++ [b]) r
theorem AW:∀l:List UInt8,(Dj l).length<=l.length+1/\∀x∈Dj l,x.length<=l.length
 | []=>⟨zq _,λx hx=>by rw[Dj,zR] at hx;rw[hx];exact zq _⟩
 | b::l=>by
  obtain⟨h1,g⟩:=AW l;rw[Dj];split
  .refine⟨ΩE,λx hx=>?_⟩;rcases zV.1 hx with rfl | hx
   .simp
   .have:=g x hx;simp only[zl];omega
  .split
   .rename_i y ys e;rw[e] at h1 g;simp only[zl] at h1;refine⟨ΩE,λx hx=>?_⟩;rcases zV.1 hx with rfl | hx
    .have:=g y (zm ..);simp only[zl];omega
    .have:=g x (zx _ hx);simp only[zl];omega
   .refine⟨Ψ,λx hx=>?_⟩;rw[zR] at hx;rw[hx];simp
theorem Ed(w:List UInt8)(r:List (List UInt8)){m:Nat}(hw:w.length<=m)(hr:∀x∈r,x.length<=m):(J1 w r).length<=r.length+1/\∀x∈J1 w r,x.length<=m:=by
 unfold J1;split;·exact⟨Nat.le_succ _,hr⟩
 .refine⟨Ψ,λx hx=>?_⟩;rcases zC.1 hx with h | h
  .exact hr x h
  .rw[zR.1 h];exact hw
theorem uS{m:Nat}:∀(l w:List UInt8) (r:List (List UInt8)),w.length+l.length<=m->(∀x∈r,x.length<=m)->(br w r l).length<=r.length+l.length+1/\∀x∈br w r l,x.length<=m
 | [],w,r,hw,hr=>by
  have:=Ed w r (m:=m) (Ω hw) hr;exact⟨by simp only[br,zT];omega,this.2⟩
 | b::l,w,r,hw,hr=>by
  simp only[zl] at hw |-;rw[br];split
  .have h1:=Ed w r (m:=m) Δ hr;have:=uS l [] (J1 w r) ΩD h1.2;exact⟨Δ,this.2⟩
  .have:=uS l (w ++ [b]) r ΩI hr;exact⟨Δ,this.2⟩
noncomputable def sS(c:k7)(r:List (List UInt8)):k7 × ByteArray:=match r with
 | []=>(c,ByteArray.empty)
 | w::e=>fH c (r9 w) (e.map r9)
noncomputable def K6(c:k7)(rs:List (List (List UInt8))):k7 × List ByteArray:=rs.foldl (λp r=>((sS p.1 r).1,p.2 ++ [(sS p.1 r).2])) (c,[])
theorem CH:∀(rs:List (List (List UInt8))) (c:k7) (a:List ByteArray),rs.foldl (λp r=>((sS p.1 r).1,p.2 ++ [(sS p.1 r).2])) (c,a)=((K6 c rs).1,a++(K6 c rs).2)
 | [],c,a=>by simp[K6]
 | r::rs,c,a=>by
  unfold K6;rw[zaw,zaw,CH rs,CH rs,pu];rfl
theorem wm(c:k7)(a b:List (List (List UInt8))):K6 c (a++b)=((K6 (K6 c a).1 b).1,(K6 c a).2++(K6 (K6 c a).1 b).2):=by
 have:K6 c (a++b)=b.foldl (λp r=>((sS p.1 r).1,p.2 ++ [(sS p.1 r).2])) (K6 c a):=by
  unfold K6;rw[za5]
 rw[this];exact CH b _ _
theorem wo(c:k7)(r:List (List UInt8)):K6 c [r]=((sS c r).1,[(sS c r).2]):=rfl
theorem CI(c:k7)(a:List (List (List UInt8))):(K6 c a).2.length=a.length:=by
 induction a generalizing c with
 | nil=>rfl
 | cons r a ih=>
  have:=wm c [r] a;rw[List.singleton_append] at this;rw[this,wo];simp only[zD,zl,zT,ih];omega
def c0:k7:=⟨⟨⟨⟨⟨[],0⟩,0⟩,[],[],[],⟨[],0⟩⟩,[]⟩,false,[]⟩
theorem RD:Cn c0 0:=⟨rfl,(λp hp=>absurd (show p∈([]:List (List l6)) from hp) zb9),(λq=>absurd (show false=true from q) Θ)⟩
theorem Ta{s:ByteArray}(hs:s.size<=2000):dm s=some (K6 c0 (X6 [] [] (aA s))).2/\Cn (K6 c0 (X6 [] [] (aA s))).1 500000:=by
 have hl:=fe s;obtain⟨s1,s2⟩:=AW (aA s);rw[BS];generalize E:Dj (aA s)=xs at s1 s2;have z:∀k,k<=xs.length->Cn (K6 c0 (yd (xs.take k))).1 (201*k)/\∀h:k<xs.length,br [] [] xs[k] ≠ []->G2 (K6 c0 (yd (xs.take k))).1 ((br [] [] xs[k]).map r9)=some (sS (K6 c0 (yd (xs.take k))).1 (br [] [] xs[k])):=by
  have one:∀ {c:k7} {k:Nat},Cn c (201*k)->∀h:k<xs.length,br [] [] xs[k] ≠ []->G2 c ((br [] [] xs[k]).map r9)=some (sS c (br [] [] xs[k]))/\Cn (sS c (br [] [] xs[k])).1 (201*(k+1)):=by
   intro c k hc h g;have hx:=s2 _ (zk h);obtain⟨f1,f2⟩:=uS (m:=(aA s).length) xs[k] [] [] ΩD (λx hx=>by cases hx);generalize br [] [] xs[k]=B at g f1 f2;cases B with
   | nil=>exact absurd rfl g
   | cons w B=>
    simp only[zl,zT] at f1;rw[ut];refine CA hc Δ ⟨by simp only[zl,zX];omega,λv hv=>?_⟩ (by rw[zX];omega);rw[<-ut] at hv;obtain⟨u,hu,rfl⟩:=zP.1 hv;rw[H9];have:=f2 u hu;omega
  intro k;induction k with
  | zero=>intro _;exact⟨RD,λh g=>(one RD h g).1⟩
  | succ k ih=>
   intro hk;have j:k<xs.length:=hk;obtain⟨A,_⟩:=ih Δ;have e:Cn (K6 c0 (yd (xs.take (k+1)))).1 (201*(k+1)):=by
    rw[zn j];have ew:yd (xs.take k ++ [xs[k]])=yd (xs.take k)++yd [xs[k]]:=by unfold yd;rw[n7,zar]
    rw[ew,wL,wm];have wn:yd [] = []:=rfl;rw[wn,t6];split;·exact A.mono Δ
    .rename_i g;rw[wo];exact (one A j g).2
   exact⟨e,λh g=>(one e h g).1⟩
 refine⟨?_,?_⟩
 .unfold dm;simp only[jn];rw[QH Δ,a4L,E];refine N7 xs.length (λk (t:k7 × List ByteArray)=>t=K6 c0 (yd (xs.take k))) Δ rfl (λk t hk ht=>.inl ?_) λt ht=>⟨_,za Ψ,by rw[ht,zM]⟩;subst ht;obtain⟨h1,C⟩:=z k Δ;have hx:=s2 _ (zk hk);have y:=CI c0 (yd (xs.take k));have F:(yd (xs.take k)).length<=k:=by
   unfold yd;refine ul (wt _ _) ?_;rw[zX,n9];omega
  have ew:yd (xs.take (k+1))=yd (xs.take k)++(if br [] [] xs[k] = [] then [] else [br [] [] xs[k]]):=by
   rw[zn hk];have:yd (xs.take k ++ [xs[k]])=yd (xs.take k)++yd [xs[k]]:=by unfold yd;rw[n7,zar]
   rw[this,wL];have wn:yd [] = []:=rfl;rw[wn,t6]
  have q:k<(xs.map r9).length:=by rw[zX];exact hk
  have o:ix (xs.map r9) (k:Int)=some (r9 xs[k]):=by rw[x8 q,rx]
  refine⟨_,?_,rfl⟩;dsimp only;rw[zc (Ω hk),o,a4L,PN _ (by rw[H9];omega),a4L,K9,ew];by_cases g:br [] [] xs[k] = []
  .rw[g,zc Ωm,zc rfl,t6,p9]
  .rw[za (Ω g),za g,C hk g,a4L,B5 Θ (by rw[y];simp only[zJ];omega),a4L,p9,wm,wo]
 .have:=(z xs.length (zq _)).1;rw[zM] at this;exact this.mono Δ
theorem UY(l:List ByteArray)(hl:l.length<=100000):sI l l=some true:=by
 unfold sI;rw[za Ψ];simp only[jn];refine dU l.length (λ_=>True) Δ trivial (λk hk _=>.inl ⟨?_,trivial⟩) λ_=>⟨_,za Ψ,rfl⟩;rw[zc (Ω hk),x8 hk,a4L,a4L,za Ψ,p9]
theorem Xp{b:UInt8}(hb:b≠10)(hB:IK b=true)(w:List UInt8)(r:List (List UInt8))(l:List UInt8):X6 w r (b::l)=X6 [] (J1 w r) l:=by
 rw[X6,za hb,zc hB]
theorem Xo(w:List UInt8)(r:List (List UInt8))(l:List UInt8):X6 w r (10::l)=if J1 w r = [] then X6 [] [] l else J1 w r::X6 [] [] l:=by
 rw[X6];exact zc rfl
theorem IX(l:List UInt8):(X6 [] [] l).length<=l.length+1:=by
 rw[BS];unfold yd;refine ul (wt _ _) ?_;rw[zX];exact (AW l).1
theorem WK{s:ByteArray}{k:Nat}{b:UInt8}(h:(aA s)[k]? = some b)(hs:s.size<=1000000):sT s (k:Int) (z8 ((k:Int)+1))=some (r9 [b]):=by
 obtain⟨h1,e⟩:=zA.1 h;have hl:=fe s;rw[p9,Hy (Nat.le_succ k) Δ,zn h1,e,List.drop_left' (by rw[n9];omega)]
def rws(rs:List (List (List UInt8))):List (List ByteArray):=rs.map (List.map r9)
theorem Qv(s:ByteArray)(hs:s.size<=2000):su s=some (rws (X6 [] [] (aA s))):=by
 have hl:=fe s;have z:X6 [] [] (aA s ++ [10])=X6 [] [] (aA s):=by
  rw[vo];show _++(if J1 [] [] = [] then [] else [J1 [] []])=_;rw[zc (show J1 [] [] = [] from rfl),t6]
 unfold su;simp only[jn];rw[<-z];generalize y:aA s ++ [10]=L;have P:L.length=s.size+1:=by rw[<-y];simp only[zD,zJ];omega
 have eE:(ByteArray.empty:ByteArray)=r9 []:=rfl;refine oJ (λ(x:ByteArray × Int × List (List ByteArray) × List ByteArray)=>∃(k:Nat) (w:List UInt8) (out:List (List (List UInt8))) (r:List (List UInt8)),x=(r9 w,(k:Int),rws out,r.map r9)/\k<=s.size+1/\out++X6 w r (L.drop k)=X6 [] [] L/\w.length+r.length+out.length<=k/\(k=s.size+1->w = []/\r = [])) (λx=>s.size+1-x.2.1.toNat) ⟨0,[],[],[],rfl,rg _,rfl,zq _,λ_=>⟨rfl,rfl⟩⟩ Ωg ?_;rintro _ ⟨k,w,out,r,rfl,h2,j,h4,N⟩;dsimp only;by_cases hk:k<=s.size
 .have C:k<L.length:=by omega
  obtain⟨b,hb⟩:∃b,L[k]? = some b:=⟨_,zd C⟩;have B:L.drop k=b::L.drop (k+1):=by
   obtain⟨G,H⟩:=zA.1 hb;rw[zau G,H]
  rw[B] at j;rw[zc (by rw[zI];omega)];have zw:=H9 w;have step:∀F:Int->Option ((ByteArray × Int × List (List ByteArray) × List ByteArray) ⊕ List (List ByteArray)),(if (decide ((k:Int)<(s.size:Int)))=true then (UK s (k:Int)).bind F else F 10)=F (b.toNat:Int):=by
   intro F;by_cases q:k<s.size
   .have:(aA s)[k]? = some b:=by
     rw[<-y,zU Δ] at hb;exact hb
    rw[zc (Ω q),ME this,a4L]
   .have o:k=s.size:=by omega
    have:b=10:=by
     rw[<-y,zK Δ,show k-(aA s).length=0 by omega] at hb;exact (t8 hb).symm
    rw[za (Ω q),this];rfl
  have u:∀n:Nat,n<256->((b.toNat:Int)=(n:Int)↔b=UInt8.ofNat n):=λn hn=>by
   rw[CU hn];omega
  refine .inl ?_;rw[step];by_cases g:b=9\/b=10\/b=13\/b=32
  case neg=>
   have hn:((((((b.toNat:Int) != 9)&&((b.toNat:Int) != 10))&&((b.toNat:Int) != 13))&&((b.toNat:Int) != 32))=true):=by
    simp only[zo,zcr,ne_eq];refine⟨⟨⟨λq=>g (.inl ((u 9 Θ).1 q)),λq=>g (.inr (.inl ((u 10 Θ).1 q)))⟩,λq=>g (.inr (.inr (.inl ((u 13 Θ).1 q))))⟩,λq=>g (.inr (.inr (.inr ((u 32 Θ).1 q))))⟩
   have R:k<s.size:=by
    rcases zE k s.size with q | q
    .exact q
    .exfalso;have o:k=s.size:=by omega
     rw[<-y,zK Δ,show k-(aA s).length=0 by omega] at hb;exact g (.inr (.inl (t8 hb).symm))
   have A:(aA s)[k]? = some b:=by
    rw[<-y,zU Δ] at hb;exact hb
   have hB:IK b=false:=by
    unfold IK;rw[zb2,zb2,zb8,zb8,zb8];exact⟨⟨λq=>g (.inl q),λq=>g (.inr (.inr (.inl q)))⟩,λq=>g (.inr (.inr (.inr q)))⟩
   have zb:=H9 [b];rw[zJ] at zb;refine⟨(r9 (w ++ [b]),((k+1:Nat):Int),rws out,r.map r9),?_,⟨k+1,w ++ [b],out,r,rfl,Δ,?_,ΩI,λq=>Δ⟩,ΩM⟩;·rw[zc hn,WK A Δ,a4L,fJ Δ,a4L,K9,K9,p9]
   .rw[<-j,X6,za (λq=>g (.inr (.inl q))),hB,za Θ]
  have hn:¬((((((b.toNat:Int) != 9)&&((b.toNat:Int) != 10))&&((b.toNat:Int) != 13))&&((b.toNat:Int) != 32))=true):=by
   simp only[zo,zcr,ne_eq];rintro⟨⟨⟨G,H⟩,T⟩,V⟩;rcases g with rfl | rfl | rfl | rfl
   .exact G rfl
   .exact H rfl
   .exact T rfl
   .exact V rfl
  rw[za hn];have word:∀F:ByteArray × List ByteArray->Option ((ByteArray × Int × List (List ByteArray) × List ByteArray) ⊕ List (List ByteArray)),(if (!((r9 w).toList==ByteArray.empty.toList))=true then (app 16 (r.map r9) [r9 w]).bind λK=>F (ByteArray.empty,K) else F (r9 w,r.map r9))=F (r9 [],(J1 w r).map r9):=by
   intro F;rw[Kw,Kw,K9];show (if (!(w == []))=true then _ else _)=_;unfold J1;by_cases q:w = []
   .rw[za (by simp[q]),zc q,q]
   .rw[zc (Ω q),za q,B5 Θ (by simp only[zX,zJ];omega),a4L,n7];rfl
  refine Exists.imp (λs' (h:(λ(p:ByteArray × List ByteArray)=>if (((b.toNat:Int)==10)&&decide ((p.2.length:Int) > 0))=true then (app 24 (rws out) [p.2]).bind (λv=>some (Sum.inl (p.1,z8 ((k:Int)+1),v,([]:List ByteArray)))) else some (Sum.inl (p.1,z8 ((k:Int)+1),rws out,p.2))) (r9 [],(J1 w r).map r9)=some (Sum.inl s')/\_)=>⟨(word (λ(p:ByteArray × List ByteArray)=>if (((b.toNat:Int)==10)&&decide ((p.2.length:Int) > 0))=true then (app 24 (rws out) [p.2]).bind (λv=>some (Sum.inl (p.1,z8 ((k:Int)+1),v,([]:List ByteArray)))) else some (Sum.inl (p.1,z8 ((k:Int)+1),rws out,p.2)))).trans h.1,h.2⟩) ?_;dsimp only;have hfl:(J1 w r).length<=w.length+r.length:=by
   unfold J1;split;·omega
   .rename_i q;have:1<=w.length:=by
     cases w with
     | nil=>exact absurd rfl q
     | cons _ _=>simp
    simp only[zD,zJ];omega
  by_cases m:b=10
  .subst m;have hm:X6 w r (10::L.drop (k+1))=if J1 w r = [] then X6 [] [] (L.drop (k+1)) else J1 w r::X6 [] [] (L.drop (k+1)):=Xo _ _ _
   rw[hm] at j;by_cases hf:J1 w r = []
   .rw[zc hf] at j;refine⟨(r9 [],((k+1:Nat):Int),rws out,([]:List (List UInt8)).map r9),?_,⟨k+1,[],out,[],rfl,Δ,j,ΩD,λ_=>⟨rfl,rfl⟩⟩,ΩM⟩;rw[hf,za Ψ,p9]
   .rw[za hf] at j;refine⟨(r9 [],((k+1:Nat):Int),rws (out ++ [J1 w r]),([]:List (List UInt8)).map r9),?_,⟨k+1,[],out ++ [J1 w r],[],rfl,Δ,?_,?_,λ_=>⟨rfl,rfl⟩⟩,ΩM⟩
    .have:0<(J1 w r).length:=List.length_pos_iff.2 hf;rw[zc (by
      rw[zo,zI,zX];exact⟨rfl,Δ⟩),B5 Θ (by unfold rws;simp only[zX,zJ];omega),a4L,p9]
     unfold rws;rw[n7];rfl
    .rw[pu];exact j
    .have:0<(J1 w r).length:=List.length_pos_iff.2 hf;simp only[zD,zJ,zT];omega
  .have hB:IK b=true:=by
    rcases g with rfl | q | rfl | rfl
    .rfl
    .exact absurd q m
    .rfl
    .rfl
   have E:k+1≠s.size+1:=by
    intro q;have o:k=s.size:=Δ
    rw[<-y,zK Δ,show k-(aA s).length=0 by omega] at hb;exact m (t8 hb).symm
   rw[Xp m hB] at j;refine⟨(r9 [],((k+1:Nat):Int),rws out,(J1 w r).map r9),?_,⟨k+1,[],out,J1 w r,rfl,Δ,j,ΩD,λq=>absurd q E⟩,ΩM⟩;rw[za (by
    rw[zo,wl];rintro⟨q,_⟩;exact m ((u 10 Θ).1 q)),p9]
 .have o:k=s.size+1:=by omega
  obtain⟨rfl,rfl⟩:=N o;rw[za (by rw[zI];omega)];refine .inr ⟨_,rfl,?_⟩;have hd:L.drop k = []:=zcd Δ;rw[hd] at j;have e:X6 [] [] [] = []:=rfl;rw[e,t6] at j;rw[j]
theorem Ut{e:List ByteArray}(h:ZY e):lz e=some (nm e):=by
 unfold lz;simp only[jn];exact NZ kh e (λw hw=>a4s w (h.2 w hw)) h.1
theorem CB{w:List UInt8}{l:List Int}(hw:w.length<=100)(hl:l.length<=100)(h:∀n∈l,I64 n):nq (r9 w) l=some (r9 (iU w l)):=by
 unfold nq;simp only[jn];refine oJ (λ(x:ByteArray × Int)=>∃k:Nat,x.2=(k:Int)/\k<=l.length/\x.1=r9 (iU w (l.take k))) (λx=>l.length-x.2.toNat) ⟨0,rfl,rg _,rfl⟩ Ωg ?_;rintro⟨s,kk⟩ ⟨k,h1,o,e⟩;simp only at h1 e;subst h1;subst e;by_cases hk:k<l.length
 .have hb:=h _ (zk hk);obtain⟨d1,d2⟩:=xa hb.1 hb.2;have hlen:=Es w (l.take k) λn hn=>h n (zak hn);have g:(l.take k).length<=100:=by rw[n9];omega
  have q:=H9 (iU w (l.take k));have j:=H9 [32];rw[zJ] at j;have m:=H9 (iU w (l.take k) ++ [32]);rw[zD,zJ] at m;have u:=H9 (mo l[k]);refine .inl ⟨(r9 (iU w (l.take k)++32::mo l[k]),((k+1:Nat):Int)),?_,⟨k+1,rfl,hk,?_⟩,?_⟩
  .rw[zc (Ω hk),fJ (by show (r9 _).size+_<=_;omega),a4L,x8 hk,a4L,XY hb.1 hb.2,d1,a4L,K9,K9,fJ Δ,a4L,p9,K9,K9,pu];rfl
  .show r9 _=_;rw[zn hk,BQ]
  .simp only[zO];omega
 .rw[za (Ω hk)];refine .inr ⟨_,rfl,?_⟩;rw[zaj Δ]
theorem Uw{p:Int × Int}(hv : -9223372036854775808<=p.1/\p.1<=9223372036854775807)(he:EB p.2):nk (anR p)=some (Ke p):=by
 have g:=Kf hv he;obtain⟨l,e,j⟩:=Yi (a:=anE p) hv ⟨by have:=he.1;show -9223372036854775808<=p.2;omega,by have:=he.2;show p.2<=9223372036854775807;omega⟩;rw[g] at e;rw[e];exact j
def dk(c:k7):D8:=⟨⟨hO c.g.X,mO c.g.Progs⟩,c.begun,mO c.progs⟩
theorem a03:∀p∈J9,gh p.1=p.2:=by decide +kernel
theorem a02:∀p∈J9,∀q∈J9,p.2=q.2->p.1.data.toList=q.1.data.toList:=by decide +kernel
theorem fS{k:ByteArray}(h:(k,i)∈J9):(w.toList==k.toList)=(gh w==i):=by
 have hi:i≠0:=by
  have:∀p∈J9,p.2≠0:=Θ
  exact this _ h
 rw[Kw,Kw,zao,wl,wl];constructor
 .intro e;have:w=k:=by rw[<-Ay w,e,Ay]
  rw[this];exact a03 _ h
 .intro e;obtain⟨hs,_,_⟩:=Dc (w:=w) (by rw[e];exact hi);rw[e] at hs;obtain⟨p,hp,g,j⟩:=rP hs;have hw:w=p.1:=(Go.Pw.bytes_beq _ _).1 j;rw[hw];exact a02 p hp _ h g
theorem Vk{k:ByteArray}(h:(k,i)∈J9):(k.toList==w.toList)=(gh w==i):=by
 rw[<-fS h,zao,wl,wl];exact eq_comm
def SY:List ByteArray:=[(r9 [110,101,119]),(r9 [99,111,112,121]),(r9 [100,114,111,112]),(r9 [108,111,97,100]),(r9 [115,116,111,114,101]),(r9 [119,101,97,107]),(r9 [117,112]),(r9 [112,97,105,114]),(r9 [103,101,116]),(r9 [115,97,109,101]),(r9 [99,111,108,108,101,99,116]),(r9 [100,114,97,105,110])]
theorem NQ(w:ByteArray):nn w=some (if 1<=gh w/\gh w<=12 then ((gh w:Int),tJ (gh w)) else (0,0)):=by
 have o:∀k (h:k<SY.length),(SY[k],k+1)∈J9:=by
  intro k h;have h:k<12:=h;have:k=0\/k=1\/k=2\/k=3\/k=4\/k=5\/k=6\/k=7\/k=8\/k=9\/k=10\/k=11:=Δ
  rcases this with rfl | rfl | rfl | rfl | rfl | rfl | rfl | rfl | rfl | rfl | rfl | rfl <;> simp[SY,J9]
 have ha:∀k:Nat,k<12->ix [(3:Int),2,1,3,3,3,2,2,2,2,0,1] (k:Int)=some (tJ (k+1)):=by
  intro k h;have:k=0\/k=1\/k=2\/k=3\/k=4\/k=5\/k=6\/k=7\/k=8\/k=9\/k=10\/k=11:=Δ
  rcases this with rfl | rfl | rfl | rfl | rfl | rfl | rfl | rfl | rfl | rfl | rfl | rfl <;> rfl
 unfold nn;have hk : [(r9 [110,101,119]),(r9 [99,111,112,121]),(r9 [100,114,111,112]),(r9 [108,111,97,100]),(r9 [115,116,111,114,101]),(r9 [119,101,97,107]),(r9 [117,112]),(r9 [112,97,105,114]),(r9 [103,101,116]),(r9 [115,97,109,101]),(r9 [99,111,108,108,101,99,116]),(r9 [100,114,97,105,110])]=SY:=rfl;rw[hk];have g:SY.length=12:=rfl;simp only[jn];refine dU 12 (λk=>∀j,j<k->gh w≠j+1) Θ (λj hj=>Δ) (λk hk m=>?_) λm=>⟨_,za (by rw[g];simp),?_⟩
 .rw[zc (by rw[g,zI];omega),x8 (by rw[g];exact hk),a4L,Vk (o k (by rw[g];exact hk))];by_cases e:gh w=k+1
  .rw[zc (by rw[e];simp),ha k hk,a4L,p9];refine .inr ⟨_,rfl,?_⟩;dsimp only;rw[zc Δ,e]
  .rw[za (Ω e),p9];refine .inl ⟨rfl,λj hj=>?_⟩;rcases zE j k with q | q
   .exact m j q
   .have:j=k:=by omega
    rw[this];exact e
 .dsimp only;rw[za];rintro⟨u,v⟩;exact m (gh w-1) Δ Δ
theorem Jb:(r9 [112,114,111,103],13)∈J9:=by simp[J9]
theorem IY:(r9 [104,101,97,112],14)∈J9:=by simp[J9]
theorem Ja:(r9 [108,105,118,101,115],15)∈J9:=by simp[J9]
theorem Jc:(r9 [114,111,111,116,115],16)∈J9:=by simp[J9]
theorem Jd:(r9 [116,97,108,108,121],17)∈J9:=by simp[J9]
theorem Rv(w:ByteArray):gh w<=17:=by
 by_cases h:gh w=0
 .omega
 .exact (Dc h).2.2
theorem WS(w:ByteArray)(hn:n<=100000):wc w (n:Int)=some (if gh w=0 then false else QV (gh w) n):=by
 have g:=Rv w;unfold wc;rw[NQ,a4L,fS Jb,fS IY,fS Ja,fS Jc,fS Jd];generalize gh w=i at g;by_cases e:1<=i/\i<=12
 .rw[zc e,zc (by rw[zI];show 0<(i:Int);omega),za Δ];unfold QV;rw[za Δ]
 .rw[za e,za Θ];have hi:i=0\/i=13\/i=14\/i=15\/i=16\/i=17:=by omega
  rcases hi with rfl | rfl | rfl | rfl | rfl | rfl
  .rw[za Θ,za Θ];simp
  .rw[zc Θ,pj Δ Θ,a4L,za Θ];congr 1;show _=(n % 4==1);rw[zao,wl,wl];omega
  .rw[za Θ,zc Θ];rfl
  all_goals
   rw[za Θ,za Θ,za Θ];congr 1;show _=((n:Int)==0);simp
theorem Ye{c:k7}{n:Nat}(hc:Cn c n){l:List Int}(hl:l.length % 4=1)(hm:l.length<=4000) :
  lA (dk c) l=some (dk (Ip c l).1,(Ip c l).2):=by
 obtain⟨p6,q6⟩:=GL hc.pg;obtain⟨a,r,rfl⟩:∃a r,l=a::r:=by
  cases l with
  | nil=>simp at hl
  | cons a r=>exact⟨a,r,rfl⟩
 have e0:ix (a::r) 0=some a:=rfl;have Vr:(r9 [101,114,114,111,114,32,49,51]:ByteArray)=jP 13:=by decide +kernel
 have hP:Ip c (a::r)=if a<0\/a > 5 then (c,jP 13) else if bu (iw c.progs (a::r))=true then (⟨c.g,c.begun,iw c.progs (a::r)⟩,okB) else (c,jP 13):=rfl
 unfold lA;rw[e0,a4L,hP,Vr];by_cases h:a<0\/a > 5
 .rw[zc Ωu,zc h]
 .rw[za Ωu,za h];obtain⟨k,rfl⟩:∃k:Nat,a=k:=⟨a.toNat,Δ⟩;have F:(dk c).progs=mO c.progs:=rfl;have o:(mO c.progs).length=c.progs.length:=by unfold mO;rw[zX]
  rw[F,P4 Θ (by rw[o];omega),a4L];simp only[jn];have hr4:r.length % 4=0:=by simp only[zl] at hl;omega
  have hrl:r.length<=4000:=by simp only[zl] at hm;omega
  have O2:=Oo (p:=c.progs) (l:=(k:Int)::r) Ω6 Ω6 p6 q6 hm;have key1:(lp (S:=List (List u7)) (E:=(List (List u7))) (λ(A:List (List u7))=>
   if (decide ((A.length:Int)<=(k:Int))) then
    (app 24 A [[]]).bind λv36=>
    some (.inl v36)
   else
   some (.inr A)) (mO c.progs))=some (mO c.progs++List.replicate (k+1-c.progs.length) []):=by
   refine cP (jX (λ(x:List (List u7))=>∃j,j<=k+1-c.progs.length/\x=mO c.progs++List.replicate j []) (λe=>e=mO c.progs++List.replicate (k+1-c.progs.length) []) (λx=>10-x.length) ⟨0,rg _,Ψ⟩ (by rw[o];omega) ?_);rintro _ ⟨j,hj,rfl⟩;have z:(mO c.progs++List.replicate j ([]:List u7)).length=c.progs.length+j:=by rw[zD,zbl,o]
   by_cases q:c.progs.length+j<=k
   .refine .inl ⟨mO c.progs++List.replicate (j+1) [],?_,⟨j+1,Δ,rfl⟩,by rw[z,zD,zbl,o];omega⟩;rw[zc (by rw[z,zI];omega),B5 Θ (by rw[z];simp only[zJ];omega),a4L,pu,List.replicate_succ']
   .rw[za (by rw[z,zI];omega)];exact .inr ⟨_,rfl,by rw[show j=k+1-c.progs.length by omega]⟩
  have key2:(lp (S:=Int × (List u7)) (E:=(List u7)) (λ((m,H):Int × (List u7))=>
    if (decide (m<((((k:Int)::r).length:Nat):Int))) then
     (ix ((k:Int)::r) m).bind λT=>
     (ix ((k:Int)::r) (z8 (m+1))).bind λV=>
     (ix ((k:Int)::r) (z8 (m+2))).bind λv30=>
     (ix ((k:Int)::r) (z8 (m+3))).bind λv31=>
     (app 32 H [(⟨T,V,v30,v31⟩:u7)]).bind λv32=>
     some (.inl (z8 (m+4),v32))
    else
    some (.inr H)) (1,[]))=some ((cV r).map Jk):=by
   refine cP (jX (λ(x:Int × List u7)=>∃j:Nat,x.1=((1+4*j:Nat):Int)/\4*j<=r.length/\x.2.length=j/\x.2++(cV (r.drop (4*j))).map Jk=(cV r).map Jk) (λe=>e=(cV r).map Jk) (λx=>5000-x.1.toNat) ⟨0,rfl,rg _,rfl,rfl⟩ Ωg ?_);rintro⟨i,v⟩ ⟨j,h1,h2,h3,C⟩;simp only at h1 h3 C;subst h1;by_cases q:4*j<r.length
   .have hd:∃a b B d t,r.drop (4*j)=a::b::B::d::t:=by
     have cX:(r.drop (4*j)).length=r.length-4*j:=zcb;match hq:r.drop (4*j) with
     | []=>rw[hq] at cX;simp at cX;omega
     | [_]=>rw[hq] at cX;simp at cX;omega
     | [_,_]=>rw[hq] at cX;simp at cX;omega
     | [_,_,_]=>rw[hq] at cX;simp at cX;omega
     | a::b::B::d::t=>exact⟨a,b,B,d,t,rfl⟩
    obtain⟨a,b,B,d,t,hd⟩:=hd;have K:∀u y,(r.drop (4*j))[u]? = some y->ix ((k:Int)::r) ((1+4*j+u:Nat):Int)=some y:=λu y hy=>by
     rw[pm] at hy;rw[SV,show 1+4*j+u=(4*j+u)+1 by omega,zaf];exact hy
    have g0:=K 0 a (by rw[hd];rfl);have g1:=K 1 b (by rw[hd];rfl);have g2:=K 2 B (by rw[hd];rfl);have g3:=K 3 d (by rw[hd];rfl);have P:r.drop (4*(j+1))=t:=by
     rw[show 4*(j+1)=4*j+4 by omega,<-List.drop_drop,hd];rfl
    rw[hd] at C;refine .inl ⟨(((1+4*(j+1):Nat):Int),v ++ [Jk ⟨a,b,B,d⟩]),?_,⟨j+1,rfl,Δ,ΩI,?_⟩,ΩM⟩
    .dsimp only;rw[zc (by rw[zI,zl];omega),show ix ((k:Int)::r) ((1+4*j:Nat):Int)=some a from g0,a4L,E3 (n:=((1+4*j:Nat):Int)+1) Δ Δ,E3 (n:=((1+4*j:Nat):Int)+2) Δ Δ,E3 (n:=((1+4*j:Nat):Int)+3) Δ Δ,show ((1+4*j:Nat):Int)+1=((1+4*j+1:Nat):Int) by omega,g1,a4L,show ((1+4*j:Nat):Int)+2=((1+4*j+2:Nat):Int) by omega,g2,a4L,show ((1+4*j:Nat):Int)+3=((1+4*j+3:Nat):Int) by omega,g3,a4L,B5 Θ Ωs,a4L,E3 Δ Δ,show ((1+4*j:Nat):Int)+4=((1+4*(j+1):Nat):Int) by omega]
    .rw[P,<-C];simp[cV]
   .dsimp only;rw[za (by rw[zI,zl];omega)];refine .inr ⟨_,rfl,?_⟩;rw[zcd Δ] at C;rw[<-C];simp[cV]
  rw[key1,a4L,key2,a4L];have G:(mO c.progs++List.replicate (k+1-c.progs.length) []).set (k:Int).toNat ((cV r).map Jk)=mO (iw c.progs ((k:Int)::r)):=by
   unfold iw mO;simp only[zcg,zO,List.drop_one,List.tail_cons];rw[zbt,n7,List.map_replicate];rfl
  have R:∃y,ix (mO c.progs++List.replicate (k+1-c.progs.length) []) (k:Int)=some y:=by
   have:k<(mO c.progs++List.replicate (k+1-c.progs.length) ([]:List u7)).length:=by rw[zD,zbl,o];omega
   exact⟨_,x8 this⟩
  obtain⟨y,hy⟩:=R;have N:gD (mO (iw c.progs ((k:Int)::r)))=some (bu (iw c.progs ((k:Int)::r))):=Cb O2.1 O2.2;rw[hy,a4L,G,N,a4L];cases hq:bu (iw c.progs ((k:Int)::r));·rw[zc Ωm,za Θ]
  .rw[za Θ,zc rfl];rfl
theorem Qu{c:k7}{n:Nat}(hc:Cn c n)(hb:c.begun=true)(hn:n<=1000000)(k:Int){l:List Int}(hl:l.length<=3) :
  ((app 8 [k] l).bind λo=>(app 8 o [0,0,0]).bind λq=>(cut q 0 4).bind λu=>(xH (dk c).g u).bind λj=>(nk j.2).bind λv=>some ((⟨j.1,(dk c).has,(dk c).progs⟩:D8),v))=some (dk (Ld c k l).1,(Ld c k l).2):=by
 have hr:=hc.rs hb;have y:=a3s hr hn;obtain⟨⟨x,ps⟩,b,pg⟩:=c;have hm:Mp ps:=hc.mp;have hr:Rs x n:=hr;rw[B5 Θ Ωs,a4L,B5 Θ (by simp only[zD,zl,zT];omega),a4L];have e:cut ([k]++l ++ [0,0,0]) 0 4=some (nu k l):=by
  unfold nu;match l,hl with
  | [],_=>rfl
  | [a],_=>rfl
  | [a,b],_=>rfl
  | [a,b,c],_=>rfl
 rw[e,a4L];show (xH ⟨hO x,mO ps⟩ (nu k l)).bind _=_;rw[rdo hm hr.oh y (nu k l),a4L];dsimp only;have m:=YU hm hr.oh y (nu k l);rw[Uw (by have:=hr.V3;omega) m.2];rfl
theorem a1K{x:Hp}(hx:R9 x):(lp (S:=Int × (List Int)) (E:=(List Int)) (λ((g,j):Int × (List Int))=>
     if (decide (g<6)) then
      (pd (hO x) g).bind λo=>
      (app 8 j [o]).bind λq=>
      some (.inl (z8 (g+1),q))
     else
     some (.inr j)) (0,[]))=some (Di x):=by
 have hr:(Di x).length=6:=by unfold Di;rw[zX,List.length_range]
 refine cP (gu 6 (λk t=>t=(Di x).take k) (λe=>e=Di x) Θ rfl (λk t hk ht=>.inl ⟨(Di x).take (k+1),?_,rfl⟩) λt ht=>⟨t,za Ψ,by rw[ht,zaj Δ]⟩);subst ht;have m:k<(Di x).length:=Δ
 have u:(Di x)[k]? = some (V3 x (sd x (k:Int))):=by
  unfold Di;rw[zW,List.getElem?_range hk];rfl
 have e:(Di x)[k]=V3 x (sd x (k:Int)):=(zA.1 u).2;dsimp only;rw[zc Ξ,a0e hx.sh (k:Int),a4L,B5 Θ (by rw[n9];simp only[zJ];omega),a4L,p9,zn m,e]
theorem Uo{c:k7}{n:Nat}(hc:Cn c n)(hn:n<=1000000){w:ByteArray}{m:List ByteArray}(hw:ZY (w::m))(hm:m.length<=4000) :
  np (dk c) (w::m)=some (dk (fH c w m).1,(fH c w m).2):=by
 have K:ZY m:=⟨by have:=hw.1;simp only[zl] at this;omega,λv hv=>hw.2 v (zx _ hv)⟩;have e0:ix (w::m) 0=some w:=rfl;have P:cut (w::m) 1 (((w::m).length:Nat):Int)=some m:=by
  have:=jN (xs:=w::m) (i:=1) (j:=(w::m).length) Ψ (zq _);rw[zM] at this;exact this
 have hnl:=Tx m;have H:(r9 [101,114,114,111,114,32,51,51]:ByteArray)=jP 33:=by decide +kernel
 have h17:=Rv w;unfold np;rw[P,a4L,Ut K,a4L,H];cases V:(nm m).2
 .have B:fH c w m=(c,jP 33):=zc (.inr (.inl V));rw[B];rfl
 rw[e0];simp only[zbu,qr,iv,a4L,zbv];rw[WS w (by have:=K.1;omega),a4L];by_cases h0:gh w=0
 .have B:fH c w m=(c,jP 33):=zc (.inl h0);rw[B,zc h0];rfl
 rw[za h0];cases y:QV (gh w) (nm m).1.length
 .have B:fH c w m=(c,jP 33):=zc (.inr (.inr y));rw[B];rfl
 have N:¬(gh w=0\/(nm m).2=false\/QV (gh w) (nm m).1.length=false):=by rw[V,y];simp[h0]
 simp only[zbu,zj,wf];rw[fS Jb,fS IY,fS Ja,fS Jc,fS Jd];have T:(nm m).1.length<=4000:=Δ
 by_cases o:gh w=13
 .have B:fH c w m=Ip c (nm m).1:=(za N).trans ((za (λq=>q.2.1 o)).trans (by unfold mg;rw[zc o]));rw[B,o,zc Θ];have ht:(nm m).1.length % 4=1:=by
   rw[o] at y;have y:((nm m).1.length % 4==1)=true:=y;exact wl.1 y
  rw[Ye hc ht T];rfl
 rw[za (Ω o)];by_cases u:gh w=14
 .have B:fH c w m=Dq c (nm m).1:=(za N).trans ((za (λq=>q.2.2 u)).trans (by unfold mg;rw[za o,zc u]));rw[B,u,zc Θ];have ht:(nm m).1.length=3:=by
   rw[u] at y;have y:(((nm m).1.length:Int)==3)=true:=y;have:=wl.1 y;omega
  generalize (nm m).1=l at ht;obtain⟨a,b,d,rfl⟩:∃a b d,l = [a,b,d]:=by
   match l,ht with
   | [a,b,d],_=>exact⟨a,b,d,rfl⟩
  obtain⟨p6,q6⟩:=GL hc.pg;have i0:ix [a,b,d] 0=some a:=rfl;have i1:ix [a,b,d] 1=some b:=rfl;have i2:ix [a,b,d] 2=some d:=rfl;rw[i0,a4L,i1,a4L,i2,a4L];have hH:Dq c [a,b,d]=if ((S9 a b d c.progs).getD (c.g,0)).2≠0 then (c,jP ((S9 a b d c.progs).getD (c.g,0)).2) else (⟨((S9 a b d c.progs).getD (c.g,0)).1,true,c.progs⟩,okB):=rfl
  show (sq a b d (mO c.progs)).bind _=_;rcases Zl (n:=a) (last:=b) (places:=d) (ps:=c.progs) Δ (λp hp=>by have:=q6 p hp;omega) with ⟨e,h1,F,y⟩ | ⟨k,p,_,_,_,hmp,hr,h1,F⟩
  .have he:e≠0:=by rcases y with rfl | ⟨rfl,_⟩ <;> decide
   have hb:EB e:=by rcases y with rfl | ⟨rfl,_⟩ <;> constructor <;> simp
   have G:Dq c [a,b,d]=(c,jP e):=by
    rw[hH,h1,wp];exact zc he
   rw[G,F,a4L];refine (zc (Ω he)).trans ?_;show (ca e).bind _=_;obtain⟨d1,d2⟩:=xa (n:=e) (by have:=hb.1;omega) (by have:=hb.2;omega);have z1:=H9 (mo e);have z2:=H9 [101,114,114,111,114,32];simp only[zl,zT] at z2;rw[XY (by have:=hb.1;omega) (by have:=hb.2;omega),d1,a4L,fJ Δ,a4L,K9,K9];rfl
  .have G:Dq c [a,b,d]=(⟨⟨Ez k b p,c.progs⟩,true,c.progs⟩,okB):=by
    rw[hH,h1,wp];exact za (λq=>q rfl)
   rw[G,F,a4L];rfl
 rw[za (Ω u)];have z:∀ {r},mg c (gh w) (nm m).1=r->c.begun=true->fH c w m=r:=λh hb=>(za N).trans ((za (λq=>by rw[hb] at q;exact Bool.noConfusion q.1)).trans h);cases hb:c.begun
 .have B:fH c w m=(c,noB):=(za N).trans (zc ⟨hb,o,u⟩);have hh:(dk c).has=false:=hb;rw[B,hh];rfl
 have hh:(dk c).has=true:=hb;have hr:=hc.rs hb;rw[hh];simp only[zbu,zj,wf,jn];by_cases A:gh w=15
 .rw[z (r:=(c,a0T c.g.X)) (by unfold mg;rw[za o,za u,zc A]) hb,A,zc Θ];show (ni ⟨hO c.g.X,mO c.g.Progs⟩).bind _=_;rw[a1F hr.rt,a4L,CB Θ (by have:=HE (x:=c.g.X) hr.rt.sh.sr;omega) (UO hr.rt hr.V3 hn)];rfl
 rw[za (Ω A)];by_cases C:gh w=16
 .rw[z (r:=(c,a1I c.g.X)) (by unfold mg;rw[za o,za u,za A,zc C]) hb,C,zc Θ];have e:=a1K hr.rt;have hg:(dk c).g.X=hO c.g.X:=rfl;rw[hg,e,a4L,CB Θ (by unfold Di;simp) (Uz hr.rt hr.V3 hn)];rfl
 rw[za (Ω C)];by_cases E:gh w=17
 .rw[z (r:=(c,a1Z c.g.X)) (by unfold mg;rw[za o,za u,za A,za C,zc E]) hb,E,zc Θ];show (nj ⟨hO c.g.X,mO c.g.Progs⟩).bind _=_;rw[a4t hr.rt,a4L,CB Θ Ψ (UU hr.rt hr.V3 hn)];rfl
 rw[za (Ω E)];have hi:1<=gh w/\gh w<=12:=Δ
 have R:(nm m).1.length<=3:=by
  unfold QV at y;rw[za o,wl] at y;have ha:∀j:Fin 18,tJ j.1<=3:=Θ
  have:=ha ⟨gh w,Δ⟩;simp only at this;omega
 rw[z (r:=Ld c (gh w:Int) (nm m).1) (by unfold mg;rw[za o,za u,za A,za C,za E]) hb,NQ,a4L,zc hi];have:=Qu hc hb hn (gh w:Int) R;rw[hh] at this;exact this
theorem Tm{l:List UInt8}{r:List (List UInt8)}(h:r∈X6 [] [] l):r ≠ []/\r.length<=l.length+1/\∀x∈r,x.length<=l.length:=by
 rw[BS] at h;unfold yd at h;obtain⟨h1,e⟩:=zy.1 h;obtain⟨x,hx,rfl⟩:=zP.1 h1;have g:=(AW l).2 x hx;obtain⟨f1,f2⟩:=uS (m:=l.length) x [] [] ΩD (λx hx=>by cases hx);simp only[zT] at f1;exact⟨Ω e,Δ,f2⟩
theorem Qr{s:ByteArray}(hs:s.size<=600):ss s=some (K6 c0 (X6 [] [] (aA s))).2:=by
 have hl:=fe s;have o:=IX (aA s);have g:∀r∈X6 [] [] (aA s),r ≠ []/\r.length<=(aA s).length+1/\∀x∈r,x.length<=(aA s).length:=λr h=>Tm h;unfold ss;rw[Qv s Δ,a4L];generalize X6 [] [] (aA s)=rs at o g;have e:(rws rs).length=rs.length:=by unfold rws;rw[zX]
 simp only[jn];have one:∀ {c:k7} {k:Nat},Cn c (201*k)->∀h:k<rs.length,np (dk c) (rs[k].map r9)=some (dk (sS c rs[k]).1,(sS c rs[k]).2)/\Cn (sS c rs[k]).1 (201*(k+1)):=by
  intro c k hc h;obtain⟨y,z,A⟩:=g _ (zk h);generalize rs[k]=r at y z A;cases r with
  | nil=>exact absurd rfl y
  | cons w E=>
   simp only[zl] at z;rw[ut];have q:ZY (r9 w::E.map r9):=⟨by simp only[zl,zX];omega,λv hv=>by
    rw[<-ut] at hv;obtain⟨u,hu,rfl⟩:=zP.1 hv;rw[H9];have:=A u hu;omega⟩
   exact⟨Uo hc Δ q (by rw[zX];omega),(CA hc Δ q (by rw[zX];omega)).2⟩
 refine N7 rs.length (λk (t:D8 × List ByteArray)=>t=(dk (K6 c0 (rs.take k)).1,(K6 c0 (rs.take k)).2)/\Cn (K6 c0 (rs.take k)).1 (201*k)) Δ ⟨rfl,RD⟩ (λk t hk ht=>.inl ?_) λt ht=>⟨_,za (by rw[e];simp),by rw[ht.1,zM]⟩;obtain⟨rfl,hc⟩:=ht;obtain⟨B,C⟩:=one hc hk;have m:ix (rws rs) (k:Int)=some (rs[k].map r9):=by
  rw[x8 (by rw[e];exact hk)];unfold rws;rw[rx]
 have hlen:=CI c0 (rs.take k);rw[n9] at hlen;have j:K6 c0 (rs.take (k+1))=((sS (K6 c0 (rs.take k)).1 rs[k]).1,(K6 c0 (rs.take k)).2 ++ [(sS (K6 c0 (rs.take k)).1 rs[k]).2]):=by
  rw[zn hk,wm,wo]
 refine⟨(dk (K6 c0 (rs.take (k+1))).1,(K6 c0 (rs.take (k+1))).2),?_,rfl,by rw[j];exact C⟩;dsimp only;rw[zc (by rw[e,zI];omega),m,a4L,B,a4L,B5 Θ Ωs,a4L,p9,j]
theorem consoleLines(s:ByteArray):cS s=some true:=by
 unfold cS;by_cases h:decide ((s.size:Int) > 600)=true
 .rw[h,ON];rfl
 have h':decide ((s.size:Int) > 600)=false:=Ω h
 rw[h',ON];simp only[qr,iv,a4L,zbu,Bool.or_self,zj,wf];have hs:s.size<=600:=by rw[zI] at h;omega
 have hl:=fe s;have e:=IX (aA s);have g:=CI c0 (X6 [] [] (aA s));rw[(Ta Δ).1,a4L,Qr hs,a4L,UY _ Δ,a4L]
end Go.Sh
