/-
 More of the theory.
-/
import Derived.Test.YtjlokngooekbcaaGreatP21aT2
set_option linter.unusedVariables false
set_option linter.unusedSimpArgs false
set_option linter.unusedSectionVars false
namespace Go.Sh
abbrev opR(o:g9):J5:=⟨o.Kind,o.A,o.B,o.C⟩
structure Dn (x:Hp) (o:g9) (z:Hp) (v:Int):Prop where
 rt:M2 z
 sl:SL z
 ev:Ev x z
 cw:Cw x z (if o.Kind=6 then o.A else -1)
 mc:x4 x o=some (a1C z,v,0)
 rf:D4 (hO x) (opR o)=some (hO (a1C z),v,0)
def Er(x:Hp)(o:g9)(e:Int):Prop:=e≠0∧x4 x o=some (x,0,e)∧D4 (hO x) (opR o)=some (hO x,0,e)
theorem d4r{x:Hp}(hx:M2 x)(hS:SL x){i:Nat}(hi:i<x.S.S.a8.length)(h0:(ce x.S i).State=0){n:Nat}(hn:n≤4){p:Int}(hp : -1≤p∧p≤5):SL (wS x (mkS x.S i n p)):=λk hk=>by
 have hR:=hx.sh.sr;have hk':k∈lv (mkS x.S i n p):=hk;show (ob (mkS x.S i n p) k).Strong≤_;rw[c24 hR hi h0 hn hp] at hk';rcases List.mem_append.1 hk' with q | q
 ·rw[b6K hR hi h0 hn hp q];exact hS k q
 ·rw[List.mem_singleton.1 q,b2n hR hi h0 hn hp];show (0:Int)≤_;decide
theorem a9e{y:Hp}(hy:M2 y){a:Int}(ha:0≤a∧a≤5){h:Int}(hh:h=0∨h∈lv y.S):sd (a1C (G1 y a.toNat h)) a=h∧ser (a1C (G1 y a.toNat h)) h=ser y h:=by
 have hz:=a0k hy (r:=a.toNat) (by omega) hh
 have st:=a8w hz;have w:=a2I hz;have e1:(a1C (G1 y a.toNat h)).Roots=y.Roots.set a.toNat h:=st.rt.trans (a4w y a.toNat h).1;have h6:=hy.sh.r6;have e2:sd (a1C (G1 y a.toNat h)) a=h:=by
  unfold sd;rw[if_neg (by omega),e1,List.getD_eq_getElem?_getD,List.getElem?_set_self (by omega)]
  rfl
 refine⟨e2,?_⟩;have k:=a01 hy.sh.sr a.toNat h;rcases b26 w.sh a with q | q
 ·rw[e2] at q;subst q;rw[c3D w.sh,c3D hy.sh]
 ·rw[e2] at q;have h1:=(st.ob h q).1;have h2:=st.lv h q;rw[k.lv] at h2;exact h1.trans (k.ob h h2)
section
variable{x:Hp}{a b c:Int}
theorem a7k{o:g9}{y:Hp}{e:Int}(he:e≠0):doR x o (y,e)=some (x,0,e):=by
 unfold doR;rw[if_pos (by simpa using he)]
theorem d0w{z:Hp}(hz:M2 z)(hS:SL z){k:Int}(hk:k≠5∧k≠6∧k≠8∧k≠10):doR x ⟨k,a,b,c⟩ (z,0)=some (a1C z,ser (a1C z) (sd (a1C z) a),0):=by
 unfold doR U5;rw[if_neg (by simp),a33 hz hS,d6y]
 simp only[jn];rw[if_neg (by simp;omega),if_neg (by simp;omega)]
 have:(k==8)=false:=by simp;omega
 rw[this,if_neg (by simp),if_neg (by simp;omega),c2B (a2I hz).sh]
 rfl
theorem c11{o:g9}{v e:Int}(he:e≠0):C1 ⟨x,o⟩ v e=some (x,e):=by
 unfold C1;rw[if_pos (by simpa using he)]
theorem c67{y:g8}{v e:Int}(he:e≠0):rT y a (v,e)=some (y,0,e):=by
 unfold rT;rw[if_pos (by simpa using he)]
theorem c4z{y z:g8}{v e:Int}(he:e≠0):rO y (z,v,e)=some (y,0,e):=by
 unfold rO;rw[if_pos (by simpa using he)]
variable(hx:M2 x)(hS:SL x)
include hx hS
theorem a9l{k:Int}(ha:0≤a∧a≤5){h:Int}(hh:h=0∨h∈lv x.S):C1 ⟨x,⟨k,a,b,c⟩⟩ h 0=some (G1 x a.toNat h,0):=by
 unfold C1;rw[if_neg (by simp),c3x hx hS a (b1d hx hS hh),if_neg (by omega),if_pos hh]
 rfl
theorem d4F(ha:0≤a∧a≤5){h:Int}(hh:h=0∨h∈lv x.S):rT (hO x) a (h,0)=some (hO (a1C (G1 x a.toNat h)),ser x h,0):=by
 have hz:=a0k hx (r:=a.toNat) (by omega) hh
 have zS:=a4x hx.sh.sr hS a.toNat h;obtain⟨e1,e2⟩:=a9e hx ha hh;unfold rT;rw[if_neg (by simp),c1P hx hS a (b1d hx hS hh),if_neg (by omega),if_pos hh,d6y,a6a hz zS,d6y,d3O (a2I hz).sh,e1,e2]
 rfl
theorem a6e{k:Int}(hk:k=2∨k=3∨k=4∨k=7∨k=9)(hc:B3 k a b c=0)(ha:0≤a∧a≤5){h:Int}(hh:h=0∨h∈lv x.S)
  (h1:x4 x ⟨k,a,b,c⟩=doR x ⟨k,a,b,c⟩ (G1 x a.toNat h,0))(h2:a2E (hO x) ⟨k,a,b,c⟩=some (h,0)):Dn x ⟨k,a,b,c⟩ (G1 x a.toNat h) (ser x h):=by
 have hz:=a0k hx (r:=a.toNat) (by omega) hh
 have zS:=a4x hx.sh.sr hS a.toNat h;obtain⟨e1,e2⟩:=a9e hx ha hh;refine⟨hz,zS,(a01 hx.sh.sr a.toNat h).ev,Cw.same (a4w x a.toNat h).2.1 _,?_,?_⟩;·rw[h1,d0w hz zS (by omega),e1,e2]
 ·show D4 (hO x) ⟨k,a,b,c⟩=_;rw[c3q hk hc,h2,d6y,d4F hx hS ha hh]
theorem d2(hc:B3 2 a b c=0):Dn x ⟨2,a,b,c⟩ (G1 x a.toNat (sd x b)) (ser x (sd x b)):=by
 obtain⟨ha,hb⟩:=d1t hc;refine a6e hx hS (.inl rfl) hc ha (b26 hx.sh b) ?_ ?_
 ·rw[d5E hc];unfold I2;rw[a63 hx.sh,d6y,a9l hx hS ha (b26 hx.sh b)];rfl
 ·unfold a2E;rw[if_pos (by rfl),show (hO x).Roots=x.Roots from rfl,b25 hx.sh hb]
  rfl
theorem d3(hc:B3 3 a b c=0):Dn x ⟨3,a,b,c⟩ (G1 x a.toNat 0) 0:=by
 have ha:=d5v hc;have:=a6e (b:=b) (c:=c) hx hS (.inr (.inl rfl)) hc ha (h:=0) (.inl rfl) ?_ ?_;·rwa [c3D hx.sh] at this
 ·rw[d5F hc];unfold Z5;rw[a9l hx hS ha (.inl rfl)];rfl
 ·rfl
theorem d4(hc:B3 4 a b c=0):(sd x b=0∧Er x ⟨4,a,b,c⟩ 2)∨(∃e,a0o x.S (sd x b) c=some (0,e)∧Er x ⟨4,a,b,c⟩ e) ∨
  (sd x b∈lv x.S∧∃n:Nat,c=n∧∃hn:n<(ob x.S (sd x b)).Fields.length,Dn x ⟨4,a,b,c⟩ (G1 x a.toNat (ob x.S (sd x b)).Fields[n]) (ser x (ob x.S (sd x b)).Fields[n])):=by
 obtain⟨ha,hb,_⟩:=d5w hc;have hm:x4 x ⟨4,a,b,c⟩=_:=d5G hc;unfold Z6 at hm;rw[a5Q hx.sh,d6y] at hm;have hr:D4 (hO x) ⟨4,a,b,c⟩=_:=c3q (by omega) hc
 have hnm:a2E (hO x) ⟨4,a,b,c⟩=(Y2 (hO x) b).bind λv2=>if (v2.2 != 0) then some (0,v2.2) else (a3Z (hO x).S v2.1 c).bind λv3=>some (v3.1,v3.2):=rfl
 rw[b0E hx.sh hb,d6y] at hnm;by_cases h0:sd x b=0
 ·refine .inl ⟨h0,by decide,?_,?_⟩
  ·rw[hm];unfold asd;rw[if_pos h0,if_pos (by simp),d6y,a7k (by decide)]
  ·show D4 (hO x) ⟨4,a,b,c⟩=_;rw[hr,hnm];unfold asd;rw[if_pos h0,if_pos (by simp),d6y,c67 (by decide)]
 ·have has:asd x b=(sd x b,0):=by unfold asd;rw[if_neg h0]
  rw[has,if_neg (by simp)] at hm hnm
  right;rcases b2U hx hS (sd x b) c (b27 hx.sh b) with ⟨e,he,f1,f2⟩ | ⟨hl,n,hn0,hn,f1,f2⟩
  ·refine .inl ⟨e,f1,he,?_,?_⟩
   ·rw[hm];dsimp only;rw[f1,d6y,c11 he,d6y,d6y,a7k he]
   ·show D4 (hO x) ⟨4,a,b,c⟩=_;rw[hr,hnm];dsimp only;rw[show (hO x).S=sO x.S from rfl,f2,d6y,d6y,c67 he]
  ·refine .inr ⟨hl,n,hn0,hn,?_⟩;have hv:=hx.sh.fl _ hl _ (List.getElem_mem hn);refine a6e hx hS (by omega) hc ha hv ?_ ?_
   ·rw[hm];dsimp only;rw[f1,d6y,a9l hx hS ha hv];rfl
   ·rw[hnm];dsimp only;rw[show (hO x).S=sO x.S from rfl,f2];rfl
theorem c9g{n:Nat}(hn:n<6):∃h:n<x.a8.length,a6g x.a8 n=some (if x.a8[n].Target=0∨x.a8[n].Intact=false then (0,9) else (x.a8[n].Target,0))∧b1r (hO x).a8 n=some (if x.a8[n].Target=0∨x.a8[n].Intact=false then (0,9) else (x.a8[n].Target,0)):=by
 have c6:=hx.sh.c6;have hl:n<x.a8.length:=by omega
 have hl2:n<(x.a8.map wcR).length:=by simp;exact hl
 refine⟨hl,?_,?_⟩
 ·unfold a6g a6h;have:(decide ((n:Int)≥0)&&decide ((n:Int)<(x.a8.length:Int)))=true:=by simp;omega
  rw[this,d6y,if_neg (by simp),o9 hl,d6y]
  by_cases q:x.a8[n].Target=0∨x.a8[n].Intact=false
  ·rw[if_pos q,if_pos (by rcases q with q | q <;> simp[q])]
  ·rw[if_neg q,if_neg (by simpa using q)]
 ·unfold b1r;show (if _ then _ else (ix (x.a8.map wcR) (n:Int)).bind _)=_
  rw[if_neg (by simp[hO];omega),o9 hl2,d6y,List.getElem_map]
  by_cases q:x.a8[n].Target=0∨x.a8[n].Intact=false
  ·rw[if_pos q,if_pos (by rcases q with q | q <;> simp[wcR,q])]
  ·rw[if_neg q,if_neg (by simpa[wcR] using q)]
   rfl
theorem d7(hc:B3 7 a b c=0):∃h:b.toNat<x.a8.length,((x.a8[b.toNat].Intact=false∧Er x ⟨7,a,b,c⟩ 9) ∨
  (x.a8[b.toNat].Intact=true∧Dn x ⟨7,a,b,c⟩ (G1 x a.toNat x.a8[b.toNat].Target) (ser x x.a8[b.toNat].Target))):=by
 obtain⟨ha,hb⟩:=d5z hc;obtain⟨n,rfl⟩:∃n:Nat,b=n:=⟨b.toNat,by omega⟩
 obtain⟨hl,l1,l2⟩:=c9g hx hS (n:=n) (by omega)
 rw[Int.toNat_natCast];refine⟨hl,?_⟩;have hm:x4 x ⟨7,a,n,c⟩=_:=d5J hc;unfold W9 at hm;rw[show a6g (r9.mk x ⟨7,a,n,c⟩).x.a8 (r9.mk x ⟨7,a,n,c⟩).o.B=_ from l1,d6y] at hm;have hr:D4 (hO x) ⟨7,a,n,c⟩=_:=c3q (by omega) hc
 have hnm:a2E (hO x) ⟨7,a,n,c⟩=(b1r (hO x).a8 n).bind λv4=>some (v4.1,v4.2):=rfl;rw[l2,d6y] at hnm;have cl:=hx.sh.cl n hl;cases hI:x.a8[n].Intact
 ·left;rw[if_pos (.inr hI)] at hm hnm;refine⟨rfl,by decide,?_,?_⟩
  ·rw[hm];dsimp only;rw[c11 (by decide),d6y,d6y]
   exact a7k (e:=9) (by decide)
  ·show D4 (hO x) ⟨7,a,n,c⟩=_;rw[hr,hnm,d6y,c67 (by decide)]
 ·right;have ht:=(cl.2.2.2.2 hI).1;have ht0:x.a8[n].Target≠0:=λe=>a9w hx.sh.sr (e▸ht);rw[if_neg (by simp[ht0,hI])] at hm hnm
  refine⟨rfl,a6e hx hS (by omega) hc ha (.inr ht) ?_ hnm⟩
  rw[hm];dsimp only;rw[a9l hx hS ha (.inr ht)];rfl
theorem d9(hc:B3 9 a b c=0):(sd x b=0∧Er x ⟨9,a,b,c⟩ 2)∨(sd x b∈lv x.S∧(∀v,¬Has x.T (sd x b) v)∧Er x ⟨9,a,b,c⟩ 9) ∨
  (sd x b∈lv x.S∧∃v,Has x.T (sd x b) v∧Dn x ⟨9,a,b,c⟩ (G1 x a.toNat v) (ser x v)):=by
 obtain⟨ha,hb⟩:=d5B hc;have hT:=hx.sh.hr;have hm:x4 x ⟨9,a,b,c⟩=_:=d5L hc;unfold a0z at hm;rw[a5Q hx.sh,d6y] at hm;have hr:D4 (hO x) ⟨9,a,b,c⟩=_:=c3q (by omega) hc
 have hnm:a2E (hO x) ⟨9,a,b,c⟩=(Y2 (hO x) b).bind λv2=>if (v2.2 != 0) then some (0,v2.2) else (b3R (hO x).T v2.1).bind λv3=>some (v3.1,v3.2):=rfl
 rw[b0E hx.sh hb,d6y] at hnm;by_cases h0:sd x b=0
 ·refine .inl ⟨h0,by decide,?_,?_⟩
  ·rw[hm];unfold asd;rw[if_pos h0,if_pos (by simp),d6y,a7k (by decide)]
  ·show D4 (hO x) ⟨9,a,b,c⟩=_;rw[hr,hnm];unfold asd;rw[if_pos h0,if_pos (by simp),d6y,c67 (by decide)]
 ·have has:asd x b=(sd x b,0):=by unfold asd;rw[if_neg h0]
  have hl:=(b26 hx.sh b).resolve_left h0;rw[has,if_neg (by simp)] at hm hnm
  dsimp only at hm hnm;have g2:b3R (hO x).T (sd x b)=(L6 x.T (sd x b)).bind λv=>some (v.1,v.2):=by
   unfold b3R;rw[show (hO x).T=x.T.map J3 from rfl,c7b hT]
  unfold b2a at hm;rw[g2] at hnm;right;by_cases hv:∃v,Has x.T (sd x b) v
  ·obtain⟨v,hv⟩:=hv;rw[c2O hT hv] at hm hnm;refine .inr ⟨hl,v,hv,a6e hx hS (by omega) hc ha (.inr (hx.sh.pr _ _ hv).2) ?_ hnm⟩
   rw[hm,d6y,d6y];dsimp only;rw[a9l hx hS ha (.inr (hx.sh.pr _ _ hv).2)];rfl
  ·have hv':∀v,¬Has x.T (sd x b) v:=λv q=>hv ⟨v,q⟩;rw[c4g hT hv'] at hm hnm;refine .inl ⟨hl,hv',by decide,?_,?_⟩
   ·rw[hm,d6y,d6y];dsimp only;rw[c11 (by decide),d6y,d6y]
    exact a7k (e:=9) (by decide)
   ·show D4 (hO x) ⟨9,a,b,c⟩=_;rw[hr,hnm,d6y,d6y,d6y];exact c67 (e:=9) (by decide)
end
end Go.Sh
namespace Go.Sh
section
variable{x:Hp}{a b c:Int}
theorem d3W{z:Hp}(hz:M2 z)(hS:SL z){k:Int}{r:Int}(hk:k=5∧r=c∨(k=6∨k=8)∧r=b):doR x ⟨k,a,b,c⟩ (z,0)=some (a1C z,ser z (sd z r),0):=by
 unfold doR U5;rw[if_neg (by simp),a33 hz hS,d6y]
 simp only[jn];rcases hk with ⟨rfl,rfl⟩ | ⟨rfl | rfl,rfl⟩
 ·rw[if_pos (by rfl),c2B hz.sh]
  rfl
 ·rw[if_neg (by decide),if_pos (by rfl),if_pos (by rfl),c2B hz.sh]
  rfl
 ·rw[if_neg (by decide),if_neg (by decide),if_pos (by rfl),c2B hz.sh]
  rfl
variable(hx:M2 x)(hS:SL x)
include hx hS
theorem d4E{z:Hp}(hz:M2 z)(zS:SL z){h:Int}(hh:h=0∨h∈lv x.S):rO (hO x) (hO z,h,0)=some (hO (a1C z),ser x h,0):=by
 unfold rO;rw[if_neg (by simp),a6a hz zS,d6y,c7r hx.sh (b1d hx hS hh)]
 rfl
theorem b0h{z:Hp}(hz:M2 z)(zS:SL z)(k:Ks x.S z.S)(er:z.Roots=x.Roots){kd r:Int}(hk:kd=5∧r=c∨(kd=6∨kd=8)∧r=b)(hc:B3 kd a b c=0)(cw:Cw x z (if kd=6 then a else -1))
  (h1:x4 x ⟨kd,a,b,c⟩=doR x ⟨kd,a,b,c⟩ (z,0))(h2:a1w (hO x) ⟨kd,a,b,c⟩=some (hO z,sd x r,0)):Dn x ⟨kd,a,b,c⟩ z (ser x (sd x r)):=by
 refine⟨hz,zS,k.ev,cw,?_,?_⟩;·rw[h1,d3W hz zS hk,c90 er,d3h hx.sh k (b26 hx.sh r)]
 ·show D4 (hO x) ⟨kd,a,b,c⟩=_;rw[c3p (by omega) hc,h2,d6y,d4E hx hS hz zS (b26 hx.sh r)]
theorem d5(hc:B3 5 a b c=0):(sd x a=0∧Er x ⟨5,a,b,c⟩ 2)∨(∃e,a2u x (sd x a) b (sd x c)=some (x,e)∧Er x ⟨5,a,b,c⟩ e) ∨
  (sd x a∈lv x.S∧∃n:Nat,b=n∧n<(ob x.S (sd x a)).Fields.length∧Dn x ⟨5,a,b,c⟩ (a09 x (sd x a) n (sd x c)) (ser x (sd x c))):=by
 obtain⟨ha,hb,hcc⟩:=d5x hc;have hm:x4 x ⟨5,a,b,c⟩=_:=d5H hc;unfold W3 at hm;rw[a5Q hx.sh,d6y] at hm;have hr:D4 (hO x) ⟨5,a,b,c⟩=_:=c3p (by omega) hc
 have hnm:a1w (hO x) ⟨5,a,b,c⟩=(Y2 (hO x) a).bind λv4=>if (v4.2 != 0) then some (hO x,0,v4.2) else (a51 (hO x) c).bind λv5=>(a5X (hO x) v4.1 b v5).bind λv6=>some (v6.1,v5,v6.2):=rfl
 rw[b0E hx.sh ha,d6y,c7o hx.sh (by omega)] at hnm
 by_cases h0:sd x a=0
 ·have has:asd x a=(0,2):=by unfold asd;rw[if_pos h0]
  rw[has,if_pos (by simp)] at hm hnm
  refine .inl ⟨h0,by decide,?_,?_⟩
  ·rw[hm,d6y];exact a7k (e:=2) (by decide)
  ·show D4 (hO x) ⟨5,a,b,c⟩=_;rw[hr,hnm,d6y];exact c4z (e:=2) (by decide)
 ·have has:asd x a=(sd x a,0):=by unfold asd;rw[if_neg h0]
  rw[has,if_neg (by simp)] at hm hnm
  dsimp only at hm hnm;rw[a63 hx.sh,d6y] at hm;rw[d6y] at hnm;right;rcases c5X hx hS (sd x a) b (sd x c) (b27 hx.sh a) (b27 hx.sh c) with ⟨e,he,f1,f2⟩ | ⟨hl,hv,n,hn0,hn,f1,f2⟩
  ·refine .inl ⟨e,f1,he,?_,?_⟩;·rw[hm,f1,d6y,d6y,a7k he]
   ·show D4 (hO x) ⟨5,a,b,c⟩=_;rw[hr,hnm,f2,d6y,d6y,c4z he]
  ·refine .inr ⟨hl,n,hn0,hn,b0h hx hS (b7u hx hl hn hv) (c4a hx.sh.sr hS hl _ _) (b6r hx.sh.sr hl hn _) (a7U _ _ _ _).1 (.inl ⟨rfl,rfl⟩) hc (Cw.same (a7U _ _ _ _).2.1 _) ?_ ?_⟩
   ·rw[hm,f1];rfl
   ·rw[hnm,f2];rfl
theorem d6(hc:B3 6 a b c=0):(sd x b=0∧Er x ⟨6,a,b,c⟩ 2)∨(∃e,a0x x a (sd x b) c=some (x,e)∧Er x ⟨6,a,b,c⟩ e) ∨
  (wts x.Q a=false∧Dn x ⟨6,a,b,c⟩ (a2m x a.toNat (sd x b) c) (ser x (sd x b))):=by
 obtain⟨ha,hb,hcc⟩:=d5y hc;have hm:x4 x ⟨6,a,b,c⟩=_:=d5I hc;unfold T3 at hm;have hr:D4 (hO x) ⟨6,a,b,c⟩=_:=c3p (by omega) hc
 have key:(x4 x ⟨6,a,b,c⟩=(((a0x x a (sd x b) c).bind λv1=>some (v1.1,v1.2)).bind (doR x ⟨6,a,b,c⟩))∧a1w (hO x) ⟨6,a,b,c⟩=(a4q (hO x) a (sd x b) c).bind λv1=>some (v1.1,sd x b,v1.2))∨(sd x b=0∧Er x ⟨6,a,b,c⟩ 2):=by
  by_cases h1:b = -1
  ·subst h1;left;rw[b5l hx.sh (r:=-1) (by omega)]
   refine⟨?_,rfl⟩;rw[hm,if_pos (by rfl)]
  ·rw[if_neg (by simpa using h1),a5Q hx.sh,d6y] at hm
   have hnm:a1w (hO x) ⟨6,a,b,c⟩=(Y2 (hO x) b).bind λv4=>if (v4.2 != 0) then some (hO x,0,v4.2) else (a4q (hO x) a v4.1 c).bind λv7=>some (v7.1,v4.1,v7.2):=by
    unfold a1w;rw[if_neg (by simp;omega)]
    rfl
   rw[b0E hx.sh (by omega),d6y] at hnm
   by_cases h0:sd x b=0
   ·have has:asd x b=(0,2):=by unfold asd;rw[if_pos h0]
    rw[has,if_pos (by simp)] at hm hnm
    refine .inr ⟨h0,by decide,?_,?_⟩
    ·rw[hm,d6y];exact a7k (e:=2) (by decide)
    ·show D4 (hO x) ⟨6,a,b,c⟩=_;rw[hr,hnm,d6y];exact c4z (e:=2) (by decide)
   ·have has:asd x b=(sd x b,0):=by unfold asd;rw[if_neg h0]
    rw[has,if_neg (by simp)] at hm hnm
    exact .inl ⟨hm,hnm⟩
 rcases key with ⟨hm,hnm⟩ | key
 ·right;rcases d0m hx a (sd x b) c (b27 hx.sh b) hcc with ⟨e,he,f1,f2⟩ | ⟨hh,n,rfl,hn,hw,f1,f2⟩
  ·refine .inl ⟨e,f1,he,?_,?_⟩;·rw[hm,f1,d6y,d6y,a7k he]
   ·show D4 (hO x) ⟨6,a,b,c⟩=_;rw[hr,hnm,f2,d6y,d6y,c4z he]
  ·rw[Int.toNat_natCast];obtain⟨r1,r2,_,_⟩:=b5y x n (sd x b) c;refine .inr ⟨hw,b0h hx hS (c0C hx hn hh hcc hw) (c7G hx hS hn _ _) (c0B hx hn _ _) r1 (.inr ⟨.inl rfl,rfl⟩) hc (by rw[if_pos rfl];exact Cw.set r2) ?_ ?_⟩
   ·rw[hm,f1];rfl
   ·rw[hnm,f2];rfl
 ·exact .inl key
theorem d8(hc:B3 8 a b c=0):(sd x a=0∧Er x ⟨8,a,b,c⟩ 2)∨(sd x a∈lv x.S∧∃e,a3X x (sd x a) (sd x b)=some (x,e)∧Er x ⟨8,a,b,c⟩ e) ∨
  (sd x a∈lv x.S∧∃r,T9 x.T (sd x a) (sd x b)=some r∧r.2.2=0∧Dn x ⟨8,a,b,c⟩ (a5S x (sd x b) r.1 r.2.1) (ser x (sd x b))):=by
 obtain⟨ha,hb⟩:=d5A hc;have hm:x4 x ⟨8,a,b,c⟩=_:=d5K hc;unfold Z7 at hm;rw[a5Q hx.sh,d6y] at hm;have hr:D4 (hO x) ⟨8,a,b,c⟩=_:=c3p (by omega) hc
 have hnm:a1w (hO x) ⟨8,a,b,c⟩=(Y2 (hO x) a).bind λv4=>if (v4.2 != 0) then some (hO x,0,v4.2) else (a51 (hO x) b).bind λv8=>(a8i (hO x) v4.1 v8).bind λv9=>some (v9.1,v8,v9.2):=rfl
 rw[b0E hx.sh ha,d6y,c7o hx.sh (by omega)] at hnm
 by_cases h0:sd x a=0
 ·have has:asd x a=(0,2):=by unfold asd;rw[if_pos h0]
  rw[has,if_pos (by simp)] at hm hnm
  refine .inl ⟨h0,by decide,?_,?_⟩
  ·rw[hm,d6y];exact a7k (e:=2) (by decide)
  ·show D4 (hO x) ⟨8,a,b,c⟩=_;rw[hr,hnm,d6y];exact c4z (e:=2) (by decide)
 ·have has:asd x a=(sd x a,0):=by unfold asd;rw[if_neg h0]
  have hl:=(b26 hx.sh a).resolve_left h0;rw[has,if_neg (by simp)] at hm hnm
  dsimp only at hm hnm;rw[a63 hx.sh,d6y] at hm;rw[d6y] at hnm;right;rcases c9I hx hS (sd x a) (sd x b) (b27 hx.sh a) (b27 hx.sh b) with ⟨e,he,f1,f2⟩ | ⟨hl,hv,r,r1,r2,f1,f2⟩
  ·refine .inl ⟨hl,e,f1,he,?_,?_⟩;·rw[hm,f1,d6y,d6y,a7k he]
   ·show D4 (hO x) ⟨8,a,b,c⟩=_;rw[hr,hnm,f2,d6y,d6y,c4z he]
  ·refine .inr ⟨hl,r,r1,r2,b0h hx hS (b9V hx hl hv r1 r2) (c6V hx.sh.sr hS _ _ _) (b9U hx.sh.sr _ _ _) (b0i _ _ _ _).1 (.inr ⟨.inr rfl,rfl⟩) hc (Cw.same (b0i _ _ _ _).2.1 _) ?_ ?_⟩
   ·rw[hm,f1];rfl
   ·rw[hnm,f2];rfl
theorem d10(hz:zr x = [])(hc:B3 10 a b c=0):Dn x ⟨10,a,b,c⟩ x (if sd x a=sd x b then 1 else 0):=by
 obtain⟨ha,hb⟩:=d3Q hc;refine⟨hx,hS,Ev.refl x,Cw.refl x _,?_,?_⟩
 ·rw[d3X hc];unfold P0 doR U5;rw[d6y,if_neg (by simp),a33 hx hS,d6y]
  simp only[jn];rw[if_neg (by decide),if_neg (by decide),if_neg (by decide),if_pos (by rfl),a63 hx.sh,d6y,a63 hx.sh,d6y]
  by_cases q:sd x a=sd x b
  ·rw[if_pos (by simpa using q),if_pos q]
   rfl
  ·rw[if_neg (by simpa using q),if_neg q]
   rfl
 ·show D4 (hO x) ⟨10,a,b,c⟩=_;rw[d2W hc,show (hO x).Roots=x.Roots from rfl,b25 hx.sh ha,d6y,b25 hx.sh hb,d6y,c0n hz];by_cases q:sd x a=sd x b
  ·rw[if_pos (by simpa using q),if_pos q]
  ·rw[if_neg (by simpa using q),if_neg q]
theorem d1(hb:x.S.Serial<9223372036854775807)(hc:B3 1 a b c=0):(∃e,T0 x.S b c=some (x.S,0,e)∧Er x ⟨1,a,b,c⟩ e) ∨
  (b.toNat≤4∧(-1≤c∧c≤5)∧∃i,Fst x.S i∧Dn x ⟨1,a,b,c⟩ (G1 (wS x (mkS x.S i b.toNat c)) a.toNat (hdl x.S i)) (x.S.Serial+1)):=by
 obtain⟨ha,hbb,hcc⟩:=d5u hc;have hR:=hx.sh.sr;have hm:x4 x ⟨1,a,b,c⟩=_:=d5D hc;unfold T2 at hm;dsimp only at hm;have hr:D4 (hO x) ⟨1,a,b,c⟩=_:=d4O hc;rw[show (hO x).S=sO x.S from rfl] at hr;rcases d4o hR hb b c with ⟨e,he,f1,f2⟩ | ⟨_,_,i,hF,f1,f2⟩
 ·refine .inl ⟨e,f1,he,?_,?_⟩;·rw[hm,f1,d6y,if_pos (by simpa using he),d6y,a7k he]
  ·show D4 (hO x) ⟨1,a,b,c⟩=_;rw[hr,f2,d6y,if_pos (by simpa using he)]
 ·refine .inr ⟨by omega,hcc,i,hF,?_⟩
  obtain⟨hi,h0,_⟩:=hF;have hn:b.toNat≤4:=by omega
  have hy:=c6w hx hi h0 hn hcc;have yS:=d4r hx hS hi h0 hn hcc;have hh:hdl x.S i=0∨hdl x.S i∈lv (wS x (mkS x.S i b.toNat c)).S:=.inr (by
   show _∈lv (mkS x.S i b.toNat c);rw[c24 hR hi h0 hn hcc];exact List.mem_append_right _ (List.mem_singleton.2 rfl))
  have hz:=a0k hy (r:=a.toNat) (by omega) hh
  have zS:=a4x hy.sh.sr yS a.toNat (hdl x.S i);obtain⟨e1,e2⟩:=a9e hy ha hh;have e3:ser (wS x (mkS x.S i b.toNat c)) (hdl x.S i)=x.S.Serial+1:=by
   show (ob (mkS x.S i b.toNat c) (hdl x.S i)).Serial=_;rw[b2n hR hi h0 hn hcc]
  refine⟨hz,zS,(d4q hx hi h0 hn hcc).ks (a01 hy.sh.sr a.toNat _),Cw.same (a4w (wS x (mkS x.S i b.toNat c)) a.toNat _).2.1 _,?_,?_⟩
  ·rw[hm,f1,d6y,if_neg (by simp)]
   dsimp only;rw[show C1 ⟨⟨mkS x.S i b.toNat c,x.Roots,x.a8,x.T,x.Q⟩,⟨1,a,b,c⟩⟩ (hdl x.S i) 0=_ from a9l hy yS ha hh,d6y,d6y,d0w hz zS (by omega),e1,e2,e3]
  ·show D4 (hO x) ⟨1,a,b,c⟩=_;rw[hr,f2,d6y,if_neg (by simp)]
   dsimp only;rw[show X0 ⟨sO (mkS x.S i b.toNat c),(hO x).Roots,(hO x).a8,(hO x).T,(hO x).Q⟩ a (hdl x.S i)=_ from c1P hy yS a (b1d hy yS hh),if_neg (by omega),if_pos hh,d6y,a6a hz zS,d6y,d3O (a2I hz).sh,e1,e2,e3]
   rfl
end
theorem d1z{x:Hp}(hx:M2 x)(hS:SL x)(hz:zr x = [])(hb:x.S.Serial<9223372036854775807)(o:g9):(∃e,Er x o e)∨∃z v,Dn x o z v:=by
 obtain⟨k,a,b,c⟩:=o;by_cases hc:B3 k a b c=0
 ·have:=c2W hc;have hk:k=1∨k=2∨k=3∨k=4∨k=5∨k=6∨k=7∨k=8∨k=9∨k=10∨k=11∨k=12:=by omega
  rcases hk with rfl | rfl | rfl | rfl | rfl | rfl | rfl | rfl | rfl | rfl | rfl | rfl
  ·rcases d1 hx hS hb hc with ⟨e,_,h⟩ | ⟨_,_,i,_,h⟩;·exact .inl ⟨e,h⟩
   ·exact .inr ⟨_,_,h⟩
  ·exact .inr ⟨_,_,d2 hx hS hc⟩
  ·exact .inr ⟨_,_,d3 hx hS hc⟩
  ·rcases d4 hx hS hc with ⟨_,h⟩ | ⟨e,_,h⟩ | ⟨_,n,_,_,h⟩;·exact .inl ⟨_,h⟩
   ·exact .inl ⟨_,h⟩
   ·exact .inr ⟨_,_,h⟩
  ·rcases d5 hx hS hc with ⟨_,h⟩ | ⟨e,_,h⟩ | ⟨_,n,_,_,h⟩;·exact .inl ⟨_,h⟩
   ·exact .inl ⟨_,h⟩
   ·exact .inr ⟨_,_,h⟩
  ·rcases d6 hx hS hc with ⟨_,h⟩ | ⟨e,_,h⟩ | ⟨_,h⟩;·exact .inl ⟨_,h⟩
   ·exact .inl ⟨_,h⟩
   ·exact .inr ⟨_,_,h⟩
  ·obtain⟨_,⟨_,h⟩ | ⟨_,h⟩⟩:=d7 hx hS hc;·exact .inl ⟨_,h⟩
   ·exact .inr ⟨_,_,h⟩
  ·rcases d8 hx hS hc with ⟨_,h⟩ | ⟨_,e,_,h⟩ | ⟨_,r,_,_,h⟩;·exact .inl ⟨_,h⟩
   ·exact .inl ⟨_,h⟩
   ·exact .inr ⟨_,_,h⟩
  ·rcases d9 hx hS hc with ⟨_,h⟩ | ⟨_,_,h⟩ | ⟨_,v,_,h⟩;·exact .inl ⟨_,h⟩
   ·exact .inl ⟨_,h⟩
   ·exact .inr ⟨_,_,h⟩
  ·exact .inr ⟨_,_,d10 hx hS hz hc⟩
  ·obtain⟨h1,h2⟩:=b7o (x:=x) (a:=a) (b:=b) (c:=c) (.inl rfl) hc;exact .inl ⟨14,by decide,h1,h2⟩
  ·obtain⟨h1,h2⟩:=b7o (x:=x) (a:=a) (b:=b) (c:=c) (.inr rfl) hc;exact .inl ⟨14,by decide,h1,h2⟩
 ·obtain⟨h1,h2⟩:=c5H (x:=x) (o:=⟨k,a,b,c⟩) hc;exact .inl ⟨_,hc,h1,h2⟩
end Go.Sh
namespace Go.Sh
noncomputable def dov(x:Hp)(o:g9):Hp × Int × Int:=(x4 x o).getD (x,0,0)
structure Nxt (x:Hp) (o:g9) (y:Hp) (v e:Int):Prop where
 rt:M2 y
 sl:SL y
 zr:zr y = []
 ev:Ev x y
 cw:Cw x y (if o.Kind=6 then o.A else -1)
 er:e≠0→y=x∧v=0
 mc:x4 x o=some (y,v,e)
 rf:D4 (hO x) (opR o)=some (hO y,v,e)
theorem Dn.nxt{x z:Hp}{o:g9}{v:Int}(d:Dn x o z v):Nxt x o (a1C z) v 0:=by
 have st:=a8w d.rt;exact⟨a2I d.rt,c3F d.rt d.sl,b6Z d.rt,d.ev.stl st,d.cw.trans (st.cw _),λh=>absurd rfl h,d.mc,d.rf⟩
theorem c9t{x:Hp}(hx:M2 x)(hS:SL x)(hz:zr x = [])(hb:x.S.Serial<9223372036854775807)(o:g9):∃y v e,Nxt x o y v e:=by
 rcases d1z hx hS hz hb o with ⟨e,h1,h2,h3⟩ | ⟨z,v,d⟩;·exact⟨x,0,e,hx,hS,hz,Ev.refl x,Cw.refl x _,λ_=>⟨rfl,rfl⟩,h2,h3⟩
 ·exact⟨_,_,_,d.nxt⟩
theorem a6N{x:Hp}(hx:M2 x)(hS:SL x)(hz:zr x = [])(hb:x.S.Serial<9223372036854775807)(o:g9):Nxt x o (dov x o).1 (dov x o).2.1 (dov x o).2.2:=by
 obtain⟨y,v,e,h⟩:=c9t hx hS hz hb o;have:dov x o=(y,v,e):=by unfold dov;rw[h.mc];rfl
 rw[this];exact h
noncomputable def runs(x:Hp)(l:List g9):Hp × List Int:=l.foldl (λp o=>((dov p.1 o).1,p.2 ++ [(dov p.1 o).2.1])) (x,[])
theorem a9h(x:Hp)(l:List g9)(o:g9):runs x (l ++ [o])=((dov (runs x l).1 o).1,(runs x l).2 ++ [(dov (runs x l).1 o).2.1]):=by
 unfold runs;rw[List.foldl_append];rfl
theorem c0j{x:Hp}(hx:M2 x)(hS:SL x)(hz:zr x = [])(l:List g9)(hb:x.S.Serial+l.length<9223372036854775807)(P:Hp→Prop)(h0:P x)
  (hs:∀(y:Hp) (o:g9),o∈l→M2 y→Nxt y o (dov y o).1 (dov y o).2.1 (dov y o).2.2→P y→P (dov y o).1):∀k,k≤l.length →
  M2 (runs x (l.take k)).1∧SL (runs x (l.take k)).1∧zr (runs x (l.take k)).1 = []∧(runs x (l.take k)).1.S.Serial≤x.S.Serial+k∧(runs x (l.take k)).2.length=k∧P (runs x (l.take k)).1
 | 0,_=>⟨hx,hS,hz,by show x.S.Serial≤_;omega,rfl,h0⟩
 | k+1,hk=>by
  obtain⟨a1,a2,a3,a4,a5,a6⟩:=c0j hx hS hz l hb P h0 hs k (by omega)
  have hk':k<l.length:=by omega
  have n:=a6N a1 a2 a3 (by omega) l[k]
  rw[M6 hk',a9h];exact⟨n.rt,n.sl,n.zr,by have:=n.ev.s2;show (dov _ _).1.S.Serial≤_;omega,by simp[a5],hs _ _ (List.getElem_mem hk') a1 n a6⟩
theorem run_eq{x:Hp}(hx:M2 x)(hS:SL x)(hz:zr x = [])(l:List g9)(hl:l.length≤1000)(hb:x.S.Serial+l.length<9223372036854775807) :
  a29 x l=some (runs x l)∧b3S (hO x) (l.map opR)=some (hO (runs x l).1,(runs x l).2):=by
 have all:=c0j hx hS hz l hb (λ_=>True) trivial (λ_ _ _ _ _ _=>trivial);constructor
 ·unfold a29;simp only[jn];refine M4 (T:=Hp × List Int) l.length (λk acc=>acc=runs x (l.take k)) (by omega) rfl (λk acc hk hP=>?_) (λacc hP=>?_)
  ·subst hP;obtain⟨a1,a2,a3,a4,a5,_⟩:=all k (by omega)
   have n:=a6N a1 a2 a3 (by omega) l[k]
   refine .inl ⟨_,?_,rfl⟩;rw[M6 hk,a9h];show (if _ then _ else _)=_
   rw[if_pos (by simpa using hk),o9 hk,d6y,n.mc,d6y,A2 (by omega) (by rw[a5];simp;omega),d6y,l5]
  ·subst hP;refine⟨runs x (l.take l.length),?_,?_⟩
   ·show (if _ then _ else _)=_
    rw[if_neg (by simp)]
   ·rw[List.take_length]
 ·unfold b3S;simp only[jn];refine M4 (T:=g8 × List Int) (l.map opR).length (λk acc=>acc=(hO (runs x (l.take k)).1,(runs x (l.take k)).2)) (by simp;omega) rfl (λk acc hk hP=>?_) (λacc hP=>?_)
  ·subst hP;have hk':k<l.length:=by simpa using hk
   obtain⟨a1,a2,a3,a4,a5,_⟩:=all k (by omega)
   have n:=a6N a1 a2 a3 (by omega) l[k]
   refine .inl ⟨_,?_,rfl⟩;rw[M6 hk',a9h];show (if _ then _ else _)=_
   rw[if_pos (by simpa using hk'),o9 hk,d6y,List.getElem_map]
   dsimp only;rw[n.rf,d6y,A2 (by omega) (by rw[a5];simp;omega),d6y,l5]
  ·subst hP;refine⟨(hO (runs x (l.take (l.map opR).length)).1,(runs x (l.take (l.map opR).length)).2),?_,?_⟩
   ·show (if _ then _ else _)=_
    rw[if_neg (by simp)]
   ·rw[List.length_map,List.take_length]
end Go.Sh
namespace Go.Sh
section
variable{x:Hp}(hB:HB x)
include hB
end
end Go.Sh
namespace Go.Sh
def nwH(k:Nat)(l:Int)(p:Nat):Hp:=⟨⟨⟨List.replicate k ⟨0,0,z0⟩,l⟩,0⟩,List.replicate 6 0,List.replicate 6 ⟨0,false,-1⟩,List.replicate p ⟨0,0,0⟩,⟨[],30⟩⟩
theorem c6a{k p:Nat}{l:Int}(hk:1≤k∧k≤24)(hl:0≤l∧l≤9)(hp:1≤p∧p≤8) :
  a1S k l p=some (nwH k l p)∧b1x k l p=some (hO (nwH k l p))∧M2 (nwH k l p)∧SL (nwH k l p)∧zr (nwH k l p) = []:=by
 have e1:a1z k l=some (nwH k l p).S:=by
  unfold a1z P5;rw[if_neg (by simp;omega),a7u (by omega) (by omega)]
  rfl
 obtain⟨a,h1,h2,h3,_⟩:=d4x k l;rw[e1] at h1;have ha:=Option.some.inj h1;subst ha;have hR:SR (nwH k l p).S:=s7.1 h3;have hce:∀i,ce (nwH k l p).S i=⟨0,0,z0⟩:=λi=>by
  unfold ce nwH;dsimp only;rw[List.getD_eq_getElem?_getD,List.getElem?_replicate];split <;> rfl
 have hlv:lv (nwH k l p).S = []:=List.eq_nil_iff_forall_not_mem.2 λh hh=>by
  obtain⟨i,q⟩:=(a28 hR).1 hh;have:=q.2.1;rw[hce] at this;cases this
 refine⟨?_,?_,⟨⟨hR,(c7D (V:=Int) (λ_ _=>True) hp.1 hp.2).1,rfl,rfl,rfl,Nat.zero_le _,(λt ht=>nomatch ht),List.Pairwise.nil,(λh hh=>.inl (List.mem_replicate.1 hh).2),λh hh=>?_,λa v hv=>?_,λi hi=>?_⟩,λi hi ht=>?_,λh hh=>?_⟩,λh hh=>?_,?_⟩
 ·unfold a1S;rw[if_neg (by simp;omega),e1,d6y,show mk 8 6 (0:Int)=some (List.replicate 6 0) from rfl,d6y]
  refine bnd (a:=List.replicate 6 ⟨0,false,-1⟩) (by kernel_rfl) ?_
  rw[c6C hp.1 hp.2,d6y];refine bnd (a:=⟨[],30⟩) (by kernel_rfl) ?_
  rfl
 ·unfold b1x;rw[if_neg (by simp;omega),h2,d6y,show mk 8 6 (0:Int)=some (List.replicate 6 0) from rfl,d6y]
  refine bnd (a:=List.replicate 6 ⟨0,false,-1⟩) (by kernel_rfl) ?_
  unfold c3j;rw[if_neg (by simp;omega),a7u (by omega) (by omega),d6y,d6y]
  refine bnd (a:=⟨[],30⟩) (by kernel_rfl) ?_
  unfold hO nwH;dsimp only;rw[List.map_replicate,List.map_replicate];rfl
 ·rw[hlv] at hh;cases hh
 ·obtain⟨i,hi,_⟩:=hv;have:=hi.2.1;rw[show (nwH k l p).T=List.replicate p ⟨0,0,0⟩ from rfl,b2t] at this;cases this
 ·have:(nwH k l p).a8[i]=⟨0,false,-1⟩:=List.getElem_replicate ..;rw[this];exact⟨by decide,by decide,λ_=>rfl,λh=>absurd rfl h,λh=>by cases h⟩
 ·rw[hce] at ht;rcases ht with h | h <;> cases h
 ·rw[hlv] at hh;cases hh
 ·rw[hlv] at hh;cases hh
 ·unfold zr;rw[hlv];rfl
end Go.Sh
namespace Go.Sh
end Go.Sh
namespace Go.Sh
section
variable{x:Hp}(hB:HB x)
include hB
end
end Go.Sh
namespace Go.Sh
def b3l(o:g9):J5:=⟨o.Kind,o.A,o.B,o.C⟩
abbrev b7g(o:g9):Int:=B3 o.Kind o.A o.B o.C
theorem c2H(k a b c:Int):V5 [k,a,b,c]=some (if B3 k a b c≠0 then (⟨0,0,0,0⟩,B3 k a b c) else (⟨k,a,b,c⟩,0)):=by
 unfold V5;rw[if_neg (by simp)]
 show (R4 ⟨k,a,b,c⟩).bind _=_;rw[a7P,d6y];by_cases h:B3 k a b c=0
 ·rw[if_neg (by simpa using h),if_neg (by simpa using h)]
 ·rw[if_pos (by simpa using h),if_pos h]
theorem c5G(k a b c:Int):a2C [k,a,b,c]=some (if B3 k a b c≠0 then (⟨0,0,0,0⟩,B3 k a b c) else (⟨k,a,b,c⟩,0)):=by
 unfold a2C;rw[if_neg (by simp)]
 show (a1v ⟨k,a,b,c⟩).bind _=_;rw[a4T,d6y];by_cases h:B3 k a b c=0
 ·rw[if_neg (by simpa using h),if_neg (by simpa using h)]
 ·rw[if_pos (by simpa using h),if_pos h]
theorem four(l:List Int):(∃k a b c,l = [k,a,b,c])∨l.length≠4:=by
 match l with
 | []=>exact .inr (by simp)
 | [_]=>exact .inr (by simp)
 | [_,_]=>exact .inr (by simp)
 | [_,_,_]=>exact .inr (by simp)
 | [k,a,b,c]=>exact .inl ⟨k,a,b,c,rfl⟩
 | _::_::_::_::_::l=>exact .inr (by simp)
theorem b7m{l:List Int}(h:l.length≠4):V5 l=some (⟨0,0,0,0⟩,14)∧a2C l=some (⟨0,0,0,0⟩,14):=by
 unfold V5 a2C;have:(((l.length:Int) != 4))=true:=by simp;omega
 rw[if_pos this,if_pos this];exact⟨rfl,rfl⟩
def a0e(l:List Int):g9 × Int:=(V5 l).getD (⟨0,0,0,0⟩,0)
theorem b9l(l:List Int):V5 l=some (a0e l)∧a2C l=some (b3l (a0e l).1,(a0e l).2):=by
 unfold a0e;rcases four l with ⟨k,a,b,c,rfl⟩ | h
 ·rw[c2H,c5G];refine⟨rfl,?_⟩;rw[Option.getD_some];by_cases h:B3 k a b c≠0
  ·rw[if_pos h,if_pos h];rfl
  ·rw[if_neg h,if_neg h];rfl
 ·rw[(b7m h).1,(b7m h).2];exact⟨rfl,rfl⟩
def b1i(o:g9):Bool:=((decide (o.Kind≥1))&&(decide (o.Kind≤10)))&&(b7g o==0)
def b2Z(p:List g9):Bool:=decide (p.length≤6)&&p.all b1i
def a6S(l:List (List g9)):Bool:=decide (l.length≤6)&&l.all b2Z
section
variable{l:List (List g9)}(hl:l.length≤12)(hp:∀p∈l,p.length≤12)
include hl hp
theorem c62:a37 l=some (a6S l):=by
 unfold a37 a6S;by_cases h6:l.length > 6
 ·rw[if_pos (by simp;omega),decide_eq_false (by omega)]
  rfl
 ·rw[if_neg (by simp;omega),decide_eq_true (by omega),Bool.true_and]
  simp only[jn];have key:=b4L (f:=λ(s23:Int)=>
   if (decide (s23<(l.length:Int))) then
     (ix l s23).bind λv34=>
     if (decide ((v34.length:Int) > 6)) then
      some (.inr (.inl false))
     else
     (lp (S:=Int) (E:=Bool ⊕ Unit) (λ(s36:Int)=>
      if (decide (s36<(v34.length:Int))) then
       (ix v34 s36).bind λv38=>
       (a2p v38).bind λv39=>
       (u4 ((!v39)==false) 0 (R4 v38)).bind λv40=>
       if ((!v39)||(v40 != 0)) then
        some (.inr (.inl false))
       else
       some (.inl (u5 (s36+1)))
      else
      some (.inr (.inr ()))) 0).bind λe35=>
     match e35 with
     | .inl w=>some (.inr (.inl w))
     | .inr w=>some (Sum.inl (u5 (s23+1)))
   else
   some (.inr (.inr ()))) l b2Z (.inr ()) (Sum.inl (β:=Unit) false) (by omega) (λk hk=>?_) (by simp)
  ·refine bnd key ?_;cases l.all b2Z <;> rfl
  ·rw[if_pos (by simpa using hk),o9 hk,d6y]
   unfold b2Z;have hm:=hp _ (List.getElem_mem hk);generalize l[k]=p at hm ⊢;by_cases hq:p.length > 6
   ·rw[if_pos (by simp;omega),decide_eq_false (by omega)]
    rfl
   ·rw[if_neg (by simp;omega),decide_eq_true (by omega),Bool.true_and]
    have k2:=b4L (f:=λ(s36:Int)=>
      if (decide (s36<(p.length:Int))) then
       (ix p s36).bind λv38=>
       (a2p v38).bind λv39=>
       (u4 ((!v39)==false) 0 (R4 v38)).bind λv40=>
       if ((!v39)||(v40 != 0)) then
        some (.inr (.inl false))
       else
       some (Sum.inl (u5 (s36+1)))
      else
      some (.inr (.inr ()))) p b1i (.inr ()) (Sum.inl (β:=Unit) false) (by omega) (λj hj=>?_) (by simp)
    ·refine Eq.trans (bnd k2 (r:=if p.all b1i=true then some (.inl (u5 ((k:Int)+1))) else some (.inr (.inl false))) ?_) ?_
     ·cases p.all b1i <;> rfl
     ·rw[l5]
    ·rw[if_pos (by simpa using hj),o9 hj,d6y,a7P]
     unfold b1i a2p;rw[d6y,l5];cases ((decide (p[j].Kind≥1))&&(decide (p[j].Kind≤10)));·rfl
     ·by_cases h:b7g p[j]=0
      ·have e:B3 p[j].Kind p[j].A p[j].B p[j].C=0:=h;rw[e,h];rfl
      ·have e1:(B3 p[j].Kind p[j].A p[j].B p[j].C != 0)=true:=by simpa using h
       have e2:(b7g p[j]==0)=false:=by simpa using h
       rw[e2];refine bnd (a:=b7g p[j]) rfl ?_;rw[show (b7g p[j] != 0)=true from e1];rfl
theorem c1B:a9a (l.map (List.map b3l))=some (a6S l):=by
 unfold a9a a6S;rw[List.length_map];by_cases h6:l.length > 6
 ·rw[if_pos (by simp;omega),decide_eq_false (by omega)]
  rfl
 ·rw[if_neg (by simp;omega),decide_eq_true (by omega),Bool.true_and]
  simp only[jn];have key:=b4L (f:=λ(s23:Int)=>
   if (decide (s23<(l.length:Int))) then
     (ix (l.map (List.map b3l)) s23).bind λv34=>
     if (decide ((v34.length:Int) > 6)) then
      some (.inr (.inl false))
     else
     (lp (S:=Int) (E:=Bool ⊕ Unit) (λ(s36:Int)=>
      if (decide (s36<(v34.length:Int))) then
       (ix v34 s36).bind λv38=>
       (Y1 v38).bind λv39=>
       (u4 ((!v39)==false) 0 (a1v v38)).bind λv40=>
       if ((!v39)||(v40 != 0)) then
        some (.inr (.inl false))
       else
       some (.inl (u5 (s36+1)))
      else
      some (.inr (.inr ()))) 0).bind λe35=>
     match e35 with
     | .inl w=>some (.inr (.inl w))
     | .inr w=>some (Sum.inl (u5 (s23+1)))
   else
   some (.inr (.inr ()))) l b2Z (.inr ()) (Sum.inl (β:=Unit) false) (by omega) (λk hk=>?_) (by simp)
  ·refine bnd key ?_;cases l.all b2Z <;> rfl
  ·rw[if_pos (by simpa using hk),a0y,o9 hk,Option.map_some,d6y,List.length_map]
   unfold b2Z;have hm:=hp _ (List.getElem_mem hk);generalize l[k]=p at hm ⊢;by_cases hq:p.length > 6
   ·rw[if_pos (by simp;omega),decide_eq_false (by omega)]
    rfl
   ·rw[if_neg (by simp;omega),decide_eq_true (by omega),Bool.true_and]
    have k2:=b4L (f:=λ(s36:Int)=>
      if (decide (s36<(p.length:Int))) then
       (ix (p.map b3l) s36).bind λv38=>
       (Y1 v38).bind λv39=>
       (u4 ((!v39)==false) 0 (a1v v38)).bind λv40=>
       if ((!v39)||(v40 != 0)) then
        some (.inr (.inl false))
       else
       some (Sum.inl (u5 (s36+1)))
      else
      some (.inr (.inr ()))) p b1i (.inr ()) (Sum.inl (β:=Unit) false) (by omega) (λj hj=>?_) (by simp)
    ·refine Eq.trans (bnd k2 (r:=if p.all b1i=true then some (.inl (u5 ((k:Int)+1))) else some (.inr (.inl false))) ?_) ?_
     ·cases p.all b1i <;> rfl
     ·rw[l5]
    ·rw[if_pos (by simpa using hj),a0y,o9 hj,Option.map_some,d6y,a4T]
     unfold b1i Y1;rw[d6y,l5];rw[show (b3l p[j]).Kind=p[j].Kind from rfl];cases ((decide (p[j].Kind≥1))&&(decide (p[j].Kind≤10)));·rfl
     ·by_cases h:b7g p[j]=0
      ·have e:B3 p[j].Kind (b3l p[j]).A (b3l p[j]).B (b3l p[j]).C=0:=h;rw[e,h];rfl
      ·have e1:(B3 p[j].Kind p[j].A p[j].B p[j].C != 0)=true:=by simpa using h
       have e2:(b7g p[j]==0)=false:=by simpa using h
       rw[e2];refine bnd (a:=b7g p[j]) rfl ?_;rw[show (b7g p[j] != 0)=true from e1];rfl
end
end Go.Sh
namespace Go.Sh
noncomputable def hdx(x:Hp):List Int:=hld x.S x.T
noncomputable def gbg(x:Hp):List Int:=fls x.S x.T (hdx x)
theorem a0u{x:Hp}{h:Int}:h∈gbg x↔h∈lv x.S∧¬a0S x.S x.T (hdx x) h:=by
 classical
 unfold gbg fls;rw[List.mem_filter,decide_eq_true_iff]
section
variable{x:Hp}(hx:M2 x)
include hx
theorem a2t:(gbg x).Nodup:=List.Pairwise.filter _ (b1e (s7.2 hx.sh.sr))
theorem a1P:∀d∈gbg x,d∈lv x.S:=λd hd=>(a0u.1 hd).1
theorem c3y{h:Int}(hl:h∈lv x.S)(hs:(ob x.S h).Strong<12):rst x.S x.T h=(W5 (otr x) h:Int):=b9o.2 hx.fair h hl hs
theorem c2Q{h:Int}(hl:h∈lv x.S)(ho:h∈otr x):h∈hdx x:=by
 refine b3G.2 ⟨hl,?_⟩;by_cases hs:(ob x.S h).Strong<12
 ·left;rw[c3y hx hl hs];have:=a2a.2 ⟨λe=>a9w hx.sh.sr (e▸hl),ho⟩;omega
 ·exact .inr (by omega)
theorem c59{h:Int}(hh:h∈hdx x):h∈lv x.S∧(h∈otr x∨12≤(ob x.S h).Strong):=by
 obtain⟨hl,hs⟩:=b3G.1 hh;refine⟨hl,?_⟩;by_cases q:(ob x.S h).Strong<12
 ·rcases hs with hs | hs
  ·rw[c3y hx hl q] at hs;exact .inl (a2a.1 (by omega)).2
  ·omega
 ·exact .inr (by omega)
theorem c82:∀d∈gbg x,d∉otr x:=λd hd q=>by
 obtain⟨a,b⟩:=a0u.1 hd;exact b (.base (c2Q hx a q) a)
theorem c81:∀h∈lv x.S,h∉gbg x→∀v∈(ob x.S h).Fields,v∉gbg x:=λh hh hn v hv q=>by
 obtain⟨a,b⟩:=a0u.1 q;have hr:a0S x.S x.T (hdx x) h:=Classical.byContradiction λr=>hn (a0u.2 ⟨hh,r⟩);exact b (.step hr (a6O.2 ⟨hv,λe=>a9w hx.sh.sr (e▸a)⟩) a)
theorem c83:∀k v,Has x.T k v→k∉gbg x→v∉gbg x:=λk v hk hn q=>by
 obtain⟨a,b⟩:=a0u.1 q;have hr:a0S x.S x.T (hdx x) k:=Classical.byContradiction λr=>hn (a0u.2 ⟨(hx.sh.pr k v hk).1,r⟩);exact b (.pair hk hr a)
theorem X6:M2 (buH x (gbg x)):=b6m hx (a2t hx) (a1P hx) (c82 hx) (c81 hx) (c83 hx)
end
theorem b5e:∀(l:List Int) {x:Hp} (hR:SR x.S) {h:Int} (hh:h∈lv x.S) (hs:12≤(ob x.S h).Strong),12≤(ob (l.foldl Q3 x).S h).Strong
 | [],_,_,_,_,hs=>hs
 | v::l,x,hR,h,hh,hs=>by
  have k1:=G2 hR v (f:=a5G) λc=>N9;refine b5e l (x:=Q3 x v) k1.sr (by
   show h∈lv (stO x v a5G).S;rw[k1.lv];exact hh) ?_
  show 12≤(ob (stO x v a5G).S h).Strong;rw[b2L (x:=x) hR (h:=v) (f:=a5G) (λc=>N9) hh];split
  ·unfold a5G;rw[if_pos hs];omega
  ·exact hs
section
variable{x:Hp}(hx:M2 x)
include hx
theorem b4A{h:Int}:h∈lv (buH x (gbg x)).S↔a0S x.S x.T (hdx x) h:=by
 rw[c0W hx.sh.sr (a2t hx) (a1P hx),List.mem_filter,decide_eq_true_iff,a0u];constructor
 ·rintro⟨a,b⟩;exact Classical.byContradiction λr=>b ⟨a,r⟩
 ·intro r;exact⟨r.live,λq=>q.2 r⟩
theorem d4g{h:Int}(hh:h∈lv (buH x (gbg x)).S):(ob (buH x (gbg x)).S h).Serial=(ob x.S h).Serial∧(ob (buH x (gbg x)).S h).Prog=(ob x.S h).Prog∧(ob (buH x (gbg x)).S h).Fields=(ob x.S h).Fields∧(ob (buH x (gbg x)).S h).Started=(ob x.S h).Started:=by
 have r:=(b4A hx).1 hh;obtain⟨n,e⟩:=c0X hx.sh.sr (a2t hx) (a1P hx) r.live (λq=>(a0u.1 q).2 r);rw[e];exact⟨rfl,rfl,rfl,rfl⟩
theorem c52{h:Int}(hh:h∈lv (buH x (gbg x)).S)(hs:12≤(ob x.S h).Strong):12≤(ob (buH x (gbg x)).S h).Strong:=by
 have r:=(b4A hx).1 hh;have g:=a1Q (gbg x) hx.sh.sr (a2t hx) (a1P hx);have hn:h∉gbg x:=λq=>(a0u.1 q).2 r;refine b5e _ (x:=a4G x (gbg x) (wot x.T (gbg x)).1) g.sr ?_ ?_
 ·show h∈lv (gnL x.S (gbg x));rw[g.lv,List.mem_filter];exact⟨r.live,by simpa using hn⟩
 ·show 12≤(ob (gnL x.S (gbg x)) h).Strong;rw[g.ob h r.live hn];exact hs
theorem d1J:otr (buH x (gbg x))=otr x:=by
 obtain⟨e1,_,_,e4⟩:=b0F hx.sh.sr (a2t hx) (a1P hx);unfold otr;rw[e1,e4,b4D _ _ _ λt ht=>by
  obtain⟨w,_,rfl,_⟩:=a3K.1 ht;simp]
theorem c80{h:Int}(hh:a0S x.S x.T (hdx x) h):a0S (buH x (gbg x)).S (buH x (gbg x)).T (hdx (buH x (gbg x))) h:=by
 have w:=X6 hx;obtain⟨_,_,e3,_⟩:=b0F hx.sh.sr (a2t hx) (a1P hx);have hlen:(gbg x).length≤1000:=by
  have:=a4n (a2t hx) (a1P hx);have:=F3 (s7.2 hx.sh.sr);omega
 obtain⟨_,_,_,_,w5,_⟩:=a4E hx.sh.hr (gbg x) hlen;induction hh with
 | base h1 h2=>
  have hl:=(b4A hx).2 (.base h1 h2);refine .base ?_ hl;rcases (c59 hx h1).2 with q | q
  ·exact c2Q w hl (by rw[d1J hx];exact q)
  ·exact b3G.2 ⟨hl,.inr (c52 hx hl q)⟩
 | step q0 q1 q2 ih=>
  refine .step ih ?_ ((b4A hx).2 (.step q0 q1 q2));unfold outs at q1 ⊢;rw[(d4g hx ((b4A hx).2 q0)).2.2.1];exact q1
 | pair q1 q0 q2 ih=>
  refine .pair ?_ ih ((b4A hx).2 (.pair q1 q0 q2));rw[e3];exact (w5 _ _).2 ⟨λq=>(a0u.1 q).2 q0,q1⟩
theorem b9u:gbg (buH x (gbg x)) = []:=List.eq_nil_iff_forall_not_mem.2 λh hh=>by
 obtain⟨a,b⟩:=a0u.1 hh;exact b (c80 hx ((b4A hx).1 a))
end
theorem b9h{x:Hp}(hx:M2 x)(hg:gbg x = []):zr x = []:=List.eq_nil_iff_forall_not_mem.2 λh hh=>by
 have hl:=(a1k.1 hh).1;have hs:=(a1k.1 hh).2;have hf:=b80 hx hh;have h0:h≠0:=λe=>a9w hx.sh.sr (e▸hl);have r:a0S x.S x.T (hdx x) h:=Classical.byContradiction λr=>by
  have:h∈gbg x:=a0u.2 ⟨hl,r⟩;rw[hg] at this;cases this
 unfold nms at hf;cases r with
 | base h1 h2=>
  rcases (c59 hx h1).2 with q | q
  ·have:=a2a.2 ⟨h0,q⟩;omega
  ·omega
 | step q0 q1 q2=>
  have:=b7I (y:=h) q0.live;have h1:=a2a.2 ⟨h0,q1⟩;omega
 | pair q1 q0 q2=>
  have:=b7U q1 h0;omega
theorem b4B{x:Hp}(hx:M2 x):a1C (buH x (gbg x))=buH x (gbg x):=c0n (b9h (X6 hx) (b9u hx))
end Go.Sh
namespace Go.Sh
theorem c6c{c:Int}(h:0≤c):1≤U4 c:=by unfold U4;split <;> (try split) <;> omega
theorem c1D{x:Hp}(hR:SR x.S){h:Int}(hh:h∈lv x.S){k:Int}(hk:k∈lv x.S):(ob (quH x h).S k).Strong=if k=h then U4 (ob x.S k).Strong else (ob x.S k).Strong:=by
 have oko:=J4 hR hh;have ho:OkO x.S (srt (ob x.S h)):=⟨oko.s1,oko.s2,oko.st,oko.wk,oko.p1,oko.p2,oko.fl⟩;have r1:=a0Q (o:=srt (ob x.S h)) hR hh rfl ho;have l1:lv (seO x.S h (srt (ob x.S h)))=lv x.S:=a3x (o:=srt (ob x.S h)) hR hh rfl ho;have hr:=H4 hR hk;have e1:(ob (seO x.S h (srt (ob x.S h))) k).Strong=(ob x.S k).Strong:=by
  rw[a2H (o:=srt (ob x.S h)) hR hh rfl ho (by omega)]
  split;·rename_i e;subst e;rfl
  ·rfl
 have:=b2L (x:=⟨seO x.S h (srt (ob x.S h)),x.Roots,x.a8,x.T,⟨x.Q.L ++ [qtk x h],x.Q.Cap⟩⟩) r1 (h:=h) (f:=U4) (λc=>D8) (k:=k) (by
  show k∈lv (seO x.S h (srt (ob x.S h)));rw[l1];exact hk)
 rw[show (ob (quH x h).S k).Strong=_ from this];show (if k=h then U4 (ob (seO x.S h (srt (ob x.S h))) k).Strong else (ob (seO x.S h (srt (ob x.S h))) k).Strong)=_
 rw[e1]
theorem d2N{x:Hp}(hx:M2 x)(hz:zr x = []){h:Int}(hh:h∈lv x.S):zr (quH x h) = []:=List.eq_nil_iff_forall_not_mem.2 λk hk=>by
 obtain⟨a,b⟩:=a1k.1 hk;rw[b70 hx.sh.sr hh] at a;rw[c1D hx.sh.sr hh a] at b;have h0:=(J4 hx.sh.sr a).st;have hn:(ob x.S k).Strong≠0:=λq=>by
  have:k∈zr x:=a1k.2 ⟨a,q⟩;rw[hz] at this;cases this
 split at b;·have:=c6c h0;omega
 ·exact hn b
structure Qd (x y:Hp) (l:List Int):Prop where
 rt:M2 y
 sl:SL y
 zr:zr y = []
 lv:lv y.S=lv x.S
 ob:∀k∈Sh.lv x.S,∃n,Sh.ob y.S k=stg (if k∈l then srt (Sh.ob x.S k) else Sh.ob x.S k) n
 ro:y.Roots=x.Roots
 ce:y.a8=x.a8
 t:y.T=x.T
 q:y.Q=⟨x.Q.L++l.map (qtk x),x.Q.Cap⟩
 ser:y.S.Serial=x.S.Serial
theorem c9N{x:Hp}(hR:SR x.S){h:Int}(hh:h∈lv x.S):(quH x h).S.Serial=x.S.Serial:=(a6T hR hh).1.ser
theorem c1E:∀(l:List Int) {x:Hp},M2 x→SL x→Sh.zr x = []→l.Nodup→(∀h∈l,h∈Sh.lv x.S∧due (Sh.ob x.S h)=true)→Qd x (l.foldl quH x) l
 | [],x,hx,hS,hz,_,_=>⟨hx,hS,hz,rfl,λk hk=>⟨(Sh.ob x.S k).Strong,by rw[if_neg (by simp)];rfl⟩,rfl,rfl,rfl,by simp,rfl⟩
 | h::l,x,hx,hS,hz,hn,hd=>by
  obtain⟨hl,hdu⟩:=hd h (List.mem_cons_self ..);have hR:=hx.sh.sr;rw[List.nodup_cons] at hn;have q2:=hdu;unfold due at q2;rw[Bool.and_eq_true,decide_eq_true_iff,Bool.not_eq_true'] at q2;have h1:=b2u hx hl q2.1 q2.2;have h2:=c65 hR hS hl;have h3:=d2N hx hz hl;have lq:=b70 hR hl;have oq:∀k∈Sh.lv x.S,k≠h→∃n,Sh.ob (quH x h).S k=stg (Sh.ob x.S k) n:=λk hk hne=>by
   obtain⟨n,e⟩:=b4Y hR hl hk;rw[if_neg hne] at e;exact⟨n,e⟩
  have ih:=c1E l h1 h2 h3 hn.2 λk hk=>by
   obtain⟨a,b⟩:=hd k (List.mem_cons_of_mem _ hk);obtain⟨n,e⟩:=oq k a λe=>hn.1 (e▸hk);refine⟨by rw[lq];exact a,?_⟩
   rw[e];exact b
  obtain⟨_,k1,k2,k3,k4⟩:=a6T hR hl;refine⟨ih.rt,ih.sl,ih.zr,ih.lv.trans lq,λk hk=>?_,ih.ro.trans k1,ih.ce.trans k2,ih.t.trans k3,?_,ih.ser.trans (c9N hR hl)⟩
  ·obtain⟨n,e⟩:=ih.ob k (by rw[lq];exact hk)
   obtain⟨m,e2⟩:=b4Y hR hl hk;refine⟨n,?_⟩;show Sh.ob (l.foldl quH (quH x h)).S k=_;rw[e];by_cases c:k=h
   ·subst c;rw[if_neg hn.1,if_pos (List.mem_cons_self ..),e2,if_pos rfl]
   ·rw[if_neg c] at e2;by_cases c2:k∈l
    ·rw[if_pos c2,if_pos (List.mem_cons_of_mem _ c2),e2]
    ·rw[if_neg c2,if_neg (λq=>by
      rcases List.mem_cons.1 q with r | r
      ·exact c r
      ·exact c2 r),e2]
  ·show (l.foldl quH (quH x h)).Q=_;rw[ih.q,k4];have:l.map (qtk (quH x h))=l.map (qtk x):=List.map_congr_left λk hk=>by
    obtain⟨a,_⟩:=hd k (List.mem_cons_of_mem _ hk);obtain⟨n,e⟩:=oq k a λe=>hn.1 (e▸hk);show (⟨1,k,(Sh.ob (quH x h).S k).Prog⟩:k8)=⟨1,k,(Sh.ob x.S k).Prog⟩;rw[e]
   rw[this];simp
noncomputable def btc(x:Hp):List Int:=(gbg x).filter λh=>due (Sh.ob x.S h)
noncomputable def col(x:Hp):Hp:=if btc x = [] then buH x (gbg x) else (btc x).foldl quH x
theorem b7d{x:Hp}:∀h∈btc x,h∈Sh.lv x.S∧due (Sh.ob x.S h)=true:=λh hh=>by
 obtain⟨a,b⟩:=List.mem_filter.1 hh;exact⟨(a0u.1 a).1,b⟩
theorem c5p{x:Hp}(hx:M2 x):(btc x).Nodup:=List.Pairwise.filter _ (a2t hx)
theorem c5q{x:Hp}(hx:M2 x)(hS:SL x)(hz:zr x = []):Qd x ((btc x).foldl quH x) (btc x):=c1E _ hx hS hz (c5p hx) b7d
theorem b7i{x:Hp}(hx:M2 x)(hS:SL x)(hz:zr x = []):M2 (col x)∧SL (col x)∧zr (col x) = []:=by
 unfold col;split;·exact⟨X6 hx,c5r hx.sh.sr hS (a2t hx) (a1P hx),b9h (X6 hx) (b9u hx)⟩
 ·have q:=c5q hx hS hz;exact⟨q.rt,q.sl,q.zr⟩
end Go.Sh
namespace Go.Sh
theorem c5C{y:Hp}(h:btc y = []):col y=buH y (gbg y):=by
 unfold col;rw[if_pos h]
section
variable{x:Hp}(hx:M2 x)
include hx
end
end Go.Sh
namespace Go.Sh
structure Rs (x:Hp) (n:Nat):Prop where
 rt:M2 x
 sl:SL x
 zr:zr x = []
 ser:x.S.Serial≤n
theorem c86{k p:Nat}{l:Int}(hk:1≤k∧k≤24)(hl:0≤l∧l≤9)(hp:1≤p∧p≤8) :
  a1S k l p=some (nwH k l p)∧M2 (nwH k l p)∧SL (nwH k l p)∧zr (nwH k l p) = []:=by
 have e1:a1z k l=some (nwH k l p).S:=by
  unfold a1z P5;rw[if_neg (by simp;omega),a7u (by omega) (by omega)]
  rfl
 have h3:RtR (sO (nwH k l p).S):=by
  refine⟨by simp[sO,nwH];omega,hl.1,hl.2,by simp[sO,nwH],λi h=>?_,λi h=>?_,λi h q=>?_,λi h k hk q=>?_⟩
  ·simp[sO,cO,nwH];omega
  ·simp[sO,cO,oo,b5J,nwH]
  ·exfalso;simp[sO,cO,oo,Thr,nwH] at q
  ·exfalso;simp[sO,cO,oo,Thr,nwH] at q
 have hR:SR (nwH k l p).S:=s7.1 h3;have hce:∀i,ce (nwH k l p).S i=⟨0,0,z0⟩:=λi=>by
  unfold ce nwH;dsimp only;rw[List.getD_eq_getElem?_getD,List.getElem?_replicate];split <;> rfl
 have hlv:lv (nwH k l p).S = []:=List.eq_nil_iff_forall_not_mem.2 λh hh=>by
  obtain⟨i,q⟩:=(a28 hR).1 hh;have:=q.2.1;rw[hce] at this;cases this
 refine⟨?_,⟨⟨hR,(c7D (V:=Int) (λ_ _=>True) hp.1 hp.2).1,rfl,rfl,rfl,Nat.zero_le _,(λt ht=>nomatch ht),List.Pairwise.nil,(λh hh=>.inl (List.mem_replicate.1 hh).2),λh hh=>?_,λa v hv=>?_,λi hi=>?_⟩,λi hi ht=>?_,λh hh=>?_⟩,λh hh=>?_,?_⟩
 ·unfold a1S;rw[if_neg (by simp;omega),e1,d6y,show mk 8 6 (0:Int)=some (List.replicate 6 0) from rfl,d6y]
  refine bnd (a:=List.replicate 6 ⟨0,false,-1⟩) (by kernel_rfl) ?_
  rw[c6C hp.1 hp.2,d6y];refine bnd (a:=⟨[],30⟩) (by kernel_rfl) ?_
  rfl
 ·rw[hlv] at hh;cases hh
 ·obtain⟨i,hi,_⟩:=hv;have:=hi.2.1;rw[show (nwH k l p).T=List.replicate p ⟨0,0,0⟩ from rfl,b2t] at this;cases this
 ·have:(nwH k l p).a8[i]=⟨0,false,-1⟩:=List.getElem_replicate ..;rw[this];exact⟨by decide,by decide,λ_=>rfl,λh=>absurd rfl h,λh=>by cases h⟩
 ·rw[hce] at ht;rcases ht with h | h <;> cases h
 ·rw[hlv] at hh;cases hh
 ·rw[hlv] at hh;cases hh
 ·unfold zr;rw[hlv];rfl
theorem d3e{k p:Nat}{l:Int}(hk:1≤k∧k≤24)(hl:0≤l∧l≤9)(hp:1≤p∧p≤8):a1S k l p=some (nwH k l p)∧Rs (nwH k l p) 0:=by
 obtain⟨a,b,c,d⟩:=c86 hk hl hp;exact⟨a,b,c,d,Int.le_refl _⟩
end Go.Sh
namespace Go.Sh
section
variable{x:Hp}(hx:M2 x)(hS:SL x)
include hx hS
theorem c0Z:M9 x=some (gbg x):=by
 have hB:=c58 hx hS;unfold M9;rw[c1e (s7.2 hx.sh.sr) hx.sh.hr hB.tb hB.fb hB.sb];rfl
theorem c5u:a3k (hO x)=some (gbg x):=by
 have hB:=c58 hx hS;unfold a3k;rw[show (hO x).S=sO x.S from rfl,show (hO x).T=x.T.map J3 from rfl,b7z (s7.2 hx.sh.sr) hx.sh.hr hB.tb hB.sb];rfl
theorem b0W:(gbg x).length≤24:=Nat.le_trans (List.length_filter_le ..) (F3 (s7.2 hx.sh.sr))
theorem d1r:a2Q x=some (btc x):=by
 have hR:=hx.sh.sr;have hl:=b0W hx hS;unfold a2Q;rw[c0Z hx hS,d6y];unfold H3;simp only[jn];refine bnd (a:=btc x) ?_ rfl;refine M4 (gbg x).length (λk b=>b=((gbg x).take k).filter λh=>due (Sh.ob x.S h)) (by omega) rfl (λk b hk hP=>?_) (λb hP=>?_)
 ·subst hP;have hm:=a1P hx _ (List.getElem_mem hk);have hle:(((gbg x).take k).filter λh=>due (Sh.ob x.S h)).length≤24:=Nat.le_trans (List.length_filter_le ..) (by simp;omega)
  refine .inl ⟨_,?_,rfl⟩;rw[if_pos (by simpa using hk),o9 hk,d6y,M6 hk,List.filter_append]
  unfold a3p;rw[b2g hR hm,d6y,d6y];have e:(decide ((ob x.S (gbg x)[k],(0:Int)).1.Prog≥0) && !(ob x.S (gbg x)[k],(0:Int)).1.Started)=due (ob x.S (gbg x)[k]):=rfl;rw[e];cases hd:due (ob x.S (gbg x)[k])
  ·rw[if_neg (by simp),l5]
   simp[hd]
  ·rw[if_pos rfl,A2 (by omega) (by simp;omega),d6y,l5]
   simp[hd]
 ·subst hP;refine⟨_,if_neg (by simp),?_⟩
  rw[List.take_length];rfl
theorem d3P:b2z (hO x)=some (btc x):=by
 have hR:=hx.sh.sr;have hl:=b0W hx hS;unfold b2z;rw[c5u hx hS,d6y];simp only[jn];refine M4 (gbg x).length (λk b=>b=((gbg x).take k).filter λh=>due (Sh.ob x.S h)) (by omega) rfl (λk b hk hP=>?_) (λb hP=>?_)
 ·subst hP;have hm:=a1P hx _ (List.getElem_mem hk);have hle:(((gbg x).take k).filter λh=>due (Sh.ob x.S h)).length≤24:=Nat.le_trans (List.length_filter_le ..) (by simp;omega)
  refine .inl ⟨_,?_,rfl⟩;rw[if_pos (by simpa using hk),o9 hk,d6y,M6 hk,List.filter_append,c5J hx hS (a1X hR hm),d6y,decide_eq_true hm,Bool.true_and]
  cases hd:due (ob x.S (gbg x)[k])
  ·rw[if_neg (by simp),l5]
   simp[hd]
  ·rw[if_pos rfl,A2 (by omega) (by simp;omega),d6y,l5]
   simp[hd]
 ·subst hP;refine⟨_,if_neg (by simp),?_⟩
  rw[List.take_length];rfl
theorem d1u:a2R x=some (decide (gbg x = [])):=by
 unfold a2R;rw[c0Z hx hS,d6y];congr 1;cases gbg x <;> simp <;> omega
theorem d3R:b2A (hO x)=some (decide (gbg x = [])):=by
 unfold b2A;rw[c5u hx hS,d6y];congr 1;cases gbg x <;> simp <;> omega
noncomputable def cgn(x:Hp):Int:=if btc x = [] then ((lv x.S).length:Int)-((lv (col x).S).length:Int) else 0
omit hx hS in
theorem c6q {l:List Int} (hn:l.Nodup) (hm:∀d∈l,d∈lv x.S):lvo x l=l:=by
 have key:∀(l b:List Int),(b++l).Nodup→(∀d∈l,d∈lv x.S)→l.foldl (λb h=>if h∈lv x.S∧h∉b then b ++ [h] else b) b=b++l:=by
  intro l;induction l with
  | nil=>intro b _ _;simp
  | cons a l ih=>
   intro b hn hm;rw[List.foldl_cons];have ha:a∉b:=λq=>by
    rw[List.nodup_append] at hn;exact hn.2.2 a q a (List.mem_cons_self ..) rfl
   rw[if_pos ⟨hm a (List.mem_cons_self ..),ha⟩,ih (b ++ [a]) (by simpa using hn) λd hd=>hm d (List.mem_cons_of_mem _ hd)]
   simp
 exact key l [] (by simpa using hn) hm
variable(hz:zr x = [])
include hz
theorem b8M{k:Nat}(hk:k<(btc x).length):(((btc x).take k).foldl quH x)=(((btc x).take k).foldl quH x)∧M2 (((btc x).take k).foldl quH x)∧SL (((btc x).take k).foldl quH x)∧(btc x)[k]∈lv (((btc x).take k).foldl quH x).S∧due (ob (((btc x).take k).foldl quH x).S (btc x)[k])=true:=by
 have hn:=c5p hx;have q:=c1E ((btc x).take k) hx hS hz ((List.take_sublist ..).nodup hn) λh hh=>b7d h (List.mem_of_mem_take hh);obtain⟨a,b⟩:=b7d (btc x)[k] (List.getElem_mem hk);refine⟨rfl,q.rt,q.sl,by rw[q.lv];exact a,?_⟩
 obtain⟨n,e⟩:=q.ob _ a;have hnot:(btc x)[k]∉(btc x).take k:=λh=>by
  have:=M6 hk;have hs:((btc x).take (k+1)).Nodup:=(List.take_sublist ..).nodup hn;rw[this,List.nodup_append] at hs;exact hs.2.2 _ h _ (List.mem_singleton_self _) rfl
 rw[e,if_neg hnot];exact b
theorem b7e:(btc x).length≤24:=Nat.le_trans (List.length_filter_le ..) (b0W hx hS)
theorem d1v:W7 x=some (col x,((btc x).length:Int),cgn x):=by
 have hR:=hx.sh.sr;have hl:=b7e hx hS hz;obtain⟨c1,c2,c3⟩:=b7i hx hS hz;unfold W7;rw[d1r hx hS,d6y];simp only[jn];refine M4 (btc x).length (λk b=>b=((btc x).take k).foldl quH x) (by omega) rfl (λk b hk hP=>?_) (λb hP=>?_)
 ·subst hP;obtain⟨_,r1,r2,r3,r4⟩:=b8M hx hS hz hk;refine .inl ⟨_,?_,rfl⟩;rw[if_pos (by simpa using hk),o9 hk,d6y,b6Q r1 r2 (a1X r1.sh.sr r3),d6y,l5,M6 hk,List.foldl_append]
  unfold quD;rw[if_pos ⟨r3,r4⟩];rfl
 ·subst hP;refine⟨_,if_neg (by simp),?_⟩
  rw[List.take_length];by_cases hb:btc x = []
  ·have e:col x=buH x (gbg x):=c5C hb;rw[if_neg (by simp[hb])]
   unfold cgn;rw[if_pos hb,e,hb];have h1:=a2t hx;have h2:=a1P hx;have hlive:=a1W (s7.2 hR);have hlive2:=a1W (s7.2 (X6 hx).sh.sr);have l1:=F3 (s7.2 hR);have l2:=F3 (s7.2 (X6 hx).sh.sr);show (M9 x).bind _=_;rw[c0Z hx hS,d6y,List.foldl_nil,c2C hx h1 h2 (c3w hx) (by rw[b1c hR _ (by have:=b0W hx hS;omega) λh hh=>a1X hR (h2 h hh),c6q h1 h2]),d6y,a33 (X6 hx) (by rw[←e];exact c2),d6y,b4B hx,hlive,d6y,hlive2,d6y,C6 (by omega) (by omega)]
   rfl
  ·have:0<(btc x).length:=List.length_pos_iff.2 hb;rw[if_pos (by simp;omega)]
   unfold cgn col;rw[if_neg hb,if_neg hb]
theorem d3T:a8l (hO x)=some (hO (col x),((btc x).length:Int),cgn x):=by
 have hR:=hx.sh.sr;have hl:=b7e hx hS hz;obtain⟨c1,c2,c3⟩:=b7i hx hS hz;unfold a8l;rw[d3P hx hS,d6y];simp only[jn];by_cases hb:btc x = []
 ·have e:col x=buH x (gbg x):=c5C hb;rw[if_neg (by simp[hb])]
  unfold cgn;rw[if_pos hb,e,hb];have h1:=a2t hx;have h2:=a1P hx;have hlive:=a5r (s7.2 hR);have hlive2:=a5r (s7.2 (X6 hx).sh.sr);have l1:=F3 (s7.2 hR);have l2:=F3 (s7.2 (X6 hx).sh.sr);rw[c5u hx hS,d6y,b6n hx h1 h2 (c3w hx) (by rw[c5K hR _ (by have:=b0W hx hS;omega) λh hh=>a1X hR (h2 h hh),c6q h1 h2]),d6y,a6a (X6 hx) (by rw[←e];exact c2),d6y,b4B hx,show (hO x).S=sO x.S from rfl,hlive,d6y,show (hO (buH x (gbg x))).S=sO (buH x (gbg x)).S from rfl,hlive2,d6y,C6 (by omega) (by omega)]
  rfl
 ·have hp:0<(btc x).length:=List.length_pos_iff.2 hb;rw[if_pos (by simp;omega)]
  refine M4 (btc x).length (λk b=>b=hO (((btc x).take k).foldl quH x)) (by omega) rfl (λk b hk hP=>?_) (λb hP=>?_)
  ·subst hP;obtain⟨_,r1,r2,r3,r4⟩:=b8M hx hS hz hk;refine .inl ⟨_,?_,rfl⟩;rw[if_pos (by simpa using hk),o9 hk,d6y,b90 r1 r2 (a1X r1.sh.sr r3),d6y,l5,M6 hk,List.foldl_append]
   unfold quD;rw[if_pos ⟨r3,r4⟩];rfl
  ·subst hP;refine⟨_,if_neg (by simp),?_⟩
   rw[List.take_length];unfold cgn col;rw[if_neg hb,if_neg hb]
end
end Go.Sh
namespace Go.Sh
theorem c8T{x:Hp}(hx:M2 x)(hS:SL x)(hz:zr x = []):(col x).S.Serial=x.S.Serial:=by
 unfold col;split
 ·have g:=a1Q (gbg x) hx.sh.sr (a2t hx) (a1P hx);exact (a4u ((gbg x).flatMap (outs x.S)++(wot x.T (gbg x)).2) (x:=a4G x (gbg x) (wot x.T (gbg x)).1) g.sr).1.ser.trans g.ser
 ·exact (c5q hx hS hz).ser
end Go.Sh
namespace Go.Sh
def Sv(s s':a7):Prop:=s'.S.a8.length=s.S.a8.length∧∀i,i<s.S.a8.length→(ce s i).Gen≤(ce s' i).Gen∧((ce s' i).Gen=(ce s i).Gen→((ce s i).State≠0→(ce s' i).State≠0)∧((ce s' i).State=1→(ce s i).State=0∨((ce s i).State=1∧((ce s i).Val.Started=true→(ce s' i).Val.Started=true))))
theorem Sv.refl(s:a7):Sv s s:=⟨rfl,λi _=>⟨Int.le_refl _,λ_=>⟨id,λh=>.inr ⟨h,id⟩⟩⟩⟩
theorem Sv.trans{a b c:a7}(h:Sv a b)(q:Sv b c):Sv a c:=by
 obtain⟨h1,h2⟩:=h;obtain⟨q1,q2⟩:=q;refine⟨q1.trans h1,λi hi=>?_⟩;obtain⟨a1,a2⟩:=h2 i hi;obtain⟨b1,b2⟩:=q2 i (by omega)
 refine⟨by omega,λe=>?_⟩
 obtain⟨a3,a4⟩:=a2 (by omega)
 obtain⟨b3,b4⟩:=b2 (by omega)
 refine⟨λh=>b3 (a3 h),λh=>?_⟩;rcases b4 h with r | ⟨r,r'⟩
 ·exact .inl (Classical.byContradiction λn=>a3 n r)
 ·rcases a4 r with k | ⟨k,k'⟩
  ·exact .inl k
  ·exact .inr ⟨k,λs=>r' (k' s)⟩
def c2e(s:a7)(h:Int):Prop:=∃(i:Nat) (g:Int),i<s.S.a8.length∧h=1+(i:Int)+32*g∧(g<(ce s i).Gen∨(g=(ce s i).Gen∧(ce s i).State≠0∧((ce s i).State=1→(ce s i).Val.Started=true)))
theorem Sv.d4U{s s':a7}(h:Sv s s'){k:Int}(q:c2e s k):c2e s' k:=by
 obtain⟨i,g,hi,e,q⟩:=q;obtain⟨h1,h2⟩:=h;obtain⟨a,b⟩:=h2 i hi;refine⟨i,g,by omega,e,?_⟩
 rcases q with q | ⟨q1,q2,q3⟩
 ·exact .inl (by omega)
 ·by_cases c:(ce s' i).Gen=(ce s i).Gen
  ·obtain⟨b1,b2⟩:=b c;refine .inr ⟨by omega,b1 q2,λr=>?_⟩
   rcases b2 r with k | ⟨k1,k2⟩
   ·exact absurd k q2
   ·exact k2 (q3 k1)
  ·exact .inl (by omega)
theorem c4L{s:a7}(hR:SR s){h:Int}(hh:h∈lv s)(hs:(ob s h).Started=false):¬c2e s h:=by
 rintro⟨i,g,hi,e,q⟩;obtain⟨j,hj⟩:=(a28 hR).1 hh;have hl:=hR.len;have hij:i=j:=by
  have:=hj.2.2;have:=hj.1;omega
 subst hij;have:=hj.2.2;rcases q with q | ⟨q1,q2,q3⟩
 ·omega
 ·rw[O3 hR hj,q3 hj.2.1] at hs;cases hs
theorem Kin.sv{s s':a7}(hR:SR s)(k:Kin s s'):Sv s s':=⟨k.len,λi hi=>by
 obtain⟨a,b,_,_,_⟩:=k.ce i hi;refine⟨by omega,λ_=>⟨by omega,λh=>.inr ⟨by omega,λq=>?_⟩⟩⟩
 have h1:At s (hdl s i) i:=⟨hi,by omega,rfl⟩
 have h2:At s' (hdl s i) i:=⟨by rw[k.len];exact hi,h,by rw[b];rfl⟩
 have hl:=H4 hR ((a28 hR).2 ⟨i,h1⟩);obtain⟨n,e⟩:=k.ob (hdl s i) (by omega)
 rw[O3 k.sr h2,O3 hR h1] at e;rw[e];exact q⟩
theorem c7q{s:a7}(hR:SR s){h:Int}(hh:h∈lv s){o:m8}(hs:o.Serial=(ob s h).Serial)(ho:OkO s o)(hst:(ob s h).Started=true→o.Started=true):Sv s (seO s h o):=⟨c3C s h o,λi hi=>by
 have q:=A1 hR hh;rw[b8B hR hh hs ho];split
 ·rename_i e;subst e;refine⟨Int.le_refl _,λ_=>⟨id,λr=>.inr ⟨q.2.1,λk=>hst ?_⟩⟩⟩;rw[O3 hR q];exact k
 ·exact⟨Int.le_refl _,λ_=>⟨id,λr=>.inr ⟨r,id⟩⟩⟩⟩
theorem c6u{s:a7}(hR:SR s){i:Nat}(hi:i<s.S.a8.length)(ht:Th (ce s i))(d:Int):Sv s (mkA s i d):=⟨M5 ..,λj hj=>by
 rw[a3t hR hi ht];split
 ·rename_i e;subst e;exact⟨Int.le_refl _,λ_=>⟨id,λr=>.inr ⟨r,id⟩⟩⟩
 ·exact⟨Int.le_refl _,λ_=>⟨id,λr=>.inr ⟨r,id⟩⟩⟩⟩
theorem d1Q{s:a7}{i:Nat}(hi:i<s.S.a8.length):Sv s (gvA s i):=⟨X4 ..,λj hj=>by
 unfold gvA;rw[K6 hi];by_cases e:j=i
 ·subst e;rw[if_pos rfl];split;·exact⟨Int.le_refl _,λ_=>⟨λ_=>(by decide:(3:Int)≠0),λr=>absurd (show (3:Int)=1 from r) (by decide)⟩⟩
  ·refine⟨by show _≤(ce s j).Gen+1;omega,λr=>?_⟩
   have:(ce s j).Gen+1=(ce s j).Gen:=r;omega
 ·rw[if_neg e];exact⟨Int.le_refl _,λ_=>⟨id,λr=>.inr ⟨r,id⟩⟩⟩⟩
theorem Gn.sv{s s':a7}{ds:List Int}(g:Gn s s' ds):Sv s s':=⟨g.len,λj hj=>by
 rw[g.ce];split
 ·unfold gnC;split
  ·split;·exact⟨Int.le_refl _,λ_=>⟨λ_=>(by decide:(3:Int)≠0),λr=>absurd (show (3:Int)=1 from r) (by decide)⟩⟩
   ·refine⟨by show _≤(Sh.ce s j).Gen+1;omega,λr=>?_⟩
    have:(Sh.ce s j).Gen+1=(Sh.ce s j).Gen:=r;omega
  ·exact⟨Int.le_refl _,λ_=>⟨λ_=>(by decide:(2:Int)≠0),λr=>absurd (show (2:Int)=1 from r) (by decide)⟩⟩
 ·exact⟨Int.le_refl _,λ_=>⟨id,λr=>.inr ⟨r,id⟩⟩⟩⟩
theorem d4s{s:a7}(hR:SR s){i:Nat}(hi:i<s.S.a8.length)(h0:(ce s i).State=0){n:Nat}(hn:n≤4){p:Int}(hp : -1≤p∧p≤5):Sv s (mkS s i n p):=⟨a5u hR hi h0 hn hp,λj hj=>by
 rw[a7t hR hi h0 hn hp];split
 ·rename_i e;subst e;exact⟨Int.le_refl _,λ_=>⟨λr=>absurd h0 r,λ_=>.inl h0⟩⟩
 ·exact⟨Int.le_refl _,λ_=>⟨id,λr=>.inr ⟨r,id⟩⟩⟩⟩
theorem c1S{x:Hp}(hR:SR x.S)(h:Int):Sv x.S (C5 x h).S:=(G2 hR h (f:=U4) λc=>D8).sv hR
theorem b8v{x:Hp}(hR:SR x.S)(h:Int):Sv x.S (Q3 x h).S:=(G2 hR h (f:=a5G) λc=>N9).sv hR
theorem c0g{x:Hp}(hR:SR x.S)(r:Nat)(h:Int):Sv x.S (G1 x r h).S:=
 (c1S hR h).trans (b8v (x:=wR (C5 x h) (x.Roots.set r h)) (a3w hR h) _)
theorem c4b{x:Hp}(hR:SR x.S){h:Int}(hh:h∈lv x.S){n:Nat}(hn:n<(ob x.S h).Fields.length)(v:Int):Sv x.S (a09 x h n v).S:=by
 have k1:=b8y hR v;have hh1:h∈lv (C5 x v).S:=by rw[k1.lv];exact hh
 have hof:(ob (C5 x v).S h).Fields=(ob x.S h).Fields:=by
  obtain⟨n,e⟩:=(G2 hR v (f:=U4) λc=>D8).ob h (by have:=H4 hR hh;omega)
  show (ob (stO x v U4).S h).Fields=_;rw[e]
 have ho:OkO (C5 x v).S (flg (ob (C5 x v).S h) ((ob x.S h).Fields.set n v)):=by
  have:=J4 k1.sr hh1;refine⟨this.s1,this.s2,this.st,this.wk,this.p1,this.p2,?_⟩;have h4:=this.fl;rw[hof] at h4;simpa using h4
 have k2:=c7q (o:=flg (ob (C5 x v).S h) ((ob x.S h).Fields.set n v)) k1.sr hh1 rfl ho id;exact ((c1S hR v).trans k2).trans (b8v (x:=wS (C5 x v) (seO (C5 x v).S h (flg (ob (C5 x v).S h) ((ob x.S h).Fields.set n v)))) (a0Q (o:=flg (ob (C5 x v).S h) ((ob x.S h).Fields.set n v)) k1.sr hh1 rfl ho) _)
theorem c6W{x:Hp}(hR:SR x.S)(v:Int)(t:Tb)(old:Int):Sv x.S (a5S x v t old).S:=
 (c1S hR v).trans (b8v (x:=wT (C5 x v) t) (a3w hR v) old)
theorem d2m{x:Hp}(hR:SR x.S)(h d:Int):Sv x.S (mkd x h d).S:=by
 unfold mkd;split
 ·rename_i q;exact c6u hR q.1 q.2.1 d
 ·exact Sv.refl _
theorem d0h{x:Hp}(hR:SR x.S)(h:Int):Sv x.S (a8C x h).S:=by
 unfold a8C;split
 ·rename_i q;have k:=c6u hR q.1 q.2.1 (-1);split;·exact k.trans (d1Q (by rw[k.1];exact q.1))
  ·exact k
 ·exact Sv.refl _
theorem c7H{x:Hp}(hx:M2 x)(n:Nat)(h call:Int):Sv x.S (a2m x n h call).S:=by
 have hR:=hx.sh.sr;unfold a2m;have s1:Sv x.S (mkd (wC x (x.a8.set n (wcl h call))) h 1).S:=d2m (x:=wC x (x.a8.set n (wcl h call))) hR h 1;refine s1.trans (d0h ?_ _);unfold mkd;split
 ·rename_i q;have:=(hR.ok _ q.1 q.2.1).wk;exact b4N hR q.1 q.2.1 (by omega)
 ·exact hR
theorem c5s{x:Hp}(hR:SR x.S){ds:List Int}(hn:ds.Nodup)(hm:∀d∈ds,d∈lv x.S):Sv x.S (buH x ds).S:=by
 have g:=a1Q ds hR hn hm;exact g.sv.trans ((a4u (ds.flatMap (outs x.S)++(wot x.T ds).2) (x:=a4G x ds (wot x.T ds).1) g.sr).1.sv g.sr)
theorem c66{x:Hp}(hR:SR x.S){h:Int}(hh:h∈lv x.S):Sv x.S (quH x h).S:=by
 have oko:=J4 hR hh;have ho:OkO x.S (srt (ob x.S h)):=⟨oko.s1,oko.s2,oko.st,oko.wk,oko.p1,oko.p2,oko.fl⟩;exact (c7q (o:=srt (ob x.S h)) hR hh rfl ho λ_=>rfl).trans ((a6T hR hh).1.sv (a0Q (o:=srt (ob x.S h)) hR hh rfl ho))
theorem d3p{x:Hp}(hx:M2 x):Sv x.S (stp x).S:=by
 cases h:zr x with
 | nil=>rw[a9k h];exact Sv.refl _
 | cons z l=>
  have hz:z∈zr x:=by rw[h];exact List.mem_cons_self ..
  have hzl:=(a1k.1 hz).1;rw[a4A h];split;·exact c66 hx.sh.sr hzl
  ·exact c5s hx.sh.sr (by simp) (by simpa using hzl)
theorem d3l{x:Hp}(hx:M2 x)(n:Nat):Sv x.S (stN n x).S:=by
 induction n with
 | zero=>exact Sv.refl _
 | succ n ih=>rw[a19];exact ih.trans (d3p (a0F hx n))
theorem c92{x:Hp}(hx:M2 x):Sv x.S (a1C x).S:=d3l hx 100
structure Fw (x y:Hp):Prop where
 sv:Sv x.S y.S
 q:∃l,y.Q=⟨x.Q.L++l,x.Q.Cap⟩∧∀t∈l,t.Kind=1→¬c2e x.S t.At
theorem Fw.of{x y:Hp}(h:Sv x.S y.S)(q:y.Q=x.Q):Fw x y:=⟨h,[],by rw[q,List.append_nil],λt ht=>by cases ht⟩
theorem Fw.refl(x:Hp):Fw x x:=Fw.of (Sv.refl _) rfl
theorem Fw.trans{x y z:Hp}(a:Fw x y)(b:Fw y z):Fw x z:=by
 obtain⟨l,q1,q2⟩:=a.q;obtain⟨m,r1,r2⟩:=b.q;refine⟨a.sv.trans b.sv,l++m,by rw[r1,q1,List.append_assoc],λt ht hk=>?_⟩
 rcases List.mem_append.1 ht with h | h
 ·exact q2 t h hk
 ·exact λs=>r2 t h hk (a.sv.d4U s)
theorem b8D{x:Hp}(hx:M2 x):Fw x (a1C x):=by
 obtain⟨l,q1,q2,_⟩:=(a8w hx).q;exact⟨c92 hx,l,q1,λt ht hk=>c4L hx.sh.sr (q2 t ht hk).1 (q2 t ht hk).2⟩
end Go.Sh
namespace Go.Sh
theorem a4v{x:Hp}(hR:SR x.S)(r:Nat)(h:Int):Fw x (G1 x r h):=Fw.of (c0g hR r h) (a4w x r h).2.2.2
theorem d3Y{x:Hp}(hx:M2 x)(hS:SL x)(hz:zr x = [])(hb:x.S.Serial<9223372036854775807)(o:g9):(∃e,Er x o e)∨∃z v,Dn x o z v∧Fw x z:=by
 have hR:=hx.sh.sr;obtain⟨k,a,b,c⟩:=o;by_cases hc:B3 k a b c=0
 ·have:=c2W hc;have hk:k=1∨k=2∨k=3∨k=4∨k=5∨k=6∨k=7∨k=8∨k=9∨k=10∨k=11∨k=12:=by omega
  rcases hk with rfl | rfl | rfl | rfl | rfl | rfl | rfl | rfl | rfl | rfl | rfl | rfl
  ·rcases d1 hx hS hb hc with ⟨e,_,h⟩ | ⟨hn,hcc,i,hF,h⟩;·exact .inl ⟨e,h⟩
   ·obtain⟨hi,h0,_⟩:=hF;have k1:Fw x (wS x (mkS x.S i b.toNat c)):=Fw.of (d4s hR hi h0 hn hcc) rfl;exact .inr ⟨_,_,h,k1.trans (a4v (x:=wS x (mkS x.S i b.toNat c)) (b9N hR hi h0 hn hcc) _ _)⟩
  ·exact .inr ⟨_,_,d2 hx hS hc,a4v hR _ _⟩
  ·exact .inr ⟨_,_,d3 hx hS hc,a4v hR _ _⟩
  ·rcases d4 hx hS hc with ⟨_,h⟩ | ⟨e,_,h⟩ | ⟨_,n,_,_,h⟩;·exact .inl ⟨_,h⟩
   ·exact .inl ⟨_,h⟩
   ·exact .inr ⟨_,_,h,a4v hR _ _⟩
  ·rcases d5 hx hS hc with ⟨_,h⟩ | ⟨e,_,h⟩ | ⟨hl,n,_,hn,h⟩;·exact .inl ⟨_,h⟩
   ·exact .inl ⟨_,h⟩
   ·exact .inr ⟨_,_,h,Fw.of (c4b hR hl hn _) (a7U _ _ _ _).2.2.2⟩
  ·rcases d6 hx hS hc with ⟨_,h⟩ | ⟨e,_,h⟩ | ⟨_,h⟩;·exact .inl ⟨_,h⟩
   ·exact .inl ⟨_,h⟩
   ·exact .inr ⟨_,_,h,Fw.of (c7H hx _ _ _) (b5y _ _ _ _).2.2.2⟩
  ·obtain⟨_,⟨_,h⟩ | ⟨_,h⟩⟩:=d7 hx hS hc;·exact .inl ⟨_,h⟩
   ·exact .inr ⟨_,_,h,a4v hR _ _⟩
  ·rcases d8 hx hS hc with ⟨_,h⟩ | ⟨_,e,_,h⟩ | ⟨_,r,_,_,h⟩;·exact .inl ⟨_,h⟩
   ·exact .inl ⟨_,h⟩
   ·exact .inr ⟨_,_,h,Fw.of (c6W hR _ _ _) (b0i _ _ _ _).2.2.2⟩
  ·rcases d9 hx hS hc with ⟨_,h⟩ | ⟨_,_,h⟩ | ⟨_,v,_,h⟩;·exact .inl ⟨_,h⟩
   ·exact .inl ⟨_,h⟩
   ·exact .inr ⟨_,_,h,a4v hR _ _⟩
  ·exact .inr ⟨_,_,d10 hx hS hz hc,Fw.refl x⟩
  ·obtain⟨h1,h2⟩:=b7o (x:=x) (a:=a) (b:=b) (c:=c) (.inl rfl) hc;exact .inl ⟨14,by decide,h1,h2⟩
  ·obtain⟨h1,h2⟩:=b7o (x:=x) (a:=a) (b:=b) (c:=c) (.inr rfl) hc;exact .inl ⟨14,by decide,h1,h2⟩
 ·obtain⟨h1,h2⟩:=c5H (x:=x) (o:=⟨k,a,b,c⟩) hc;exact .inl ⟨_,hc,h1,h2⟩
theorem c5I{x:Hp}(hx:M2 x)(hS:SL x)(hz:zr x = [])(hb:x.S.Serial<9223372036854775807)(o:g9):Fw x (dov x o).1:=by
 rcases d3Y hx hS hz hb o with ⟨e,_,h,_⟩ | ⟨z,v,d,f⟩
 ·have:dov x o=(x,0,e):=by unfold dov;rw[h];rfl
  rw[this];exact Fw.refl x
 ·have:dov x o=(a1C z,v,0):=by unfold dov;rw[d.mc];rfl
  rw[this];exact f.trans (b8D d.rt)
theorem d4P{x:Hp}(h1:HpS x)(h2:Wk x){L:List Int}(h3:a1l x L){r:Nat}(hr:r<6){h:Int}(hh:h=0∨h∈lv x.S):HpS (G1 x r h)∧Wk (G1 x r h)∧a1l (G1 x r h) L:=by
 have kin:=G2 h1.sr h (f:=U4) λc=>D8;have l1:lv (C5 x h).S=lv x.S:=kin.lv;have f1:a1l (C5 x h) (h::L):=c0i h1.sr h3 h;have s1:HpS (C5 x h):=h1.st h (f:=U4) λc=>D8;have s2:HpS (wR (C5 x h) (x.Roots.set r h)):=s1.roots (by rw[List.length_set];exact h1.r6) λv hv=>by
  rw[l1];rcases List.mem_or_eq_of_mem_set hv with q | q
  ·exact h1.rt v q
  ·exact q▸hh
 have w1:Wk (C5 x h):=h2.st h1.sr h (f:=U4) λc=>D8;have one:∀v k,W5 [v] k=if v=k∧k≠0 then 1 else 0:=λv k=>by rw[G4,P9,Nat.zero_add]
 have f2:a1l (wR (C5 x h) (x.Roots.set r h)) (x.Roots.getD r 0::L):=f1.mv rfl (λ_ _=>rfl) λk hk=>by
  have:=b3X (l:=x.Roots) (r:=r) (by rw[h1.r6];exact hr) h k
  rw[one,one] at this;rw[b2F x h];unfold nms otr;dsimp only;rw[K3,K3,b2O,b2O,G4 h L,G4 (x.Roots.getD r 0) L];omega
 exact⟨s2.st _ λc=>N9,Wk.st (x:=wR (C5 x h) (x.Roots.set r h)) w1 s2.sr _ λc=>N9,b1D (x:=wR (C5 x h) (x.Roots.set r h)) s2.sr f2⟩
abbrev unq(x:Hp)(ts:List k8):Hp:=wQ x ⟨ts,x.Q.Cap⟩
noncomputable def b2e(x:Hp)(ts:List k8)(h:Int):Hp:=Q3 (G1 (unq x ts) 5 h) h
section
variable{x:Hp}(hx:M2 x){t:k8}{ts:List k8}(hq:x.Q.L=t::ts)
include hx hq
theorem b8P:HpS (unq x ts):=by
 have h:=hx.sh;refine⟨h.sr,h.hr,h.r6,h.c6,h.cap,?_,λu hu=>h.tk u (by rw[hq];exact List.mem_cons_of_mem _ hu),?_,h.rt,h.fl,h.pr,λi hi=>?_⟩
 ·have:=h.q30;rw[hq,List.length_cons] at this;show ts.length≤30;omega
 ·have:=h.td;rw[hq,List.pairwise_cons] at this;exact this.2
 ·obtain⟨a,b,c,d,e⟩:=h.cl i hi;refine⟨a,b,c,d,λq=>⟨(e q).1,?_⟩⟩;have:=(e q).2;rw[Bool.eq_false_iff] at this ⊢;intro r;obtain⟨u,hu,k1,k2⟩:=a5i.1 r;exact this (a5i.2 ⟨u,by rw[hq];exact List.mem_cons_of_mem _ hu,k1,k2⟩)
theorem c0y:a1l (unq x ts) (if t.Kind=1 then [t.At] else []):=hx.fair.mv rfl (λ_ _=>rfl) λh _=>by
 unfold nms otr b3j;dsimp only;rw[hq,List.filter_cons];by_cases k:t.Kind=1
 ·rw[if_pos k,if_pos (by simpa using k),List.map_cons,K3,K3,G4 t.At (List.map _ _),G4 t.At [],P9]
  omega
 ·rw[if_neg k,if_neg (by simpa using k),P9]
theorem c0Y(hk:t.Kind≠1):M2 (unq x ts):=⟨b8P hx hq,hx.wk,by have:=c0y hx hq;rwa [if_neg hk] at this⟩
theorem c08(hk:t.Kind=1):t.At∈lv x.S∧(ob x.S t.At).Started=true:=by
 rcases (hx.sh.tk t (by rw[hq];exact List.mem_cons_self ..)).2.2 with ⟨_,b,c⟩ | ⟨b,_⟩
 ·exact⟨b,c⟩
 ·omega
theorem a5I(hk:t.Kind=1):M2 (b2e x ts t.At):=by
 have f:=c0y hx hq;rw[if_pos hk] at f;obtain⟨a,b,c⟩:=d4P (b8P hx hq) (x:=unq x ts) hx.wk f (r:=5) (by decide) (.inr (c08 hx hq hk).1)
 exact⟨a.st _ λc=>N9,b.st a.sr _ λc=>N9,b1D a.sr c⟩
omit hq in
theorem c09 (hS:SL x) (h:Int):SL (b2e x ts h):=by
 have k:=a4x (x:=unq x ts) hx.sh.sr hS 5 h;exact b8t [h] (a01 (x:=unq x ts) hx.sh.sr 5 h).sr k
omit hq in
theorem d1D (h:Int):Ks x.S (b2e x ts h).S:=by
 have k:=a01 (x:=unq x ts) hx.sh.sr 5 h;exact k.trans (b8u k.sr h)
omit hq in
theorem c5Y (h:Int):(b2e x ts h).Roots=x.Roots.set 5 h∧(b2e x ts h).a8=x.a8∧(b2e x ts h).T=x.T∧(b2e x ts h).Q=⟨ts,x.Q.Cap⟩:=by
 obtain⟨a,b,c,d⟩:=b5f (G1 (unq x ts) 5 h) h;obtain⟨a',b',c',d'⟩:=a4w (unq x ts) 5 h;exact⟨a.trans a',b.trans b',c.trans c',d.trans d'⟩
omit hq in
theorem d1C (h:Int):Fw (unq x ts) (b2e x ts h):=Fw.of ((c0g (x:=unq x ts) hx.sh.sr 5 h).trans (b8v (a01 (x:=unq x ts) hx.sh.sr 5 h).sr h)) (c5Y hx h).2.2.2
end
def prg(ps:List (List g9))(n:Int):List g9:=if n<0∨(ps.length:Int)≤n then [] else ps.getD n.toNat []
noncomputable def pre(x:Hp)(t:k8)(ts:List k8):Hp:=if t.Kind=1 then a1C (b2e x ts t.At) else unq x ts
noncomputable def ran(ps:List (List g9))(x:Hp)(t:k8)(ts:List k8):Hp:=(runs (pre x t ts) (prg ps t.Prog)).1
noncomputable def dne(ps:List (List g9))(x:Hp)(t:k8)(ts:List k8):Hp:=if t.Kind=1 then a1C (G1 (ran ps x t ts) 5 0) else ran ps x t ts
structure Oh (x:Hp):Prop where
 rt:M2 x
 sl:SL x
 zr:zr x = []
theorem Nxt.ok{x y:Hp}{o:g9}{v e:Int}(n:Nxt x o y v e):Oh y:=⟨n.rt,n.sl,n.zr⟩
theorem c3E{x:Hp}(h:M2 x)(s:SL x):Oh (a1C x):=⟨a2I h,c3F h s,b6Z h⟩
theorem c7n{x:Hp}(hx:Oh x)(l:List g9)(hb:x.S.Serial+l.length<9223372036854775807):Oh (runs x l).1∧Fw x (runs x l).1∧(runs x l).1.S.Serial≤x.S.Serial+l.length∧(runs x l).2.length=l.length:=by
 have key:∀k,k≤l.length→Oh (runs x (l.take k)).1∧Fw x (runs x (l.take k)).1∧(runs x (l.take k)).1.S.Serial≤x.S.Serial+k∧(runs x (l.take k)).2.length=k:=by
  intro k;induction k with
  | zero=>exact λ_=>⟨hx,Fw.refl x,by show x.S.Serial≤_;omega,rfl⟩
  | succ k ih=>
   intro hk;obtain⟨a,b,c,d⟩:=ih (by omega)
   have hk':k<l.length:=by omega
   have n:=a6N a.rt a.sl a.zr (by omega) l[k]
   rw[M6 hk',a9h];exact⟨n.ok,b.trans (c5I a.rt a.sl a.zr (by omega) _),by have:=n.ev.s2;show (dov _ _).1.S.Serial≤_;omega,by simp[d]⟩
 have:=key l.length (Nat.le_refl _);rwa [List.take_length] at this
section
variable{x:Hp}(hx:Oh x){t:k8}{ts:List k8}(hq:x.Q.L=t::ts)(ps:List (List g9))
include hx hq
theorem c1z:Oh (pre x t ts):=by
 unfold pre;split
 ·rename_i k;exact c3E (a5I hx.rt hq k) (c09 hx.rt hx.sl _)
 ·rename_i k;exact⟨c0Y hx.rt hq k,hx.sl,hx.zr⟩
theorem d2G:Fw (unq x ts) (pre x t ts):=by
 unfold pre;split
 ·rename_i k;exact (d1C hx.rt _).trans (b8D (a5I hx.rt hq k))
 ·exact Fw.refl _
theorem b7W:(pre x t ts).S.Serial=x.S.Serial:=by
 unfold pre;split
 ·rename_i k;rw[(a8w (a5I hx.rt hq k)).ser,(d1D hx.rt _).ser]
 ·rfl
variable(hb:x.S.Serial+(prg ps t.Prog).length<9223372036854775807)
include hb
theorem b8p:Oh (ran ps x t ts)∧Fw (unq x ts) (ran ps x t ts)∧(ran ps x t ts).S.Serial≤x.S.Serial+(prg ps t.Prog).length:=by
 have e:=b7W hx hq;obtain⟨a,b,c,_⟩:=c7n (c1z hx hq) (prg ps t.Prog) (by rw[e];exact hb)
 exact⟨a,(d2G hx hq).trans b,by rw[e] at c;exact c⟩
theorem c2J:Oh (dne ps x t ts)∧Fw (unq x ts) (dne ps x t ts)∧(dne ps x t ts).S.Serial≤x.S.Serial+(prg ps t.Prog).length∧(t.Kind=1→sd (dne ps x t ts) 5=0):=by
 obtain⟨a,b,c⟩:=b8p hx hq ps hb;unfold dne;split
 ·have hz:=a0k a.rt (r:=5) (by decide) (h:=0) (.inl rfl)
  have k:=a01 a.rt.sh.sr 5 0;refine⟨c3E hz (a4x a.rt.sh.sr a.sl 5 0),(b.trans (a4v a.rt.sh.sr 5 0)).trans (b8D hz),?_,λ_=>(a9e a.rt (a:=5) (by decide) (h:=0) (.inl rfl)).1⟩
  rw[(a8w hz).ser,k.ser];exact c
 ·exact⟨a,b,c,λq=>absurd q (by assumption)⟩
end
end Go.Sh
namespace Go.Sh
def cst(ps:List (List g9))(t:k8):Int:=1+((prg ps t.Prog).length:Int)
def can(ps:List (List g9))(p:Hp × Int):Prop:=∃t ts,p.1.Q.L=t::ts∧cst ps t≤p.2
noncomputable def nxd(ps:List (List g9))(p:Hp × Int):Hp × Int:=match p.1.Q.L with
 | []=>p
 | t::ts=>if cst ps t≤p.2 then (dne ps p.1 t ts,p.2-cst ps t) else p
noncomputable def dN(ps:List (List g9)):Nat→Hp × Int→Hp × Int
 | 0,p=>p
 | n+1,p=>dN ps n (nxd ps p)
section
variable(ps:List (List g9))
theorem b0L(n:Nat)(p:Hp × Int):dN ps (n+1) p=nxd ps (dN ps n p):=by
 induction n generalizing p with
 | zero=>rfl
 | succ n ih=>exact ih (nxd ps p)
theorem c25{p:Hp × Int}(h:p.1.Q.L = []):nxd ps p=p:=by unfold nxd;rw[h]
theorem a5P{p:Hp × Int}{t:k8}{ts:List k8}(h:p.1.Q.L=t::ts):nxd ps p=if cst ps t≤p.2 then (dne ps p.1 t ts,p.2-cst ps t) else p:=by unfold nxd;rw[h]
theorem b4i{p:Hp × Int}{t:k8}{ts:List k8}(h:p.1.Q.L=t::ts):can ps p↔cst ps t≤p.2:=by
 constructor
 ·rintro⟨u,us,e,c⟩;rw[h] at e;injection e with e1 e2
  rw[e1];exact c
 ·exact λc=>⟨t,ts,h,c⟩
theorem c9s{p:Hp × Int}(h:¬can ps p):nxd ps p=p:=by
 cases e:p.1.Q.L with
 | nil=>exact c25 ps e
 | cons t ts=>rw[a5P ps e,if_neg (λq=>h ((b4i ps e).2 q))]
theorem b0K(t:k8):1≤cst ps t:=by unfold cst;omega
theorem c2G{p:Hp × Int}(hb:0≤p.2):∃n:Nat,(n:Int)≤p.2∧¬can ps (dN ps n p)∧∀j,j<n→can ps (dN ps j p):=by
 have key:∀m:Nat,(∃n:Nat,n≤m∧¬can ps (dN ps n p))∨((dN ps m p).2+m≤p.2∧0≤(dN ps m p).2):=by
  intro m;induction m with
  | zero=>exact .inr ⟨by show p.2+((0:Nat):Int)≤_;omega,hb⟩
  | succ m ih=>
   rcases ih with ⟨n,h1,h2⟩ | ⟨h1,h2⟩;·exact .inl ⟨n,by omega,h2⟩
   ·by_cases q:can ps (dN ps m p)
    ·right;obtain⟨t,ts,e,c⟩:=q;have:=b0K ps t;rw[b0L,a5P ps e,if_pos c];dsimp only;omega
    ·exact .inl ⟨m,by omega,q⟩
 have hex:∃n:Nat,(n:Int)≤p.2∧¬can ps (dN ps n p):=by
  rcases key (p.2.toNat+1) with ⟨n,h1,h2⟩ | ⟨h1,h2⟩
  ·rcases Nat.lt_or_ge n (p.2.toNat+1) with q | q
   ·exact⟨n,by omega,h2⟩
   ·have hn:n=p.2.toNat+1:=by omega
    rcases key p.2.toNat with ⟨n,h1,h2⟩ | ⟨h1,h3⟩;·exact⟨n,by omega,h2⟩
    ·refine⟨p.2.toNat,by omega,λ⟨t,ts,e,c⟩=>?_⟩
     have:=b0K ps t;omega
  ·omega
 obtain⟨n,⟨hn,hz⟩,hmin⟩:=W0 hex;refine⟨n,hn,hz,λj hj=>Classical.byContradiction λq=>?_⟩;have:=hmin j ⟨by omega,q⟩
 omega
theorem b4m{p:Hp × Int}(hx:Oh p.1)(hb:0≤p.2)(hs:p.1.S.Serial+p.2<9223372036854775807):∀n,Oh (dN ps n p).1∧0≤(dN ps n p).2∧(dN ps n p).2≤p.2∧(dN ps n p).1.S.Serial+(dN ps n p).2≤p.1.S.Serial+p.2
 | 0=>⟨hx,hb,Int.le_refl _,Int.le_refl _⟩
 | n+1=>by
  obtain⟨a,b,c,d⟩:=b4m hx hb hs n;rw[b0L];cases e:(dN ps n p).1.Q.L with
  | nil=>rw[c25 ps e];exact⟨a,b,c,d⟩
  | cons t ts=>
   rw[a5P ps e];split
   ·rename_i q;have q2:=q;unfold cst at q2;obtain⟨r1,_,r3,_⟩:=c2J a e ps (by omega)
    refine⟨r1,?_,?_,?_⟩;·dsimp only;omega
    ·have:=b0K ps t;dsimp only;omega
    ·dsimp only;unfold cst;omega
   ·exact⟨a,b,c,d⟩
end
noncomputable def dn(ps:List (List g9))(p:Hp × Int):Nat:=if h:0≤p.2 then Classical.choose (c2G ps h) else 0
theorem c2I(ps:List (List g9)){p:Hp × Int}(h:0≤p.2):(dn ps p:Int)≤p.2∧¬can ps (dN ps (dn ps p) p)∧∀j,j<dn ps p→can ps (dN ps j p):=by
 unfold dn;rw[dif_pos h];exact Classical.choose_spec (c2G ps h)
noncomputable def dr(ps:List (List g9))(p:Hp × Int):Hp × Int:=dN ps (dn ps p) p
theorem d3Z(ps:List (List g9)){x:Hp}{f:Int}(hx:Oh x)(hf:0≤f)(hs:x.S.Serial+f<9223372036854775807):Oh (dr ps (x,f)).1∧0≤(dr ps (x,f)).2∧(dr ps (x,f)).2≤f∧(dr ps (x,f)).1.S.Serial+(dr ps (x,f)).2≤x.S.Serial+f:=b4m ps (p:=(x,f)) hx hf hs _
end Go.Sh
namespace Go.Sh
section
variable{x:Hp}(hx:HpS x)(hS:∀k∈lv x.S,(ob x.S k).Strong≤9223372036854775807)
include hx hS
theorem c6m{h:Int}(hh:h=0∨h∈lv x.S):h≤9223372036854775807:=by
 rcases hh with q | q
 ·omega
 ·have:=H4 hx.sr q;omega
theorem c7i(k:Int){h:Int}(hh:h≤9223372036854775807):a0w x k h=some (if k<0∨5<k then (x,6) else if h=0∨h∈lv x.S then (G1 x k.toNat h,0) else (x,3)):=by
 have hR:=hx.sr;have r6:=hx.r6;unfold a0w;by_cases hk:k<0∨5<k
 ·rw[if_pos hk,if_pos (by rw[r6];simp;omega)]
 ·rw[if_neg hk,if_neg (by rw[r6];simp;omega),a2x hR hh,d6y]
  by_cases hn:h=0∨h∈lv x.S
  ·rw[if_pos hn,decide_eq_true hn,if_neg (by simp)]
   obtain⟨n,rfl⟩:∃n:Nat,k=n:=⟨k.toNat,by omega⟩
   have hn6:n<6:=by omega
   have hnl:n<x.Roots.length:=by omega
   have old:x.Roots[n]≤9223372036854775807:=c6m hx hS (hx.rt _ (List.getElem_mem hnl));have e1:=a57 x h;have hn2:n<(C5 x h).Roots.length:=by rw[e1.1];exact hnl
   rw[o9 hnl,d6y];unfold F0 O9 L9;rw[a54 hR hh hS,d6y];dsimp only;rw[M3 (by omega) (by rw[e1.1];omega),d6y,o9 hn2,d6y,d6y]
   have hrel:=a2F (x:=wR (C5 x h) (x.Roots.set n h)) (a3w hR h) old;rw[Int.toNat_natCast,e1.1,show C9 ⟨(C5 x h).S,x.Roots.set n h,(C5 x h).a8,(C5 x h).T,(C5 x h).Q⟩ x.Roots[n]=_ from hrel];unfold G1;rw[List.getD_eq_getElem?_getD,List.getElem?_eq_getElem hnl];rfl
  ·rw[if_neg hn,decide_eq_false hn,if_pos (by simp)]
theorem c9V(k:Int){h:Int}(hh:h≤9223372036854775807):X0 (hO x) k h=some (if k<0∨5<k then (hO x,6) else if h=0∨h∈lv x.S then (hO (G1 x k.toNat h),0) else (hO x,3)):=by
 have hR:=hx.sr;have r6:=hx.r6;unfold X0;by_cases hk:k<0∨5<k
 ·rw[if_pos hk,if_pos (by simp;omega)]
 ·rw[if_neg hk,if_neg (by simp;omega),a6J hR hh,d6y]
  by_cases hn:h=0∨h∈lv x.S
  ·rw[if_pos hn,decide_eq_true hn,if_neg (by simp)]
   obtain⟨n,rfl⟩:∃n:Nat,k=n:=⟨k.toNat,by omega⟩
   have hnl:n<x.Roots.length:=by omega
   have hnl':n<(hO x).Roots.length:=hnl;have old:x.Roots[n]≤9223372036854775807:=c6m hx hS (hx.rt _ (List.getElem_mem hnl));have e1:=a57 x h;have r6':(hO x).Roots.length=6:=r6;rw[o9 hnl',d6y,a8q hR hh hS,d6y,M3 (by omega) (by rw[r6'];omega),d6y,o9 hnl',d6y]
   have hrel:=a32 (x:=wR (C5 x h) (x.Roots.set n h)) (a3w hR h) old;rw[Int.toNat_natCast];rw[show F5 ⟨(hO (C5 x h)).S,(hO x).Roots.set n h,(hO (C5 x h)).a8,(hO (C5 x h)).T,(hO (C5 x h)).Q⟩ (hO x).Roots[n]=_ from hrel];unfold G1;rw[List.getD_eq_getElem?_getD,List.getElem?_eq_getElem hnl];rfl
  ·rw[if_neg hn,decide_eq_false hn,if_pos (by simp)]
end
theorem c1A(ps:List (List g9))(n:Int):a4c ps n=some (prg ps n):=by
 unfold a4c prg;by_cases h:n<0∨(ps.length:Int)≤n
 ·rw[if_pos (by simpa using h),if_pos h]
 ·rw[if_neg (by simpa using h),if_neg h]
  obtain⟨k,rfl⟩:∃k:Nat,n=k:=⟨n.toNat,by omega⟩
  have hk:k<ps.length:=by omega
  rw[o9 hk,d6y,Int.toNat_natCast,List.getD_eq_getElem?_getD,List.getElem?_eq_getElem hk];rfl
abbrev psR(ps:List (List g9)):List (List J5):=ps.map (List.map opR)
theorem c61(ps:List (List g9))(n:Int):a8n (psR ps) n=some ((prg ps n).map opR):=by
 unfold a8n prg;rw[List.length_map];by_cases h:n<0∨(ps.length:Int)≤n
 ·rw[if_pos (by simpa using h),if_pos h]
  rfl
 ·rw[if_neg (by simpa using h),if_neg h]
  obtain⟨k,rfl⟩:∃k:Nat,n=k:=⟨n.toNat,by omega⟩
  have hk:k<ps.length:=by omega
  have hk2:k<(psR ps).length:=by simpa using hk
  rw[o9 hk2,d6y,Int.toNat_natCast,List.getD_eq_getElem?_getD,List.getElem?_eq_getElem hk];simp[psR]
def Mp(ps:List (List g9)):Prop:=∀p∈ps,p.length≤6
theorem b3L{ps:List (List g9)}(h:Mp ps)(n:Int):(prg ps n).length≤6:=by
 unfold prg;split;·simp
 ·rename_i q;have hk:n.toNat<ps.length:=by omega
  rw[List.getD_eq_getElem?_getD,List.getElem?_eq_getElem hk];exact h _ (List.getElem_mem hk)
theorem c2F{ps:List (List g9)}(h:Mp ps)(t:k8):a6u ps t=some (cst ps t):=by
 have:=b3L h t.Prog;unfold a6u cst;rw[c1A,d6y,C6 (by omega) (by omega)]
theorem c5D{ps:List (List g9)}(h:Mp ps)(t:k8):a8m (psR ps) ⟨t.Kind,t.At,t.Prog⟩=some (cst ps t):=by
 have:=b3L h t.Prog;unfold a8m cst;show (a8n (psR ps) t.Prog).bind _=_;rw[c61,d6y,List.length_map,C6 (by omega) (by omega)]
theorem b7q(x:Hp):a1m x=some (x.Q.L.isEmpty):=by
 unfold a1m;rw[b8K,d6y];unfold tnx;cases x.Q.L <;> rfl
theorem c2K(x:Hp):a9c (hO x)=some (x.Q.L.isEmpty):=by
 unfold a9c;show some ((((x.Q.L.map _).length:Nat):Int)==0)=_;cases x.Q.L with
 | nil=>rfl
 | cons a l=>simp;omega
section
variable{x:Hp}(hx:Oh x){t:k8}{ts:List k8}(hq:x.Q.L=t::ts){ps:List (List g9)}(hm:Mp ps)(hb:x.S.Serial<9000000000000000000)
include hx hq hm hb
theorem c7E:a6v x ps=some (dne ps x t ts,t,0):=by
 have J3:=b3L hm t.Prog;have pok:=c1z hx hq;have pser:=b7W hx hq;obtain⟨rok,_,_⟩:=b8p hx hq ps (by omega)
 have hrun:=(run_eq pok.rt pok.sl pok.zr (prg ps t.Prog) (by omega) (by rw[pser];omega)).1
 have hrun':a29 (pre x t ts) (prg ps t.Prog)=some (ran ps x t ts,(runs (pre x t ts) (prg ps t.Prog)).2):=hrun;have hz:=a0k rok.rt (r:=5) (by decide) (h:=0) (.inl rfl)
 have zS:=a4x rok.rt.sh.sr rok.sl 5 0;unfold a6v;rw[b8K,d6y];have e:tnx x.Q=(⟨ts,x.Q.Cap⟩,t,0):=by unfold tnx;rw[hq]
 rw[e];dsimp only;rw[if_neg (by simp)]
 simp only[jn];by_cases k:t.Kind=1
 ·have hk:(t.Kind==1)=true:=by simpa using k
  have hat:=(c08 hx.rt hq k).1;have ush:=b8P hx.rt hq;have hm1:=a1X hx.rt.sh.sr hat;have e1:a0w ⟨x.S,x.Roots,x.a8,x.T,⟨ts,x.Q.Cap⟩⟩ 5 t.At=some (G1 (unq x ts) 5 t.At,0):=by
   have:=c7i (x:=unq x ts) ush hx.sl 5 hm1;rw[if_neg (by omega),if_pos (.inr hat)] at this
   exact this
  have e2:C9 (G1 (unq x ts) 5 t.At) t.At=some (b2e x ts t.At):=a2F (a01 (x:=unq x ts) hx.rt.sh.sr 5 t.At).sr hm1;have e3:=a33 (a5I hx.rt hq k) (c09 hx.rt hx.sl t.At);have e4:pre x t ts=a1C (b2e x ts t.At):=by unfold pre;rw[if_pos k]
  have e5:=c3x rok.rt rok.sl 5 (h:=0) (by decide)
  rw[if_neg (by omega),if_pos (.inl rfl)] at e5
  rw[if_pos hk,e1,d6y];dsimp only;rw[e2,d6y,e3,d6y,c1A,d6y,←e4,hrun',d6y,if_pos hk];dsimp only;rw[e5,d6y];refine bnd (a33 hz zS) ?_;unfold dne;rw[if_pos k];rfl
 ·have hk:¬(t.Kind==1)=true:=by simpa using k
  have e4:pre x t ts=unq x ts:=by unfold pre;rw[if_neg k]
  rw[if_neg hk,c1A,d6y,show (⟨x.S,x.Roots,x.a8,x.T,⟨ts,x.Q.Cap⟩⟩:b7)=pre x t ts from e4.symm,hrun',d6y,if_neg hk];unfold dne;rw[if_neg k]
theorem d3m:b48 (hO x) (psR ps)=some (hO (dne ps x t ts),tkR t,0):=by
 have J3:=b3L hm t.Prog;have pok:=c1z hx hq;have pser:=b7W hx hq;obtain⟨rok,_,_⟩:=b8p hx hq ps (by omega)
 have hrun:=(run_eq pok.rt pok.sl pok.zr (prg ps t.Prog) (by omega) (by rw[pser];omega)).2
 have hrun':b3S (hO (pre x t ts)) ((prg ps t.Prog).map opR)=some (hO (ran ps x t ts),(runs (pre x t ts) (prg ps t.Prog)).2):=hrun;have hz:=a0k rok.rt (r:=5) (by decide) (h:=0) (.inl rfl)
 have zS:=a4x rok.rt.sh.sr rok.sl 5 0;unfold b48;rw[show (hO x).Q=tqR x.Q from rfl,d2P,d6y];have e:tnx x.Q=(⟨ts,x.Q.Cap⟩,t,0):=by unfold tnx;rw[hq]
 rw[e];dsimp only;rw[if_neg (by simp)]
 simp only[jn];have hkk:(tkR t).Kind=t.Kind:=rfl;have hka:(tkR t).At=t.At:=rfl;have hkp:(tkR t).Prog=t.Prog:=rfl;rw[hkk,hka,hkp];by_cases k:t.Kind=1
 ·have hk:(t.Kind==1)=true:=by simpa using k
  have hat:=(c08 hx.rt hq k).1;have ush:=b8P hx.rt hq;have hm1:=a1X hx.rt.sh.sr hat;have e1:X0 (hO (unq x ts)) 5 t.At=some (hO (G1 (unq x ts) 5 t.At),0):=by
   have:=c9V (x:=unq x ts) ush hx.sl 5 hm1;rw[if_neg (by omega),if_pos (.inr hat)] at this
   exact this
  have e2:F5 (hO (G1 (unq x ts) 5 t.At)) t.At=some (hO (b2e x ts t.At)):=a32 (a01 (x:=unq x ts) hx.rt.sh.sr 5 t.At).sr hm1;have e3:=a6a (a5I hx.rt hq k) (c09 hx.rt hx.sl t.At);have e4:pre x t ts=a1C (b2e x ts t.At):=by unfold pre;rw[if_pos k]
  have e5:=c1P rok.rt rok.sl 5 (h:=0) (by decide)
  rw[if_neg (by omega),if_pos (.inl rfl)] at e5
  rw[if_pos hk,show (⟨(hO x).S,(hO x).Roots,(hO x).a8,(hO x).T,tqR ⟨ts,x.Q.Cap⟩⟩:g8)=hO (unq x ts) from rfl,e1,d6y];dsimp only;rw[e2,d6y,e3,d6y,c61,d6y,←e4,hrun',d6y,if_pos hk];dsimp only;rw[e5,d6y];refine bnd (a6a hz zS) ?_;unfold dne;rw[if_pos k];rfl
 ·have hk:¬(t.Kind==1)=true:=by simpa using k
  have e4:pre x t ts=unq x ts:=by unfold pre;rw[if_neg k]
  rw[if_neg hk,c61,d6y,show (⟨(hO x).S,(hO x).Roots,(hO x).a8,(hO x).T,tqR ⟨ts,x.Q.Cap⟩⟩:g8)=hO (pre x t ts) by rw[e4];rfl,hrun',d6y,if_neg hk]
  unfold dne;rw[if_neg k]
end
section
variable{x:Hp}(hx:Oh x){ps:List (List g9)}(hm:Mp ps){f:Int}(hf:0≤f)(hf2:f≤1000000)(hb:x.S.Serial<8000000000000000000)
include hx hm hf hf2 hb
def dre(p:Hp × Int):Int:=if p.1.Q.L.isEmpty then 0 else 12
theorem drain_eq:a24 x ps f=some ((dr ps (x,f)).1,(dn ps (x,f):Int),(dr ps (x,f)).2,dre (dr ps (x,f))):=by
 obtain⟨a1,a2,a3⟩:=c2I ps (p:=(x,f)) hf;have all:=b4m ps (p:=(x,f)) hx hf (by show x.S.Serial+f<_;omega)
 unfold a24;simp only[jn];dsimp only at a1;refine a1V (λk=>((dN ps k (x,f)).2,(dN ps k (x,f)).1,(k:Int),(dN ps k (x,f)).2,(dN ps k (x,f)).1)) rfl (dn ps (x,f)) (λ_=>True) (by omega) trivial (λk hk _=>.inl ⟨?_,trivial⟩) (λ_=>⟨((dn ps (x,f):Int),(dr ps (x,f)).2,(dr ps (x,f)).1),?_,?_⟩)
 ·obtain⟨b1,b2,b3,b4⟩:=all k;obtain⟨t,ts,e,c⟩:=a3 k hk;dsimp only at b2 b3 b4;have hc:=b0K ps t;rw[b7q,e,d6y];show (a1A _).bind _=_;rw[b8K,d6y];have e2:tnx (dN ps k (x,f)).1.Q=(⟨ts,(dN ps k (x,f)).1.Q.Cap⟩,t,0):=by unfold tnx;rw[e]
  rw[e2];dsimp only;rw[c2F hm,d6y,if_neg (by simp;omega),c7E b1 e hm (by omega),d6y,C6 (by omega) (by omega),l5,b0L,a5P ps e,if_pos c]
 ·rw[b7q,d6y];cases e:(dN ps (dn ps (x,f)) (x,f)).1.Q.L with
  | nil=>rfl
  | cons t ts=>
   have hc:¬cst ps t≤(dN ps (dn ps (x,f)) (x,f)).2:=λq=>a2 ((b4i ps e).2 q);show (a1A _).bind _=_;rw[b8K,d6y];have e2:tnx (dN ps (dn ps (x,f)) (x,f)).1.Q=(⟨ts,(dN ps (dn ps (x,f)) (x,f)).1.Q.Cap⟩,t,0):=by unfold tnx;rw[e]
   rw[e2];dsimp only;rw[c2F hm,d6y,if_pos (by simp;omega)]
   rfl
 ·dsimp only;rw[b7q,d6y];unfold dre;cases (dr ps (x,f)).1.Q.L.isEmpty <;> rfl
theorem c8Y:a9b (hO x) (psR ps) f=some (hO (dr ps (x,f)).1,(dn ps (x,f):Int),(dr ps (x,f)).2,dre (dr ps (x,f))):=by
 obtain⟨a1,a2,a3⟩:=c2I ps (p:=(x,f)) hf;have all:=b4m ps (p:=(x,f)) hx hf (by show x.S.Serial+f<_;omega)
 unfold a9b;simp only[jn];dsimp only at a1;refine a1V (λk=>((dN ps k (x,f)).2,(k:Int),hO (dN ps k (x,f)).1)) rfl (dn ps (x,f)) (λ_=>True) (by omega) trivial (λk hk _=>.inl ⟨?_,trivial⟩) (λ_=>?_)
 ·obtain⟨b1,b2,b3,b4⟩:=all k;obtain⟨t,ts,e,c⟩:=a3 k hk;dsimp only at b2 b3 b4;have hc:=b0K ps t;rw[c2K,e,d6y];have e2:ix (hO (dN ps k (x,f)).1).Q.L 0=some (tkR t):=by
   show ix ((dN ps k (x,f)).1.Q.L.map tkR) 0=_;rw[e];rfl
  show (ix (hO (dN ps k (x,f)).1).Q.L 0).bind _=_;rw[e2,d6y,show a8m (psR ps) (tkR t)=_ from c5D hm t,d6y,if_neg (by simp;omega),d3m b1 e hm (by omega),d6y,C6 (by omega) (by omega),l5,b0L,a5P ps e,if_pos c]
 ·cases e:(dN ps (dn ps (x,f)) (x,f)).1.Q.L with
  | nil=>
   refine⟨.inr ((dr ps (x,f)).2,(dn ps (x,f):Int),hO (dr ps (x,f)).1),?_,?_⟩
   ·rw[c2K,e];rfl
   ·unfold dre;have e':(dr ps (x,f)).1.Q.L = []:=e;rw[e'];rfl
  | cons t ts=>
   have hc:¬cst ps t≤(dN ps (dn ps (x,f)) (x,f)).2:=λq=>a2 ((b4i ps e).2 q);refine⟨.inl (hO (dr ps (x,f)).1,(dn ps (x,f):Int),(dr ps (x,f)).2,12),?_,?_⟩
   ·rw[c2K,e,d6y];have e2:ix (hO (dN ps (dn ps (x,f)) (x,f)).1).Q.L 0=some (tkR t):=by
     show ix ((dN ps (dn ps (x,f)) (x,f)).1.Q.L.map tkR) 0=_;rw[e];rfl
    show (ix (hO (dN ps (dn ps (x,f)) (x,f)).1).Q.L 0).bind _=_;rw[e2,d6y,show a8m (psR ps) (tkR t)=_ from c5D hm t,d6y,if_pos (by simp;omega)]
    rfl
   ·unfold dre;have e':(dr ps (x,f)).1.Q.L=t::ts:=e;rw[e'];rfl
end
end Go.Sh
namespace Go.Sh
theorem d4t{l:List (List g9)}(h:a6S l=true):Mp l∧l.length≤6:=by
 unfold a6S at h;rw[Bool.and_eq_true,decide_eq_true_iff,List.all_eq_true] at h;refine⟨λp hp=>?_,h.1⟩;have:=h.2 p hp;unfold b2Z at this;rw[Bool.and_eq_true,decide_eq_true_iff] at this;exact this.1
end Go.Sh
namespace Go.Sh
theorem d4k(s:a7)(h:s.S.a8.length≤30):b31 s=some (sO s):=by
 unfold b31;simp only[jn,b32,d6y];have e:=a6I (b:=80) cO s.S.a8 (by omega) (by omega)
 simp only[cO,oo] at e;rw[e];rfl
theorem c95(s:a7):a9r s=some (decide (Sm s)):=by
 unfold a9r;simp only[jn];refine R6 (min s.S.a8.length 30) (λk=>∀j (h:j<s.S.a8.length),j<k→s.S.a8[j].Val.Fields.length≤10) (by omega) (λ_ _ h=>by omega) (λk hk hP=>?_) (λhP=>?_)
 ·have hk1:k<s.S.a8.length:=by omega
  have hk2:k<30:=by omega
  have hc:((decide ((k:Int)<(s.S.a8.length:Int)))&&(decide ((k:Int)<30)))=true:=by simp;omega
  by_cases g:s.S.a8[k].Val.Fields.length≤10
  ·refine .inl ⟨?_,λj h hj=>?_⟩
   ·rw[hc];simp only[if_true,o9 hk1,d6y];rw[if_neg (by simp;omega),l5]
   ·rcases Nat.lt_or_ge j k with q | q
    ·exact hP j h q
    ·have:j=k:=by omega
     subst this;exact g
  ·refine .inr ⟨.inl false,?_,?_⟩
   ·rw[hc];simp only[if_true,o9 hk1,d6y];rw[if_pos (by simp;omega)]
   ·simp only;rw[decide_eq_false (λq:Sm s=>g (q.2 k hk1))]
 ·refine⟨.inr (),?_,?_⟩
  ·rw[show ((decide (((min s.S.a8.length 30:Nat):Int)<(s.S.a8.length:Int)))&&(decide (((min s.S.a8.length 30:Nat):Int)<30)))=false by
    rcases Nat.lt_or_ge s.S.a8.length 30 with q | q
    ·simp;omega
    ·simp;omega]
   rfl
  ·simp only;congr 1;rw[decide_eq_decide];constructor
   ·intro q;exact⟨by omega,λi h=>hP i h (by omega)⟩
   ·intro q;have:=q.1;omega
end Go.Sh
namespace Go.Sh
theorem d4V(t:Tb)(h:t.length≤1000):b33 t=some (t.map J3):=by
 unfold b33;simp only[jn];have e:=a6I (b:=24) J3 t (by omega) (by omega)
 simp only[J3] at e;rw[e];rfl
end Go.Sh
namespace Go.Sh
theorem d3S(l:List g5)(h:l.length≤1000):a9q l=some (l.map wcR):=by
 unfold a9q;simp only[jn];have e:=a6I (b:=24) wcR l (by omega) (by omega)
 simp only[wcR] at e;rw[e];rfl
theorem d4W(q:TQ)(h:q.L.length≤1000):a9s q=some (tqR q):=by
 unfold a9s;simp only[jn];have e:=a6I (b:=24) tkR q.L (by omega) (by omega)
 simp only[tkR] at e;rw[e];rfl
theorem d1U{x:Hp}(h1:x.S.S.a8.length≤30)(h2:x.a8.length≤1000)(h3:x.T.length≤1000)(h4:x.Q.L.length≤1000):a4C x=some (hO x):=by
 unfold a4C;rw[d4k x.S h1,d6y,d3S x.a8 h2,d6y,d4V x.T h3,d6y,d4W x.Q h4,d6y];rfl
theorem c85{x:Hp}(h:HpS x):a4C x=some (hO x):=by
 have h1:=h.sr.len;have h2:=h.c6;have h3:=h.hr.l8;have h4:=h.q30;exact d1U (by omega) (by omega) (by omega) (by omega)
theorem c5V(x:Hp):b1V x=some (decide (b85 x)):=by
 unfold b1V;rw[c95,d6y];congr 1;rw[Bool.eq_iff_iff];simp only[Bool.and_eq_true,decide_eq_true_iff];unfold b85;constructor
 ·rintro⟨⟨⟨⟨a,b⟩,c⟩,d⟩,e⟩;exact⟨a,by omega,by omega,by omega,by omega⟩
 ·rintro⟨a,b,c,d,e⟩;exact⟨⟨⟨⟨a,by omega⟩,by omega⟩,by omega⟩,by omega⟩
theorem d4d{x:Hp}(h:HpS x):b1V x=some true:=by rw[c5V,decide_eq_true h.d4e]
end Go.Sh
namespace Go.Sh
noncomputable def eo(ps:List (List g9))(x:Hp)(o:g9):Hp × Int × Int:=
 if o.Kind=11 then (col x,cgn x-((btc x).length:Int),0)
 else if o.Kind=12 then ((dr ps (x,o.A)).1,(dn ps (x,o.A):Int),dre (dr ps (x,o.A)))
 else dov x o
noncomputable def er(ps:List (List g9))(x:Hp)(row:List Int):Hp × Int × Int:=if (a0e row).2≠0 then (x,0,(a0e row).2) else eo ps x (a0e row).1
noncomputable def ers(ps:List (List g9))(x:Hp)(rows:List (List Int)):Hp × List (Int × Int):=rows.foldl (λp r=>((er ps p.1 r).1,p.2 ++ [(er ps p.1 r).2])) (x,[])
theorem c5R(ps:List (List g9))(x:Hp)(l:List (List Int))(r:List Int):ers ps x (l ++ [r])=((er ps (ers ps x l).1 r).1,(ers ps x l).2 ++ [(er ps (ers ps x l).1 r).2]):=by
 unfold ers;rw[List.foldl_append];rfl
theorem b7t(ps:List (List g9)):∀(l:List (List Int)) (x:Hp) (a:List (Int × Int)),l.foldl (λp r=>((er ps p.1 r).1,p.2 ++ [(er ps p.1 r).2])) (x,a)=((ers ps x l).1,a++(ers ps x l).2)
 | [],x,a=>by simp[ers]
 | r::l,x,a=>by
  unfold ers;rw[List.foldl_cons,List.foldl_cons,b7t ps l,b7t ps l _ ([]++_)];simp
theorem c2L(ps:List (List g9))(x:Hp)(l m:List (List Int)):ers ps x (l++m)=((ers ps (ers ps x l).1 m).1,(ers ps x l).2++(ers ps (ers ps x l).1 m).2):=by
 have:ers ps x (l++m)=m.foldl (λp r=>((er ps p.1 r).1,p.2 ++ [(er ps p.1 r).2])) (ers ps x l):=by
  unfold ers;rw[List.foldl_append]
 rw[this];exact b7t ps m (ers ps x l).1 (ers ps x l).2
theorem c2M(ps:List (List g9))(x:Hp)(l:List (List Int)):(ers ps x l).2.length=l.length:=by
 induction l generalizing x with
 | nil=>rfl
 | cons r l ih=>
  have:=c2L ps x [r] l;rw[List.singleton_append] at this;rw[this,List.length_append,ih];show 1+l.length=l.length+1;omega
theorem b3D{row:List Int}(h:(a0e row).2=0):B3 (a0e row).1.Kind (a0e row).1.A (a0e row).1.B (a0e row).1.C=0:=by
 unfold a0e at h ⊢;rcases four row with ⟨k,a,b,c,rfl⟩ | hl
 ·rw[c2H,Option.getD_some] at h ⊢;by_cases q:B3 k a b c≠0
  ·rw[if_pos q] at h;exact absurd h q
  ·rw[if_neg q];exact Classical.not_not.1 q
 ·rw[(b7m hl).1,Option.getD_some] at h;exact absurd h (by decide)
theorem c2E{a b c:Int}(h:B3 12 a b c=0):0≤a∧a≤200:=in0 (by decide) (show M1 a 0 200 12=0 from h)
section
variable{ps:List (List g9)}(hm:Mp ps){x:Hp}(hx:Oh x)(hb:x.S.Serial<7000000000000000000)
include hm hx hb
theorem d4a{o:g9}(ho:o.Kind=12→0≤o.A∧o.A≤200):Oh (eo ps x o).1∧(eo ps x o).1.S.Serial≤x.S.Serial+201:=by
 unfold eo;split
 ·obtain⟨a,b,c⟩:=b7i hx.rt hx.sl hx.zr;refine⟨⟨a,b,c⟩,?_⟩;show (col x).S.Serial≤_;rw[c8T hx.rt hx.sl hx.zr];omega
 ·split
  ·rename_i h;obtain⟨h0,h2⟩:=ho h;obtain⟨a,b,c,d⟩:=d3Z ps hx h0 (by omega)
   exact⟨a,by show (dr ps (x,o.A)).1.S.Serial≤_;omega⟩
  ·have n:=a6N hx.rt hx.sl hx.zr (by omega) o
   have:=n.ev.s2;exact⟨n.ok,by omega⟩
theorem d0A(row:List Int):Oh (er ps x row).1∧(er ps x row).1.S.Serial≤x.S.Serial+201:=by
 unfold er;split;·exact⟨hx,by show x.S.Serial≤_;omega⟩
 ·rename_i h;have hc:=b3D (Classical.not_not.1 h);refine d4a hm hx hb λhk=>?_;rw[hk] at hc;exact c2E hc
end
theorem b4s{ps:List (List g9)}(hm:Mp ps){x:Hp}(hx:Oh x):∀(l:List (List Int)),x.S.Serial+201*(l.length:Int)<7000000000000000000→Oh (ers ps x l).1∧(ers ps x l).1.S.Serial≤x.S.Serial+201*(l.length:Int):=by
 intro l;induction l generalizing x with
 | nil=>exact λ_=>⟨hx,by show x.S.Serial≤_;simp⟩
 | cons r l ih=>
  intro hb;rw[List.length_cons] at hb ⊢;obtain⟨a,b⟩:=d0A hm hx (by omega) r
  obtain⟨c,d⟩:=ih a (by omega)
  have e:=c2L ps x [r] l;rw[List.singleton_append] at e;rw[e];exact⟨c,by
   have:(ers ps (ers ps x [r]).1 l).1.S.Serial≤(er ps x r).1.S.Serial+201*(l.length:Int):=d;show (ers ps (ers ps x [r]).1 l).1.S.Serial≤_;omega⟩
end Go.Sh
namespace Go.Sh
def ctO(l:List b8)(k:Int):Nat:=l.countP λc=>c.State==k
theorem c5F(l:List b8)(c:b8)(k:Int):ctO (l ++ [c]) k=ctO l k+if c.State=k then 1 else 0:=by
 unfold ctO;rw[List.countP_append];simp[List.countP_cons]
theorem c8U{l:List b8}(h:∀c∈l,0≤c.State∧c.State≤3):ctO l 0+ctO l 1+ctO l 2+ctO l 3=l.length:=by
 induction l with
 | nil=>rfl
 | cons c l ih=>
  have h1:=ih λx hx=>h x (List.mem_cons_of_mem _ hx);have h2:=h c (List.mem_cons_self ..);unfold ctO at h1 ⊢;simp only[List.countP_cons,List.length_cons];have:c.State=0∨c.State=1∨c.State=2∨c.State=3:=by omega
  rcases this with e | e | e | e <;> rw[e] <;> simp <;> omega
theorem b9B:∀(k:Nat) (l:List b8),(W1 k l).length=ctO l 1
 | _,[]=>rfl
 | k,c::l=>by
  show ((if c.State=1 then [1+(k:Int)+32*c.Gen] else [])++W1 (k+1) l).length=(c::l).countP λc=>c.State==1
  rw[List.length_append,b9B (k+1) l,List.countP_cons];show _+l.countP (λc=>c.State==1)=_;by_cases q:c.State=1
  ·rw[if_pos q,if_pos (by simpa using q)];simp;omega
  ·rw[if_neg q,if_neg (by simpa using q)];simp
theorem c7w{s:a7}(hR:SR s):∀c∈s.S.a8,0≤c.State∧c.State≤3:=λc hc=>by
 obtain⟨i,hi,rfl⟩:=List.getElem_of_mem hc;have:=hR.cell i hi;rw[E5 hi] at this;omega
theorem d2i{s:a7}(hR:SR s):(lv s).length=ctO s.S.a8 1:=by
 rw[(a3I (s7.2 hR)).2.1.length_eq,b9B]
noncomputable def srs(x:Hp):List Int:=(lv x.S).map λh=>ser x h
theorem c6o{s:a7}(hR:SR s){h:Int}(hh:h∈lv s):sk s.S.a8 h=(ob s h).Serial:=by
 obtain⟨i,hi⟩:=(a28 hR).1 hh;rw[c5m hR hi,O3 hR hi]
theorem d3k{x:Hp}(hR:SR x.S):(srs x).Pairwise (· < ·):=by
 unfold srs;rw[List.pairwise_map];refine List.Pairwise.imp_of_mem (λ{a b} ha hb h=>?_) (a3I (s7.2 hR)).2.2;rw[c6o hR ha,c6o hR hb] at h;exact h
theorem c7y{x:Hp}(hR:SR x.S):(srs x).mergeSort (λx y=>decide (x≤y))=srs x:=
 List.mergeSort_of_pairwise ((d3k hR).imp λh=>decide_eq_true (by omega))
theorem c97{x:Hp}(hR:SR x.S):(srs x).length≤24:=by
 unfold srs;rw[List.length_map];exact F3 (s7.2 hR)
end Go.Sh
namespace Go.Sh
inductive Fm (x:Hp) (o:g9) (z:Hp) (v:Int):Prop
 | new (i:Nat) (hF:Fst x.S i) (hk:o.Kind=1) (ha:0≤o.A∧o.A≤5) (hn:o.B.toNat≤4) (hc : -1≤o.C∧o.C≤5) (hv:v=x.S.Serial+1) (hz:z=G1 (wS x (mkS x.S i o.B.toNat o.C)) o.A.toNat (hdl x.S i)):Fm x o z v
 | root (h:Int) (hk:o.Kind≠1) (ha:0≤o.A∧o.A≤5) (hh:h=0∨h∈lv x.S) (hz:z=G1 x o.A.toNat h):Fm x o z v
 | field (h:Int) (n:Nat) (u:Int) (hk:o.Kind=5) (hl:h∈lv x.S) (hn:n<(ob x.S h).Fields.length) (hu:u=0∨u∈lv x.S) (hz:z=a09 x h n u):Fm x o z v
 | weak (h:Int) (hk:o.Kind=6) (ha:0≤o.A∧o.A≤5) (hc : -1≤o.C∧o.C≤5) (hh:h=0∨h∈lv x.S) (hw:wts x.Q o.A=false) (hz:z=a2m x o.A.toNat h o.C):Fm x o z v
 | pair (h u:Int) (r:Tb × Int × Int) (hk:o.Kind=8) (hl:h∈lv x.S) (hu:u=0∨u∈lv x.S) (hr:T9 x.T h u=some r) (h0:r.2.2=0) (hz:z=a5S x u r.1 r.2.1):Fm x o z v
 | same (hk:o.Kind=10) (hz:z=x):Fm x o z v
theorem Fm.ks{x z:Hp}{o:g9}{v:Int}(hx:M2 x)(f:Fm x o z v)(hk:o.Kind≠1):Ks x.S z.S:=by
 have hR:=hx.sh.sr;cases f with
 | new i hF hk'=>exact absurd hk' hk
 | root h _ ha hh hz=>rw[hz];exact a01 hR _ _
 | field h n u _ hl hn hu hz=>rw[hz];exact b6r hR hl hn u
 | weak h _ ha hc hh hw hz=>rw[hz];exact c0B hx (by omega) h _
 | pair h u r _ hl hu hr h0 hz=>rw[hz];exact b9U hR u _ _
 | same _ hz=>rw[hz];exact Ks.refl hR
end Go.Sh
namespace Go.Sh
def anE(p:Int × Int):l7:=⟨p.1,p.2⟩
def anR(p:Int × Int):F6:=⟨p.1,p.2⟩
section
variable{ps:List (List g9)}(hm:Mp ps){x:Hp}(hx:Oh x)(hb:x.S.Serial<7000000000000000000)
include hm hx hb
theorem c5v : -24≤cgn x-((btc x).length:Int)∧cgn x-((btc x).length:Int)≤24:=by
 have h1:=b7e hx.rt hx.sl hx.zr;have h2:(lv x.S).length≤24:=F3 (s7.2 hx.rt.sh.sr);obtain⟨c1,_,_⟩:=b7i hx.rt hx.sl hx.zr;have h3:(lv (col x).S).length≤24:=F3 (s7.2 c1.sh.sr);unfold cgn;split
 ·rename_i e;rw[e];simp;omega
 ·omega
theorem edo(row:List Int):a5H ⟨x,ps⟩ row=some (⟨(er ps x row).1,ps⟩,anE (er ps x row).2):=by
 unfold a5H;rw[(b9l row).1,d6y];unfold er;by_cases h:(a0e row).2=0
 ·rw[if_neg (show ¬(((a0e row).2 != 0)=true) by simp[h]),if_neg (show ¬((a0e row).2≠0) by simp[h])]
  have hc:=b3D h;generalize (a0e row).1=o at hc;unfold a6w eo;by_cases k11:o.Kind=11
  ·rw[if_pos (by simp[k11]),if_pos k11]
   refine Eq.trans (b:=(W7 x).bind λv4=>some (⟨v4.1,ps⟩,⟨u5 (v4.2.2-v4.2.1),0⟩)) rfl ?_;obtain⟨b1,b2⟩:=c5v hm hx hb;rw[d1v hx.rt hx.sl hx.zr,d6y];dsimp only;rw[C6 (by omega) (by omega)]
   rfl
  ·rw[if_neg (by simp[k11]),if_neg k11]
   by_cases k12:o.Kind=12
   ·rw[if_pos (by simp[k12]),if_pos k12]
    refine Eq.trans (b:=(a24 x ps o.A).bind λv5=>some (⟨v5.1,ps⟩,⟨v5.2.1,v5.2.2.2⟩)) rfl ?_;rw[k12] at hc;obtain⟨a0,a2⟩:=c2E hc;rw[drain_eq hx hm a0 (by omega) (by omega),d6y]
    rfl
   ·rw[if_neg (by simp[k12]),if_neg k12]
    refine Eq.trans (b:=(x4 x o).bind λv3=>some (⟨v3.1,ps⟩,⟨v3.2.1,v3.2.2⟩)) rfl ?_;rw[(a6N hx.rt hx.sl hx.zr (by omega) o).mc,d6y]
    rfl
 ·rw[if_pos (by simpa using h),if_pos h]
  rfl
theorem rdo(row:List Int):c1K ⟨hO x,psR ps⟩ row=some (⟨hO (er ps x row).1,psR ps⟩,anR (er ps x row).2):=by
 unfold c1K;rw[(b9l row).2,d6y];unfold er;by_cases h:(a0e row).2=0
 ·rw[if_neg (show ¬(((a0e row).2 != 0)=true) by simp[h]),if_neg (show ¬((a0e row).2≠0) by simp[h])]
  have hc:=b3D h;generalize (a0e row).1=o at hc;unfold eo;by_cases k11:o.Kind=11
  ·rw[if_pos (by simp[k11,b3l]),if_pos k11]
   obtain⟨b1,b2⟩:=c5v hm hx hb;dsimp only;rw[d3T hx.rt hx.sl hx.zr,d6y];dsimp only;rw[C6 (by omega) (by omega)]
   rfl
  ·rw[if_neg (by simp[k11,b3l]),if_neg k11]
   by_cases k12:o.Kind=12
   ·rw[if_pos (by simp[k12,b3l]),if_pos k12]
    rw[k12] at hc;obtain⟨a0,a2⟩:=c2E hc;refine Eq.trans (b:=(a9b (hO x) (psR ps) o.A).bind λv3=>some (⟨v3.1,psR ps⟩,⟨v3.2.1,v3.2.2.2⟩)) rfl ?_;rw[c8Y hx hm a0 (by omega) (by omega),d6y]
    rfl
   ·rw[if_neg (by simp[k12,b3l]),if_neg k12]
    refine Eq.trans (b:=(D4 (hO x) (opR o)).bind λv3=>some (⟨v3.1,psR ps⟩,⟨v3.2.1,v3.2.2⟩)) rfl ?_;rw[(a6N hx.rt hx.sl hx.zr (by omega) o).rf,d6y]
    rfl
 ·rw[if_pos (by simpa using h),if_pos h]
  rfl
end
section
variable{ps:List (List g9)}(hm:Mp ps){x:Hp}(hx:Oh x)
include hm hx
theorem b1L{rows:List (List Int)}{k:Nat}(hk:k<rows.length):ers ps x (rows.take (k+1))=((er ps (ers ps x (rows.take k)).1 rows[k]).1,(ers ps x (rows.take k)).2 ++ [(er ps (ers ps x (rows.take k)).1 rows[k]).2]):=by
 rw[List.take_succ_eq_append_getElem hk,c5R]
theorem d5M(rows:List (List Int))(hl:rows.length≤1000)(hb:x.S.Serial<6000000000000000000):a4d ⟨x,ps⟩ rows=some (⟨(ers ps x rows).1,ps⟩,(ers ps x rows).2.map anE):=by
 unfold a4d;simp only[jn];refine M4 rows.length (λk s=>s=((⟨(ers ps x (rows.take k)).1,ps⟩:n9),(ers ps x (rows.take k)).2.map anE)) (by omega) rfl (λk s hk hs=>.inl ⟨_,?_,rfl⟩) (λs hs=>⟨s,if_neg (by simp),by rw[hs,List.take_length]⟩)
 subst hs;obtain⟨o1,o2⟩:=b4s hm hx (rows.take k) (by simp;omega)
 have hlen:=c2M ps x (rows.take k);have hkl:(rows.take k).length=k:=by simp;omega
 dsimp only;rw[if_pos (by simpa using hk),o9 hk,d6y,edo hm o1 (by rw[hkl] at o2;omega),d6y,A2 (by omega) (by simp[hlen];omega),d6y,l5,b1L hm hx hk]
 simp
theorem d6g(rows:List (List Int))(hl:rows.length≤1000)(hb:x.S.Serial<6000000000000000000):b3T ⟨hO x,psR ps⟩ rows=some (⟨hO (ers ps x rows).1,psR ps⟩,(ers ps x rows).2.map anR):=by
 unfold b3T;simp only[jn];refine M4 rows.length (λk s=>s=((⟨hO (ers ps x (rows.take k)).1,psR ps⟩:B1),(ers ps x (rows.take k)).2.map anR)) (by omega) rfl (λk s hk hs=>.inl ⟨_,?_,rfl⟩) (λs hs=>⟨s,if_neg (by simp),by rw[hs,List.take_length]⟩)
 subst hs;obtain⟨o1,o2⟩:=b4s hm hx (rows.take k) (by simp;omega)
 have hlen:=c2M ps x (rows.take k);have hkl:(rows.take k).length=k:=by simp;omega
 dsimp only;rw[if_pos (by simpa using hk),o9 hk,d6y,rdo hm o1 (by rw[hkl] at o2;omega),d6y,A2 (by omega) (by simp[hlen];omega),d6y,l5,b1L hm hx hk]
 simp
end
def tal(x:Hp):A4:=⟨ctO x.S.S.a8 0,ctO x.S.S.a8 1,ctO x.S.S.a8 2,ctO x.S.S.a8 3⟩
theorem d0d{s:a7}(hR:SR s):Q7 s.S=some ⟨ctO s.S.a8 0,ctO s.S.a8 1,ctO s.S.a8 2,ctO s.S.a8 3⟩:=by
 unfold Q7;simp only[jn];have hlen:=hR.len;refine M4 s.S.a8.length (λk t=>t=⟨ctO (s.S.a8.take k) 0,ctO (s.S.a8.take k) 1,ctO (s.S.a8.take k) 2,ctO (s.S.a8.take k) 3⟩) (by omega) (by simp[ctO]) (λk t hk ht=>.inl ?_) (λt ht=>⟨_,by simp;rfl,by rw[ht,List.take_length]⟩)
 have hc:=hR.cell k hk;rw[E5 hk] at hc;subst ht;simp only[Int.ofNat_lt,hk,decide_true,if_true,o9 hk,d6y];have hle:∀j,ctO (s.S.a8.take k) j≤24:=λj=>Nat.le_trans List.countP_le_length (by simp;omega)
 have h0:=hle 0;have h1:=hle 1;have h2:=hle 2;have h3:=hle 3;rw[List.take_succ_eq_append_getElem hk];simp only[c5F];refine⟨_,?_,rfl⟩;have hst:s.S.a8[k].State=0∨s.S.a8[k].State=1∨s.S.a8[k].State=2∨s.S.a8[k].State=3:=by omega
 rcases hst with e | e | e | e <;> rw[e] <;> simp[A4.ix,A4.l,A4.st,ix] <;> rw[l5,l5] <;> simp
section
variable{ps:List (List g9)}{x:Hp}(hx:M2 x)
include hx
theorem d4c:a1K ⟨x,ps⟩=some (tal x):=by
 unfold a1K;dsimp only;rw[d0d hx.sh.sr,d6y];rfl
theorem c5M:a1J ⟨x,ps⟩=some (srs x):=by
 have hR:=hx.sh.sr;have l24:(lv x.S).length≤24:=F3 (s7.2 hR);unfold a1J;simp only[jn];rw[a1W (s7.2 hR),d6y];refine M4 (lv x.S).length (λk l=>l=((lv x.S).take k).map λh=>ser x h) (by omega) rfl (λk l hk hl=>.inl ⟨_,?_,rfl⟩) (λl hl=>⟨l,if_neg (by simp),?_⟩)
 ·subst hl;dsimp only;have:=H4 hR (List.getElem_mem hk);rw[if_pos (by simpa using hk),o9 hk,d6y,c7s hx.sh (by omega),d6y,A2 (by omega) (by simp;omega),d6y,l5,List.take_succ_eq_append_getElem hk,List.map_append]
  rfl
 ·subst hl;rw[List.take_length];show (a9i (srs x)).bind _=_;have:=c97 (x:=x) hR;unfold a9i;rw[if_pos (by omega),c7y hR]
  rfl
theorem d2Y:b6R ⟨hO x,psR ps⟩=some (srs x):=by
 have hR:=hx.sh.sr;have l24:(lv x.S).length≤24:=F3 (s7.2 hR);unfold b6R;show (Q6 (sO x.S)).bind _=_;rw[a5r (s7.2 hR),d6y];simp only[jn];refine M4 (lv x.S).length (λk l=>l=((lv x.S).take k).map λh=>ser x h) (by omega) rfl (λk l hk hl=>.inl ⟨_,?_,rfl⟩) (λl hl=>⟨l,if_neg (by simp),?_⟩)
 ·subst hl;dsimp only;have:=H4 hR (List.getElem_mem hk);rw[if_pos (by simpa using hk),o9 hk,d6y,c7r hx.sh (by omega),d6y,A2 (by omega) (by simp;omega),d6y,l5,List.take_succ_eq_append_getElem hk,List.map_append]
  rfl
 ·subst hl;rw[List.take_length];rfl
theorem d1B(hS:SL x):a3G ⟨x,ps⟩=some (x.Q.L.isEmpty&&decide (gbg x = [])):=by
 unfold a3G;dsimp only;rw[b7q,d6y,d1u hx hS];cases x.Q.L.isEmpty <;> rfl
theorem d3c(hS:SL x):b6S ⟨hO x,psR ps⟩=some (x.Q.L.isEmpty&&decide (gbg x = [])):=by
 unfold b6S;dsimp only;rw[c2K,d6y,d3R hx hS];cases x.Q.L.isEmpty <;> rfl
end
end Go.Sh
namespace Go.Sh
theorem Rs.oh{x:Hp}{n:Nat}(h:Rs x n):Oh x:=⟨h.rt,h.sl,h.zr⟩
theorem d3s(l:List (List g9)):∃b,a8E l=some b∧(b=true→l.length≤10∧∀p∈l,p.length≤10):=by
 unfold a8E;simp only[jn];refine b5P (Q:=λb=>b=true→l.length≤10∧(∀p∈l,p.length≤10)) (min l.length 10) (λk=>∀h:k<l.length,(l[k]).length≤10) (by have:min l.length 10≤10:=Nat.min_le_right ..;omega) (λk hk=>?_) ?_ (λhP=>?_) (λhP=>?_)
 ·have hkl:k<l.length:=by omega
  have hk10:k<10:=by omega
  have c:((decide (((k:Nat):Int)<(l.length:Int)))&&(decide (((k:Nat):Int)<10)))=true:=by simp;omega
  by_cases q:(l[k]).length≤10
  ·refine⟨_,?_,.inl ⟨λ_=>q,rfl⟩⟩;rw[if_pos c,o9 hkl,d6y,if_neg (by simp;omega),l5]
  ·refine⟨_,?_,.inr ⟨λh=>q (h hkl),rfl⟩⟩;rw[if_pos c,o9 hkl,d6y,if_pos (by simp;omega)]
 ·rw[if_neg (by simp;omega)]
 ·refine⟨_,rfl,λh=>?_⟩;have h10:l.length≤10:=by have:=of_decide_eq_true h;omega
  refine⟨h10,λp hp=>?_⟩;obtain⟨k,hk,rfl⟩:=List.getElem_of_mem hp;exact hP k (by omega) hk
 ·exact⟨false,rfl,λh=>by cases h⟩
theorem c93(l:List (List Int))(m:Int):∃b,a2K l m=some b∧(b=true→(l.length:Int)≤m):=by
 unfold a2K;simp only[jn];refine b5P (Q:=λb=>b=true→(l.length:Int)≤m) (min l.length 200) (λk=>∀h:k<l.length,(l[k]).length≤10) (by have:min l.length 200≤200:=Nat.min_le_right ..;omega) (λk hk=>?_) ?_ (λhP=>?_) (λhP=>?_)
 ·have hkl:k<l.length:=by omega
  have hk10:k<200:=by omega
  have c:((decide (((k:Nat):Int)<(l.length:Int)))&&(decide (((k:Nat):Int)<200)))=true:=by simp;omega
  by_cases q:(l[k]).length≤10
  ·refine⟨_,?_,.inl ⟨λ_=>q,rfl⟩⟩;rw[if_pos c,o9 hkl,d6y,if_neg (by simp;omega),l5]
  ·refine⟨_,?_,.inr ⟨λh=>q (h hkl),rfl⟩⟩;rw[if_pos c,o9 hkl,d6y,if_pos (by simp;omega)]
 ·rw[if_neg (by simp;omega)]
 ·exact⟨_,rfl,λh=>of_decide_eq_true h⟩
 ·exact⟨false,rfl,λh=>by cases h⟩
theorem d4y{n last places:Int}{ps:List (List g9)}(hl:ps.length≤12)(hp:∀p∈ps,p.length≤12) :
  (∃e,O8 n last places ps=some (⟨c4j,[]⟩,e)∧b8n n last places (psR ps)=some (⟨hO c4j,[]⟩,e)∧(e=13∨e=1∧¬((1≤n∧n≤24)∧(0≤last∧last≤9)∧1≤places∧places≤8))) ∨
  (∃k p:Nat,n=k∧places=p∧(1≤k∧k≤24)∧Mp ps∧Rs (nwH k last p) 0∧O8 n last places ps=some (⟨nwH k last p,ps⟩,0)∧b8n n last places (psR ps)=some (⟨hO (nwH k last p),psR ps⟩,0)):=by
 have e1:a37 ps=some (a6S ps):=c62 (by omega) hp
 have e2:a9a (psR ps)=some (a6S ps):=c1B (by omega) hp
 unfold O8 b8n;rw[e1,e2,d6y,d6y];cases hq:a6S ps;·exact .inl ⟨13,rfl,rfl,.inl rfl⟩
 ·simp only[Bool.not_true,Bool.false_eq_true,if_false];by_cases h:(1≤n∧n≤24)∧(0≤last∧last≤9)∧1≤places∧places≤8
  ·right;obtain⟨h1,h2,h3⟩:=h;obtain⟨k,rfl⟩:∃k:Nat,n=k:=⟨n.toNat,by omega⟩
   obtain⟨p,rfl⟩:∃p:Nat,places=p:=⟨places.toNat,by omega⟩
   obtain⟨a1,a2,hx,hS,hz⟩:=c6a (k:=k) (p:=p) (l:=last) (by omega) h2 (by omega)
   refine⟨k,p,rfl,rfl,by omega,(d4t hq).1,⟨hx,hS,hz,Int.le_refl _⟩,?_,?_⟩
   ·rw[a1,d6y,hx.sh.r6];rfl
   ·rw[a2,d6y,show (hO (nwH k last p)).Roots.length=6 from hx.sh.r6];rfl
  ·left;have a1:a1S n last places=some c4j:=by
    unfold a1S;rw[if_pos (by simp;omega)]
    rfl
   have a2:b1x n last places=some (hO c4j):=by
    unfold b1x;rw[if_pos (by simp;omega)]
    rfl
   refine⟨1,?_,?_,.inr ⟨rfl,h⟩⟩;·rw[a1];rfl
   ·rw[a2];rfl
theorem d3d{x:Hp}{n:Nat}(hx:Rs x n)(hn:n≤1000000){ps:List (List g9)}(hm:Mp ps){rows:List (List Int)}(hl:rows.length≤1000){r:B1 × List F6}(h:b3T ⟨hO x,psR ps⟩ rows=some r) :
  a4d ⟨x,ps⟩ rows=some (⟨hOI r.1.X,ps⟩,r.2.map λa=>⟨a.V,a.E⟩)∧Rs (hOI r.1.X) (n+201*rows.length)∧(ers ps x rows).1=hOI r.1.X∧(ers ps x rows).2=r.2.map λa=>(a.V,a.E):=by
 have hs:=hx.ser;have e:=d6g hm hx.oh rows hl (by omega)
 rw[h] at e;have e:=Option.some.inj e;obtain⟨o1,o2⟩:=b4s hm hx.oh rows (by omega)
 have a1:(ers ps x rows).1=hOI r.1.X:=by rw[e,d1R]
 have a2:(ers ps x rows).2=r.2.map λa=>(a.V,a.E):=by
  rw[e,List.map_map];conv=>lhs;rw[←List.map_id (ers ps x rows).2]
  exact List.map_congr_left λp _=>rfl
 refine⟨?_,⟨a1▸o1.rt,a1▸o1.sl,a1▸o1.zr,?_⟩,a1,a2⟩
 ·rw[d5M hm hx.oh rows hl (by omega),a1,a2,List.map_map]
  congr 1
 ·have:(hOI r.1.X).S.Serial≤x.S.Serial+201*(rows.length:Int):=a1▸o2;show (hOI r.1.X).S.Serial≤((n+201*rows.length:Nat):Int);omega
def c7j:List (List Int):=[[1,0,1,(-1)],[5,0,0,0],[3,0,0,0],[11,0,0,0],[11,0,0,0],[12,9,0,0],[2,0],[4,0,1,0]]
def d6f:B1 × List F6:=(b3T ⟨hO (nwH 4 5 8),[]⟩ c7j).getD (⟨hO c4j,[]⟩,[])
theorem d2n:Mp []:=λ_ h=>by cases h
theorem c94:a2L=some true:=by
 obtain⟨a1,a2⟩:=d3e (k:=4) (p:=8) (l:=5) (by decide) (by decide) (by decide)
 obtain⟨b1,b2,_,_⟩:=d3d a2 (by decide) d2n (rows:=c7j) (by decide) (r:=d6f) (by kernel_rfl)
 unfold a2L;refine bnd (a:=((⟨nwH 4 5 8,[]⟩:n9),(0:Int))) (by unfold O8;refine bnd (a:=true) (by kernel_rfl) ?_;refine bnd a1 ?_;kernel_rfl) ?_
 refine bnd b1 ?_;dsimp only;rw[c5M b2.rt,d4c b2.rt,d1B b2.rt b2.sl,←d2Y (ps:=[]) b2.rt,←d3c (ps:=[]) b2.rt b2.sl];kernel_rfl
end Go.Sh
namespace Go.Sh
theorem d1w{x:Hp}(hx:M2 x)(hS:SL x)(hz:zr x = []):Sv x.S (col x).S:=by
 unfold col;split;·exact c5s hx.sh.sr (a2t hx) (a1P hx)
 ·have key:∀k,k≤(btc x).length→Sv x.S (((btc x).take k).foldl quH x).S:=by
   intro k;induction k with
   | zero=>exact λ_=>Sv.refl _
   | succ k ih=>
    intro hk;obtain⟨_,h2,_,h4,_⟩:=b8M hx hS hz (k:=k) (by omega)
    rw[List.take_succ_eq_append_getElem (by omega),List.foldl_append]
    exact (ih (by omega)).trans (c66 h2.sh.sr h4)
  have:=key (btc x).length (Nat.le_refl _);rwa [List.take_length] at this
theorem d3V(ps:List (List g9)){p:Hp × Int}(hx:Oh p.1)(hb:0≤p.2)(hs:p.1.S.Serial+p.2<9223372036854775807):∀n,Sv p.1.S (dN ps n p).1.S:=by
 intro n;induction n with
 | zero=>exact Sv.refl _
 | succ n ih=>
  obtain⟨a1,a2,a3,a4⟩:=b4m ps hx hb hs n;rw[b0L];by_cases c:can ps (dN ps n p)
  ·obtain⟨t,ts,e,q⟩:=c;rw[a5P ps e,if_pos q];have hc:((prg ps t.Prog).length:Int)+1≤(dN ps n p).2:=by unfold cst at q;omega
   have:=(c2J a1 e ps (by omega)).2.1.sv
   exact ih.trans this
  ·rw[c9s ps c];exact ih
theorem d4b{ps:List (List g9)}(hm:Mp ps){x:Hp}(hx:Oh x)(hb:x.S.Serial<7000000000000000000)(row:List Int):Sv x.S (er ps x row).1.S:=by
 unfold er;split;·exact Sv.refl _
 ·rename_i h;have hc:=b3D (Classical.not_not.1 h);unfold eo;split;·exact d1w hx.rt hx.sl hx.zr
  ·split
   ·rename_i k12;rw[k12] at hc;obtain⟨a0,a2⟩:=c2E hc;exact d3V ps (p:=(x,(a0e row).1.A)) hx a0 (by show x.S.Serial+(a0e row).1.A<_;omega) _
   ·exact (c5I hx.rt hx.sl hx.zr (by omega) _).sv
theorem c5P{ps:List (List g9)}(hm:Mp ps){x:Hp}(hx:Oh x)(hb:x.S.Serial<7000000000000000000)(row:List Int):(er ps x row).1.S.S.a8.length=x.S.S.a8.length:=(d4b hm hx hb row).1
theorem c5Q{ps:List (List g9)}(hm:Mp ps){x:Hp}(hx:Oh x)(rows:List (List Int))(hl:rows.length≤1000)(hb:x.S.Serial<6000000000000000000):∀k,k≤rows.length→(ers ps x (rows.take k)).1.S.S.a8.length=x.S.S.a8.length:=by
 intro k;induction k with
 | zero=>exact λ_=>rfl
 | succ k ih=>
  intro hk;obtain⟨o1,o2⟩:=b4s hm hx (rows.take k) (by simp;omega)
  have hkl:(rows.take k).length=k:=by simp;omega
  rw[b1L hm hx (by omega)]
  show (er ps (ers ps x (rows.take k)).1 _).1.S.S.a8.length=_;rw[c5P hm o1 (by rw[hkl] at o2;omega),ih (by omega)]
end Go.Sh
namespace Go.Sh
theorem d4Y{n:Int}(h0:0≤n)(h1:n≤255):u5 n=n:=C6 (by omega) (by omega)
theorem d4f{l:List (List g9)}{rows:List (List Int)}{m:Int}{K:Option Bool}(h:l.length≤10→(∀p∈l,p.length≤10)→(rows.length:Int)≤m→K=some true) :
  ((a8E l).bind λv1=>(u4 ((!v1)==false) false (a2K rows m)).bind λv2=>(u4 (((!v1)||(!v2))==false) false a2L).bind λv3=>if (((!v1)||(!v2))||(!v3)) then (a2L).bind λv4=>some v4 else K)=some true:=by
 obtain⟨b,h1,h2⟩:=d3s l;obtain⟨c,h3,h4⟩:=c93 rows m;rw[h1,d6y,c94];cases b;·rfl
 ·rw[show u4 ((!true)==false) false (a2K rows m)=a2K rows m from rfl,h3,d6y];cases c;·rfl
  ·exact h (h2 rfl).1 (h2 rfl).2 (h4 rfl)
theorem d5W{n last:Int}(h0:0≤n)(h1:n≤255){ps:List (List g9)}(hl:ps.length≤12)(hp:∀p∈ps,p.length≤12)(hL:0≤last∧last≤9) :
  (O8 (u5 (1+n % 24)) last 8 ps=some (⟨c4j,[]⟩,13))∨(∃k:Nat,1+n % 24=k∧(1≤k∧k≤24)∧Mp ps∧Rs (nwH k last 8) 0∧O8 (u5 (1+n % 24)) last 8 ps=some (⟨nwH k last 8,ps⟩,0)):=by
 have hw:u5 (1+n % 24)=1+n % 24:=C6 (by omega) (by omega)
 rw[hw];rcases d4y (n:=1+n % 24) (last:=last) (places:=8) (ps:=ps) hl hp with ⟨e,e1,_,e3⟩ | ⟨k,p,hk,hpp,hk2,hm,hr,e1,_⟩
 ·rcases e3 with rfl | ⟨_,h⟩
  ·exact .inl e1
  ·exact absurd ⟨by omega,hL,by omega,by omega⟩ h
 ·obtain rfl:p=8:=by omega
  exact .inr ⟨k,hk,hk2,hm,hr,e1⟩
theorem d0U{n:Int}(h0:0≤n)(h1:n≤255){b:Int}(hb:0<b):rem (u5 n) b=some (n % b):=by rw[d4Y h0 h1,a9d h0 hb]
theorem d0c{x:Hp}(hR:SR x.S):u5 (u5 (u5 ((tal x).a+(tal x).b)+(tal x).c)+(tal x).d)=(x.S.S.a8.length:Int):=by
 have h:=c8U (c7w hR);have l24:=hR.len;show u5 (u5 (u5 ((ctO x.S.S.a8 0:Int)+ctO x.S.S.a8 1)+ctO x.S.S.a8 2)+ctO x.S.S.a8 3)=_;rw[C6 (n:=(ctO x.S.S.a8 0:Int)+ctO x.S.S.a8 1) (by omega) (by omega),C6 (n:=(ctO x.S.S.a8 0:Int)+ctO x.S.S.a8 1+ctO x.S.S.a8 2) (by omega) (by omega),C6 (by omega) (by omega)]
 omega
theorem engineTallies{n last:Int}{l:List (List g9)}{rows:List (List Int)}(h0:0≤n)(h1:n≤255)(g0:0≤last)(g1:last≤255):a2c n last l rows=some true:=by
 unfold a2c;refine d4f λhl hp hr=>?_;have hp12:∀p∈l,p.length≤12:=λp q=>by have:=hp p q;omega
 rw[d0U h0 h1 (by decide),d6y,d0U g0 g1 (by decide),d6y]
 rcases d5W (last:=last % 10) h0 h1 (ps:=l) (by omega) hp12 (by omega) with e1 | ⟨k,hk,hk2,hm,hr0,e1⟩
 ·rw[e1,d6y];rfl
 ·have hs:=hr0.ser;have hw:u5 (1+n % 24)=1+n % 24:=C6 (by omega) (by omega)
  rw[e1,d6y];dsimp only;rw[if_neg (by simp)]
  simp only[jn];refine M4 rows.length (λk' s=>s=(⟨(ers l (nwH k (last % 10) 8) (rows.take k')).1,l⟩:n9)) (by omega) rfl (λj s hj hs'=>.inl ⟨_,?_,rfl⟩) (λs _=>⟨.inr (),if_neg (by simp),rfl⟩)
  subst hs';obtain⟨o1,o2⟩:=b4s hm hr0.oh (rows.take j) (by simp;omega)
  have hjl:(rows.take j).length=j:=by simp;omega
  rw[hjl] at o2;have hb:(ers l (nwH k (last % 10) 8) (rows.take j)).1.S.Serial<7000000000000000000:=by omega
  obtain⟨p1,p2⟩:=d0A hm o1 hb rows[j];have hR:=p1.rt.sh.sr;have hc:(er l (ers l (nwH k (last % 10) 8) (rows.take j)).1 rows[j]).1.S.S.a8.length=k:=by
   rw[c5P hm o1 hb,c5Q hm hr0.oh rows (by omega) (by omega) j (by omega)]
   show (List.replicate k _).length=k;simp
  dsimp only;rw[if_pos (by simpa using hj),o9 hj,d6y,edo hm o1 hb,d6y,d4c p1.rt,d6y]
  dsimp only;rw[d4d p1.rt.sh,d6y,d0c hR,hc,hw,hk];have c1:((!true)||((k:Int) != (k:Int)))=false:=by simp
  rw[c1,beq_self_eq_true,U7,c5M p1.rt,d6y];have c2:(false||(((srs (er l (ers l (nwH k (last % 10) 8) (rows.take j)).1 rows[j]).1).length:Int) != (tal (er l (ers l (nwH k (last % 10) 8) (rows.take j)).1 rows[j]).1).b))=false:=by
   unfold srs tal;rw[List.length_map,d2i hR];simp
  rw[c2,beq_self_eq_true,U7,c85 p1.rt.sh,d6y,U7,c1M p1.rt p1.sl,d6y];simp only[Bool.not_true,Bool.or_self,beq_self_eq_true,U7,d6y];rw[c4J hR,d6y,decide_eq_true p1.zr];simp only[Bool.not_true,Bool.or_self,Bool.false_eq_true,if_false];rw[l5,b1L hm hr0.oh hj]
end Go.Sh
namespace Go.Sh
end Go.Sh
