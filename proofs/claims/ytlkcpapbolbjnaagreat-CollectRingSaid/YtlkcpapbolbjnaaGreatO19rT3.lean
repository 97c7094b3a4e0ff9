/-
 More of the theory.
-/
import Derived.Test.YtlkcpapbolbjnaaGreatO19rT2
set_option linter.unusedVariables false
set_option linter.unusedSimpArgs false
set_option linter.unusedSectionVars false
namespace Go.Sh
abbrev opR(o:k8):X5:=⟨o.Kind,o.A,o.B,o.C⟩
structure Dn (x:Hp) (o:k8) (z:Hp) (v:Int):Prop where
 rt:O0 z
 sl:SL z
 ev:Ev x z
 cw:Cw x z (if o.Kind=6 then o.A else -1)
 mc:p7 x o=some (a3R z,v,0)
 rf:A8 (hO x) (opR o)=some (hO (a3R z),v,0)
def Er(x:Hp)(o:k8)(e:Int):Prop:=e≠0∧p7 x o=some (x,0,e)∧A8 (hO x) (opR o)=some (hO x,0,e)
theorem c8o{x:Hp}(hx:O0 x)(hS:SL x){i:Nat}(hi:i<x.S.S.a8.length)(h0:(ce x.S i).State=0){n:Nat}(hn:n≤4){p:Int}(hp : -1≤p∧p≤5):SL (wS x (mkS x.S i n p)):=λk hk=>by
 have hR:=hx.sh.sr
 have hk':k∈lv (mkS x.S i n p):=hk
 show (ob (mkS x.S i n p) k).Strong≤_
 rw[b9p hR hi h0 hn hp] at hk'
 rcases List.mem_append.1 hk' with q | q
 ·rw[b4u hR hi h0 hn hp q];exact hS k q
 ·rw[List.mem_singleton.1 q,b0F hR hi h0 hn hp]
  show (0:Int)≤_
  decide
theorem b0V{y:Hp}(hy:O0 y){a:Int}(ha:0≤a∧a≤5){h:Int}(hh:h=0∨h∈lv y.S):sd (a3R (Q4 y a.toNat h)) a=h∧ser (a3R (Q4 y a.toNat h)) h=ser y h:=by
 have hz:=a4h hy (r:=a.toNat) (by omega) hh
 have st:=b7s hz
 have w:=a3G hz
 have e1:(a3R (Q4 y a.toNat h)).Roots=y.Roots.set a.toNat h:=st.rt.trans (a8Z y a.toNat h).1
 have h6:=hy.sh.r6
 have e2:sd (a3R (Q4 y a.toNat h)) a=h:=by
  unfold sd
  rw[if_neg (by omega),e1,List.getD_eq_getElem?_getD,List.getElem?_set_self (by omega)]
  rfl
 refine⟨e2,?_⟩
 have k:=b3a hy.sh.sr a.toNat h
 rcases b1q w.sh a with q | q
 ·rw[e2] at q
  subst q
  rw[b9T w.sh,b9T hy.sh]
 ·rw[e2] at q
  have h1:=(st.ob h q).1
  have h2:=st.lv h q
  rw[k.lv] at h2
  exact h1.trans (k.ob h h2)
section
variable{x:Hp}{a b c:Int}
theorem a6e{o:k8}{y:Hp}{e:Int}(he:e≠0):doR x o (y,e)=some (x,0,e):=by
 unfold doR
 rw[if_pos (by simpa using he)]
theorem c5s{z:Hp}(hz:O0 z)(hS:SL z){k:Int}(hk:k≠5∧k≠6∧k≠8∧k≠10):doR x ⟨k,a,b,c⟩ (z,0)=some (a3R z,ser (a3R z) (sd (a3R z) a),0):=by
 unfold doR P3
 rw[if_neg (by simp),a7P hz hS,d1e]
 simp only[jn]
 rw[if_neg (by simp;omega),if_neg (by simp;omega)]
 have:(k==8)=false:=by simp;omega
 rw[this,if_neg (by simp),if_neg (by simp;omega),b81 (a3G hz).sh]
 rfl
theorem b8P{o:k8}{v e:Int}(he:e≠0):y7 ⟨x,o⟩ v e=some (x,e):=by
 unfold y7
 rw[if_pos (by simpa using he)]
theorem c2Y{y:g5}{v e:Int}(he:e≠0):rT y a (v,e)=some (y,0,e):=by
 unfold rT
 rw[if_pos (by simpa using he)]
theorem c0K{y z:g5}{v e:Int}(he:e≠0):rO y (z,v,e)=some (y,0,e):=by
 unfold rO
 rw[if_pos (by simpa using he)]
variable(hx:O0 x)(hS:SL x)
include hx hS
theorem a7T{k:Int}(ha:0≤a∧a≤5){h:Int}(hh:h=0∨h∈lv x.S):y7 ⟨x,⟨k,a,b,c⟩⟩ h 0=some (Q4 x a.toNat h,0):=by
 unfold y7
 rw[if_neg (by simp),c4W hx hS a (a9J hx hS hh),if_neg (by omega),if_pos hh]
 rfl
theorem c8D(ha:0≤a∧a≤5){h:Int}(hh:h=0∨h∈lv x.S):rT (hO x) a (h,0)=some (hO (a3R (Q4 x a.toNat h)),ser x h,0):=by
 have hz:=a4h hx (r:=a.toNat) (by omega) hh
 have zS:=b3b hx.sh.sr hS a.toNat h
 obtain⟨e1,e2⟩:=b0V hx ha hh
 unfold rT
 rw[if_neg (by simp),c3b hx hS a (a9J hx hS hh),if_neg (by omega),if_pos hh,d1e,a99 hz zS,d1e,c7S (a3G hz).sh,e1,e2]
 rfl
theorem a5d{k:Int}(hk:k=2∨k=3∨k=4∨k=7∨k=9)(hc:B3 k a b c=0)(ha:0≤a∧a≤5){h:Int}(hh:h=0∨h∈lv x.S)
  (h1:p7 x ⟨k,a,b,c⟩=doR x ⟨k,a,b,c⟩ (Q4 x a.toNat h,0))(h2:a1Q (hO x) ⟨k,a,b,c⟩=some (h,0)):Dn x ⟨k,a,b,c⟩ (Q4 x a.toNat h) (ser x h):=by
 have hz:=a4h hx (r:=a.toNat) (by omega) hh
 have zS:=b3b hx.sh.sr hS a.toNat h
 obtain⟨e1,e2⟩:=b0V hx ha hh
 refine⟨hz,zS,(b3a hx.sh.sr a.toNat h).ev,Cw.same (a8Z x a.toNat h).2.1 _,?_,?_⟩
 ·rw[h1,c5s hz zS (by omega),e1,e2]
 ·show A8 (hO x) ⟨k,a,b,c⟩=_
  rw[b9G hk hc,h2,d1e,c8D hx hS ha hh]
theorem d2(hc:B3 2 a b c=0):Dn x ⟨2,a,b,c⟩ (Q4 x a.toNat (sd x b)) (ser x (sd x b)):=by
 obtain⟨ha,hb⟩:=c56 hc
 refine a5d hx hS (.inl rfl) hc ha (b1q hx.sh b) ?_ ?_
 ·rw[c9G hc]
  unfold F7
  rw[a5W hx.sh,d1e,a7T hx hS ha (b1q hx.sh b)]
  rfl
 ·unfold a1Q
  rw[if_pos (by rfl),show (hO x).Roots=x.Roots from rfl,b1p hx.sh hb]
  rfl
theorem d3(hc:B3 3 a b c=0):Dn x ⟨3,a,b,c⟩ (Q4 x a.toNat 0) 0:=by
 have ha:=c9y hc
 have:=a5d (b:=b) (c:=c) hx hS (.inr (.inl rfl)) hc ha (h:=0) (.inl rfl) ?_ ?_
 ·rwa [b9T hx.sh] at this
 ·rw[c9H hc]
  unfold V3
  rw[a7T hx hS ha (.inl rfl)]
  rfl
 ·rfl
theorem d4(hc:B3 4 a b c=0):(sd x b=0∧Er x ⟨4,a,b,c⟩ 2)∨(∃e,Y2 x.S (sd x b) c=some (0,e)∧Er x ⟨4,a,b,c⟩ e) ∨
  (sd x b∈lv x.S∧∃n:Nat,c=n∧∃hn:n<(ob x.S (sd x b)).Fields.length,Dn x ⟨4,a,b,c⟩ (Q4 x a.toNat (ob x.S (sd x b)).Fields[n]) (ser x (ob x.S (sd x b)).Fields[n])):=by
 obtain⟨ha,hb,_⟩:=c9z hc
 have hm:p7 x ⟨4,a,b,c⟩=_:=c9I hc
 unfold V4 at hm
 rw[a4S hx.sh,d1e] at hm
 have hr:A8 (hO x) ⟨4,a,b,c⟩=_:=b9G (by omega) hc
 have hnm:a1Q (hO x) ⟨4,a,b,c⟩=(T7 (hO x) b).bind λv2=>if (v2.2 != 0) then some (0,v2.2) else (a3f (hO x).S v2.1 c).bind λv3=>some (v3.1,v3.2):=rfl
 rw[a9c hx.sh hb,d1e] at hnm
 by_cases h0:sd x b=0
 ·refine .inl ⟨h0,by decide,?_,?_⟩
  ·rw[hm]
   unfold asd
   rw[if_pos h0,if_pos (by simp),d1e,a6e (by decide)]
  ·show A8 (hO x) ⟨4,a,b,c⟩=_
   rw[hr,hnm]
   unfold asd
   rw[if_pos h0,if_pos (by simp),d1e,c2Y (by decide)]
 ·have has:asd x b=(sd x b,0):=by unfold asd;rw[if_neg h0]
  rw[has,if_neg (by simp)] at hm hnm
  right
  rcases b1e hx hS (sd x b) c (b1r hx.sh b) with ⟨e,he,f1,f2⟩ | ⟨hl,n,hn0,hn,f1,f2⟩
  ·refine .inl ⟨e,f1,he,?_,?_⟩
   ·rw[hm]
    dsimp only
    rw[f1,d1e,b8P he,d1e,d1e,a6e he]
   ·show A8 (hO x) ⟨4,a,b,c⟩=_
    rw[hr,hnm]
    dsimp only
    rw[show (hO x).S=sO x.S from rfl,f2,d1e,d1e,c2Y he]
  ·refine .inr ⟨hl,n,hn0,hn,?_⟩
   have hv:=hx.sh.fl _ hl _ (List.getElem_mem hn)
   refine a5d hx hS (by omega) hc ha hv ?_ ?_
   ·rw[hm]
    dsimp only
    rw[f1,d1e,a7T hx hS ha hv]
    rfl
   ·rw[hnm]
    dsimp only
    rw[show (hO x).S=sO x.S from rfl,f2]
    rfl
theorem c4i{n:Nat}(hn:n<6):∃h:n<x.a8.length,a5f x.a8 n=some (if x.a8[n].Target=0∨x.a8[n].Intact=false then (0,9) else (x.a8[n].Target,0))∧a9S (hO x).a8 n=some (if x.a8[n].Target=0∨x.a8[n].Intact=false then (0,9) else (x.a8[n].Target,0)):=by
 have c6:=hx.sh.c6
 have hl:n<x.a8.length:=by omega
 have hl2:n<(x.a8.map wcR).length:=by simp;exact hl
 refine⟨hl,?_,?_⟩
 ·unfold a5f a5g
  have:(decide ((n:Int)≥0)&&decide ((n:Int)<(x.a8.length:Int)))=true:=by simp;omega
  rw[this,d1e,if_neg (by simp),n0 hl,d1e]
  by_cases q:x.a8[n].Target=0∨x.a8[n].Intact=false
  ·rw[if_pos q,if_pos (by rcases q with q | q <;> simp[q])]
  ·rw[if_neg q,if_neg (by simpa using q)]
 ·unfold a9S
  show (if _ then _ else (ix (x.a8.map wcR) (n:Int)).bind _)=_
  rw[if_neg (by simp[hO];omega),n0 hl2,d1e,List.getElem_map]
  by_cases q:x.a8[n].Target=0∨x.a8[n].Intact=false
  ·rw[if_pos q,if_pos (by rcases q with q | q <;> simp[wcR,q])]
  ·rw[if_neg q,if_neg (by simpa[wcR] using q)]
   rfl
theorem d7(hc:B3 7 a b c=0):∃h:b.toNat<x.a8.length,((x.a8[b.toNat].Intact=false∧Er x ⟨7,a,b,c⟩ 9) ∨
  (x.a8[b.toNat].Intact=true∧Dn x ⟨7,a,b,c⟩ (Q4 x a.toNat x.a8[b.toNat].Target) (ser x x.a8[b.toNat].Target))):=by
 obtain⟨ha,hb⟩:=c9C hc
 obtain⟨n,rfl⟩:∃n:Nat,b=n:=⟨b.toNat,by omega⟩
 obtain⟨hl,l1,l2⟩:=c4i hx hS (n:=n) (by omega)
 rw[Int.toNat_natCast]
 refine⟨hl,?_⟩
 have hm:p7 x ⟨7,a,n,c⟩=_:=c9L hc
 unfold T0 at hm
 rw[show a5f (n7.mk x ⟨7,a,n,c⟩).x.a8 (n7.mk x ⟨7,a,n,c⟩).o.B=_ from l1,d1e] at hm
 have hr:A8 (hO x) ⟨7,a,n,c⟩=_:=b9G (by omega) hc
 have hnm:a1Q (hO x) ⟨7,a,n,c⟩=(a9S (hO x).a8 n).bind λv4=>some (v4.1,v4.2):=rfl
 rw[l2,d1e] at hnm
 have cl:=hx.sh.cl n hl
 cases hI:x.a8[n].Intact
 ·left
  rw[if_pos (.inr hI)] at hm hnm
  refine⟨rfl,by decide,?_,?_⟩
  ·rw[hm]
   dsimp only
   rw[b8P (by decide),d1e,d1e]
   exact a6e (e:=9) (by decide)
  ·show A8 (hO x) ⟨7,a,n,c⟩=_
   rw[hr,hnm,d1e,c2Y (by decide)]
 ·right
  have ht:=(cl.2.2.2.2 hI).1
  have ht0:x.a8[n].Target≠0:=λe=>a73 hx.sh.sr (e▸ht)
  rw[if_neg (by simp[ht0,hI])] at hm hnm
  refine⟨rfl,a5d hx hS (by omega) hc ha (.inr ht) ?_ hnm⟩
  rw[hm]
  dsimp only
  rw[a7T hx hS ha (.inr ht)]
  rfl
theorem d9(hc:B3 9 a b c=0):(sd x b=0∧Er x ⟨9,a,b,c⟩ 2)∨(sd x b∈lv x.S∧(∀v,¬Has x.T (sd x b) v)∧Er x ⟨9,a,b,c⟩ 9) ∨
  (sd x b∈lv x.S∧∃v,Has x.T (sd x b) v∧Dn x ⟨9,a,b,c⟩ (Q4 x a.toNat v) (ser x v)):=by
 obtain⟨ha,hb⟩:=c9E hc
 have hT:=hx.sh.hr
 have hm:p7 x ⟨9,a,b,c⟩=_:=c9N hc
 unfold Z1 at hm
 rw[a4S hx.sh,d1e] at hm
 have hr:A8 (hO x) ⟨9,a,b,c⟩=_:=b9G (by omega) hc
 have hnm:a1Q (hO x) ⟨9,a,b,c⟩=(T7 (hO x) b).bind λv2=>if (v2.2 != 0) then some (0,v2.2) else (b15 (hO x).T v2.1).bind λv3=>some (v3.1,v3.2):=rfl
 rw[a9c hx.sh hb,d1e] at hnm
 by_cases h0:sd x b=0
 ·refine .inl ⟨h0,by decide,?_,?_⟩
  ·rw[hm]
   unfold asd
   rw[if_pos h0,if_pos (by simp),d1e,a6e (by decide)]
  ·show A8 (hO x) ⟨9,a,b,c⟩=_
   rw[hr,hnm]
   unfold asd
   rw[if_pos h0,if_pos (by simp),d1e,c2Y (by decide)]
 ·have has:asd x b=(sd x b,0):=by unfold asd;rw[if_neg h0]
  have hl:=(b1q hx.sh b).resolve_left h0
  rw[has,if_neg (by simp)] at hm hnm
  dsimp only at hm hnm
  have g2:b15 (hO x).T (sd x b)=(I0 x.T (sd x b)).bind λv=>some (v.1,v.2):=by
   unfold b15
   rw[show (hO x).T=x.T.map J3 from rfl,c22 hT]
  unfold b0t at hm
  rw[g2] at hnm
  right
  by_cases hv:∃v,Has x.T (sd x b) v
  ·obtain⟨v,hv⟩:=hv
   rw[b89 hT hv] at hm hnm
   refine .inr ⟨hl,v,hv,a5d hx hS (by omega) hc ha (.inr (hx.sh.pr _ _ hv).2) ?_ hnm⟩
   rw[hm,d1e,d1e]
   dsimp only
   rw[a7T hx hS ha (.inr (hx.sh.pr _ _ hv).2)]
   rfl
  ·have hv':∀v,¬Has x.T (sd x b) v:=λv q=>hv ⟨v,q⟩
   rw[c0j hT hv'] at hm hnm
   refine .inl ⟨hl,hv',by decide,?_,?_⟩
   ·rw[hm,d1e,d1e]
    dsimp only
    rw[b8P (by decide),d1e,d1e]
    exact a6e (e:=9) (by decide)
   ·show A8 (hO x) ⟨9,a,b,c⟩=_
    rw[hr,hnm,d1e,d1e,d1e]
    exact c2Y (e:=9) (by decide)
end
end Go.Sh
namespace Go.Sh
section
variable{x:Hp}{a b c:Int}
theorem c7Y{z:Hp}(hz:O0 z)(hS:SL z){k:Int}{r:Int}(hk:k=5∧r=c∨(k=6∨k=8)∧r=b):doR x ⟨k,a,b,c⟩ (z,0)=some (a3R z,ser z (sd z r),0):=by
 unfold doR P3
 rw[if_neg (by simp),a7P hz hS,d1e]
 simp only[jn]
 rcases hk with ⟨rfl,rfl⟩ | ⟨rfl | rfl,rfl⟩
 ·rw[if_pos (by rfl),b81 hz.sh]
  rfl
 ·rw[if_neg (by decide),if_pos (by rfl),if_pos (by rfl),b81 hz.sh]
  rfl
 ·rw[if_neg (by decide),if_neg (by decide),if_pos (by rfl),b81 hz.sh]
  rfl
variable(hx:O0 x)(hS:SL x)
include hx hS
theorem c8C{z:Hp}(hz:O0 z)(zS:SL z){h:Int}(hh:h=0∨h∈lv x.S):rO (hO x) (hO z,h,0)=some (hO (a3R z),ser x h,0):=by
 unfold rO
 rw[if_neg (by simp),a99 hz zS,d1e,c5R hx.sh (a9J hx hS hh)]
 rfl
theorem a8T{z:Hp}(hz:O0 z)(zS:SL z)(k:Ks x.S z.S)(er:z.Roots=x.Roots){kd r:Int}(hk:kd=5∧r=c∨(kd=6∨kd=8)∧r=b)(hc:B3 kd a b c=0)(cw:Cw x z (if kd=6 then a else -1))
  (h1:p7 x ⟨kd,a,b,c⟩=doR x ⟨kd,a,b,c⟩ (z,0))(h2:a0Q (hO x) ⟨kd,a,b,c⟩=some (hO z,sd x r,0)):Dn x ⟨kd,a,b,c⟩ z (ser x (sd x r)):=by
 refine⟨hz,zS,k.ev,cw,?_,?_⟩
 ·rw[h1,c7Y hz zS hk,c42 er,c7o hx.sh k (b1q hx.sh r)]
 ·show A8 (hO x) ⟨kd,a,b,c⟩=_
  rw[b9F (by omega) hc,h2,d1e,c8C hx hS hz zS (b1q hx.sh r)]
theorem d5(hc:B3 5 a b c=0):(sd x a=0∧Er x ⟨5,a,b,c⟩ 2)∨(∃e,a1I x (sd x a) b (sd x c)=some (x,e)∧Er x ⟨5,a,b,c⟩ e) ∨
  (sd x a∈lv x.S∧∃n:Nat,b=n∧n<(ob x.S (sd x a)).Fields.length∧Dn x ⟨5,a,b,c⟩ (a1E x (sd x a) n (sd x c)) (ser x (sd x c))):=by
 obtain⟨ha,hb,hcc⟩:=c9A hc
 have hm:p7 x ⟨5,a,b,c⟩=_:=c9J hc
 unfold R3 at hm
 rw[a4S hx.sh,d1e] at hm
 have hr:A8 (hO x) ⟨5,a,b,c⟩=_:=b9F (by omega) hc
 have hnm:a0Q (hO x) ⟨5,a,b,c⟩=(T7 (hO x) a).bind λv4=>if (v4.2 != 0) then some (hO x,0,v4.2) else (a4Z (hO x) c).bind λv5=>(a4Y (hO x) v4.1 b v5).bind λv6=>some (v6.1,v5,v6.2):=rfl
 rw[a9c hx.sh ha,d1e,c3k hx.sh (by omega)] at hnm
 by_cases h0:sd x a=0
 ·have has:asd x a=(0,2):=by unfold asd;rw[if_pos h0]
  rw[has,if_pos (by simp)] at hm hnm
  refine .inl ⟨h0,by decide,?_,?_⟩
  ·rw[hm,d1e]
   exact a6e (e:=2) (by decide)
  ·show A8 (hO x) ⟨5,a,b,c⟩=_
   rw[hr,hnm,d1e]
   exact c0K (e:=2) (by decide)
 ·have has:asd x a=(sd x a,0):=by unfold asd;rw[if_neg h0]
  rw[has,if_neg (by simp)] at hm hnm
  dsimp only at hm hnm
  rw[a5W hx.sh,d1e] at hm
  rw[d1e] at hnm
  right
  rcases c1Q hx hS (sd x a) b (sd x c) (b1r hx.sh a) (b1r hx.sh c) with ⟨e,he,f1,f2⟩ | ⟨hl,hv,n,hn0,hn,f1,f2⟩
  ·refine .inl ⟨e,f1,he,?_,?_⟩
   ·rw[hm,f1,d1e,d1e,a6e he]
   ·show A8 (hO x) ⟨5,a,b,c⟩=_
    rw[hr,hnm,f2,d1e,d1e,c0K he]
  ·refine .inr ⟨hl,n,hn0,hn,a8T hx hS (b49 hx hl hn hv) (c0e hx.sh.sr hS hl _ _) (c0d hx.sh.sr hl hn _) (b1d _ _ _ _).1 (.inl ⟨rfl,rfl⟩) hc (Cw.same (b1d _ _ _ _).2.1 _) ?_ ?_⟩
   ·rw[hm,f1]
    rfl
   ·rw[hnm,f2]
    rfl
theorem d6(hc:B3 6 a b c=0):(sd x b=0∧Er x ⟨6,a,b,c⟩ 2)∨(∃e,Z0 x a (sd x b) c=some (x,e)∧Er x ⟨6,a,b,c⟩ e) ∨
  (wts x.Q a=false∧Dn x ⟨6,a,b,c⟩ (a3K x a.toNat (sd x b) c) (ser x (sd x b))):=by
 obtain⟨ha,hb,hcc⟩:=c9B hc
 have hm:p7 x ⟨6,a,b,c⟩=_:=c9K hc
 unfold O3 at hm
 have hr:A8 (hO x) ⟨6,a,b,c⟩=_:=b9F (by omega) hc
 have key:(p7 x ⟨6,a,b,c⟩=(((Z0 x a (sd x b) c).bind λv1=>some (v1.1,v1.2)).bind (doR x ⟨6,a,b,c⟩))∧a0Q (hO x) ⟨6,a,b,c⟩=(a3A (hO x) a (sd x b) c).bind λv1=>some (v1.1,sd x b,v1.2))∨(sd x b=0∧Er x ⟨6,a,b,c⟩ 2):=by
  by_cases h1:b = -1
  ·subst h1
   left
   rw[b3j hx.sh (r:=-1) (by omega)]
   refine⟨?_,rfl⟩
   rw[hm,if_pos (by rfl)]
  ·rw[if_neg (by simpa using h1),a4S hx.sh,d1e] at hm
   have hnm:a0Q (hO x) ⟨6,a,b,c⟩=(T7 (hO x) b).bind λv4=>if (v4.2 != 0) then some (hO x,0,v4.2) else (a3A (hO x) a v4.1 c).bind λv7=>some (v7.1,v4.1,v7.2):=by
    unfold a0Q
    rw[if_neg (by simp;omega)]
    rfl
   rw[a9c hx.sh (by omega),d1e] at hnm
   by_cases h0:sd x b=0
   ·have has:asd x b=(0,2):=by unfold asd;rw[if_pos h0]
    rw[has,if_pos (by simp)] at hm hnm
    refine .inr ⟨h0,by decide,?_,?_⟩
    ·rw[hm,d1e]
     exact a6e (e:=2) (by decide)
    ·show A8 (hO x) ⟨6,a,b,c⟩=_
     rw[hr,hnm,d1e]
     exact c0K (e:=2) (by decide)
   ·have has:asd x b=(sd x b,0):=by unfold asd;rw[if_neg h0]
    rw[has,if_neg (by simp)] at hm hnm
    exact .inl ⟨hm,hnm⟩
 rcases key with ⟨hm,hnm⟩ | key
 ·right
  rcases c5g hx a (sd x b) c (b1r hx.sh b) hcc with ⟨e,he,f1,f2⟩ | ⟨hh,n,rfl,hn,hw,f1,f2⟩
  ·refine .inl ⟨e,f1,he,?_,?_⟩
   ·rw[hm,f1,d1e,d1e,a6e he]
   ·show A8 (hO x) ⟨6,a,b,c⟩=_
    rw[hr,hnm,f2,d1e,d1e,c0K he]
  ·rw[Int.toNat_natCast]
   obtain⟨r1,r2,_,_⟩:=b8R x n (sd x b) c
   refine .inr ⟨hw,a8T hx hS (b7B hx hn hh hcc hw) (c3x hx hS hn _ _) (c3w hx hn _ _) r1 (.inr ⟨.inl rfl,rfl⟩) hc (by rw[if_pos rfl];exact Cw.set r2) ?_ ?_⟩
   ·rw[hm,f1]
    rfl
   ·rw[hnm,f2]
    rfl
 ·exact .inl key
theorem d8(hc:B3 8 a b c=0):(sd x a=0∧Er x ⟨8,a,b,c⟩ 2)∨(sd x a∈lv x.S∧∃e,a3c x (sd x a) (sd x b)=some (x,e)∧Er x ⟨8,a,b,c⟩ e) ∨
  (sd x a∈lv x.S∧∃r,T3 x.T (sd x a) (sd x b)=some r∧r.2.2=0∧Dn x ⟨8,a,b,c⟩ (a6X x (sd x b) r.1 r.2.1) (ser x (sd x b))):=by
 obtain⟨ha,hb⟩:=c9D hc
 have hm:p7 x ⟨8,a,b,c⟩=_:=c9M hc
 unfold V5 at hm
 rw[a4S hx.sh,d1e] at hm
 have hr:A8 (hO x) ⟨8,a,b,c⟩=_:=b9F (by omega) hc
 have hnm:a0Q (hO x) ⟨8,a,b,c⟩=(T7 (hO x) a).bind λv4=>if (v4.2 != 0) then some (hO x,0,v4.2) else (a4Z (hO x) b).bind λv8=>(a67 (hO x) v4.1 v8).bind λv9=>some (v9.1,v8,v9.2):=rfl
 rw[a9c hx.sh ha,d1e,c3k hx.sh (by omega)] at hnm
 by_cases h0:sd x a=0
 ·have has:asd x a=(0,2):=by unfold asd;rw[if_pos h0]
  rw[has,if_pos (by simp)] at hm hnm
  refine .inl ⟨h0,by decide,?_,?_⟩
  ·rw[hm,d1e]
   exact a6e (e:=2) (by decide)
  ·show A8 (hO x) ⟨8,a,b,c⟩=_
   rw[hr,hnm,d1e]
   exact c0K (e:=2) (by decide)
 ·have has:asd x a=(sd x a,0):=by unfold asd;rw[if_neg h0]
  have hl:=(b1q hx.sh a).resolve_left h0
  rw[has,if_neg (by simp)] at hm hnm
  dsimp only at hm hnm
  rw[a5W hx.sh,d1e] at hm
  rw[d1e] at hnm
  right
  rcases c4K hx hS (sd x a) (sd x b) (b1r hx.sh a) (b1r hx.sh b) with ⟨e,he,f1,f2⟩ | ⟨hl,hv,r,r1,r2,f1,f2⟩
  ·refine .inl ⟨hl,e,f1,he,?_,?_⟩
   ·rw[hm,f1,d1e,d1e,a6e he]
   ·show A8 (hO x) ⟨8,a,b,c⟩=_
    rw[hr,hnm,f2,d1e,d1e,c0K he]
  ·refine .inr ⟨hl,r,r1,r2,a8T hx hS (b60 hx hl hv r1 r2) (c2M hx.sh.sr hS _ _ _) (c2L hx.sh.sr _ _ _) (b2Q _ _ _ _).1 (.inr ⟨.inr rfl,rfl⟩) hc (Cw.same (b2Q _ _ _ _).2.1 _) ?_ ?_⟩
   ·rw[hm,f1]
    rfl
   ·rw[hnm,f2]
    rfl
theorem d10(hz:zr x = [])(hc:B3 10 a b c=0):Dn x ⟨10,a,b,c⟩ x (if sd x a=sd x b then 1 else 0):=by
 obtain⟨ha,hb⟩:=c7W hc
 refine⟨hx,hS,Ev.refl x,Cw.refl x _,?_,?_⟩
 ·rw[c7Z hc]
  unfold L2 doR P3
  rw[d1e,if_neg (by simp),a7P hx hS,d1e]
  simp only[jn]
  rw[if_neg (by decide),if_neg (by decide),if_neg (by decide),if_pos (by rfl),a5W hx.sh,d1e,a5W hx.sh,d1e]
  by_cases q:sd x a=sd x b
  ·rw[if_pos (by simpa using q),if_pos q]
   rfl
  ·rw[if_neg (by simpa using q),if_neg q]
   rfl
 ·show A8 (hO x) ⟨10,a,b,c⟩=_
  rw[c7d hc,show (hO x).Roots=x.Roots from rfl,b1p hx.sh ha,d1e,b1p hx.sh hb,d1e,b7r hz]
  by_cases q:sd x a=sd x b
  ·rw[if_pos (by simpa using q),if_pos q]
  ·rw[if_neg (by simpa using q),if_neg q]
theorem d1(hb:x.S.Serial<9223372036854775807)(hc:B3 1 a b c=0):(∃e,N9 x.S b c=some (x.S,0,e)∧Er x ⟨1,a,b,c⟩ e) ∨
  (b.toNat≤4∧(-1≤c∧c≤5)∧∃i,Fst x.S i∧Dn x ⟨1,a,b,c⟩ (Q4 (wS x (mkS x.S i b.toNat c)) a.toNat (hdl x.S i)) (x.S.Serial+1)):=by
 obtain⟨ha,hbb,hcc⟩:=c9x hc
 have hR:=hx.sh.sr
 have hm:p7 x ⟨1,a,b,c⟩=_:=c9F hc
 unfold O2 at hm
 dsimp only at hm
 have hr:A8 (hO x) ⟨1,a,b,c⟩=_:=c8I hc
 rw[show (hO x).S=sO x.S from rfl] at hr
 rcases c8k hR hb b c with ⟨e,he,f1,f2⟩ | ⟨_,_,i,hF,f1,f2⟩
 ·refine .inl ⟨e,f1,he,?_,?_⟩
  ·rw[hm,f1,d1e,if_pos (by simpa using he),d1e,a6e he]
  ·show A8 (hO x) ⟨1,a,b,c⟩=_
   rw[hr,f2,d1e,if_pos (by simpa using he)]
 ·refine .inr ⟨by omega,hcc,i,hF,?_⟩
  obtain⟨hi,h0,_⟩:=hF
  have hn:b.toNat≤4:=by omega
  have hy:=c2n hx hi h0 hn hcc
  have yS:=c8o hx hS hi h0 hn hcc
  have hh:hdl x.S i=0∨hdl x.S i∈lv (wS x (mkS x.S i b.toNat c)).S:=.inr (by
   show _∈lv (mkS x.S i b.toNat c)
   rw[b9p hR hi h0 hn hcc]
   exact List.mem_append_right _ (List.mem_singleton.2 rfl))
  have hz:=a4h hy (r:=a.toNat) (by omega) hh
  have zS:=b3b hy.sh.sr yS a.toNat (hdl x.S i)
  obtain⟨e1,e2⟩:=b0V hy ha hh
  have e3:ser (wS x (mkS x.S i b.toNat c)) (hdl x.S i)=x.S.Serial+1:=by
   show (ob (mkS x.S i b.toNat c) (hdl x.S i)).Serial=_
   rw[b0F hR hi h0 hn hcc]
  refine⟨hz,zS,(c8n hx hi h0 hn hcc).ks (b3a hy.sh.sr a.toNat _),Cw.same (a8Z (wS x (mkS x.S i b.toNat c)) a.toNat _).2.1 _,?_,?_⟩
  ·rw[hm,f1,d1e,if_neg (by simp)]
   dsimp only
   rw[show y7 ⟨⟨mkS x.S i b.toNat c,x.Roots,x.a8,x.T,x.Q⟩,⟨1,a,b,c⟩⟩ (hdl x.S i) 0=_ from a7T hy yS ha hh,d1e,d1e,c5s hz zS (by omega),e1,e2,e3]
  ·show A8 (hO x) ⟨1,a,b,c⟩=_
   rw[hr,f2,d1e,if_neg (by simp)]
   dsimp only
   rw[show a1f ⟨sO (mkS x.S i b.toNat c),(hO x).Roots,(hO x).a8,(hO x).T,(hO x).Q⟩ a (hdl x.S i)=_ from c3b hy yS a (a9J hy yS hh),if_neg (by omega),if_pos hh,d1e,a99 hz zS,d1e,c7S (a3G hz).sh,e1,e2,e3]
   rfl
end
theorem c59{x:Hp}(hx:O0 x)(hS:SL x)(hz:zr x = [])(hb:x.S.Serial<9223372036854775807)(o:k8):(∃e,Er x o e)∨∃z v,Dn x o z v:=by
 obtain⟨k,a,b,c⟩:=o
 by_cases hc:B3 k a b c=0
 ·have:=c4g hc
  have hk:k=1∨k=2∨k=3∨k=4∨k=5∨k=6∨k=7∨k=8∨k=9∨k=10∨k=11∨k=12:=by omega
  rcases hk with rfl | rfl | rfl | rfl | rfl | rfl | rfl | rfl | rfl | rfl | rfl | rfl
  ·rcases d1 hx hS hb hc with ⟨e,_,h⟩ | ⟨_,_,i,_,h⟩
   ·exact .inl ⟨e,h⟩
   ·exact .inr ⟨_,_,h⟩
  ·exact .inr ⟨_,_,d2 hx hS hc⟩
  ·exact .inr ⟨_,_,d3 hx hS hc⟩
  ·rcases d4 hx hS hc with ⟨_,h⟩ | ⟨e,_,h⟩ | ⟨_,n,_,_,h⟩
   ·exact .inl ⟨_,h⟩
   ·exact .inl ⟨_,h⟩
   ·exact .inr ⟨_,_,h⟩
  ·rcases d5 hx hS hc with ⟨_,h⟩ | ⟨e,_,h⟩ | ⟨_,n,_,_,h⟩
   ·exact .inl ⟨_,h⟩
   ·exact .inl ⟨_,h⟩
   ·exact .inr ⟨_,_,h⟩
  ·rcases d6 hx hS hc with ⟨_,h⟩ | ⟨e,_,h⟩ | ⟨_,h⟩
   ·exact .inl ⟨_,h⟩
   ·exact .inl ⟨_,h⟩
   ·exact .inr ⟨_,_,h⟩
  ·obtain⟨_,⟨_,h⟩ | ⟨_,h⟩⟩:=d7 hx hS hc
   ·exact .inl ⟨_,h⟩
   ·exact .inr ⟨_,_,h⟩
  ·rcases d8 hx hS hc with ⟨_,h⟩ | ⟨_,e,_,h⟩ | ⟨_,r,_,_,h⟩
   ·exact .inl ⟨_,h⟩
   ·exact .inl ⟨_,h⟩
   ·exact .inr ⟨_,_,h⟩
  ·rcases d9 hx hS hc with ⟨_,h⟩ | ⟨_,_,h⟩ | ⟨_,v,_,h⟩
   ·exact .inl ⟨_,h⟩
   ·exact .inl ⟨_,h⟩
   ·exact .inr ⟨_,_,h⟩
  ·exact .inr ⟨_,_,d10 hx hS hz hc⟩
  ·obtain⟨h1,h2⟩:=c1z (x:=x) (a:=a) (b:=b) (c:=c) (.inl rfl) hc
   exact .inl ⟨14,by decide,h1,h2⟩
  ·obtain⟨h1,h2⟩:=c1z (x:=x) (a:=a) (b:=b) (c:=c) (.inr rfl) hc
   exact .inl ⟨14,by decide,h1,h2⟩
 ·obtain⟨h1,h2⟩:=c6a (x:=x) (o:=⟨k,a,b,c⟩) hc
  exact .inl ⟨_,hc,h1,h2⟩
end Go.Sh
namespace Go.Sh
noncomputable def dov(x:Hp)(o:k8):Hp × Int × Int:=(p7 x o).getD (x,0,0)
structure Nxt (x:Hp) (o:k8) (y:Hp) (v e:Int):Prop where
 rt:O0 y
 sl:SL y
 zr:zr y = []
 ev:Ev x y
 cw:Cw x y (if o.Kind=6 then o.A else -1)
 er:e≠0→y=x∧v=0
 mc:p7 x o=some (y,v,e)
 rf:A8 (hO x) (opR o)=some (hO y,v,e)
theorem Dn.nxt{x z:Hp}{o:k8}{v:Int}(d:Dn x o z v):Nxt x o (a3R z) v 0:=by
 have st:=b7s d.rt
 exact⟨a3G d.rt,c44 d.rt d.sl,c0V d.rt,d.ev.stl st,d.cw.trans (st.cw _),λh=>absurd rfl h,d.mc,d.rf⟩
theorem c4s{x:Hp}(hx:O0 x)(hS:SL x)(hz:zr x = [])(hb:x.S.Serial<9223372036854775807)(o:k8):∃y v e,Nxt x o y v e:=by
 rcases c59 hx hS hz hb o with ⟨e,h1,h2,h3⟩ | ⟨z,v,d⟩
 ·exact⟨x,0,e,hx,hS,hz,Ev.refl x,Cw.refl x _,λ_=>⟨rfl,rfl⟩,h2,h3⟩
 ·exact⟨_,_,_,d.nxt⟩
theorem b5x{x:Hp}(hx:O0 x)(hS:SL x)(hz:zr x = [])(hb:x.S.Serial<9223372036854775807)(o:k8):Nxt x o (dov x o).1 (dov x o).2.1 (dov x o).2.2:=by
 obtain⟨y,v,e,h⟩:=c4s hx hS hz hb o
 have:dov x o=(y,v,e):=by unfold dov;rw[h.mc];rfl
 rw[this]
 exact h
noncomputable def runs(x:Hp)(l:List k8):Hp × List Int:=l.foldl (λp o=>((dov p.1 o).1,p.2 ++ [(dov p.1 o).2.1])) (x,[])
theorem b0Y(x:Hp)(l:List k8)(o:k8):runs x (l ++ [o])=((dov (runs x l).1 o).1,(runs x l).2 ++ [(dov (runs x l).1 o).2.1]):=by
 unfold runs
 rw[List.foldl_append]
 rfl
theorem b3h{x:Hp}(hx:O0 x)(hS:SL x)(hz:zr x = [])(l:List k8)(hb:x.S.Serial+l.length<9223372036854775807)(P:Hp→Prop)(h0:P x)
  (hs:∀(y:Hp) (o:k8),o∈l→O0 y→Nxt y o (dov y o).1 (dov y o).2.1 (dov y o).2.2→P y→P (dov y o).1):∀k,k≤l.length →
  O0 (runs x (l.take k)).1∧SL (runs x (l.take k)).1∧zr (runs x (l.take k)).1 = []∧(runs x (l.take k)).1.S.Serial≤x.S.Serial+k∧(runs x (l.take k)).2.length=k∧P (runs x (l.take k)).1
 | 0,_=>⟨hx,hS,hz,by show x.S.Serial≤_;omega,rfl,h0⟩
 | k+1,hk=>by
  obtain⟨a1,a2,a3,a4,a5,a6⟩:=b3h hx hS hz l hb P h0 hs k (by omega)
  have hk':k<l.length:=by omega
  have n:=b5x a1 a2 a3 (by omega) l[k]
  rw[K9 hk',b0Y]
  exact⟨n.rt,n.sl,n.zr,by have:=n.ev.s2;show (dov _ _).1.S.Serial≤_;omega,by simp[a5],hs _ _ (List.getElem_mem hk') a1 n a6⟩
theorem run_eq{x:Hp}(hx:O0 x)(hS:SL x)(hz:zr x = [])(l:List k8)(hl:l.length≤1000)(hb:x.S.Serial+l.length<9223372036854775807) :
  G3 x l=some (runs x l)∧O5 (hO x) (l.map opR)=some (hO (runs x l).1,(runs x l).2):=by
 have all:=b3h hx hS hz l hb (λ_=>True) trivial (λ_ _ _ _ _ _=>trivial)
 constructor
 ·unfold G3
  simp only[jn]
  refine O1 (T:=Hp × List Int) l.length (λk acc=>acc=runs x (l.take k)) (by omega) rfl (λk acc hk hP=>?_) (λacc hP=>?_)
  ·subst hP
   obtain⟨a1,a2,a3,a4,a5,_⟩:=all k (by omega)
   have n:=b5x a1 a2 a3 (by omega) l[k]
   refine .inl ⟨_,?_,rfl⟩
   rw[K9 hk,b0Y]
   show (if _ then _ else _)=_
   rw[if_pos (by simpa using hk),n0 hk,d1e,n.mc,d1e,u4 (by omega) (by rw[a5];simp;omega),d1e,k7]
  ·subst hP
   refine⟨runs x (l.take l.length),?_,?_⟩
   ·show (if _ then _ else _)=_
    rw[if_neg (by simp)]
   ·rw[List.take_length]
 ·unfold O5
  simp only[jn]
  refine O1 (T:=g5 × List Int) (l.map opR).length (λk acc=>acc=(hO (runs x (l.take k)).1,(runs x (l.take k)).2)) (by simp;omega) rfl (λk acc hk hP=>?_) (λacc hP=>?_)
  ·subst hP
   have hk':k<l.length:=by simpa using hk
   obtain⟨a1,a2,a3,a4,a5,_⟩:=all k (by omega)
   have n:=b5x a1 a2 a3 (by omega) l[k]
   refine .inl ⟨_,?_,rfl⟩
   rw[K9 hk',b0Y]
   show (if _ then _ else _)=_
   rw[if_pos (by simpa using hk'),n0 hk,d1e,List.getElem_map]
   dsimp only
   rw[n.rf,d1e,u4 (by omega) (by rw[a5];simp;omega),d1e,k7]
  ·subst hP
   refine⟨(hO (runs x (l.take (l.map opR).length)).1,(runs x (l.take (l.map opR).length)).2),?_,?_⟩
   ·show (if _ then _ else _)=_
    rw[if_neg (by simp)]
   ·rw[List.length_map,List.take_length]
end Go.Sh
namespace Go.Sh
section
variable{x:Hp}(hB:HB x)
include hB
end
end Go.Sh
namespace Go.Sh
def nwH(k:Nat)(l:Int)(p:Nat):Hp:=⟨⟨⟨List.replicate k ⟨0,0,z0⟩,l⟩,0⟩,List.replicate 6 0,List.replicate 6 ⟨0,false,-1⟩,List.replicate p ⟨0,0,0⟩,⟨[],30⟩⟩
end Go.Sh
namespace Go.Sh
end Go.Sh
namespace Go.Sh
section
variable{x:Hp}(hB:HB x)
include hB
end
end Go.Sh
namespace Go.Sh
end Go.Sh
namespace Go.Sh
end Go.Sh
namespace Go.Sh
end Go.Sh
namespace Go.Sh
noncomputable def hdx(x:Hp):List Int:=hld x.S x.T
noncomputable def gbg(x:Hp):List Int:=fls x.S x.T (hdx x)
theorem Y8{x:Hp}{h:Int}:h∈gbg x↔h∈lv x.S∧¬a0g x.S x.T (hdx x) h:=by
 classical
 unfold gbg fls
 rw[List.mem_filter,decide_eq_true_iff]
section
variable{x:Hp}(hx:O0 x)
include hx
theorem a2C:(gbg x).Nodup:=List.Pairwise.filter _ (a9K (o6.2 hx.sh.sr))
theorem a1G:∀d∈gbg x,d∈lv x.S:=λd hd=>(Y8.1 hd).1
theorem b9P{h:Int}(hl:h∈lv x.S)(hs:(ob x.S h).Strong<12):rst x.S x.T h=(R4 (otr x) h:Int):=b6A.2 hx.fair h hl hs
theorem b9b{h:Int}(hl:h∈lv x.S)(ho:h∈otr x):h∈hdx x:=by
 refine b1V.2 ⟨hl,?_⟩
 by_cases hs:(ob x.S h).Strong<12
 ·left
  rw[b9P hx hl hs]
  have:=a1p.2 ⟨λe=>a73 hx.sh.sr (e▸hl),ho⟩
  omega
 ·exact .inr (by omega)
theorem c15{h:Int}(hh:h∈hdx x):h∈lv x.S∧(h∈otr x∨12≤(ob x.S h).Strong):=by
 obtain⟨hl,hs⟩:=b1V.1 hh
 refine⟨hl,?_⟩
 by_cases q:(ob x.S h).Strong<12
 ·rcases hs with hs | hs
  ·rw[b9P hx hl q] at hs
   exact .inl (a1p.1 (by omega)).2
  ·omega
 ·exact .inr (by omega)
theorem c31:∀d∈gbg x,d∉otr x:=λd hd q=>by
 obtain⟨a,b⟩:=Y8.1 hd
 exact b (.base (b9b hx a q) a)
theorem c30:∀h∈lv x.S,h∉gbg x→∀v∈(ob x.S h).Fields,v∉gbg x:=λh hh hn v hv q=>by
 obtain⟨a,b⟩:=Y8.1 q
 have hr:a0g x.S x.T (hdx x) h:=Classical.byContradiction λr=>hn (Y8.2 ⟨hh,r⟩)
 exact b (.step hr (a5J.2 ⟨hv,λe=>a73 hx.sh.sr (e▸a)⟩) a)
theorem c32:∀k v,Has x.T k v→k∉gbg x→v∉gbg x:=λk v hk hn q=>by
 obtain⟨a,b⟩:=Y8.1 q
 have hr:a0g x.S x.T (hdx x) k:=Classical.byContradiction λr=>hn (Y8.2 ⟨(hx.sh.pr k v hk).1,r⟩)
 exact b (.pair hk hr a)
theorem T5:O0 (buH x (gbg x)):=b4b hx (a2C hx) (a1G hx) (c31 hx) (c30 hx) (c32 hx)
end
theorem b29:∀(l:List Int) {x:Hp} (hR:SR x.S) {h:Int} (hh:h∈lv x.S) (hs:12≤(ob x.S h).Strong),12≤(ob (l.foldl N7 x).S h).Strong
 | [],_,_,_,_,hs=>hs
 | v::l,x,hR,h,hh,hs=>by
  have k1:=G7 hR v (f:=a5q) λc=>V1
  refine b29 l (x:=N7 x v) k1.sr (by
   show h∈lv (stO x v a5q).S
   rw[k1.lv];exact hh) ?_
  show 12≤(ob (stO x v a5q).S h).Strong
  rw[b03 (x:=x) hR (h:=v) (f:=a5q) (λc=>V1) hh]
  split
  ·unfold a5q
   rw[if_pos hs]
   omega
  ·exact hs
section
variable{x:Hp}(hx:O0 x)
include hx
theorem b2v{h:Int}:h∈lv (buH x (gbg x)).S↔a0g x.S x.T (hdx x) h:=by
 rw[b7N hx.sh.sr (a2C hx) (a1G hx),List.mem_filter,decide_eq_true_iff,Y8]
 constructor
 ·rintro⟨a,b⟩
  exact Classical.byContradiction λr=>b ⟨a,r⟩
 ·intro r
  exact⟨r.live,λq=>q.2 r⟩
theorem c76{h:Int}(hh:h∈lv (buH x (gbg x)).S):(ob (buH x (gbg x)).S h).Serial=(ob x.S h).Serial∧(ob (buH x (gbg x)).S h).Prog=(ob x.S h).Prog∧(ob (buH x (gbg x)).S h).Fields=(ob x.S h).Fields∧(ob (buH x (gbg x)).S h).Started=(ob x.S h).Started:=by
 have r:=(b2v hx).1 hh
 obtain⟨n,e⟩:=b7O hx.sh.sr (a2C hx) (a1G hx) r.live (λq=>(Y8.1 q).2 r)
 rw[e]
 exact⟨rfl,rfl,rfl,rfl⟩
theorem c1W{h:Int}(hh:h∈lv (buH x (gbg x)).S)(hs:12≤(ob x.S h).Strong):12≤(ob (buH x (gbg x)).S h).Strong:=by
 have r:=(b2v hx).1 hh
 have g:=a1H (gbg x) hx.sh.sr (a2C hx) (a1G hx)
 have hn:h∉gbg x:=λq=>(Y8.1 q).2 r
 refine b29 _ (x:=a4o x (gbg x) (wot x.T (gbg x)).1) g.sr ?_ ?_
 ·show h∈lv (gnL x.S (gbg x))
  rw[g.lv,List.mem_filter]
  exact⟨r.live,by simpa using hn⟩
 ·show 12≤(ob (gnL x.S (gbg x)) h).Strong
  rw[g.ob h r.live hn]
  exact hs
theorem c6o:otr (buH x (gbg x))=otr x:=by
 obtain⟨e1,_,_,e4⟩:=a9d hx.sh.sr (a2C hx) (a1G hx)
 unfold otr
 rw[e1,e4,b2z _ _ _ λt ht=>by
  obtain⟨w,_,rfl,_⟩:=a2W.1 ht
  simp]
theorem c3Z{h:Int}(hh:a0g x.S x.T (hdx x) h):a0g (buH x (gbg x)).S (buH x (gbg x)).T (hdx (buH x (gbg x))) h:=by
 have w:=T5 hx
 obtain⟨_,_,e3,_⟩:=a9d hx.sh.sr (a2C hx) (a1G hx)
 have hlen:(gbg x).length≤1000:=by
  have:=a3w (a2C hx) (a1G hx)
  have:=E8 (o6.2 hx.sh.sr)
  omega
 obtain⟨_,_,_,_,w5,_⟩:=a3M hx.sh.hr (gbg x) hlen
 induction hh with
 | base h1 h2=>
  have hl:=(b2v hx).2 (.base h1 h2)
  refine .base ?_ hl
  rcases (c15 hx h1).2 with q | q
  ·exact b9b w hl (by rw[c6o hx];exact q)
  ·exact b1V.2 ⟨hl,.inr (c1W hx hl q)⟩
 | step q0 q1 q2 ih=>
  refine .step ih ?_ ((b2v hx).2 (.step q0 q1 q2))
  unfold outs at q1 ⊢
  rw[(c76 hx ((b2v hx).2 q0)).2.2.1]
  exact q1
 | pair q1 q0 q2 ih=>
  refine .pair ?_ ih ((b2v hx).2 (.pair q1 q0 q2))
  rw[e3]
  exact (w5 _ _).2 ⟨λq=>(Y8.1 q).2 q0,q1⟩
theorem b6F:gbg (buH x (gbg x)) = []:=List.eq_nil_iff_forall_not_mem.2 λh hh=>by
 obtain⟨a,b⟩:=Y8.1 hh
 exact b (c3Z hx ((b2v hx).1 a))
end
theorem b6u{x:Hp}(hx:O0 x)(hg:gbg x = []):zr x = []:=List.eq_nil_iff_forall_not_mem.2 λh hh=>by
 have hl:=(a1r.1 hh).1
 have hs:=(a1r.1 hh).2
 have hf:=b6k hx hh
 have h0:h≠0:=λe=>a73 hx.sh.sr (e▸hl)
 have r:a0g x.S x.T (hdx x) h:=Classical.byContradiction λr=>by
  have:h∈gbg x:=Y8.2 ⟨hl,r⟩
  rw[hg] at this
  cases this
 unfold nms at hf
 cases r with
 | base h1 h2=>
  rcases (c15 hx h1).2 with q | q
  ·have:=a1p.2 ⟨h0,q⟩;omega
  ·omega
 | step q0 q1 q2=>
  have:=b5q (y:=h) q0.live
  have h1:=a1p.2 ⟨h0,q1⟩
  omega
 | pair q1 q0 q2=>
  have:=b5G q1 h0
  omega
theorem b2w{x:Hp}(hx:O0 x):a3R (buH x (gbg x))=buH x (gbg x):=b7r (b6u (T5 hx) (b6F hx))
end Go.Sh
namespace Go.Sh
theorem c17{c:Int}(h:0≤c):1≤W7 c:=by unfold W7;split <;> (try split) <;> omega
theorem b8s{x:Hp}(hR:SR x.S){h:Int}(hh:h∈lv x.S){k:Int}(hk:k∈lv x.S):(ob (quH x h).S k).Strong=if k=h then W7 (ob x.S k).Strong else (ob x.S k).Strong:=by
 have oko:=I1 hR hh
 have ho:OkO x.S (srt (ob x.S h)):=⟨oko.s1,oko.s2,oko.st,oko.wk,oko.p1,oko.p2,oko.fl⟩
 have r1:=a1k (o:=srt (ob x.S h)) hR hh rfl ho
 have l1:lv (seO x.S h (srt (ob x.S h)))=lv x.S:=a2K (o:=srt (ob x.S h)) hR hh rfl ho
 have hr:=I2 hR hk
 have e1:(ob (seO x.S h (srt (ob x.S h))) k).Strong=(ob x.S k).Strong:=by
  rw[a1T (o:=srt (ob x.S h)) hR hh rfl ho (by omega)]
  split
  ·rename_i e;subst e;rfl
  ·rfl
 have:=b03 (x:=⟨seO x.S h (srt (ob x.S h)),x.Roots,x.a8,x.T,⟨x.Q.L ++ [qtk x h],x.Q.Cap⟩⟩) r1 (h:=h) (f:=W7) (λc=>D2) (k:=k) (by
  show k∈lv (seO x.S h (srt (ob x.S h)))
  rw[l1];exact hk)
 rw[show (ob (quH x h).S k).Strong=_ from this]
 show (if k=h then W7 (ob (seO x.S h (srt (ob x.S h))) k).Strong else (ob (seO x.S h (srt (ob x.S h))) k).Strong)=_
 rw[e1]
theorem c69{x:Hp}(hx:O0 x)(hz:zr x = []){h:Int}(hh:h∈lv x.S):zr (quH x h) = []:=List.eq_nil_iff_forall_not_mem.2 λk hk=>by
 obtain⟨a,b⟩:=a1r.1 hk
 rw[b5K hx.sh.sr hh] at a
 rw[b8s hx.sh.sr hh a] at b
 have h0:=(I1 hx.sh.sr a).st
 have hn:(ob x.S k).Strong≠0:=λq=>by
  have:k∈zr x:=a1r.2 ⟨a,q⟩
  rw[hz] at this
  cases this
 split at b
 ·have:=c17 h0;omega
 ·exact hn b
structure Qd (x y:Hp) (l:List Int):Prop where
 rt:O0 y
 sl:SL y
 zr:zr y = []
 lv:lv y.S=lv x.S
 ob:∀k∈Sh.lv x.S,∃n,Sh.ob y.S k=stg (if k∈l then srt (Sh.ob x.S k) else Sh.ob x.S k) n
 ro:y.Roots=x.Roots
 ce:y.a8=x.a8
 t:y.T=x.T
 q:y.Q=⟨x.Q.L++l.map (qtk x),x.Q.Cap⟩
 ser:y.S.Serial=x.S.Serial
theorem c4Q{x:Hp}(hR:SR x.S){h:Int}(hh:h∈lv x.S):(quH x h).S.Serial=x.S.Serial:=(a7B hR hh).1.ser
theorem b8t:∀(l:List Int) {x:Hp},O0 x→SL x→Sh.zr x = []→l.Nodup→(∀h∈l,h∈Sh.lv x.S∧due (Sh.ob x.S h)=true)→Qd x (l.foldl quH x) l
 | [],x,hx,hS,hz,_,_=>⟨hx,hS,hz,rfl,λk hk=>⟨(Sh.ob x.S k).Strong,by rw[if_neg (by simp)];rfl⟩,rfl,rfl,rfl,by simp,rfl⟩
 | h::l,x,hx,hS,hz,hn,hd=>by
  obtain⟨hl,hdu⟩:=hd h (List.mem_cons_self ..)
  have hR:=hx.sh.sr
  rw[List.nodup_cons] at hn
  have q2:=hdu
  unfold due at q2
  rw[Bool.and_eq_true,decide_eq_true_iff,Bool.not_eq_true'] at q2
  have h1:=b0K hx hl q2.1 q2.2
  have h2:=c2S hR hS hl
  have h3:=c69 hx hz hl
  have lq:=b5K hR hl
  have oq:∀k∈Sh.lv x.S,k≠h→∃n,Sh.ob (quH x h).S k=stg (Sh.ob x.S k) n:=λk hk hne=>by
   obtain⟨n,e⟩:=b2V hR hl hk
   rw[if_neg hne] at e
   exact⟨n,e⟩
  have ih:=b8t l h1 h2 h3 hn.2 λk hk=>by
   obtain⟨a,b⟩:=hd k (List.mem_cons_of_mem _ hk)
   obtain⟨n,e⟩:=oq k a λe=>hn.1 (e▸hk)
   refine⟨by rw[lq];exact a,?_⟩
   rw[e]
   exact b
  obtain⟨_,k1,k2,k3,k4⟩:=a7B hR hl
  refine⟨ih.rt,ih.sl,ih.zr,ih.lv.trans lq,λk hk=>?_,ih.ro.trans k1,ih.ce.trans k2,ih.t.trans k3,?_,ih.ser.trans (c4Q hR hl)⟩
  ·obtain⟨n,e⟩:=ih.ob k (by rw[lq];exact hk)
   obtain⟨m,e2⟩:=b2V hR hl hk
   refine⟨n,?_⟩
   show Sh.ob (l.foldl quH (quH x h)).S k=_
   rw[e]
   by_cases c:k=h
   ·subst c
    rw[if_neg hn.1,if_pos (List.mem_cons_self ..),e2,if_pos rfl]
   ·rw[if_neg c] at e2
    by_cases c2:k∈l
    ·rw[if_pos c2,if_pos (List.mem_cons_of_mem _ c2),e2]
    ·rw[if_neg c2,if_neg (λq=>by
      rcases List.mem_cons.1 q with r | r
      ·exact c r
      ·exact c2 r),e2]
  ·show (l.foldl quH (quH x h)).Q=_
   rw[ih.q,k4]
   have:l.map (qtk (quH x h))=l.map (qtk x):=List.map_congr_left λk hk=>by
    obtain⟨a,_⟩:=hd k (List.mem_cons_of_mem _ hk)
    obtain⟨n,e⟩:=oq k a λe=>hn.1 (e▸hk)
    show (⟨1,k,(Sh.ob (quH x h).S k).Prog⟩:g7)=⟨1,k,(Sh.ob x.S k).Prog⟩
    rw[e]
   rw[this]
   simp
noncomputable def btc(x:Hp):List Int:=(gbg x).filter λh=>due (Sh.ob x.S h)
noncomputable def col(x:Hp):Hp:=if btc x = [] then buH x (gbg x) else (btc x).foldl quH x
theorem b4U{x:Hp}:∀h∈btc x,h∈Sh.lv x.S∧due (Sh.ob x.S h)=true:=λh hh=>by
 obtain⟨a,b⟩:=List.mem_filter.1 hh
 exact⟨(Y8.1 a).1,b⟩
theorem c1l{x:Hp}(hx:O0 x):(btc x).Nodup:=List.Pairwise.filter _ (a2C hx)
theorem c1m{x:Hp}(hx:O0 x)(hS:SL x)(hz:zr x = []):Qd x ((btc x).foldl quH x) (btc x):=b8t _ hx hS hz (c1l hx) b4U
theorem b4Y{x:Hp}(hx:O0 x)(hS:SL x)(hz:zr x = []):O0 (col x)∧SL (col x)∧zr (col x) = []:=by
 unfold col
 split
 ·exact⟨T5 hx,c1n hx.sh.sr hS (a2C hx) (a1G hx),b6u (T5 hx) (b6F hx)⟩
 ·have q:=c1m hx hS hz
  exact⟨q.rt,q.sl,q.zr⟩
end Go.Sh
namespace Go.Sh
theorem c1x{y:Hp}(h:btc y = []):col y=buH y (gbg y):=by
 unfold col
 rw[if_pos h]
section
variable{x:Hp}(hx:O0 x)
include hx
end
end Go.Sh
namespace Go.Sh
structure Rs (x:Hp) (n:Nat):Prop where
 rt:O0 x
 sl:SL x
 zr:zr x = []
 ser:x.S.Serial≤n
theorem c34{k p:Nat}{l:Int}(hk:1≤k∧k≤24)(hl:0≤l∧l≤9)(hp:1≤p∧p≤8) :
  a4K k l p=some (nwH k l p)∧O0 (nwH k l p)∧SL (nwH k l p)∧zr (nwH k l p) = []:=by
 have e1:a7Q k l=some (nwH k l p).S:=by
  unfold a7Q a0I
  rw[if_neg (by simp;omega),b2G (by omega) (by omega)]
  rfl
 have h3:RtR (sO (nwH k l p).S):=by
  refine⟨by simp[sO,nwH];omega,hl.1,hl.2,by simp[sO,nwH],λi h=>?_,λi h=>?_,λi h q=>?_,λi h k hk q=>?_⟩
  ·simp[sO,cO,nwH];omega
  ·simp[sO,cO,oo,b2e,nwH]
  ·exfalso;simp[sO,cO,oo,Thr,nwH] at q
  ·exfalso;simp[sO,cO,oo,Thr,nwH] at q
 have hR:SR (nwH k l p).S:=o6.1 h3
 have hce:∀i,ce (nwH k l p).S i=⟨0,0,z0⟩:=λi=>by
  unfold ce nwH
  dsimp only
  rw[List.getD_eq_getElem?_getD,List.getElem?_replicate]
  split <;> rfl
 have hlv:lv (nwH k l p).S = []:=List.eq_nil_iff_forall_not_mem.2 λh hh=>by
  obtain⟨i,q⟩:=(a4P hR).1 hh
  have:=q.2.1
  rw[hce] at this
  cases this
 refine⟨?_,⟨⟨hR,(c7v (V:=Int) (λ_ _=>True) hp.1 hp.2).1,rfl,rfl,rfl,Nat.zero_le _,(λt ht=>nomatch ht),List.Pairwise.nil,(λh hh=>.inl (List.mem_replicate.1 hh).2),λh hh=>?_,λa v hv=>?_,λi hi=>?_⟩,λi hi ht=>?_,λh hh=>?_⟩,λh hh=>?_,?_⟩
 ·unfold a4K
  rw[if_neg (by simp;omega),e1,d1e,show mk 8 6 (0:Int)=some (List.replicate 6 0) from rfl,d1e]
  refine bnd (a:=List.replicate 6 ⟨0,false,-1⟩) (by kernel_rfl) ?_
  rw[c6J hp.1 hp.2,d1e]
  refine bnd (a:=⟨[],30⟩) (by kernel_rfl) ?_
  rfl
 ·rw[hlv] at hh;cases hh
 ·obtain⟨i,hi,_⟩:=hv
  have:=hi.2.1
  rw[show (nwH k l p).T=List.replicate p ⟨0,0,0⟩ from rfl,b2S] at this
  cases this
 ·have:(nwH k l p).a8[i]=⟨0,false,-1⟩:=List.getElem_replicate ..
  rw[this]
  exact⟨by decide,by decide,λ_=>rfl,λh=>absurd rfl h,λh=>by cases h⟩
 ·rw[hce] at ht
  rcases ht with h | h <;> cases h
 ·rw[hlv] at hh;cases hh
 ·rw[hlv] at hh;cases hh
 ·unfold zr
  rw[hlv]
  rfl
theorem b8G{k p:Nat}{l:Int}(hk:1≤k∧k≤24)(hl:0≤l∧l≤9)(hp:1≤p∧p≤8):a4K k l p=some (nwH k l p)∧Rs (nwH k l p) 0:=by
 obtain⟨a,b,c,d⟩:=c34 hk hl hp
 exact⟨a,b,c,d,Int.le_refl _⟩
theorem c3d{x:Hp}{n:Nat}(hx:Rs x n)(hn:n≤100000){l:List k8}(hl:l.length≤1000){r:g5 × List Int}(h:O5 (hO x) (l.map opR)=some r):G3 x l=some (hOI r.1,r.2)∧Rs (hOI r.1) (n+l.length):=by
 have hs:=hx.ser
 obtain⟨r1,r2⟩:=run_eq hx.rt hx.sl hx.zr l hl (by omega)
 obtain⟨a1,a2,a3,a4,_,_⟩:=b3h hx.rt hx.sl hx.zr l (by omega) (λ_=>True) trivial (λ_ _ _ _ _ _=>trivial) l.length (Nat.le_refl _)
 rw[List.take_length] at a1 a2 a3 a4
 rw[r2] at h
 have e:=Option.some.inj h
 rw[←e,a6L,r1]
 exact⟨rfl,a1,a2,a3,by omega⟩
end Go.Sh
namespace Go.Sh
section
variable{x:Hp}(hx:O0 x)(hS:SL x)
include hx hS
theorem b4W:D6 x=some (gbg x):=by
 have hB:=c14 hx hS
 unfold D6
 rw[b78 (o6.2 hx.sh.sr) hx.sh.hr hB.tb hB.fb hB.sb]
 rfl
theorem b85:a0R (hO x)=some (gbg x):=by
 have hB:=c14 hx hS
 unfold a0R
 rw[show (hO x).S=sO x.S from rfl,show (hO x).T=x.T.map J3 from rfl,b5e (o6.2 hx.sh.sr) hx.sh.hr hB.tb hB.sb]
 rfl
theorem a9q:(gbg x).length≤24:=Nat.le_trans (List.length_filter_le ..) (E8 (o6.2 hx.sh.sr))
theorem c1k:T2 x=some (btc x):=by
 have hR:=hx.sh.sr
 have hl:=a9q hx hS
 unfold T2
 rw[b4W hx hS,d1e]
 unfold E7
 simp only[jn]
 refine bnd (a:=btc x) ?_ rfl
 refine O1 (gbg x).length (λk b=>b=((gbg x).take k).filter λh=>due (Sh.ob x.S h)) (by omega) rfl (λk b hk hP=>?_) (λb hP=>?_)
 ·subst hP
  have hm:=a1G hx _ (List.getElem_mem hk)
  have hle:(((gbg x).take k).filter λh=>due (Sh.ob x.S h)).length≤24:=Nat.le_trans (List.length_filter_le ..) (by simp;omega)
  refine .inl ⟨_,?_,rfl⟩
  rw[if_pos (by simpa using hk),n0 hk,d1e,K9 hk,List.filter_append]
  unfold a2A
  rw[b0A hR hm,d1e,d1e]
  have e:(decide ((ob x.S (gbg x)[k],(0:Int)).1.Prog≥0) && !(ob x.S (gbg x)[k],(0:Int)).1.Started)=due (ob x.S (gbg x)[k]):=rfl
  rw[e]
  cases hd:due (ob x.S (gbg x)[k])
  ·rw[if_neg (by simp),k7]
   simp[hd]
  ·rw[if_pos rfl,u4 (by omega) (by simp;omega),d1e,k7]
   simp[hd]
 ·subst hP
  refine⟨_,if_neg (by simp),?_⟩
  rw[List.take_length]
  rfl
theorem c5o:a7I (hO x)=some (btc x):=by
 have hR:=hx.sh.sr
 have hl:=a9q hx hS
 unfold a7I
 rw[b85 hx hS,d1e]
 simp only[jn]
 refine O1 (gbg x).length (λk b=>b=((gbg x).take k).filter λh=>due (Sh.ob x.S h)) (by omega) rfl (λk b hk hP=>?_) (λb hP=>?_)
 ·subst hP
  have hm:=a1G hx _ (List.getElem_mem hk)
  have hle:(((gbg x).take k).filter λh=>due (Sh.ob x.S h)).length≤24:=Nat.le_trans (List.length_filter_le ..) (by simp;omega)
  refine .inl ⟨_,?_,rfl⟩
  rw[if_pos (by simpa using hk),n0 hk,d1e,K9 hk,List.filter_append,c1A hx hS (a2h hR hm),d1e,decide_eq_true hm,Bool.true_and]
  cases hd:due (ob x.S (gbg x)[k])
  ·rw[if_neg (by simp),k7]
   simp[hd]
  ·rw[if_pos rfl,u4 (by omega) (by simp;omega),d1e,k7]
   simp[hd]
 ·subst hP
  refine⟨_,if_neg (by simp),?_⟩
  rw[List.take_length]
  rfl
theorem c1q:K4 x=some (decide (gbg x = [])):=by
 unfold K4
 rw[b4W hx hS,d1e]
 congr 1
 cases gbg x <;> simp <;> omega
theorem c5p:a7J (hO x)=some (decide (gbg x = [])):=by
 unfold a7J
 rw[b85 hx hS,d1e]
 congr 1
 cases gbg x <;> simp <;> omega
noncomputable def cgn(x:Hp):Int:=if btc x = [] then ((lv x.S).length:Int)-((lv (col x).S).length:Int) else 0
omit hx hS in
theorem c2i {l:List Int} (hn:l.Nodup) (hm:∀d∈l,d∈lv x.S):lvo x l=l:=by
 have key:∀(l b:List Int),(b++l).Nodup→(∀d∈l,d∈lv x.S)→l.foldl (λb h=>if h∈lv x.S∧h∉b then b ++ [h] else b) b=b++l:=by
  intro l
  induction l with
  | nil=>intro b _ _;simp
  | cons a l ih=>
   intro b hn hm
   rw[List.foldl_cons]
   have ha:a∉b:=λq=>by
    rw[List.nodup_append] at hn
    exact hn.2.2 a q a (List.mem_cons_self ..) rfl
   rw[if_pos ⟨hm a (List.mem_cons_self ..),ha⟩,ih (b ++ [a]) (by simpa using hn) λd hd=>hm d (List.mem_cons_of_mem _ hd)]
   simp
 exact key l [] (by simpa using hn) hm
variable(hz:zr x = [])
include hz
theorem b9V{k:Nat}(hk:k<(btc x).length):(((btc x).take k).foldl quH x)=(((btc x).take k).foldl quH x)∧O0 (((btc x).take k).foldl quH x)∧SL (((btc x).take k).foldl quH x)∧(btc x)[k]∈lv (((btc x).take k).foldl quH x).S∧due (ob (((btc x).take k).foldl quH x).S (btc x)[k])=true:=by
 have hn:=c1l hx
 have q:=b8t ((btc x).take k) hx hS hz ((List.take_sublist ..).nodup hn) λh hh=>b4U h (List.mem_of_mem_take hh)
 obtain⟨a,b⟩:=b4U (btc x)[k] (List.getElem_mem hk)
 refine⟨rfl,q.rt,q.sl,by rw[q.lv];exact a,?_⟩
 obtain⟨n,e⟩:=q.ob _ a
 have hnot:(btc x)[k]∉(btc x).take k:=λh=>by
  have:=K9 hk
  have hs:((btc x).take (k+1)).Nodup:=(List.take_sublist ..).nodup hn
  rw[this,List.nodup_append] at hs
  exact hs.2.2 _ h _ (List.mem_singleton_self _) rfl
 rw[e,if_neg hnot]
 exact b
theorem b82:(btc x).length≤24:=Nat.le_trans (List.length_filter_le ..) (a9q hx hS)
theorem c1w:D5 x=some (col x,((btc x).length:Int),cgn x):=by
 have hR:=hx.sh.sr
 have hl:=b82 hx hS hz
 obtain⟨c1,c2,c3⟩:=b4Y hx hS hz
 unfold D5
 rw[c1k hx hS,d1e]
 simp only[jn]
 refine O1 (btc x).length (λk b=>b=((btc x).take k).foldl quH x) (by omega) rfl (λk b hk hP=>?_) (λb hP=>?_)
 ·subst hP
  obtain⟨_,r1,r2,r3,r4⟩:=b9V hx hS hz hk
  refine .inl ⟨_,?_,rfl⟩
  rw[if_pos (by simpa using hk),n0 hk,d1e,b4A r1 r2 (a2h r1.sh.sr r3),d1e,k7,K9 hk,List.foldl_append]
  unfold quD
  rw[if_pos ⟨r3,r4⟩]
  rfl
 ·subst hP
  refine⟨_,if_neg (by simp),?_⟩
  rw[List.take_length]
  by_cases hb:btc x = []
  ·have e:col x=buH x (gbg x):=c1x hb
   rw[if_neg (by simp[hb])]
   unfold cgn
   rw[if_pos hb,e,hb]
   have h1:=a2C hx
   have h2:=a1G hx
   have hlive:=V2 (o6.2 hR)
   have hlive2:=V2 (o6.2 (T5 hx).sh.sr)
   have l1:=E8 (o6.2 hR)
   have l2:=E8 (o6.2 (T5 hx).sh.sr)
   show (D6 x).bind _=_
   rw[b4W hx hS,d1e,List.foldl_nil,b83 hx h1 h2 (b9O hx) (by rw[a9I hR _ (by have:=a9q hx hS;omega) λh hh=>a2h hR (h2 h hh),c2i h1 h2]),d1e,a7P (T5 hx) (by rw[←e];exact c2),d1e,b2w hx,hlive,d1e,hlive2,d1e,C9 (by omega) (by omega)]
   rfl
  ·have:0<(btc x).length:=List.length_pos_iff.2 hb
   rw[if_pos (by simp;omega)]
   unfold cgn col
   rw[if_neg hb,if_neg hb]
theorem c5q:a2p (hO x)=some (hO (col x),((btc x).length:Int),cgn x):=by
 have hR:=hx.sh.sr
 have hl:=b82 hx hS hz
 obtain⟨c1,c2,c3⟩:=b4Y hx hS hz
 unfold a2p
 rw[c5o hx hS,d1e]
 simp only[jn]
 by_cases hb:btc x = []
 ·have e:col x=buH x (gbg x):=c1x hb
  rw[if_neg (by simp[hb])]
  unfold cgn
  rw[if_pos hb,e,hb]
  have h1:=a2C hx
  have h2:=a1G hx
  have hlive:=a5D (o6.2 hR)
  have hlive2:=a5D (o6.2 (T5 hx).sh.sr)
  have l1:=E8 (o6.2 hR)
  have l2:=E8 (o6.2 (T5 hx).sh.sr)
  rw[b85 hx hS,d1e,b4c hx h1 h2 (b9O hx) (by rw[c1B hR _ (by have:=a9q hx hS;omega) λh hh=>a2h hR (h2 h hh),c2i h1 h2]),d1e,a99 (T5 hx) (by rw[←e];exact c2),d1e,b2w hx,show (hO x).S=sO x.S from rfl,hlive,d1e,show (hO (buH x (gbg x))).S=sO (buH x (gbg x)).S from rfl,hlive2,d1e,C9 (by omega) (by omega)]
  rfl
 ·have hp:0<(btc x).length:=List.length_pos_iff.2 hb
  rw[if_pos (by simp;omega)]
  refine O1 (btc x).length (λk b=>b=hO (((btc x).take k).foldl quH x)) (by omega) rfl (λk b hk hP=>?_) (λb hP=>?_)
  ·subst hP
   obtain⟨_,r1,r2,r3,r4⟩:=b9V hx hS hz hk
   refine .inl ⟨_,?_,rfl⟩
   rw[if_pos (by simpa using hk),n0 hk,d1e,b69 r1 r2 (a2h r1.sh.sr r3),d1e,k7,K9 hk,List.foldl_append]
   unfold quD
   rw[if_pos ⟨r3,r4⟩]
   rfl
  ·subst hP
   refine⟨_,if_neg (by simp),?_⟩
   rw[List.take_length]
   unfold cgn col
   rw[if_neg hb,if_neg hb]
end
end Go.Sh
namespace Go.Sh
end Go.Sh
namespace Go.Sh
section
variable{x:Hp}(hsh:a1V=some true)(hB:HB x)
include hsh hB
end
end Go.Sh
namespace Go.Sh
section
variable{x:Hp}(hsh:a1V=some true)(hB:HB x)
include hsh hB
end
end Go.Sh
namespace Go.Sh
theorem c3T{x:Hp}(hx:O0 x)(hS:SL x)(hz:zr x = []):(col x).S.Serial=x.S.Serial:=by
 unfold col
 split
 ·have g:=a1H (gbg x) hx.sh.sr (a2C hx) (a1G hx)
  exact (a41 ((gbg x).flatMap (outs x.S)++(wot x.T (gbg x)).2) (x:=a4o x (gbg x) (wot x.T (gbg x)).1) g.sr).1.ser.trans g.ser
 ·exact (c1m hx hS hz).ser
theorem b8F{x:Hp}{n:Nat}(hx:Rs x n){r:g5 × Int × Int}(h:a2p (hO x)=some r):D5 x=some (hOI r.1,r.2)∧Rs (hOI r.1) n:=by
 have e:=c5q hx.rt hx.sl hx.zr
 rw[h] at e
 have e:=Option.some.inj e
 obtain⟨c1,c2,c3⟩:=b4Y hx.rt hx.sl hx.zr
 rw[e,a6L,c1w hx.rt hx.sl hx.zr]
 exact⟨rfl,c1,c2,c3,by rw[c3T hx.rt hx.sl hx.zr];exact hx.ser⟩
theorem c7k{x:Hp}{n:Nat}(hx:Rs x n):D6 x=a0R (hO x):=by rw[b4W hx.rt hx.sl,b85 hx.rt hx.sl]
theorem c7j{x:Hp}{n:Nat}(hx:Rs x n):T2 x=a7I (hO x):=by rw[c1k hx.rt hx.sl,c5o hx.rt hx.sl]
theorem c3c{x:Hp}{n:Nat}(hx:Rs x n):K4 x=a7J (hO x):=by rw[c1q hx.rt hx.sl,c5p hx.rt hx.sl]
def c7f(p:Int):List k8:=[(⟨1,0,1,p⟩:k8),(⟨1,1,1,(-1)⟩:k8),(⟨5,0,0,1⟩:k8),(⟨5,1,0,0⟩:k8),(⟨6,0,0,1⟩:k8),(⟨3,0,0,0⟩:k8),(⟨3,1,0,0⟩:k8)]
def b4D(p:Int):g5 × List Int:=(O5 (hO (nwH 4 5 8)) ((c7f p).map opR)).getD (hO c6y,[])
theorem c24(p:Int)(h:O5 (hO (nwH 4 5 8)) ((c7f p).map opR)=some (b4D p)):a7q p=some (hOI (b4D p).1)∧Rs (hOI (b4D p).1) 7:=by
 obtain⟨e1,r0⟩:=b8G (k:=4) (p:=8) (l:=5) (by decide) (by decide) (by decide)
 obtain⟨e2,r2⟩:=c3d r0 (by decide) (l:=c7f p) (by show (7:Nat)≤1000;decide) h
 refine⟨?_,r2⟩
 unfold a7q
 refine bnd e1 ?_
 refine bnd e2 ?_
 rfl
def c3Q(x:g5):g5 × Int × Int:=(a2p (hO (hOI x))).getD (hO c6y,0,0)
theorem c45:a1V=some true:=by
 obtain⟨a1,a2⟩:=c24 (-1) (by kernel_rfl)
 obtain⟨b1,b2⟩:=c24 2 (by kernel_rfl)
 obtain⟨c1,c2⟩:=b8F a2 (r:=c3Q (b4D (-1)).1) (by kernel_rfl)
 obtain⟨d1,d2⟩:=b8F b2 (r:=c3Q (b4D 2).1) (by kernel_rfl)
 obtain⟨e1,e2⟩:=b8F d2 (r:=c3Q (c3Q (b4D 2).1).1) (by kernel_rfl)
 unfold a1V
 refine bnd a1 ?_
 refine bnd c1 ?_
 refine bnd b1 ?_
 refine bnd d1 ?_
 refine bnd e1 ?_
 rw[c7k a2,c3c c2,c7j b2,c3c d2,b1D e2.rt (c14 e2.rt e2.sl)]
 kernel_rfl
end Go.Sh
namespace Go.Sh
def rio:List k8:=[(⟨1,0,1,(-1)⟩:k8),(⟨2,1,0,0⟩:k8)]
def rso:List k8:=[(⟨1,2,1,(-1)⟩:k8),(⟨5,2,0,1⟩:k8),(⟨2,1,2,0⟩:k8)]
def reo:List k8:=[(⟨5,0,0,1⟩:k8),(⟨3,0,0,0⟩:k8),(⟨3,2,0,0⟩:k8)]
def rdo:List k8:=[(⟨3,1,0,0⟩:k8)]
def rnb(x:g5)(l:List k8):g5 × List Int:=(O5 x (l.map opR)).getD (hO c6y,[])
def rgn:Nat→g5
 | 0=>(rnb (hO (nwH 24 3 8)) rio).1
 | i+1=>(rnb (rgn i) rso).1
def rge(k:Nat):g5:=(rnb (rgn k) reo).1
def rgd(k:Nat):Bool→g5
 | true=>rge k
 | false=>(rnb (rge k) rdo).1
theorem c25:(O5 (hO (nwH 24 3 8)) (rio.map opR)).isSome=true:=by kernel_rfl
theorem c3e:(List.range 23).map (λi=>(O5 (rgn i) (rso.map opR)).isSome)=(List.range 23).map λ_=>true:=by kernel_rfl
def rgT(k:Nat)(h:Bool):Option Bool:=
 (O5 (rgn k) (reo.map opR)).bind λa=>
 (O5 a.1 (rdo.map opR)).bind λb=>
 (P6 (rgd k h).S).bind λl=>
 (a2p (rgd k h)).bind λc=>
 (P6 c.1.S).bind λm=>
 (a7J c.1).bind λq=>
 some (((l.length==k+1)&&(c.2.1==0))&&((c.2.2==if h then 0 else ((k+1:Nat):Int))&&((m.length==if h then k+1 else 0)&&q)))
theorem d0o:(rgT 0 false,rgT 0 true)=(some true,some true):=by kernel_rfl
theorem d0p:(rgT 1 false,rgT 1 true)=(some true,some true):=by kernel_rfl
theorem d0q:(rgT 2 false,rgT 2 true)=(some true,some true):=by kernel_rfl
theorem d0r:(rgT 3 false,rgT 3 true)=(some true,some true):=by kernel_rfl
theorem d0s:(rgT 4 false,rgT 4 true)=(some true,some true):=by kernel_rfl
theorem d0t:(rgT 5 false,rgT 5 true)=(some true,some true):=by kernel_rfl
theorem d0u:(rgT 6 false,rgT 6 true)=(some true,some true):=by kernel_rfl
theorem d0v:(rgT 7 false,rgT 7 true)=(some true,some true):=by kernel_rfl
theorem d0w:(rgT 8 false,rgT 8 true)=(some true,some true):=by kernel_rfl
theorem d0x:(rgT 9 false,rgT 9 true)=(some true,some true):=by kernel_rfl
theorem c8L:(rgT 10 false,rgT 10 true)=(some true,some true):=by kernel_rfl
theorem c8M:(rgT 11 false,rgT 11 true)=(some true,some true):=by kernel_rfl
theorem c8N:(rgT 12 false,rgT 12 true)=(some true,some true):=by kernel_rfl
theorem c8O:(rgT 13 false,rgT 13 true)=(some true,some true):=by kernel_rfl
theorem c8P:(rgT 14 false,rgT 14 true)=(some true,some true):=by kernel_rfl
theorem c8Q:(rgT 15 false,rgT 15 true)=(some true,some true):=by kernel_rfl
theorem c8R:(rgT 16 false,rgT 16 true)=(some true,some true):=by kernel_rfl
theorem c8S:(rgT 17 false,rgT 17 true)=(some true,some true):=by kernel_rfl
theorem c8T:(rgT 18 false,rgT 18 true)=(some true,some true):=by kernel_rfl
theorem c8U:(rgT 19 false,rgT 19 true)=(some true,some true):=by kernel_rfl
theorem c8V:(rgT 20 false,rgT 20 true)=(some true,some true):=by kernel_rfl
theorem c8W:(rgT 21 false,rgT 21 true)=(some true,some true):=by kernel_rfl
theorem c8X:(rgT 22 false,rgT 22 true)=(some true,some true):=by kernel_rfl
theorem c8Y:(rgT 23 false,rgT 23 true)=(some true,some true):=by kernel_rfl
theorem rgt{k:Nat}(h:k<24):(rgT k false,rgT k true)=(some true,some true):=by
 rcases (by omega:k=0∨k=1∨k=2∨k=3∨k=4∨k=5∨k=6∨k=7∨k=8∨k=9∨k=10∨k=11∨k=12∨k=13∨k=14∨k=15∨k=16∨k=17∨k=18∨k=19∨k=20∨k=21∨k=22∨k=23) with rfl | rfl | rfl | rfl | rfl | rfl | rfl | rfl | rfl | rfl | rfl | rfl | rfl | rfl | rfl | rfl | rfl | rfl | rfl | rfl | rfl | rfl | rfl | rfl
 ·exact d0o
 ·exact d0p
 ·exact d0q
 ·exact d0r
 ·exact d0s
 ·exact d0t
 ·exact d0u
 ·exact d0v
 ·exact d0w
 ·exact d0x
 ·exact c8L
 ·exact c8M
 ·exact c8N
 ·exact c8O
 ·exact c8P
 ·exact c8Q
 ·exact c8R
 ·exact c8S
 ·exact c8T
 ·exact c8U
 ·exact c8V
 ·exact c8W
 ·exact c8X
 ·exact c8Y
theorem c8Z{k:Nat}(h:k<24)(b:Bool):rgT k b=some true:=by
 have:=rgt h
 rw[Prod.mk.injEq] at this
 cases b
 ·exact this.1
 ·exact this.2
end Go.Sh
namespace Go.Sh
theorem c7h{x:Hp}{n:Nat}(hx:Rs x n)(hn:n≤100000){l:List k8}(hl:l.length≤1000)(h:(O5 (hO x) (l.map opR)).isSome=true):G3 x l=some (hOI (rnb (hO x) l).1,(rnb (hO x) l).2)∧Rs (hOI (rnb (hO x) l).1) (n+l.length):=by
 obtain⟨r,e⟩:=Option.isSome_iff_exists.1 h
 have:rnb (hO x) l=r:=by unfold rnb;rw[e];rfl
 rw[this]
 exact c3d hx hn hl e
def Rr(y:g5)(n:Nat):Prop:=hO (hOI y)=y∧Rs (hOI y) n
theorem b0W{y:g5}{n:Nat}(hy:Rr y n)(hn:n≤100000){l:List k8}(hl:l.length≤1000)(h:(O5 y (l.map opR)).isSome=true):G3 (hOI y) l=some (hOI (rnb y l).1,(rnb y l).2)∧Rr (rnb y l).1 (n+l.length):=by
 obtain⟨e,q⟩:=hy
 have h':(O5 (hO (hOI y)) (l.map opR)).isSome=true:=by rw[e];exact h
 obtain⟨a,b⟩:=c7h q hn hl h'
 rw[e] at a b
 refine⟨a,?_,b⟩
 obtain⟨_,r2⟩:=run_eq q.rt q.sl q.zr l hl (by have:=q.ser;omega)
 rw[e] at r2
 unfold rnb
 rw[r2]
 show hO (hOI (hO _))=hO _
 rw[a6L]
theorem b8z:∀ {k:Nat},k<24→Rr (rgn k) (2+3*k)
 | 0,_=>by
  obtain⟨_,r0⟩:=b8G (k:=24) (p:=8) (l:=3) (by decide) (by decide) (by decide)
  exact (b0W (y:=hO (nwH 24 3 8)) ⟨by rw[a6L],by rw[a6L];exact r0⟩ (by decide) (l:=rio) (by decide) c25).2
 | k+1,h=>by
  have ih:=b8z (k:=k) (by omega)
  have h1:=List.map_inj_left.1 c3e k (List.mem_range.2 (by omega))
  exact (b0W ih (by omega) (l:=rso) (by decide) h1).2
theorem c23{k:Nat}(h:k+1<24):G3 (hOI (rgn k)) rso=some (hOI (rgn (k+1)),(rnb (rgn k) rso).2):=by
 have ih:=b8z (k:=k) (by omega)
 have h1:=List.map_inj_left.1 c3e k (List.mem_range.2 (by omega))
 exact (b0W ih (by omega) (l:=rso) (by decide) h1).1
theorem collectRing{n:Int}{b:Bool}(h0:0≤n)(h1:n≤255):a0x n b=some true:=by
 unfold a0x
 rw[C9 (by omega) (by omega),a7L h0 (by omega),d1e]
 obtain⟨k,hk,hk2⟩:∃k:Nat,p6 (1+n % 24)=((k+1:Nat):Int)∧k<24:=⟨(n % 24).toNat,by rw[C9 (by omega) (by omega)];omega,by omega⟩
 rw[hk]
 obtain⟨e1,r0⟩:=b8G (k:=24) (p:=8) (l:=3) (by decide) (by decide) (by decide)
 have r0':Rr (hO (nwH 24 3 8)) 0:=⟨by rw[a6L],by rw[a6L];exact r0⟩
 have i1:=(b0W r0' (by decide) (l:=rio) (by decide) c25).1
 rw[a6L] at i1
 refine bnd e1 ?_
 refine bnd i1 ?_
 simp only[jn]
 refine b9k (λ(s:Int × Hp)=>∃i:Nat,s.1=((i+1:Nat):Int)∧i≤k∧s.2=hOI (rgn i)) (λs=>k+1-s.1.toNat) ⟨0,rfl,Nat.zero_le _,rfl⟩ (by show k+1-_<_;omega) ?_
 rintro⟨_,_⟩ ⟨i,rfl,hi,rfl⟩
 by_cases q:i<k
 ·refine .inl ⟨(((i+1+1:Nat):Int),hOI (rgn (i+1))),?_,⟨i+1,rfl,q,rfl⟩,by show k+1-_<k+1-_;simp;omega⟩
  dsimp only
  rw[if_pos (by simp;omega)]
  refine bnd (c23 (k:=i) (by omega)) ?_
  rw[k7]
 ·have:i=k:=by omega
  subst this
  refine .inr ⟨hOI (rgn i),if_neg (by simp),?_⟩
  have t:=c8Z hk2 b
  have rk:=b8z hk2
  unfold rgT at t
  cases s1:O5 (rgn i) (reo.map opR) with
  | none=>rw[s1] at t;cases t
  | some a=>
   rw[s1,d1e] at t
   have ea:rnb (rgn i) reo=a:=by unfold rnb;rw[s1];rfl
   obtain⟨m1,re⟩:=b0W rk (by omega) (l:=reo) (by decide) (by rw[s1];rfl)
   cases s2:O5 a.1 (rdo.map opR) with
   | none=>rw[s2] at t;cases t
   | some c=>
    rw[s2,d1e] at t
    rw[ea] at re m1
    obtain⟨m2,rd⟩:=b0W re (by show 2+3*i+3≤_;omega) (l:=rdo) (by decide) (by rw[s2];rfl)
    have key:∀y N,Rr y N→rgd i b=y→(do
      (D5 (hOI y)).bind λv16=>
      (y4 (hOI y).S).bind λv19=>
    (p8 (((((v19.length:Int)==(((i+1:Nat):Int)))&&(v16.2.1==0))&&(v16.2.2==(if b then 0 else ((i+1:Nat):Int))))==true) [] (y4 v16.1.S)).bind λv20=>
    (p8 ((((((v19.length:Int)==(((i+1:Nat):Int)))&&(v16.2.1==0))&&(v16.2.2==(if b then 0 else ((i+1:Nat):Int))))&&((v20.length:Int)==(p6 ((((i+1:Nat):Int))-(if b then 0 else ((i+1:Nat):Int))))))==true) false (K4 v16.1)).bind λv21=>
    (p8 (((((((v19.length:Int)==(((i+1:Nat):Int)))&&(v16.2.1==0))&&(v16.2.2==(if b then 0 else ((i+1:Nat):Int))))&&((v20.length:Int)==(p6 ((((i+1:Nat):Int))-(if b then 0 else ((i+1:Nat):Int))))))&&v21)==true) false a1V).bind λv22=>
    some (((((((v19.length:Int)==(((i+1:Nat):Int)))&&(v16.2.1==0))&&(v16.2.2==(if b then 0 else ((i+1:Nat):Int))))&&((v20.length:Int)==(p6 ((((i+1:Nat):Int))-(if b then 0 else ((i+1:Nat):Int))))))&&v21)&&v22))=some true:=by
     intro y N hy e
     rw[e] at t
     obtain⟨ey,ry⟩:=hy
     have hR:=ry.rt.sh.sr
     have hc:=c5q ry.rt ry.sl ry.zr
     obtain⟨c1,c2,c3⟩:=b4Y ry.rt ry.sl ry.zr
     have hl:=a5D (o6.2 hR)
     rw[show sO (hOI y).S=(hO (hOI y)).S from rfl,ey] at hl
     rw[ey] at hc
     rw[hl,d1e,hc,d1e] at t
     dsimp only at t
     rw[show (hO (col (hOI y))).S=sO (col (hOI y)).S from rfl,a5D (o6.2 c1.sh.sr),d1e,c5p c1 c2,d1e] at t
     have t:=Option.some.inj t
     simp only[Bool.and_eq_true,beq_iff_eq] at t
     obtain⟨⟨t1,t2⟩,t3,t4,t5⟩:=t
     have c0:(((lv (hOI y).S).length:Int)==(((i+1:Nat):Int)))=true:=by rw[t1];simp
     rw[c1w ry.rt ry.sl ry.zr,d1e,V2 (o6.2 hR),d1e,c0,t2,t3]
     simp only[beq_self_eq_true,Bool.and_self,X0]
     rw[V2 (o6.2 c1.sh.sr),d1e]
     have c5:(((lv (col (hOI y)).S).length:Int)==(p6 ((((i+1:Nat):Int))-(if b then 0 else ((i+1:Nat):Int)))))=true:=by
      rw[t4]
      cases b
      ·simp;rfl
      ·simp only[if_true]
       rw[C9 (by omega) (by omega)]
       simp
     rw[c5]
     simp only[beq_self_eq_true,Bool.and_self,X0]
     rw[c1q c1 c2,t5,d1e]
     simp only[beq_self_eq_true,Bool.and_self,X0]
     rw[c45,d1e]
     rfl
    refine bnd m1 ?_
    cases b
    ·refine bnd m2 ?_
     refine Eq.trans ?_ (key _ _ rd (by unfold rgd rge;rw[ea]))
     rfl
    ·refine Eq.trans ?_ (key _ _ re (by unfold rgd rge;rw[ea]))
     rfl
end Go.Sh
