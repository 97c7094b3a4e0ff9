/-
 More of the theory.
-/
import Derived.Test.YtfihndcobnkiaaaGreatM18cT2
set_option linter.unusedVariables false
set_option linter.unusedSimpArgs false
set_option linter.unusedSectionVars false
namespace Go.Sh
abbrev opR(o:code_Op):C0:=⟨o.Kind,o.A,o.B,o.C⟩
structure Dn (x:Hp) (o:code_Op) (z:Hp) (v:Int):Prop where
 rt:V1 z
 sl:SL z
 ev:Ev x z
 cw:Cw x z (if o.Kind=6 then o.A else -1)
 mc:p9 x o=some (a4d z,v,0)
 rf:A6 (hO x) (opR o)=some (hO (a4d z),v,0)
def Er(x:Hp)(o:code_Op)(e:Int):Prop:=e≠0∧p9 x o=some (x,0,e)∧A6 (hO x) (opR o)=some (hO x,0,e)
theorem c8r{x:Hp}(hx:V1 x)(hS:SL x){i:Nat}(hi:i<x.S.S.a7.length)(h0:(ce x.S i).State=0){n:Nat}(hn:n≤4){p:Int}(hp : -1≤p∧p≤5):SL (wS x (mkS x.S i n p)):=λk hk=>by
 have hR:=hx.sh.sr
 have hk':k∈lv (mkS x.S i n p):=hk
 show (ob (mkS x.S i n p) k).Strong≤_
 rw[b9t hR hi h0 hn hp] at hk'
 rcases List.mem_append.1 hk' with q | q
 ·rw[b4t hR hi h0 hn hp q];exact hS k q
 ·rw[List.mem_singleton.1 q,b0r hR hi h0 hn hp]
  show (0:Int)≤_
  decide
theorem b0J{y:Hp}(hy:V1 y){a:Int}(ha:0≤a∧a≤5){h:Int}(hh:h=0∨h∈lv y.S):sd (a4d (Q2 y a.toNat h)) a=h∧ser (a4d (Q2 y a.toNat h)) h=ser y h:=by
 have hz:=a3T hy (r:=a.toNat) (by omega) hh
 have st:=b7p hz
 have w:=a3m hz
 have e1:(a4d (Q2 y a.toNat h)).Roots=y.Roots.set a.toNat h:=st.rt.trans (a8t y a.toNat h).1
 have h6:=hy.sh.r6
 have e2:sd (a4d (Q2 y a.toNat h)) a=h:=by
  unfold sd
  rw[if_neg (by omega),e1,List.getD_eq_getElem?_getD,List.getElem?_set_self (by omega)]
  rfl
 refine⟨e2,?_⟩
 have k:=b3d hy.sh.sr a.toNat h
 rcases b1g w.sh a with q | q
 ·rw[e2] at q
  subst q
  rw[b9T w.sh,b9T hy.sh]
 ·rw[e2] at q
  have h1:=(st.ob h q).1
  have h2:=st.lv h q
  rw[k.lv] at h2
  exact h1.trans (k.ob h h2)
section
variable{x:Hp}{a b c:Int}
theorem a5M{o:code_Op}{y:Hp}{e:Int}(he:e≠0):doR x o (y,e)=some (x,0,e):=by
 unfold doR
 rw[if_pos (by simpa using he)]
theorem c5b{z:Hp}(hz:V1 z)(hS:SL z){k:Int}(hk:k≠5∧k≠6∧k≠8∧k≠10):doR x ⟨k,a,b,c⟩ (z,0)=some (a4d z,ser (a4d z) (sd (a4d z) a),0):=by
 unfold doR O9
 rw[if_neg (by simp),b0R hz hS,d1c]
 simp only[jn]
 rw[if_neg (by simp;omega),if_neg (by simp;omega)]
 have:(k==8)=false:=by simp;omega
 rw[this,if_neg (by simp),if_neg (by simp;omega),b9e (a3m hz).sh]
 rfl
theorem b8W{o:code_Op}{v e:Int}(he:e≠0):z8 ⟨x,o⟩ v e=some (x,e):=by
 unfold z8
 rw[if_pos (by simpa using he)]
theorem c2T{y:g5}{v e:Int}(he:e≠0):rT y a (v,e)=some (y,0,e):=by
 unfold rT
 rw[if_pos (by simpa using he)]
theorem c0C{y z:g5}{v e:Int}(he:e≠0):rO y (z,v,e)=some (y,0,e):=by
 unfold rO
 rw[if_pos (by simpa using he)]
variable(hx:V1 x)(hS:SL x)
include hx hS
theorem a7t{k:Int}(ha:0≤a∧a≤5){h:Int}(hh:h=0∨h∈lv x.S):z8 ⟨x,⟨k,a,b,c⟩⟩ h 0=some (Q2 x a.toNat h,0):=by
 unfold z8
 rw[if_neg (by simp),c4H hx hS a (a9d hx hS hh),if_neg (by omega),if_pos hh]
 rfl
theorem c8K(ha:0≤a∧a≤5){h:Int}(hh:h=0∨h∈lv x.S):rT (hO x) a (h,0)=some (hO (a4d (Q2 x a.toNat h)),ser x h,0):=by
 have hz:=a3T hx (r:=a.toNat) (by omega) hh
 have zS:=b3e hx.sh.sr hS a.toNat h
 obtain⟨e1,e2⟩:=b0J hx ha hh
 unfold rT
 rw[if_neg (by simp),c21 hx hS a (a9d hx hS hh),if_neg (by omega),if_pos hh,d1c,b3n hz zS,d1c,c7U (a3m hz).sh,e1,e2]
 rfl
theorem a4O{k:Int}(hk:k=2∨k=3∨k=4∨k=7∨k=9)(hc:C4 k a b c=0)(ha:0≤a∧a≤5){h:Int}(hh:h=0∨h∈lv x.S)
  (h1:p9 x ⟨k,a,b,c⟩=doR x ⟨k,a,b,c⟩ (Q2 x a.toNat h,0))(h2:a0D (hO x) ⟨k,a,b,c⟩=some (h,0)):Dn x ⟨k,a,b,c⟩ (Q2 x a.toNat h) (ser x h):=by
 have hz:=a3T hx (r:=a.toNat) (by omega) hh
 have zS:=b3e hx.sh.sr hS a.toNat h
 obtain⟨e1,e2⟩:=b0J hx ha hh
 refine⟨hz,zS,(b3d hx.sh.sr a.toNat h).ev,Cw.same (a8t x a.toNat h).2.1 _,?_,?_⟩
 ·rw[h1,c5b hz zS (by omega),e1,e2]
 ·show A6 (hO x) ⟨k,a,b,c⟩=_
  rw[b9K hk hc,h2,d1c,c8K hx hS ha hh]
theorem d2(hc:C4 2 a b c=0):Dn x ⟨2,a,b,c⟩ (Q2 x a.toNat (sd x b)) (ser x (sd x b)):=by
 obtain⟨ha,hb⟩:=c51 hc
 refine a4O hx hS (.inl rfl) hc ha (b1g hx.sh b) ?_ ?_
 ·rw[c9K hc]
  unfold G0
  rw[a5y hx.sh,d1c,a7t hx hS ha (b1g hx.sh b)]
  rfl
 ·unfold a0D
  rw[if_pos (by rfl),show (hO x).Roots=x.Roots from rfl,b1f hx.sh hb]
  rfl
theorem d3(hc:C4 3 a b c=0):Dn x ⟨3,a,b,c⟩ (Q2 x a.toNat 0) 0:=by
 have ha:=c9C hc
 have:=a4O (b:=b) (c:=c) hx hS (.inr (.inl rfl)) hc ha (h:=0) (.inl rfl) ?_ ?_
 ·rwa [b9T hx.sh] at this
 ·rw[c9L hc]
  unfold U6
  rw[a7t hx hS ha (.inl rfl)]
  rfl
 ·rfl
theorem d4(hc:C4 4 a b c=0):(sd x b=0∧Er x ⟨4,a,b,c⟩ 2)∨(∃e,X0 x.S (sd x b) c=some (0,e)∧Er x ⟨4,a,b,c⟩ e) ∨
  (sd x b∈lv x.S∧∃n:Nat,c=n∧∃hn:n<(ob x.S (sd x b)).Fields.length,Dn x ⟨4,a,b,c⟩ (Q2 x a.toNat (ob x.S (sd x b)).Fields[n]) (ser x (ob x.S (sd x b)).Fields[n])):=by
 obtain⟨ha,hb,_⟩:=c9D hc
 have hm:p9 x ⟨4,a,b,c⟩=_:=c9M hc
 unfold U7 at hm
 rw[a4y hx.sh,d1c] at hm
 have hr:A6 (hO x) ⟨4,a,b,c⟩=_:=b9K (by omega) hc
 have hnm:a0D (hO x) ⟨4,a,b,c⟩=(P1 (hO x) b).bind λv2=>if (v2.2 != 0) then some (0,v2.2) else (a1w (hO x).S v2.1 c).bind λv3=>some (v3.1,v3.2):=rfl
 rw[a8I hx.sh hb,d1c] at hnm
 by_cases h0:sd x b=0
 ·refine .inl ⟨h0,by decide,?_,?_⟩
  ·rw[hm]
   unfold asd
   rw[if_pos h0,if_pos (by simp),d1c,a5M (by decide)]
  ·show A6 (hO x) ⟨4,a,b,c⟩=_
   rw[hr,hnm]
   unfold asd
   rw[if_pos h0,if_pos (by simp),d1c,c2T (by decide)]
 ·have has:asd x b=(sd x b,0):=by unfold asd;rw[if_neg h0]
  rw[has,if_neg (by simp)] at hm hnm
  right
  rcases b03 hx hS (sd x b) c (b1h hx.sh b) with ⟨e,he,f1,f2⟩ | ⟨hl,n,hn0,hn,f1,f2⟩
  ·refine .inl ⟨e,f1,he,?_,?_⟩
   ·rw[hm]
    dsimp only
    rw[f1,d1c,b8W he,d1c,d1c,a5M he]
   ·show A6 (hO x) ⟨4,a,b,c⟩=_
    rw[hr,hnm]
    dsimp only
    rw[show (hO x).S=sO x.S from rfl,f2,d1c,d1c,c2T he]
  ·refine .inr ⟨hl,n,hn0,hn,?_⟩
   have hv:=hx.sh.fl _ hl _ (List.getElem_mem hn)
   refine a4O hx hS (by omega) hc ha hv ?_ ?_
   ·rw[hm]
    dsimp only
    rw[f1,d1c,a7t hx hS ha hv]
    rfl
   ·rw[hnm]
    dsimp only
    rw[show (hO x).S=sO x.S from rfl,f2]
    rfl
theorem c36{n:Nat}(hn:n<6):∃h:n<x.a7.length,a4S x.a7 n=some (if x.a7[n].Target=0∨x.a7[n].Intact=false then (0,9) else (x.a7[n].Target,0))∧a6E (hO x).a7 n=some (if x.a7[n].Target=0∨x.a7[n].Intact=false then (0,9) else (x.a7[n].Target,0)):=by
 have c6:=hx.sh.c6
 have hl:n<x.a7.length:=by omega
 have hl2:n<(x.a7.map wcR).length:=by simp;exact hl
 refine⟨hl,?_,?_⟩
 ·unfold a4S a4T
  have:(decide ((n:Int)≥0)&&decide ((n:Int)<(x.a7.length:Int)))=true:=by simp;omega
  rw[this,d1c,if_neg (by simp),n8 hl,d1c]
  by_cases q:x.a7[n].Target=0∨x.a7[n].Intact=false
  ·rw[if_pos q,if_pos (by rcases q with q | q <;> simp[q])]
  ·rw[if_neg q,if_neg (by simpa using q)]
 ·unfold a6E
  show (if _ then _ else (ix (x.a7.map wcR) (n:Int)).bind _)=_
  rw[if_neg (by simp[hO];omega),n8 hl2,d1c,List.getElem_map]
  by_cases q:x.a7[n].Target=0∨x.a7[n].Intact=false
  ·rw[if_pos q,if_pos (by rcases q with q | q <;> simp[wcR,q])]
  ·rw[if_neg q,if_neg (by simpa[wcR] using q)]
   rfl
theorem d7(hc:C4 7 a b c=0):∃h:b.toNat<x.a7.length,((x.a7[b.toNat].Intact=false∧Er x ⟨7,a,b,c⟩ 9) ∨
  (x.a7[b.toNat].Intact=true∧Dn x ⟨7,a,b,c⟩ (Q2 x a.toNat x.a7[b.toNat].Target) (ser x x.a7[b.toNat].Target))):=by
 obtain⟨ha,hb⟩:=c9G hc
 obtain⟨n,rfl⟩:∃n:Nat,b=n:=⟨b.toNat,by omega⟩
 obtain⟨hl,l1,l2⟩:=c36 hx hS (n:=n) (by omega)
 rw[Int.toNat_natCast]
 refine⟨hl,?_⟩
 have hm:p9 x ⟨7,a,n,c⟩=_:=c9P hc
 unfold R9 at hm
 rw[show a4S (o8.mk x ⟨7,a,n,c⟩).x.a7 (o8.mk x ⟨7,a,n,c⟩).o.B=_ from l1,d1c] at hm
 have hr:A6 (hO x) ⟨7,a,n,c⟩=_:=b9K (by omega) hc
 have hnm:a0D (hO x) ⟨7,a,n,c⟩=(a6E (hO x).a7 n).bind λv4=>some (v4.1,v4.2):=rfl
 rw[l2,d1c] at hnm
 have cl:=hx.sh.cl n hl
 cases hI:x.a7[n].Intact
 ·left
  rw[if_pos (.inr hI)] at hm hnm
  refine⟨rfl,by decide,?_,?_⟩
  ·rw[hm]
   dsimp only
   rw[b8W (by decide),d1c,d1c]
   exact a5M (e:=9) (by decide)
  ·show A6 (hO x) ⟨7,a,n,c⟩=_
   rw[hr,hnm,d1c,c2T (by decide)]
 ·right
  have ht:=(cl.2.2.2.2 hI).1
  have ht0:x.a7[n].Target≠0:=λe=>b0n hx.sh.sr (e▸ht)
  rw[if_neg (by simp[ht0,hI])] at hm hnm
  refine⟨rfl,a4O hx hS (by omega) hc ha (.inr ht) ?_ hnm⟩
  rw[hm]
  dsimp only
  rw[a7t hx hS ha (.inr ht)]
  rfl
theorem d9(hc:C4 9 a b c=0):(sd x b=0∧Er x ⟨9,a,b,c⟩ 2)∨(sd x b∈lv x.S∧(∀v,¬Has x.T (sd x b) v)∧Er x ⟨9,a,b,c⟩ 9) ∨
  (sd x b∈lv x.S∧∃v,Has x.T (sd x b) v∧Dn x ⟨9,a,b,c⟩ (Q2 x a.toNat v) (ser x v)):=by
 obtain⟨ha,hb⟩:=c9I hc
 have hT:=hx.sh.hr
 have hm:p9 x ⟨9,a,b,c⟩=_:=c9R hc
 unfold Y2 at hm
 rw[a4y hx.sh,d1c] at hm
 have hr:A6 (hO x) ⟨9,a,b,c⟩=_:=b9K (by omega) hc
 have hnm:a0D (hO x) ⟨9,a,b,c⟩=(P1 (hO x) b).bind λv2=>if (v2.2 != 0) then some (0,v2.2) else (a9x (hO x).T v2.1).bind λv3=>some (v3.1,v3.2):=rfl
 rw[a8I hx.sh hb,d1c] at hnm
 by_cases h0:sd x b=0
 ·refine .inl ⟨h0,by decide,?_,?_⟩
  ·rw[hm]
   unfold asd
   rw[if_pos h0,if_pos (by simp),d1c,a5M (by decide)]
  ·show A6 (hO x) ⟨9,a,b,c⟩=_
   rw[hr,hnm]
   unfold asd
   rw[if_pos h0,if_pos (by simp),d1c,c2T (by decide)]
 ·have has:asd x b=(sd x b,0):=by unfold asd;rw[if_neg h0]
  have hl:=(b1g hx.sh b).resolve_left h0
  rw[has,if_neg (by simp)] at hm hnm
  dsimp only at hm hnm
  have g2:a9x (hO x).T (sd x b)=(I6 x.T (sd x b)).bind λv=>some (v.1,v.2):=by
   unfold a9x
   rw[show (hO x).T=x.T.map J1 from rfl,c2X hT]
  unfold b0c at hm
  rw[g2] at hnm
  right
  by_cases hv:∃v,Has x.T (sd x b) v
  ·obtain⟨v,hv⟩:=hv
   rw[b9h hT hv] at hm hnm
   refine .inr ⟨hl,v,hv,a4O hx hS (by omega) hc ha (.inr (hx.sh.pr _ _ hv).2) ?_ hnm⟩
   rw[hm,d1c,d1c]
   dsimp only
   rw[a7t hx hS ha (.inr (hx.sh.pr _ _ hv).2)]
   rfl
  ·have hv':∀v,¬Has x.T (sd x b) v:=λv q=>hv ⟨v,q⟩
   rw[c0k hT hv'] at hm hnm
   refine .inl ⟨hl,hv',by decide,?_,?_⟩
   ·rw[hm,d1c,d1c]
    dsimp only
    rw[b8W (by decide),d1c,d1c]
    exact a5M (e:=9) (by decide)
   ·show A6 (hO x) ⟨9,a,b,c⟩=_
    rw[hr,hnm,d1c,d1c,d1c]
    exact c2T (e:=9) (by decide)
end
end Go.Sh
namespace Go.Sh
section
variable{x:Hp}{a b c:Int}
theorem c71{z:Hp}(hz:V1 z)(hS:SL z){k:Int}{r:Int}(hk:k=5∧r=c∨(k=6∨k=8)∧r=b):doR x ⟨k,a,b,c⟩ (z,0)=some (a4d z,ser z (sd z r),0):=by
 unfold doR O9
 rw[if_neg (by simp),b0R hz hS,d1c]
 simp only[jn]
 rcases hk with ⟨rfl,rfl⟩ | ⟨rfl | rfl,rfl⟩
 ·rw[if_pos (by rfl),b9e hz.sh]
  rfl
 ·rw[if_neg (by decide),if_pos (by rfl),if_pos (by rfl),b9e hz.sh]
  rfl
 ·rw[if_neg (by decide),if_neg (by decide),if_pos (by rfl),b9e hz.sh]
  rfl
variable(hx:V1 x)(hS:SL x)
include hx hS
theorem c8J{z:Hp}(hz:V1 z)(zS:SL z){h:Int}(hh:h=0∨h∈lv x.S):rO (hO x) (hO z,h,0)=some (hO (a4d z),ser x h,0):=by
 unfold rO
 rw[if_neg (by simp),b3n hz zS,d1c,c5E hx.sh (a9d hx hS hh)]
 rfl
theorem a8n{z:Hp}(hz:V1 z)(zS:SL z)(k:Ks x.S z.S)(er:z.Roots=x.Roots){kd r:Int}(hk:kd=5∧r=c∨(kd=6∨kd=8)∧r=b)(hc:C4 kd a b c=0)(cw:Cw x z (if kd=6 then a else -1))
  (h1:p9 x ⟨kd,a,b,c⟩=doR x ⟨kd,a,b,c⟩ (z,0))(h2:Y5 (hO x) ⟨kd,a,b,c⟩=some (hO z,sd x r,0)):Dn x ⟨kd,a,b,c⟩ z (ser x (sd x r)):=by
 refine⟨hz,zS,k.ev,cw,?_,?_⟩
 ·rw[h1,c71 hz zS hk,c4O er,c7q hx.sh k (b1g hx.sh r)]
 ·show A6 (hO x) ⟨kd,a,b,c⟩=_
  rw[b9J (by omega) hc,h2,d1c,c8J hx hS hz zS (b1g hx.sh r)]
theorem d5(hc:C4 5 a b c=0):(sd x a=0∧Er x ⟨5,a,b,c⟩ 2)∨(∃e,a1o x (sd x a) b (sd x c)=some (x,e)∧Er x ⟨5,a,b,c⟩ e) ∨
  (sd x a∈lv x.S∧∃n:Nat,b=n∧n<(ob x.S (sd x a)).Fields.length∧Dn x ⟨5,a,b,c⟩ (a1n x (sd x a) n (sd x c)) (ser x (sd x c))):=by
 obtain⟨ha,hb,hcc⟩:=c9E hc
 have hm:p9 x ⟨5,a,b,c⟩=_:=c9N hc
 unfold Q9 at hm
 rw[a4y hx.sh,d1c] at hm
 have hr:A6 (hO x) ⟨5,a,b,c⟩=_:=b9J (by omega) hc
 have hnm:Y5 (hO x) ⟨5,a,b,c⟩=(P1 (hO x) a).bind λv4=>if (v4.2 != 0) then some (hO x,0,v4.2) else (a3i (hO x) c).bind λv5=>(a2M (hO x) v4.1 b v5).bind λv6=>some (v6.1,v5,v6.2):=rfl
 rw[a8I hx.sh ha,d1c,c29 hx.sh (by omega)] at hnm
 by_cases h0:sd x a=0
 ·have has:asd x a=(0,2):=by unfold asd;rw[if_pos h0]
  rw[has,if_pos (by simp)] at hm hnm
  refine .inl ⟨h0,by decide,?_,?_⟩
  ·rw[hm,d1c]
   exact a5M (e:=2) (by decide)
  ·show A6 (hO x) ⟨5,a,b,c⟩=_
   rw[hr,hnm,d1c]
   exact c0C (e:=2) (by decide)
 ·have has:asd x a=(sd x a,0):=by unfold asd;rw[if_neg h0]
  rw[has,if_neg (by simp)] at hm hnm
  dsimp only at hm hnm
  rw[a5y hx.sh,d1c] at hm
  rw[d1c] at hnm
  right
  rcases c1M hx hS (sd x a) b (sd x c) (b1h hx.sh a) (b1h hx.sh c) with ⟨e,he,f1,f2⟩ | ⟨hl,hv,n,hn0,hn,f1,f2⟩
  ·refine .inl ⟨e,f1,he,?_,?_⟩
   ·rw[hm,f1,d1c,d1c,a5M he]
   ·show A6 (hO x) ⟨5,a,b,c⟩=_
    rw[hr,hnm,f2,d1c,d1c,c0C he]
  ·refine .inr ⟨hl,n,hn0,hn,a8n hx hS (b4Y hx hl hn hv) (c0g hx.sh.sr hS hl _ _) (c0f hx.sh.sr hl hn _) (b02 _ _ _ _).1 (.inl ⟨rfl,rfl⟩) hc (Cw.same (b02 _ _ _ _).2.1 _) ?_ ?_⟩
   ·rw[hm,f1]
    rfl
   ·rw[hnm,f2]
    rfl
theorem d6(hc:C4 6 a b c=0):(sd x b=0∧Er x ⟨6,a,b,c⟩ 2)∨(∃e,Y0 x a (sd x b) c=some (x,e)∧Er x ⟨6,a,b,c⟩ e) ∨
  (wts x.Q a=false∧Dn x ⟨6,a,b,c⟩ (a3q x a.toNat (sd x b) c) (ser x (sd x b))):=by
 obtain⟨ha,hb,hcc⟩:=c9F hc
 have hm:p9 x ⟨6,a,b,c⟩=_:=c9O hc
 unfold N9 at hm
 have hr:A6 (hO x) ⟨6,a,b,c⟩=_:=b9J (by omega) hc
 have key:(p9 x ⟨6,a,b,c⟩=(((Y0 x a (sd x b) c).bind λv1=>some (v1.1,v1.2)).bind (doR x ⟨6,a,b,c⟩))∧Y5 (hO x) ⟨6,a,b,c⟩=(a06 (hO x) a (sd x b) c).bind λv1=>some (v1.1,sd x b,v1.2))∨(sd x b=0∧Er x ⟨6,a,b,c⟩ 2):=by
  by_cases h1:b = -1
  ·subst h1
   left
   rw[b3l hx.sh (r:=-1) (by omega)]
   refine⟨?_,rfl⟩
   rw[hm,if_pos (by rfl)]
  ·rw[if_neg (by simpa using h1),a4y hx.sh,d1c] at hm
   have hnm:Y5 (hO x) ⟨6,a,b,c⟩=(P1 (hO x) b).bind λv4=>if (v4.2 != 0) then some (hO x,0,v4.2) else (a06 (hO x) a v4.1 c).bind λv7=>some (v7.1,v4.1,v7.2):=by
    unfold Y5
    rw[if_neg (by simp;omega)]
    rfl
   rw[a8I hx.sh (by omega),d1c] at hnm
   by_cases h0:sd x b=0
   ·have has:asd x b=(0,2):=by unfold asd;rw[if_pos h0]
    rw[has,if_pos (by simp)] at hm hnm
    refine .inr ⟨h0,by decide,?_,?_⟩
    ·rw[hm,d1c]
     exact a5M (e:=2) (by decide)
    ·show A6 (hO x) ⟨6,a,b,c⟩=_
     rw[hr,hnm,d1c]
     exact c0C (e:=2) (by decide)
   ·have has:asd x b=(sd x b,0):=by unfold asd;rw[if_neg h0]
    rw[has,if_neg (by simp)] at hm hnm
    exact .inl ⟨hm,hnm⟩
 rcases key with ⟨hm,hnm⟩ | key
 ·right
  rcases c42 hx a (sd x b) c (b1h hx.sh b) hcc with ⟨e,he,f1,f2⟩ | ⟨hh,n,rfl,hn,hw,f1,f2⟩
  ·refine .inl ⟨e,f1,he,?_,?_⟩
   ·rw[hm,f1,d1c,d1c,a5M he]
   ·show A6 (hO x) ⟨6,a,b,c⟩=_
    rw[hr,hnm,f2,d1c,d1c,c0C he]
  ·rw[Int.toNat_natCast]
   obtain⟨r1,r2,_,_⟩:=b83 x n (sd x b) c
   refine .inr ⟨hw,a8n hx hS (b7z hx hn hh hcc hw) (c3m hx hS hn _ _) (c3l hx hn _ _) r1 (.inr ⟨.inl rfl,rfl⟩) hc (by rw[if_pos rfl];exact Cw.set r2) ?_ ?_⟩
   ·rw[hm,f1]
    rfl
   ·rw[hnm,f2]
    rfl
 ·exact .inl key
theorem d8(hc:C4 8 a b c=0):(sd x a=0∧Er x ⟨8,a,b,c⟩ 2)∨(sd x a∈lv x.S∧∃e,a2K x (sd x a) (sd x b)=some (x,e)∧Er x ⟨8,a,b,c⟩ e) ∨
  (sd x a∈lv x.S∧∃r,T0 x.T (sd x a) (sd x b)=some r∧r.2.2=0∧Dn x ⟨8,a,b,c⟩ (a6x x (sd x b) r.1 r.2.1) (ser x (sd x b))):=by
 obtain⟨ha,hb⟩:=c9H hc
 have hm:p9 x ⟨8,a,b,c⟩=_:=c9Q hc
 unfold U8 at hm
 rw[a4y hx.sh,d1c] at hm
 have hr:A6 (hO x) ⟨8,a,b,c⟩=_:=b9J (by omega) hc
 have hnm:Y5 (hO x) ⟨8,a,b,c⟩=(P1 (hO x) a).bind λv4=>if (v4.2 != 0) then some (hO x,0,v4.2) else (a3i (hO x) b).bind λv8=>(a4G (hO x) v4.1 v8).bind λv9=>some (v9.1,v8,v9.2):=rfl
 rw[a8I hx.sh ha,d1c,c29 hx.sh (by omega)] at hnm
 by_cases h0:sd x a=0
 ·have has:asd x a=(0,2):=by unfold asd;rw[if_pos h0]
  rw[has,if_pos (by simp)] at hm hnm
  refine .inl ⟨h0,by decide,?_,?_⟩
  ·rw[hm,d1c]
   exact a5M (e:=2) (by decide)
  ·show A6 (hO x) ⟨8,a,b,c⟩=_
   rw[hr,hnm,d1c]
   exact c0C (e:=2) (by decide)
 ·have has:asd x a=(sd x a,0):=by unfold asd;rw[if_neg h0]
  have hl:=(b1g hx.sh a).resolve_left h0
  rw[has,if_neg (by simp)] at hm hnm
  dsimp only at hm hnm
  rw[a5y hx.sh,d1c] at hm
  rw[d1c] at hnm
  right
  rcases c4A hx hS (sd x a) (sd x b) (b1h hx.sh a) (b1h hx.sh b) with ⟨e,he,f1,f2⟩ | ⟨hl,hv,r,r1,r2,f1,f2⟩
  ·refine .inl ⟨hl,e,f1,he,?_,?_⟩
   ·rw[hm,f1,d1c,d1c,a5M he]
   ·show A6 (hO x) ⟨8,a,b,c⟩=_
    rw[hr,hnm,f2,d1c,d1c,c0C he]
  ·refine .inr ⟨hl,r,r1,r2,a8n hx hS (b6U hx hl hv r1 r2) (c2I hx.sh.sr hS _ _ _) (c2H hx.sh.sr _ _ _) (b2N _ _ _ _).1 (.inr ⟨.inr rfl,rfl⟩) hc (Cw.same (b2N _ _ _ _).2.1 _) ?_ ?_⟩
   ·rw[hm,f1]
    rfl
   ·rw[hnm,f2]
    rfl
theorem d10(hz:zr x = [])(hc:C4 10 a b c=0):Dn x ⟨10,a,b,c⟩ x (if sd x a=sd x b then 1 else 0):=by
 obtain⟨ha,hb⟩:=c7Y hc
 refine⟨hx,hS,Ev.refl x,Cw.refl x _,?_,?_⟩
 ·rw[c72 hc]
  unfold M1 doR O9
  rw[d1c,if_neg (by simp),b0R hx hS,d1c]
  simp only[jn]
  rw[if_neg (by decide),if_neg (by decide),if_neg (by decide),if_pos (by rfl),a5y hx.sh,d1c,a5y hx.sh,d1c]
  by_cases q:sd x a=sd x b
  ·rw[if_pos (by simpa using q),if_pos q]
   rfl
  ·rw[if_neg (by simpa using q),if_neg q]
   rfl
 ·show A6 (hO x) ⟨10,a,b,c⟩=_
  rw[c7h hc,show (hO x).Roots=x.Roots from rfl,b1f hx.sh ha,d1c,b1f hx.sh hb,d1c,c3d hz]
  by_cases q:sd x a=sd x b
  ·rw[if_pos (by simpa using q),if_pos q]
  ·rw[if_neg (by simpa using q),if_neg q]
theorem d1(hb:x.S.Serial<9223372036854775807)(hc:C4 1 a b c=0):(∃e,N5 x.S b c=some (x.S,0,e)∧Er x ⟨1,a,b,c⟩ e) ∨
  (b.toNat≤4∧(-1≤c∧c≤5)∧∃i,Fst x.S i∧Dn x ⟨1,a,b,c⟩ (Q2 (wS x (mkS x.S i b.toNat c)) a.toNat (hdl x.S i)) (x.S.Serial+1)):=by
 obtain⟨ha,hbb,hcc⟩:=c9B hc
 have hR:=hx.sh.sr
 have hm:p9 x ⟨1,a,b,c⟩=_:=c9J hc
 unfold N8 at hm
 dsimp only at hm
 have hr:A6 (hO x) ⟨1,a,b,c⟩=_:=c8Q hc
 rw[show (hO x).S=sO x.S from rfl] at hr
 rcases c8n hR hb b c with ⟨e,he,f1,f2⟩ | ⟨_,_,i,hF,f1,f2⟩
 ·refine .inl ⟨e,f1,he,?_,?_⟩
  ·rw[hm,f1,d1c,if_pos (by simpa using he),d1c,a5M he]
  ·show A6 (hO x) ⟨1,a,b,c⟩=_
   rw[hr,f2,d1c,if_pos (by simpa using he)]
 ·refine .inr ⟨by omega,hcc,i,hF,?_⟩
  obtain⟨hi,h0,_⟩:=hF
  have hn:b.toNat≤4:=by omega
  have hy:=c2f hx hi h0 hn hcc
  have yS:=c8r hx hS hi h0 hn hcc
  have hh:hdl x.S i=0∨hdl x.S i∈lv (wS x (mkS x.S i b.toNat c)).S:=.inr (by
   show _∈lv (mkS x.S i b.toNat c)
   rw[b9t hR hi h0 hn hcc]
   exact List.mem_append_right _ (List.mem_singleton.2 rfl))
  have hz:=a3T hy (r:=a.toNat) (by omega) hh
  have zS:=b3e hy.sh.sr yS a.toNat (hdl x.S i)
  obtain⟨e1,e2⟩:=b0J hy ha hh
  have e3:ser (wS x (mkS x.S i b.toNat c)) (hdl x.S i)=x.S.Serial+1:=by
   show (ob (mkS x.S i b.toNat c) (hdl x.S i)).Serial=_
   rw[b0r hR hi h0 hn hcc]
  refine⟨hz,zS,(c8q hx hi h0 hn hcc).ks (b3d hy.sh.sr a.toNat _),Cw.same (a8t (wS x (mkS x.S i b.toNat c)) a.toNat _).2.1 _,?_,?_⟩
  ·rw[hm,f1,d1c,if_neg (by simp)]
   dsimp only
   rw[show z8 ⟨⟨mkS x.S i b.toNat c,x.Roots,x.a7,x.T,x.Q⟩,⟨1,a,b,c⟩⟩ (hdl x.S i) 0=_ from a7t hy yS ha hh,d1c,d1c,c5b hz zS (by omega),e1,e2,e3]
  ·show A6 (hO x) ⟨1,a,b,c⟩=_
   rw[hr,f2,d1c,if_neg (by simp)]
   dsimp only
   rw[show a17 ⟨sO (mkS x.S i b.toNat c),(hO x).Roots,(hO x).a7,(hO x).T,(hO x).Q⟩ a (hdl x.S i)=_ from c21 hy yS a (a9d hy yS hh),if_neg (by omega),if_pos hh,d1c,b3n hz zS,d1c,c7U (a3m hz).sh,e1,e2,e3]
   rfl
end
theorem c56{x:Hp}(hx:V1 x)(hS:SL x)(hz:zr x = [])(hb:x.S.Serial<9223372036854775807)(o:code_Op):(∃e,Er x o e)∨∃z v,Dn x o z v:=by
 obtain⟨k,a,b,c⟩:=o
 by_cases hc:C4 k a b c=0
 ·have:=c35 hc
  have hk:k=1∨k=2∨k=3∨k=4∨k=5∨k=6∨k=7∨k=8∨k=9∨k=10∨k=11∨k=12:=by omega
  rcases hk with rfl | rfl | rfl | rfl | rfl | rfl | rfl | rfl | rfl | rfl | rfl | rfl
  ·rcases d1 hx hS hb hc with ⟨e,_,h⟩ | ⟨_,_,i,_,h⟩
   ·exact .inl ⟨e,h⟩
   ·exact .inr ⟨_,_,h⟩
  ·exact .inr ⟨_,_,d2 hx hS hc⟩
  ·exact .inr ⟨_,_,d3 hx hS hc⟩
  ·rcases d4 hx hS hc with ⟨_,h⟩ | ⟨e,_,h⟩ | ⟨_,n,_,_,h⟩
   ·exact .inl ⟨_,h⟩
   ·exact .inl ⟨_,h⟩
   ·exact .inr ⟨_,_,h⟩
  ·rcases d5 hx hS hc with ⟨_,h⟩ | ⟨e,_,h⟩ | ⟨_,n,_,_,h⟩
   ·exact .inl ⟨_,h⟩
   ·exact .inl ⟨_,h⟩
   ·exact .inr ⟨_,_,h⟩
  ·rcases d6 hx hS hc with ⟨_,h⟩ | ⟨e,_,h⟩ | ⟨_,h⟩
   ·exact .inl ⟨_,h⟩
   ·exact .inl ⟨_,h⟩
   ·exact .inr ⟨_,_,h⟩
  ·obtain⟨_,⟨_,h⟩ | ⟨_,h⟩⟩:=d7 hx hS hc
   ·exact .inl ⟨_,h⟩
   ·exact .inr ⟨_,_,h⟩
  ·rcases d8 hx hS hc with ⟨_,h⟩ | ⟨_,e,_,h⟩ | ⟨_,r,_,_,h⟩
   ·exact .inl ⟨_,h⟩
   ·exact .inl ⟨_,h⟩
   ·exact .inr ⟨_,_,h⟩
  ·rcases d9 hx hS hc with ⟨_,h⟩ | ⟨_,_,h⟩ | ⟨_,v,_,h⟩
   ·exact .inl ⟨_,h⟩
   ·exact .inl ⟨_,h⟩
   ·exact .inr ⟨_,_,h⟩
  ·exact .inr ⟨_,_,d10 hx hS hz hc⟩
  ·obtain⟨h1,h2⟩:=c1m (x:=x) (a:=a) (b:=b) (c:=c) (.inl rfl) hc
   exact .inl ⟨14,by decide,h1,h2⟩
  ·obtain⟨h1,h2⟩:=c1m (x:=x) (a:=a) (b:=b) (c:=c) (.inr rfl) hc
   exact .inl ⟨14,by decide,h1,h2⟩
 ·obtain⟨h1,h2⟩:=c57 (x:=x) (o:=⟨k,a,b,c⟩) hc
  exact .inl ⟨_,hc,h1,h2⟩
end Go.Sh
namespace Go.Sh
noncomputable def dov(x:Hp)(o:code_Op):Hp × Int × Int:=(p9 x o).getD (x,0,0)
structure Nxt (x:Hp) (o:code_Op) (y:Hp) (v e:Int):Prop where
 rt:V1 y
 sl:SL y
 zr:zr y = []
 ev:Ev x y
 cw:Cw x y (if o.Kind=6 then o.A else -1)
 er:e≠0→y=x∧v=0
 mc:p9 x o=some (y,v,e)
 rf:A6 (hO x) (opR o)=some (hO y,v,e)
theorem Dn.nxt{x z:Hp}{o:code_Op}{v:Int}(d:Dn x o z v):Nxt x o (a4d z) v 0:=by
 have st:=b7p d.rt
 exact⟨a3m d.rt,c4Q d.rt d.sl,c0L d.rt,d.ev.stl st,d.cw.trans (st.cw _),λh=>absurd rfl h,d.mc,d.rf⟩
theorem b9w{x:Hp}(hx:V1 x)(hS:SL x)(hz:zr x = [])(hb:x.S.Serial<9223372036854775807)(o:code_Op):∃y v e,Nxt x o y v e:=by
 rcases c56 hx hS hz hb o with ⟨e,h1,h2,h3⟩ | ⟨z,v,d⟩
 ·exact⟨x,0,e,hx,hS,hz,Ev.refl x,Cw.refl x _,λ_=>⟨rfl,rfl⟩,h2,h3⟩
 ·exact⟨_,_,_,d.nxt⟩
theorem b5g{x:Hp}(hx:V1 x)(hS:SL x)(hz:zr x = [])(hb:x.S.Serial<9223372036854775807)(o:code_Op):Nxt x o (dov x o).1 (dov x o).2.1 (dov x o).2.2:=by
 obtain⟨y,v,e,h⟩:=b9w hx hS hz hb o
 have:dov x o=(y,v,e):=by unfold dov;rw[h.mc];rfl
 rw[this]
 exact h
theorem c58{x:Hp}(hx:V1 x)(hS:SL x)(hz:zr x = [])(hb:x.S.Serial<9223372036854775807){o:code_Op}{r:g5 × Int × Int}(h:A6 (hO x) (opR o)=some r):p9 x o=some (hOI r.1,r.2.1,r.2.2):=by
 obtain⟨y,v,e,n⟩:=b9w hx hS hz hb o
 rw[n.rf] at h
 rw[n.mc,←Option.some.inj h,c1V]
noncomputable def runs(x:Hp)(l:List code_Op):Hp × List Int:=l.foldl (λp o=>((dov p.1 o).1,p.2 ++ [(dov p.1 o).2.1])) (x,[])
theorem b0M(x:Hp)(l:List code_Op)(o:code_Op):runs x (l ++ [o])=((dov (runs x l).1 o).1,(runs x l).2 ++ [(dov (runs x l).1 o).2.1]):=by
 unfold runs
 rw[List.foldl_append]
 rfl
theorem a9L{x:Hp}(hx:V1 x)(hS:SL x)(hz:zr x = [])(l:List code_Op)(hb:x.S.Serial+l.length<9223372036854775807)(P:Hp→Prop)(h0:P x)
  (hs:∀(y:Hp) (o:code_Op),o∈l→V1 y→Nxt y o (dov y o).1 (dov y o).2.1 (dov y o).2.2→P y→P (dov y o).1):∀k,k≤l.length →
  V1 (runs x (l.take k)).1∧SL (runs x (l.take k)).1∧zr (runs x (l.take k)).1 = []∧(runs x (l.take k)).1.S.Serial≤x.S.Serial+k∧(runs x (l.take k)).2.length=k∧P (runs x (l.take k)).1
 | 0,_=>⟨hx,hS,hz,by show x.S.Serial≤_;omega,rfl,h0⟩
 | k+1,hk=>by
  obtain⟨a1,a2,a3,a4,a5,a6⟩:=a9L hx hS hz l hb P h0 hs k (by omega)
  have hk':k<l.length:=by omega
  have n:=b5g a1 a2 a3 (by omega) l[k]
  rw[a0I hk',b0M]
  exact⟨n.rt,n.sl,n.zr,by have:=n.ev.s2;show (dov _ _).1.S.Serial≤_;omega,by simp[a5],hs _ _ (List.getElem_mem hk') a1 n a6⟩
theorem run_eq{x:Hp}(hx:V1 x)(hS:SL x)(hz:zr x = [])(l:List code_Op)(hl:l.length≤1000)(hb:x.S.Serial+l.length<9223372036854775807) :
  a0A x l=some (runs x l)∧a9B (hO x) (l.map opR)=some (hO (runs x l).1,(runs x l).2):=by
 have all:=a9L hx hS hz l hb (λ_=>True) trivial (λ_ _ _ _ _ _=>trivial)
 constructor
 ·unfold a0A
  simp only[jn]
  refine Y1 (T:=Hp × List Int) l.length (λk acc=>acc=runs x (l.take k)) (by omega) rfl (λk acc hk hP=>?_) (λacc hP=>?_)
  ·subst hP
   obtain⟨a1,a2,a3,a4,a5,_⟩:=all k (by omega)
   have n:=b5g a1 a2 a3 (by omega) l[k]
   refine .inl ⟨_,?_,rfl⟩
   rw[a0I hk,b0M]
   show (if _ then _ else _)=_
   rw[if_pos (by simpa using hk),n8 hk,d1c,n.mc,d1c,B2 (by omega) (by rw[a5];simp;omega),d1c,k7]
  ·subst hP
   refine⟨runs x (l.take l.length),?_,?_⟩
   ·show (if _ then _ else _)=_
    rw[if_neg (by simp)]
   ·rw[List.take_length]
 ·unfold a9B
  simp only[jn]
  refine Y1 (T:=g5 × List Int) (l.map opR).length (λk acc=>acc=(hO (runs x (l.take k)).1,(runs x (l.take k)).2)) (by simp;omega) rfl (λk acc hk hP=>?_) (λacc hP=>?_)
  ·subst hP
   have hk':k<l.length:=by simpa using hk
   obtain⟨a1,a2,a3,a4,a5,_⟩:=all k (by omega)
   have n:=b5g a1 a2 a3 (by omega) l[k]
   refine .inl ⟨_,?_,rfl⟩
   rw[a0I hk',b0M]
   show (if _ then _ else _)=_
   rw[if_pos (by simpa using hk'),n8 hk,d1c,List.getElem_map]
   dsimp only
   rw[n.rf,d1c,B2 (by omega) (by rw[a5];simp;omega),d1c,k7]
  ·subst hP
   refine⟨(hO (runs x (l.take (l.map opR).length)).1,(runs x (l.take (l.map opR).length)).2),?_,?_⟩
   ·show (if _ then _ else _)=_
    rw[if_neg (by simp)]
   ·rw[List.length_map,List.take_length]
def Z1:Hp:=(a1Y 3 5 8).getD c1Z
def a7Z:List code_Op:=[(⟨1,0,1,(-1)⟩:code_Op),(⟨2,1,0,0⟩:code_Op),(⟨6,2,1,0⟩:code_Op),(⟨10,0,1,0⟩:code_Op),(⟨3,0,0,0⟩:code_Op),(⟨7,3,2,0⟩:code_Op),(⟨3,1,0,0⟩:code_Op),(⟨3,3,0,0⟩:code_Op)]
def b0h:g5 × List Int:=(a9B (hO Z1) (a7Z.map opR)).getD (hO c1Z,[])
def a2V:Hp:=hOI b0h.1
theorem c3U:V1 Z1∧SL Z1∧zr Z1 = []:=by
 have hB:HB Z1:=c6v (by kernel_rfl)
 have hx:V1 Z1:=by
  obtain⟨b,h1,h2⟩:=b6F Z1 hB (by decide +kernel) (by decide +kernel) (by decide +kernel) (by decide +kernel) (by decide +kernel)
  have:b0D (hO Z1)=some true:=by kernel_rfl
  rw[this] at h1
  exact h2.1 (Option.some.inj h1).symm
 refine⟨hx,SB.sl hx.sh.sr hB.sb,?_⟩
 have h:=b9a hx.sh.sr
 rw[show a3h (hO Z1)=some [] by kernel_rfl] at h
 exact (Option.some.inj h).symm
theorem c1q:a0A Z1 a7Z=some (a2V,b0h.2)∧V1 a2V∧SL a2V∧zr a2V = []∧a2V.S.Serial<1000:=by
 obtain⟨h1,h2,h3⟩:=c3U
 have hser:Z1.S.Serial=0:=by kernel_rfl
 obtain⟨r1,r2⟩:=run_eq h1 h2 h3 a7Z (by decide) (by rw[hser];decide)
 obtain⟨a1,a2,a3,a4,_,_⟩:=a9L h1 h2 h3 a7Z (by rw[hser];decide) (λ_=>True) trivial (λ_ _ _ _ _ _=>trivial) 8 (by decide)
 rw[show a7Z.take 8=a7Z from rfl] at a1 a2 a3 a4
 have e:b0h=(hO (runs Z1 a7Z).1,(runs Z1 a7Z).2):=by
  unfold b0h
  rw[r2]
  rfl
 have e2:a2V=(runs Z1 a7Z).1:=by
  unfold a2V
  rw[e,c1V]
 have e3:b0h.2=(runs Z1 a7Z).2:=by rw[e]
 rw[e2,e3]
 exact⟨r1,a1,a2,a3,by rw[hser] at a4;omega⟩
theorem b5N:a4R=some true:=by
 obtain⟨r1,hx,hS,hz,hb⟩:=c1q
 unfold a4R
 refine bnd (a:=Z1) (by kernel_rfl) ?_
 refine bnd (a:=(a2V,b0h.2)) r1 ?_
 refine bnd (c58 hx hS hz (by omega) (o:=⟨7,3,2,0⟩) (r:=(A6 (hO a2V) ⟨7,3,2,0⟩).getD (hO c1Z,0,0)) (by kernel_rfl)) ?_
 refine bnd (c58 hx hS hz (by omega) (o:=⟨4,0,0,0⟩) (r:=(A6 (hO a2V) ⟨4,0,0,0⟩).getD (hO c1Z,0,0)) (by kernel_rfl)) ?_
 refine bnd (c58 hx hS hz (by omega) (o:=⟨11,0,0,0⟩) (r:=(A6 (hO a2V) ⟨11,0,0,0⟩).getD (hO c1Z,0,0)) (by kernel_rfl)) ?_
 dsimp only
 rw[c6F hx.sh.sr,b1w hx (c8b hx hS)]
 kernel_rfl
end Go.Sh
namespace Go.Sh
def nwH(k:Nat)(l:Int)(p:Nat):Hp:=⟨⟨⟨List.replicate k ⟨0,0,z0⟩,l⟩,0⟩,List.replicate 6 0,List.replicate 6 ⟨0,false,-1⟩,List.replicate p ⟨0,0,0⟩,⟨[],30⟩⟩
theorem c1X{k p:Nat}{l:Int}(hk:1≤k∧k≤24)(hl:0≤l∧l≤9)(hp:1≤p∧p≤8) :
  a1Y k l p=some (nwH k l p)∧b1X k l p=some (hO (nwH k l p))∧V1 (nwH k l p)∧SL (nwH k l p)∧zr (nwH k l p) = []:=by
 have e1:a2O k l=some (nwH k l p).S:=by
  unfold a2O R3
  rw[if_neg (by simp;omega),a6w (by omega) (by omega)]
  rfl
 obtain⟨a,h1,h2,h3,_⟩:=c8v k l
 rw[e1] at h1
 have ha:=Option.some.inj h1
 subst ha
 have hR:SR (nwH k l p).S:=s7.1 h3
 have hce:∀i,ce (nwH k l p).S i=⟨0,0,z0⟩:=λi=>by
  unfold ce nwH
  dsimp only
  rw[List.getD_eq_getElem?_getD,List.getElem?_replicate]
  split <;> rfl
 have hlv:lv (nwH k l p).S = []:=List.eq_nil_iff_forall_not_mem.2 λh hh=>by
  obtain⟨i,q⟩:=(a4w hR).1 hh
  have:=q.2.1
  rw[hce] at this
  cases this
 refine⟨?_,?_,⟨⟨hR,(c7y (V:=Int) (λ_ _=>True) hp.1 hp.2).1,rfl,rfl,rfl,Nat.zero_le _,(λt ht=>nomatch ht),List.Pairwise.nil,(λh hh=>.inl (List.mem_replicate.1 hh).2),λh hh=>?_,λa v hv=>?_,λi hi=>?_⟩,λi hi ht=>?_,λh hh=>?_⟩,λh hh=>?_,?_⟩
 ·unfold a1Y
  rw[if_neg (by simp;omega),e1,d1c,show mk 8 6 (0:Int)=some (List.replicate 6 0) from rfl,d1c]
  refine bnd (a:=List.replicate 6 ⟨0,false,-1⟩) (by kernel_rfl) ?_
  rw[c6M hp.1 hp.2,d1c]
  refine bnd (a:=⟨[],30⟩) (by kernel_rfl) ?_
  rfl
 ·unfold b1X
  rw[if_neg (by simp;omega),h2,d1c,show mk 8 6 (0:Int)=some (List.replicate 6 0) from rfl,d1c]
  refine bnd (a:=List.replicate 6 ⟨0,false,-1⟩) (by kernel_rfl) ?_
  unfold b5v
  rw[if_neg (by simp;omega),a6w (by omega) (by omega),d1c,d1c]
  refine bnd (a:=⟨[],30⟩) (by kernel_rfl) ?_
  unfold hO nwH
  dsimp only
  rw[List.map_replicate,List.map_replicate]
  rfl
 ·rw[hlv] at hh;cases hh
 ·obtain⟨i,hi,_⟩:=hv
  have:=hi.2.1
  rw[show (nwH k l p).T=List.replicate p ⟨0,0,0⟩ from rfl,b2S] at this
  cases this
 ·have:(nwH k l p).a7[i]=⟨0,false,-1⟩:=List.getElem_replicate ..
  rw[this]
  exact⟨by decide,by decide,λ_=>rfl,λh=>absurd rfl h,λh=>by cases h⟩
 ·rw[hce] at ht
  rcases ht with h | h <;> cases h
 ·rw[hlv] at hh;cases hh
 ·rw[hlv] at hh;cases hh
 ·unfold zr
  rw[hlv]
  rfl
theorem c60(l:List code_Op)(hl:l.length≤1000):b16 l=some (l.map opR):=by
 unfold b16
 simp only[jn]
 have e:=a3b (b:=32) opR l (by omega) (by omega)
 simp only[opR] at e
 unfold b54
 simp only[d1c]
 rw[e]
 rfl
theorem machineRuns{n last places:Int}{l:List code_Op}:a2p n last places l=some true:=by
 unfold a2p
 by_cases h:(1≤n∧n≤24)∧(0≤last∧last≤9)∧1≤places∧places≤8
 ·obtain⟨h1,h2,h3⟩:=h
  obtain⟨k,rfl⟩:∃k:Nat,n=k:=⟨n.toNat,by omega⟩
  obtain⟨p,rfl⟩:∃p:Nat,places=p:=⟨places.toNat,by omega⟩
  obtain⟨e1,e2,hx,hS,hz⟩:=c1X (k:=k) (p:=p) (l:=last) (by omega) h2 (by omega)
  rw[e1,d1c]
  by_cases hl:l.length≤60
  ·have g:((decide ((l.length:Int) > 60))||(((nwH k last p).Roots.length:Int)==0))=false:=by
    rw[hx.sh.r6]
    simp
    omega
   rw[g]
   simp only[beq_self_eq_true,K4,b5N,d1c,Bool.not_true,Bool.or_self,Bool.false_eq_true,if_false]
   have hs0:(nwH k last p).S.Serial=0:=rfl
   obtain⟨r1,r2⟩:=run_eq hx hS hz l (by omega) (by rw[hs0];omega)
   obtain⟨a1,a2,a3,a4,a5,_⟩:=a9L hx hS hz l (by rw[hs0];omega) (λ_=>True) trivial (λ_ _ _ _ _ _=>trivial) l.length (Nat.le_refl _)
   rw[List.take_length] at a1 a2 a3 a4 a5
   rw[r1,d1c,e2,d1c,c60 l (by omega),d1c,r2,d1c,c8a a1.sh,d1c]
   rw[beq_self_eq_true,K4,c3X a1.sh,d1c,K4,c7m a1.sh,d1c]
   simp only[beq_self_eq_true,Bool.and_self,K4]
   rw[b2x (by omega),d1c]
   rfl
  ·have g:((decide ((l.length:Int) > 60))||(((nwH k last p).Roots.length:Int)==0))=true:=by
    simp
    omega
   rw[g]
   simp[p7,b5N]
 ·have e1:a1Y n last places=some ⟨⟨⟨[],0⟩,0⟩,[],[],[],⟨[],0⟩⟩:=by
   unfold a1Y
   rw[if_pos (by simp;omega)]
  rw[e1,d1c]
  have g:((decide ((l.length:Int) > 60))||((([]:List Int).length:Int)==0))=true:=by simp
  dsimp only
  rw[g]
  simp[p7,b5N]
end Go.Sh
