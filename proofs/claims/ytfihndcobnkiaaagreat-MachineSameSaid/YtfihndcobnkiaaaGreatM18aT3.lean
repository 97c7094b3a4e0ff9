/-
 More of the theory.
-/
import Derived.Test.YtfihndcobnkiaaaGreatM18aT2
set_option linter.unusedVariables false
set_option linter.unusedSimpArgs false
set_option linter.unusedSectionVars false
namespace Go.Sh
abbrev opR(o:code_Op):L8:=⟨o.Kind,o.A,o.B,o.C⟩
structure Dn (x:Hp) (o:code_Op) (z:Hp) (v:Int):Prop where
 rt:R7 z
 sl:SL z
 ev:Ev x z
 cw:Cw x z (if o.Kind=6 then o.A else -1)
 mc:m9 x o=some (a2n z,v,0)
 rf:A2 (hO x) (opR o)=some (hO (a2n z),v,0)
def Er(x:Hp)(o:code_Op)(e:Int):Prop:=e≠0∧m9 x o=some (x,0,e)∧A2 (hO x) (opR o)=some (hO x,0,e)
theorem c8J{x:Hp}(hx:R7 x)(hS:SL x){i:Nat}(hi:i<x.S.S.Cells.length)(h0:(ce x.S i).State=0){n:Nat}(hn:n≤4){p:Int}(hp : -1≤p∧p≤5):SL (wS x (mkS x.S i n p)):=λk hk=>by
 have hR:=hx.sh.sr
 have hk':k∈lv (mkS x.S i n p):=hk
 show (ob (mkS x.S i n p) k).Strong≤_
 rw[b7i hR hi h0 hn hp] at hk'
 rcases List.mem_append.1 hk' with q | q
 ·rw[b4H hR hi h0 hn hp q];exact hS k q
 ·rw[List.mem_singleton.1 q,b0Q hR hi h0 hn hp]
  show (0:Int)≤_
  decide
theorem a4N{y:Hp}(hy:R7 y){a:Int}(ha:0≤a∧a≤5){h:Int}(hh:h=0∨h∈lv y.S):sd (a2n (L9 y a.toNat h)) a=h∧ser (a2n (L9 y a.toNat h)) h=ser y h:=by
 have hz:=a3Y hy (r:=a.toNat) (by omega) hh
 have st:=b3x hz
 have w:=a3k hz
 have e1:(a2n (L9 y a.toNat h)).Roots=y.Roots.set a.toNat h:=st.rt.trans (a5D y a.toNat h).1
 have h6:=hy.sh.r6
 have e2:sd (a2n (L9 y a.toNat h)) a=h:=by
  unfold sd
  rw[if_neg (by omega),e1,List.getD_eq_getElem?_getD,List.getElem?_set_self (by omega)]
  rfl
 refine⟨e2,?_⟩
 have k:=b3l hy.sh.sr a.toNat h
 rcases a8w w.sh a with q | q
 ·rw[e2] at q
  subst q
  rw[c0j w.sh,c0j hy.sh]
 ·rw[e2] at q
  have h1:=(st.ob h q).1
  have h2:=st.lv h q
  rw[k.lv] at h2
  exact h1.trans (k.ob h h2)
section
variable{x:Hp}{a b c:Int}
theorem a5V{o:code_Op}{y:Hp}{e:Int}(he:e≠0):doR x o (y,e)=some (x,0,e):=by
 unfold doR
 rw[if_pos (by simpa using he)]
theorem c5D{z:Hp}(hz:R7 z)(hS:SL z){k:Int}(hk:k≠5∧k≠6∧k≠8∧k≠10):doR x ⟨k,a,b,c⟩ (z,0)=some (a2n z,ser (a2n z) (sd (a2n z) a),0):=by
 unfold doR O6
 rw[if_neg (by simp),b04 hz hS,d1q]
 simp only[jn]
 rw[if_neg (by simp;omega),if_neg (by simp;omega)]
 have:(k==8)=false:=by simp;omega
 rw[this,if_neg (by simp),if_neg (by simp;omega),b6I (a3k hz).sh]
 rfl
theorem b9q{o:code_Op}{v e:Int}(he:e≠0):y9 ⟨x,o⟩ v e=some (x,e):=by
 unfold y9
 rw[if_pos (by simpa using he)]
theorem c3k{y:c5}{v e:Int}(he:e≠0):rT y a (v,e)=some (y,0,e):=by
 unfold rT
 rw[if_pos (by simpa using he)]
theorem c03{y z:c5}{v e:Int}(he:e≠0):rO y (z,v,e)=some (y,0,e):=by
 unfold rO
 rw[if_pos (by simpa using he)]
variable(hx:R7 x)(hS:SL x)
include hx hS
theorem a7R{k:Int}(ha:0≤a∧a≤5){h:Int}(hh:h=0∨h∈lv x.S):y9 ⟨x,⟨k,a,b,c⟩⟩ h 0=some (L9 x a.toNat h,0):=by
 unfold y9
 rw[if_neg (by simp),c5a hx hS a (a9D hx hS hh),if_neg (by omega),if_pos hh]
 rfl
theorem c80(ha:0≤a∧a≤5){h:Int}(hh:h=0∨h∈lv x.S):rT (hO x) a (h,0)=some (hO (a2n (L9 x a.toNat h)),ser x h,0):=by
 have hz:=a3Y hx (r:=a.toNat) (by omega) hh
 have zS:=b3m hx.sh.sr hS a.toNat h
 obtain⟨e1,e2⟩:=a4N hx ha hh
 unfold rT
 rw[if_neg (by simp),c3s hx hS a (a9D hx hS hh),if_neg (by omega),if_pos hh,d1q,b3y hz zS,d1q,c6i (a3k hz).sh,e1,e2]
 rfl
theorem a4V{k:Int}(hk:k=2∨k=3∨k=4∨k=7∨k=9)(hc:B2 k a b c=0)(ha:0≤a∧a≤5){h:Int}(hh:h=0∨h∈lv x.S)
  (h1:m9 x ⟨k,a,b,c⟩=doR x ⟨k,a,b,c⟩ (L9 x a.toNat h,0))(h2:a0C (hO x) ⟨k,a,b,c⟩=some (h,0)):Dn x ⟨k,a,b,c⟩ (L9 x a.toNat h) (ser x h):=by
 have hz:=a3Y hx (r:=a.toNat) (by omega) hh
 have zS:=b3m hx.sh.sr hS a.toNat h
 obtain⟨e1,e2⟩:=a4N hx ha hh
 refine⟨hz,zS,(b3l hx.sh.sr a.toNat h).ev,Cw.same (a5D x a.toNat h).2.1 _,?_,?_⟩
 ·rw[h1,c5D hz zS (by omega),e1,e2]
 ·show A2 (hO x) ⟨k,a,b,c⟩=_
  rw[c0a hk hc,h2,d1q,c80 hx hS ha hh]
theorem d2(hc:B2 2 a b c=0):Dn x ⟨2,a,b,c⟩ (L9 x a.toNat (sd x b)) (ser x (sd x b)):=by
 obtain⟨ha,hb⟩:=c6p hc
 refine a4V hx hS (.inl rfl) hc ha (a8w hx.sh b) ?_ ?_
 ·rw[c9V hc]
  unfold F3
  rw[a5G hx.sh,d1q,a7R hx hS ha (a8w hx.sh b)]
  rfl
 ·unfold a0C
  rw[if_pos (by rfl),show (hO x).Roots=x.Roots from rfl,b1v hx.sh hb]
  rfl
theorem d3(hc:B2 3 a b c=0):Dn x ⟨3,a,b,c⟩ (L9 x a.toNat 0) 0:=by
 have ha:=c9N hc
 have:=a4V (b:=b) (c:=c) hx hS (.inr (.inl rfl)) hc ha (h:=0) (.inl rfl) ?_ ?_
 ·rwa [c0j hx.sh] at this
 ·rw[c9W hc]
  unfold U7
  rw[a7R hx hS ha (.inl rfl)]
  rfl
 ·rfl
theorem d4(hc:B2 4 a b c=0):(sd x b=0∧Er x ⟨4,a,b,c⟩ 2)∨(∃e,W7 x.S (sd x b) c=some (0,e)∧Er x ⟨4,a,b,c⟩ e) ∨
  (sd x b∈lv x.S∧∃n:Nat,c=n∧∃hn:n<(ob x.S (sd x b)).Fields.length,Dn x ⟨4,a,b,c⟩ (L9 x a.toNat (ob x.S (sd x b)).Fields[n]) (ser x (ob x.S (sd x b)).Fields[n])):=by
 obtain⟨ha,hb,_⟩:=c9O hc
 have hm:m9 x ⟨4,a,b,c⟩=_:=c9X hc
 unfold U8 at hm
 rw[a4C hx.sh,d1q] at hm
 have hr:A2 (hO x) ⟨4,a,b,c⟩=_:=c0a (by omega) hc
 have hnm:a0C (hO x) ⟨4,a,b,c⟩=(O8 (hO x) b).bind λv2=>if (v2.2 != 0) then some (0,v2.2) else (a1y (hO x).S v2.1 c).bind λv3=>some (v3.1,v3.2):=rfl
 rw[a87 hx.sh hb,d1q] at hnm
 by_cases h0:sd x b=0
 ·refine .inl ⟨h0,by decide,?_,?_⟩
  ·rw[hm]
   unfold asd
   rw[if_pos h0,if_pos (by simp),d1q,a5V (by decide)]
  ·show A2 (hO x) ⟨4,a,b,c⟩=_
   rw[hr,hnm]
   unfold asd
   rw[if_pos h0,if_pos (by simp),d1q,c3k (by decide)]
 ·have has:asd x b=(sd x b,0):=by unfold asd;rw[if_neg h0]
  rw[has,if_neg (by simp)] at hm hnm
  right
  rcases b1g hx hS (sd x b) c (b1w hx.sh b) with ⟨e,he,f1,f2⟩ | ⟨hl,n,hn0,hn,f1,f2⟩
  ·refine .inl ⟨e,f1,he,?_,?_⟩
   ·rw[hm]
    dsimp only
    rw[f1,d1q,b9q he,d1q,d1q,a5V he]
   ·show A2 (hO x) ⟨4,a,b,c⟩=_
    rw[hr,hnm]
    dsimp only
    rw[show (hO x).S=sO x.S from rfl,f2,d1q,d1q,c3k he]
  ·refine .inr ⟨hl,n,hn0,hn,?_⟩
   have hv:=hx.sh.fl _ hl _ (List.getElem_mem hn)
   refine a4V hx hS (by omega) hc ha hv ?_ ?_
   ·rw[hm]
    dsimp only
    rw[f1,d1q,a7R hx hS ha hv]
    rfl
   ·rw[hnm]
    dsimp only
    rw[show (hO x).S=sO x.S from rfl,f2]
    rfl
theorem c4A{n:Nat}(hn:n<6):∃h:n<x.Cells.length,a4X x.Cells n=some (if x.Cells[n].Target=0∨x.Cells[n].Intact=false then (0,9) else (x.Cells[n].Target,0))∧a6N (hO x).Cells n=some (if x.Cells[n].Target=0∨x.Cells[n].Intact=false then (0,9) else (x.Cells[n].Target,0)):=by
 have c6:=hx.sh.c6
 have hl:n<x.Cells.length:=by omega
 have hl2:n<(x.Cells.map wcR).length:=by simp;exact hl
 refine⟨hl,?_,?_⟩
 ·unfold a4X a4Y
  have:(decide ((n:Int)≥0)&&decide ((n:Int)<(x.Cells.length:Int)))=true:=by simp;omega
  rw[this,d1q,if_neg (by simp),l5 hl,d1q]
  by_cases q:x.Cells[n].Target=0∨x.Cells[n].Intact=false
  ·rw[if_pos q,if_pos (by rcases q with q | q <;> simp[q])]
  ·rw[if_neg q,if_neg (by simpa using q)]
 ·unfold a6N
  show (if _ then _ else (ix (x.Cells.map wcR) (n:Int)).bind _)=_
  rw[if_neg (by simp[hO];omega),l5 hl2,d1q,List.getElem_map]
  by_cases q:x.Cells[n].Target=0∨x.Cells[n].Intact=false
  ·rw[if_pos q,if_pos (by rcases q with q | q <;> simp[wcR,q])]
  ·rw[if_neg q,if_neg (by simpa[wcR] using q)]
   rfl
theorem d7(hc:B2 7 a b c=0):∃h:b.toNat<x.Cells.length,((x.Cells[b.toNat].Intact=false∧Er x ⟨7,a,b,c⟩ 9) ∨
  (x.Cells[b.toNat].Intact=true∧Dn x ⟨7,a,b,c⟩ (L9 x a.toNat x.Cells[b.toNat].Target) (ser x x.Cells[b.toNat].Target))):=by
 obtain⟨ha,hb⟩:=c9R hc
 obtain⟨n,rfl⟩:∃n:Nat,b=n:=⟨b.toNat,by omega⟩
 obtain⟨hl,l1,l2⟩:=c4A hx hS (n:=n) (by omega)
 rw[Int.toNat_natCast]
 refine⟨hl,?_⟩
 have hm:m9 x ⟨7,a,n,c⟩=_:=c90 hc
 unfold R9 at hm
 rw[show a4X (n7.mk x ⟨7,a,n,c⟩).x.Cells (n7.mk x ⟨7,a,n,c⟩).o.B=_ from l1,d1q] at hm
 have hr:A2 (hO x) ⟨7,a,n,c⟩=_:=c0a (by omega) hc
 have hnm:a0C (hO x) ⟨7,a,n,c⟩=(a6N (hO x).Cells n).bind λv4=>some (v4.1,v4.2):=rfl
 rw[l2,d1q] at hnm
 have cl:=hx.sh.cl n hl
 cases hI:x.Cells[n].Intact
 ·left
  rw[if_pos (.inr hI)] at hm hnm
  refine⟨rfl,by decide,?_,?_⟩
  ·rw[hm]
   dsimp only
   rw[b9q (by decide),d1q,d1q]
   exact a5V (e:=9) (by decide)
  ·show A2 (hO x) ⟨7,a,n,c⟩=_
   rw[hr,hnm,d1q,c3k (by decide)]
 ·right
  have ht:=(cl.2.2.2.2 hI).1
  have ht0:x.Cells[n].Target≠0:=λe=>b0M hx.sh.sr (e▸ht)
  rw[if_neg (by simp[ht0,hI])] at hm hnm
  refine⟨rfl,a4V hx hS (by omega) hc ha (.inr ht) ?_ hnm⟩
  rw[hm]
  dsimp only
  rw[a7R hx hS ha (.inr ht)]
  rfl
theorem d9(hc:B2 9 a b c=0):(sd x b=0∧Er x ⟨9,a,b,c⟩ 2)∨(sd x b∈lv x.S∧(∀v,¬Has x.T (sd x b) v)∧Er x ⟨9,a,b,c⟩ 9) ∨
  (sd x b∈lv x.S∧∃v,Has x.T (sd x b) v∧Dn x ⟨9,a,b,c⟩ (L9 x a.toNat v) (ser x v)):=by
 obtain⟨ha,hb⟩:=c9T hc
 have hT:=hx.sh.hr
 have hm:m9 x ⟨9,a,b,c⟩=_:=c92 hc
 unfold Y0 at hm
 rw[a4C hx.sh,d1q] at hm
 have hr:A2 (hO x) ⟨9,a,b,c⟩=_:=c0a (by omega) hc
 have hnm:a0C (hO x) ⟨9,a,b,c⟩=(O8 (hO x) b).bind λv2=>if (v2.2 != 0) then some (0,v2.2) else (a9X (hO x).T v2.1).bind λv3=>some (v3.1,v3.2):=rfl
 rw[a87 hx.sh hb,d1q] at hnm
 by_cases h0:sd x b=0
 ·refine .inl ⟨h0,by decide,?_,?_⟩
  ·rw[hm]
   unfold asd
   rw[if_pos h0,if_pos (by simp),d1q,a5V (by decide)]
  ·show A2 (hO x) ⟨9,a,b,c⟩=_
   rw[hr,hnm]
   unfold asd
   rw[if_pos h0,if_pos (by simp),d1q,c3k (by decide)]
 ·have has:asd x b=(sd x b,0):=by unfold asd;rw[if_neg h0]
  have hl:=(a8w hx.sh b).resolve_left h0
  rw[has,if_neg (by simp)] at hm hnm
  dsimp only at hm hnm
  have g2:a9X (hO x).T (sd x b)=(I4 x.T (sd x b)).bind λv=>some (v.1,v.2):=by
   unfold a9X
   rw[show (hO x).T=x.T.map J0 from rfl,c3o hT]
  unfold b0B at hm
  rw[g2] at hnm
  right
  by_cases hv:∃v,Has x.T (sd x b) v
  ·obtain⟨v,hv⟩:=hv
   rw[b9K hT hv] at hm hnm
   refine .inr ⟨hl,v,hv,a4V hx hS (by omega) hc ha (.inr (hx.sh.pr _ _ hv).2) ?_ hnm⟩
   rw[hm,d1q,d1q]
   dsimp only
   rw[a7R hx hS ha (.inr (hx.sh.pr _ _ hv).2)]
   rfl
  ·have hv':∀v,¬Has x.T (sd x b) v:=λv q=>hv ⟨v,q⟩
   rw[c0K hT hv'] at hm hnm
   refine .inl ⟨hl,hv',by decide,?_,?_⟩
   ·rw[hm,d1q,d1q]
    dsimp only
    rw[b9q (by decide),d1q,d1q]
    exact a5V (e:=9) (by decide)
   ·show A2 (hO x) ⟨9,a,b,c⟩=_
    rw[hr,hnm,d1q,d1q,d1q]
    exact c3k (e:=9) (by decide)
end
end Go.Sh
namespace Go.Sh
section
variable{x:Hp}{a b c:Int}
theorem c8m{z:Hp}(hz:R7 z)(hS:SL z){k:Int}{r:Int}(hk:k=5∧r=c∨(k=6∨k=8)∧r=b):doR x ⟨k,a,b,c⟩ (z,0)=some (a2n z,ser z (sd z r),0):=by
 unfold doR O6
 rw[if_neg (by simp),b04 hz hS,d1q]
 simp only[jn]
 rcases hk with ⟨rfl,rfl⟩ | ⟨rfl | rfl,rfl⟩
 ·rw[if_pos (by rfl),b6I hz.sh]
  rfl
 ·rw[if_neg (by decide),if_pos (by rfl),if_pos (by rfl),b6I hz.sh]
  rfl
 ·rw[if_neg (by decide),if_neg (by decide),if_pos (by rfl),b6I hz.sh]
  rfl
variable(hx:R7 x)(hS:SL x)
include hx hS
theorem c8Z{z:Hp}(hz:R7 z)(zS:SL z){h:Int}(hh:h=0∨h∈lv x.S):rO (hO x) (hO z,h,0)=some (hO (a2n z),ser x h,0):=by
 unfold rO
 rw[if_neg (by simp),b3y hz zS,d1q,c3C hx.sh (a9D hx hS hh)]
 rfl
theorem a8N{z:Hp}(hz:R7 z)(zS:SL z)(k:Ks x.S z.S)(er:z.Roots=x.Roots){kd r:Int}(hk:kd=5∧r=c∨(kd=6∨kd=8)∧r=b)(hc:B2 kd a b c=0)(cw:Cw x z (if kd=6 then a else -1))
  (h1:m9 x ⟨kd,a,b,c⟩=doR x ⟨kd,a,b,c⟩ (z,0))(h2:Y4 (hO x) ⟨kd,a,b,c⟩=some (hO z,sd x r,0)):Dn x ⟨kd,a,b,c⟩ z (ser x (sd x r)):=by
 refine⟨hz,zS,k.ev,cw,?_,?_⟩
 ·rw[h1,c8m hz zS hk,c5g er,c7I hx.sh k (a8w hx.sh r)]
 ·show A2 (hO x) ⟨kd,a,b,c⟩=_
  rw[b99 (by omega) hc,h2,d1q,c8Z hx hS hz zS (a8w hx.sh r)]
theorem d5(hc:B2 5 a b c=0):(sd x a=0∧Er x ⟨5,a,b,c⟩ 2)∨(∃e,a1p x (sd x a) b (sd x c)=some (x,e)∧Er x ⟨5,a,b,c⟩ e) ∨
  (sd x a∈lv x.S∧∃n:Nat,b=n∧n<(ob x.S (sd x a)).Fields.length∧Dn x ⟨5,a,b,c⟩ (a1o x (sd x a) n (sd x c)) (ser x (sd x c))):=by
 obtain⟨ha,hb,hcc⟩:=c9P hc
 have hm:m9 x ⟨5,a,b,c⟩=_:=c9Y hc
 unfold Q8 at hm
 rw[a4C hx.sh,d1q] at hm
 have hr:A2 (hO x) ⟨5,a,b,c⟩=_:=b99 (by omega) hc
 have hnm:Y4 (hO x) ⟨5,a,b,c⟩=(O8 (hO x) a).bind λv4=>if (v4.2 != 0) then some (hO x,0,v4.2) else (a3g (hO x) c).bind λv5=>(a2M (hO x) v4.1 b v5).bind λv6=>some (v6.1,v5,v6.2):=rfl
 rw[a87 hx.sh ha,d1q,c3A hx.sh (by omega)] at hnm
 by_cases h0:sd x a=0
 ·have has:asd x a=(0,2):=by unfold asd;rw[if_pos h0]
  rw[has,if_pos (by simp)] at hm hnm
  refine .inl ⟨h0,by decide,?_,?_⟩
  ·rw[hm,d1q]
   exact a5V (e:=2) (by decide)
  ·show A2 (hO x) ⟨5,a,b,c⟩=_
   rw[hr,hnm,d1q]
   exact c03 (e:=2) (by decide)
 ·have has:asd x a=(sd x a,0):=by unfold asd;rw[if_neg h0]
  rw[has,if_neg (by simp)] at hm hnm
  dsimp only at hm hnm
  rw[a5G hx.sh,d1q] at hm
  rw[d1q] at hnm
  right
  rcases c2f hx hS (sd x a) b (sd x c) (b1w hx.sh a) (b1w hx.sh c) with ⟨e,he,f1,f2⟩ | ⟨hl,hv,n,hn0,hn,f1,f2⟩
  ·refine .inl ⟨e,f1,he,?_,?_⟩
   ·rw[hm,f1,d1q,d1q,a5V he]
   ·show A2 (hO x) ⟨5,a,b,c⟩=_
    rw[hr,hnm,f2,d1q,d1q,c03 he]
  ·refine .inr ⟨hl,n,hn0,hn,a8N hx hS (b5c hx hl hn hv) (c0G hx.sh.sr hS hl _ _) (c0F hx.sh.sr hl hn _) (b1f _ _ _ _).1 (.inl ⟨rfl,rfl⟩) hc (Cw.same (b1f _ _ _ _).2.1 _) ?_ ?_⟩
   ·rw[hm,f1]
    rfl
   ·rw[hnm,f2]
    rfl
theorem d6(hc:B2 6 a b c=0):(sd x b=0∧Er x ⟨6,a,b,c⟩ 2)∨(∃e,X8 x a (sd x b) c=some (x,e)∧Er x ⟨6,a,b,c⟩ e) ∨
  (wts x.Q a=false∧Dn x ⟨6,a,b,c⟩ (a3q x a.toNat (sd x b) c) (ser x (sd x b))):=by
 obtain⟨ha,hb,hcc⟩:=c9Q hc
 have hm:m9 x ⟨6,a,b,c⟩=_:=c9Z hc
 unfold N6 at hm
 have hr:A2 (hO x) ⟨6,a,b,c⟩=_:=b99 (by omega) hc
 have key:(m9 x ⟨6,a,b,c⟩=(((X8 x a (sd x b) c).bind λv1=>some (v1.1,v1.2)).bind (doR x ⟨6,a,b,c⟩))∧Y4 (hO x) ⟨6,a,b,c⟩=(a03 (hO x) a (sd x b) c).bind λv1=>some (v1.1,sd x b,v1.2))∨(sd x b=0∧Er x ⟨6,a,b,c⟩ 2):=by
  by_cases h1:b = -1
  ·subst h1
   left
   rw[b3v hx.sh (r:=-1) (by omega)]
   refine⟨?_,rfl⟩
   rw[hm,if_pos (by rfl)]
  ·rw[if_neg (by simpa using h1),a4C hx.sh,d1q] at hm
   have hnm:Y4 (hO x) ⟨6,a,b,c⟩=(O8 (hO x) b).bind λv4=>if (v4.2 != 0) then some (hO x,0,v4.2) else (a03 (hO x) a v4.1 c).bind λv7=>some (v7.1,v4.1,v7.2):=by
    unfold Y4
    rw[if_neg (by simp;omega)]
    rfl
   rw[a87 hx.sh (by omega),d1q] at hnm
   by_cases h0:sd x b=0
   ·have has:asd x b=(0,2):=by unfold asd;rw[if_pos h0]
    rw[has,if_pos (by simp)] at hm hnm
    refine .inr ⟨h0,by decide,?_,?_⟩
    ·rw[hm,d1q]
     exact a5V (e:=2) (by decide)
    ·show A2 (hO x) ⟨6,a,b,c⟩=_
     rw[hr,hnm,d1q]
     exact c03 (e:=2) (by decide)
   ·have has:asd x b=(sd x b,0):=by unfold asd;rw[if_neg h0]
    rw[has,if_neg (by simp)] at hm hnm
    exact .inl ⟨hm,hnm⟩
 rcases key with ⟨hm,hnm⟩ | key
 ·right
  rcases c5w hx a (sd x b) c (b1w hx.sh b) hcc with ⟨e,he,f1,f2⟩ | ⟨hh,n,rfl,hn,hw,f1,f2⟩
  ·refine .inl ⟨e,f1,he,?_,?_⟩
   ·rw[hm,f1,d1q,d1q,a5V he]
   ·show A2 (hO x) ⟨6,a,b,c⟩=_
    rw[hr,hnm,f2,d1q,d1q,c03 he]
  ·rw[Int.toNat_natCast]
   obtain⟨r1,r2,_,_⟩:=b9w x n (sd x b) c
   refine .inr ⟨hw,a8N hx hS (b73 hx hn hh hcc hw) (c3P hx hS hn _ _) (c3O hx hn _ _) r1 (.inr ⟨.inl rfl,rfl⟩) hc (by rw[if_pos rfl];exact Cw.set r2) ?_ ?_⟩
   ·rw[hm,f1]
    rfl
   ·rw[hnm,f2]
    rfl
 ·exact .inl key
theorem d8(hc:B2 8 a b c=0):(sd x a=0∧Er x ⟨8,a,b,c⟩ 2)∨(sd x a∈lv x.S∧∃e,a2J x (sd x a) (sd x b)=some (x,e)∧Er x ⟨8,a,b,c⟩ e) ∨
  (sd x a∈lv x.S∧∃r,T1 x.T (sd x a) (sd x b)=some r∧r.2.2=0∧Dn x ⟨8,a,b,c⟩ (a6I x (sd x b) r.1 r.2.1) (ser x (sd x b))):=by
 obtain⟨ha,hb⟩:=c9S hc
 have hm:m9 x ⟨8,a,b,c⟩=_:=c91 hc
 unfold U9 at hm
 rw[a4C hx.sh,d1q] at hm
 have hr:A2 (hO x) ⟨8,a,b,c⟩=_:=b99 (by omega) hc
 have hnm:Y4 (hO x) ⟨8,a,b,c⟩=(O8 (hO x) a).bind λv4=>if (v4.2 != 0) then some (hO x,0,v4.2) else (a3g (hO x) b).bind λv8=>(a4L (hO x) v4.1 v8).bind λv9=>some (v9.1,v8,v9.2):=rfl
 rw[a87 hx.sh ha,d1q,c3A hx.sh (by omega)] at hnm
 by_cases h0:sd x a=0
 ·have has:asd x a=(0,2):=by unfold asd;rw[if_pos h0]
  rw[has,if_pos (by simp)] at hm hnm
  refine .inl ⟨h0,by decide,?_,?_⟩
  ·rw[hm,d1q]
   exact a5V (e:=2) (by decide)
  ·show A2 (hO x) ⟨8,a,b,c⟩=_
   rw[hr,hnm,d1q]
   exact c03 (e:=2) (by decide)
 ·have has:asd x a=(sd x a,0):=by unfold asd;rw[if_neg h0]
  have hl:=(a8w hx.sh a).resolve_left h0
  rw[has,if_neg (by simp)] at hm hnm
  dsimp only at hm hnm
  rw[a5G hx.sh,d1q] at hm
  rw[d1q] at hnm
  right
  rcases c43 hx hS (sd x a) (sd x b) (b1w hx.sh a) (b1w hx.sh b) with ⟨e,he,f1,f2⟩ | ⟨hl,hv,r,r1,r2,f1,f2⟩
  ·refine .inl ⟨hl,e,f1,he,?_,?_⟩
   ·rw[hm,f1,d1q,d1q,a5V he]
   ·show A2 (hO x) ⟨8,a,b,c⟩=_
    rw[hr,hnm,f2,d1q,d1q,c03 he]
  ·refine .inr ⟨hl,r,r1,r2,a8N hx hS (b7q hx hl hv r1 r2) (c29 hx.sh.sr hS _ _ _) (c28 hx.sh.sr _ _ _) (b21 _ _ _ _).1 (.inr ⟨.inr rfl,rfl⟩) hc (Cw.same (b21 _ _ _ _).2.1 _) ?_ ?_⟩
   ·rw[hm,f1]
    rfl
   ·rw[hnm,f2]
    rfl
theorem d10(hz:zr x = [])(hc:B2 10 a b c=0):Dn x ⟨10,a,b,c⟩ x (if sd x a=sd x b then 1 else 0):=by
 obtain⟨ha,hb⟩:=c8j hc
 refine⟨hx,hS,Ev.refl x,Cw.refl x _,?_,?_⟩
 ·rw[c8n hc]
  unfold L7 doR O6
  rw[d1q,if_neg (by simp),b04 hx hS,d1q]
  simp only[jn]
  rw[if_neg (by decide),if_neg (by decide),if_neg (by decide),if_pos (by rfl),a5G hx.sh,d1q,a5G hx.sh,d1q]
  by_cases q:sd x a=sd x b
  ·rw[if_pos (by simpa using q),if_pos q]
   rfl
  ·rw[if_neg (by simpa using q),if_neg q]
   rfl
 ·show A2 (hO x) ⟨10,a,b,c⟩=_
  rw[c7A hc,show (hO x).Roots=x.Roots from rfl,b1v hx.sh ha,d1q,b1v hx.sh hb,d1q,c3G hz]
  by_cases q:sd x a=sd x b
  ·rw[if_pos (by simpa using q),if_pos q]
  ·rw[if_neg (by simpa using q),if_neg q]
theorem d1(hb:x.S.Serial<9223372036854775807)(hc:B2 1 a b c=0):(∃e,N2 x.S b c=some (x.S,0,e)∧Er x ⟨1,a,b,c⟩ e) ∨
  (b.toNat≤4∧(-1≤c∧c≤5)∧∃i,Fst x.S i∧Dn x ⟨1,a,b,c⟩ (L9 (wS x (mkS x.S i b.toNat c)) a.toNat (hdl x.S i)) (x.S.Serial+1)):=by
 obtain⟨ha,hbb,hcc⟩:=c9M hc
 have hR:=hx.sh.sr
 have hm:m9 x ⟨1,a,b,c⟩=_:=c9U hc
 unfold N5 at hm
 dsimp only at hm
 have hr:A2 (hO x) ⟨1,a,b,c⟩=_:=c86 hc
 rw[show (hO x).S=sO x.S from rfl] at hr
 rcases c8F hR hb b c with ⟨e,he,f1,f2⟩ | ⟨_,_,i,hF,f1,f2⟩
 ·refine .inl ⟨e,f1,he,?_,?_⟩
  ·rw[hm,f1,d1q,if_pos (by simpa using he),d1q,a5V he]
  ·show A2 (hO x) ⟨1,a,b,c⟩=_
   rw[hr,f2,d1q,if_pos (by simpa using he)]
 ·refine .inr ⟨by omega,hcc,i,hF,?_⟩
  obtain⟨hi,h0,_⟩:=hF
  have hn:b.toNat≤4:=by omega
  have hy:=b7k hx hi h0 hn hcc
  have yS:=c8J hx hS hi h0 hn hcc
  have hh:hdl x.S i=0∨hdl x.S i∈lv (wS x (mkS x.S i b.toNat c)).S:=.inr (by
   show _∈lv (mkS x.S i b.toNat c)
   rw[b7i hR hi h0 hn hcc]
   exact List.mem_append_right _ (List.mem_singleton.2 rfl))
  have hz:=a3Y hy (r:=a.toNat) (by omega) hh
  have zS:=b3m hy.sh.sr yS a.toNat (hdl x.S i)
  obtain⟨e1,e2⟩:=a4N hy ha hh
  have e3:ser (wS x (mkS x.S i b.toNat c)) (hdl x.S i)=x.S.Serial+1:=by
   show (ob (mkS x.S i b.toNat c) (hdl x.S i)).Serial=_
   rw[b0Q hR hi h0 hn hcc]
  refine⟨hz,zS,(c8I hx hi h0 hn hcc).ks (b3l hy.sh.sr a.toNat _),Cw.same (a5D (wS x (mkS x.S i b.toNat c)) a.toNat _).2.1 _,?_,?_⟩
  ·rw[hm,f1,d1q,if_neg (by simp)]
   dsimp only
   rw[show y9 ⟨⟨mkS x.S i b.toNat c,x.Roots,x.Cells,x.T,x.Q⟩,⟨1,a,b,c⟩⟩ (hdl x.S i) 0=_ from a7R hy yS ha hh,d1q,d1q,c5D hz zS (by omega),e1,e2,e3]
  ·show A2 (hO x) ⟨1,a,b,c⟩=_
   rw[hr,f2,d1q,if_neg (by simp)]
   dsimp only
   rw[show a18 ⟨sO (mkS x.S i b.toNat c),(hO x).Roots,(hO x).Cells,(hO x).T,(hO x).Q⟩ a (hdl x.S i)=_ from c3s hy yS a (a9D hy yS hh),if_neg (by omega),if_pos hh,d1q,b3y hz zS,d1q,c6i (a3k hz).sh,e1,e2,e3]
   rfl
end
theorem c6t{x:Hp}(hx:R7 x)(hS:SL x)(hz:zr x = [])(hb:x.S.Serial<9223372036854775807)(o:code_Op):(∃e,Er x o e)∨∃z v,Dn x o z v:=by
 obtain⟨k,a,b,c⟩:=o
 by_cases hc:B2 k a b c=0
 ·have:=c4z hc
  have hk:k=1∨k=2∨k=3∨k=4∨k=5∨k=6∨k=7∨k=8∨k=9∨k=10∨k=11∨k=12:=by omega
  rcases hk with rfl | rfl | rfl | rfl | rfl | rfl | rfl | rfl | rfl | rfl | rfl | rfl
  ·rcases d1 hx hS hb hc with ⟨e,_,h⟩ | ⟨_,_,i,_,h⟩
   ·exact .inl ⟨e,h⟩
   ·exact .inr ⟨_,_,h⟩
  ·exact .inr ⟨_,_,d2 hx hS hc⟩
  ·exact .inr ⟨_,_,d3 hx hS hc⟩
  ·rcases d4 hx hS hc with ⟨_,h⟩ | ⟨e,_,h⟩ | ⟨_,n,_,_,h⟩
   ·exact .inl ⟨_,h⟩
   ·exact .inl ⟨_,h⟩
   ·exact .inr ⟨_,_,h⟩
  ·rcases d5 hx hS hc with ⟨_,h⟩ | ⟨e,_,h⟩ | ⟨_,n,_,_,h⟩
   ·exact .inl ⟨_,h⟩
   ·exact .inl ⟨_,h⟩
   ·exact .inr ⟨_,_,h⟩
  ·rcases d6 hx hS hc with ⟨_,h⟩ | ⟨e,_,h⟩ | ⟨_,h⟩
   ·exact .inl ⟨_,h⟩
   ·exact .inl ⟨_,h⟩
   ·exact .inr ⟨_,_,h⟩
  ·obtain⟨_,⟨_,h⟩ | ⟨_,h⟩⟩:=d7 hx hS hc
   ·exact .inl ⟨_,h⟩
   ·exact .inr ⟨_,_,h⟩
  ·rcases d8 hx hS hc with ⟨_,h⟩ | ⟨_,e,_,h⟩ | ⟨_,r,_,_,h⟩
   ·exact .inl ⟨_,h⟩
   ·exact .inl ⟨_,h⟩
   ·exact .inr ⟨_,_,h⟩
  ·rcases d9 hx hS hc with ⟨_,h⟩ | ⟨_,_,h⟩ | ⟨_,v,_,h⟩
   ·exact .inl ⟨_,h⟩
   ·exact .inl ⟨_,h⟩
   ·exact .inr ⟨_,_,h⟩
  ·exact .inr ⟨_,_,d10 hx hS hz hc⟩
  ·obtain⟨h1,h2⟩:=c1O (x:=x) (a:=a) (b:=b) (c:=c) (.inl rfl) hc
   exact .inl ⟨14,by decide,h1,h2⟩
  ·obtain⟨h1,h2⟩:=c1O (x:=x) (a:=a) (b:=b) (c:=c) (.inr rfl) hc
   exact .inl ⟨14,by decide,h1,h2⟩
 ·obtain⟨h1,h2⟩:=c6u (x:=x) (o:=⟨k,a,b,c⟩) hc
  exact .inl ⟨_,hc,h1,h2⟩
end Go.Sh
namespace Go.Sh
noncomputable def dov(x:Hp)(o:code_Op):Hp × Int × Int:=(m9 x o).getD (x,0,0)
structure Nxt (x:Hp) (o:code_Op) (y:Hp) (v e:Int):Prop where
 rt:R7 y
 sl:SL y
 zr:zr y = []
 ev:Ev x y
 cw:Cw x y (if o.Kind=6 then o.A else -1)
 er:e≠0→y=x∧v=0
 mc:m9 x o=some (y,v,e)
 rf:A2 (hO x) (opR o)=some (hO y,v,e)
theorem Dn.nxt{x z:Hp}{o:code_Op}{v:Int}(d:Dn x o z v):Nxt x o (a2n z) v 0:=by
 have st:=b3x d.rt
 exact⟨a3k d.rt,c5i d.rt d.sl,c1d d.rt,d.ev.stl st,d.cw.trans (st.cw _),λh=>absurd rfl h,d.mc,d.rf⟩
theorem b1Y{x:Hp}(hx:R7 x)(hS:SL x)(hz:zr x = [])(hb:x.S.Serial<9223372036854775807)(o:code_Op):∃y v e,Nxt x o y v e:=by
 rcases c6t hx hS hz hb o with ⟨e,h1,h2,h3⟩ | ⟨z,v,d⟩
 ·exact⟨x,0,e,hx,hS,hz,Ev.refl x,Cw.refl x _,λ_=>⟨rfl,rfl⟩,h2,h3⟩
 ·exact⟨_,_,_,d.nxt⟩
theorem b5u{x:Hp}(hx:R7 x)(hS:SL x)(hz:zr x = [])(hb:x.S.Serial<9223372036854775807)(o:code_Op):Nxt x o (dov x o).1 (dov x o).2.1 (dov x o).2.2:=by
 obtain⟨y,v,e,h⟩:=b1Y hx hS hz hb o
 have:dov x o=(y,v,e):=by unfold dov;rw[h.mc];rfl
 rw[this]
 exact h
theorem c6v{x:Hp}(hx:R7 x)(hS:SL x)(hz:zr x = [])(hb:x.S.Serial<9223372036854775807){o:code_Op}{r:c5 × Int × Int}(h:A2 (hO x) (opR o)=some r):m9 x o=some (hOI r.1,r.2.1,r.2.2):=by
 obtain⟨y,v,e,n⟩:=b1Y hx hS hz hb o
 rw[n.rf] at h
 rw[n.mc,←Option.some.inj h,c2p]
noncomputable def runs(x:Hp)(l:List code_Op):Hp × List Int:=l.foldl (λp o=>((dov p.1 o).1,p.2 ++ [(dov p.1 o).2.1])) (x,[])
theorem b0Z(x:Hp)(l:List code_Op)(o:code_Op):runs x (l ++ [o])=((dov (runs x l).1 o).1,(runs x l).2 ++ [(dov (runs x l).1 o).2.1]):=by
 unfold runs
 rw[List.foldl_append]
 rfl
theorem b3s{x:Hp}(hx:R7 x)(hS:SL x)(hz:zr x = [])(l:List code_Op)(hb:x.S.Serial+l.length<9223372036854775807)(P:Hp→Prop)(h0:P x)
  (hs:∀(y:Hp) (o:code_Op),o∈l→R7 y→Nxt y o (dov y o).1 (dov y o).2.1 (dov y o).2.2→P y→P (dov y o).1):∀k,k≤l.length →
  R7 (runs x (l.take k)).1∧SL (runs x (l.take k)).1∧zr (runs x (l.take k)).1 = []∧(runs x (l.take k)).1.S.Serial≤x.S.Serial+k∧(runs x (l.take k)).2.length=k∧P (runs x (l.take k)).1
 | 0,_=>⟨hx,hS,hz,by show x.S.Serial≤_;omega,rfl,h0⟩
 | k+1,hk=>by
  obtain⟨a1,a2,a3,a4,a5,a6⟩:=b3s hx hS hz l hb P h0 hs k (by omega)
  have hk':k<l.length:=by omega
  have n:=b5u a1 a2 a3 (by omega) l[k]
  rw[a0H hk',b0Z]
  exact⟨n.rt,n.sl,n.zr,by have:=n.ev.s2;show (dov _ _).1.S.Serial≤_;omega,by simp[a5],hs _ _ (List.getElem_mem hk') a1 n a6⟩
theorem run_eq{x:Hp}(hx:R7 x)(hS:SL x)(hz:zr x = [])(l:List code_Op)(hl:l.length≤1000)(hb:x.S.Serial+l.length<9223372036854775807) :
  a1Z x l=some (runs x l)∧b5V (hO x) (l.map opR)=some (hO (runs x l).1,(runs x l).2):=by
 have all:=b3s hx hS hz l hb (λ_=>True) trivial (λ_ _ _ _ _ _=>trivial)
 constructor
 ·unfold a1Z
  simp only[jn]
  refine X9 (T:=Hp × List Int) l.length (λk acc=>acc=runs x (l.take k)) (by omega) rfl (λk acc hk hP=>?_) (λacc hP=>?_)
  ·subst hP
   obtain⟨a1,a2,a3,a4,a5,_⟩:=all k (by omega)
   have n:=b5u a1 a2 a3 (by omega) l[k]
   refine .inl ⟨_,?_,rfl⟩
   rw[a0H hk,b0Z]
   show (if _ then _ else _)=_
   rw[if_pos (by simpa using hk),l5 hk,d1q,n.mc,d1q,B1 (by omega) (by rw[a5];simp;omega),d1q,g7]
  ·subst hP
   refine⟨runs x (l.take l.length),?_,?_⟩
   ·show (if _ then _ else _)=_
    rw[if_neg (by simp)]
   ·rw[List.take_length]
 ·unfold b5V
  simp only[jn]
  refine X9 (T:=c5 × List Int) (l.map opR).length (λk acc=>acc=(hO (runs x (l.take k)).1,(runs x (l.take k)).2)) (by simp;omega) rfl (λk acc hk hP=>?_) (λacc hP=>?_)
  ·subst hP
   have hk':k<l.length:=by simpa using hk
   obtain⟨a1,a2,a3,a4,a5,_⟩:=all k (by omega)
   have n:=b5u a1 a2 a3 (by omega) l[k]
   refine .inl ⟨_,?_,rfl⟩
   rw[a0H hk',b0Z]
   show (if _ then _ else _)=_
   rw[if_pos (by simpa using hk'),l5 hk,d1q,List.getElem_map]
   dsimp only
   rw[n.rf,d1q,B1 (by omega) (by rw[a5];simp;omega),d1q,g7]
  ·subst hP
   refine⟨(hO (runs x (l.take (l.map opR).length)).1,(runs x (l.take (l.map opR).length)).2),?_,?_⟩
   ·show (if _ then _ else _)=_
    rw[if_neg (by simp)]
   ·rw[List.length_map,List.take_length]
def Z0:Hp:=(b2K 3 5 8).getD c2t
def a8r:List code_Op:=[(⟨1,0,1,(-1)⟩:code_Op),(⟨2,1,0,0⟩:code_Op),(⟨6,2,1,0⟩:code_Op),(⟨10,0,1,0⟩:code_Op),(⟨3,0,0,0⟩:code_Op),(⟨7,3,2,0⟩:code_Op),(⟨3,1,0,0⟩:code_Op),(⟨3,3,0,0⟩:code_Op)]
def b0G:c5 × List Int:=(b5V (hO Z0) (a8r.map opR)).getD (hO c2t,[])
def a2U:Hp:=hOI b0G.1
theorem c4p:R7 Z0∧SL Z0∧zr Z0 = []:=by
 have hB:HB Z0:=c6R (by kernel_rfl)
 have hx:R7 Z0:=by
  obtain⟨b,h1,h2⟩:=a6A Z0 hB (by decide +kernel) (by decide +kernel) (by decide +kernel) (by decide +kernel) (by decide +kernel)
  have:a1B (hO Z0)=some true:=by kernel_rfl
  rw[this] at h1
  exact h2.1 (Option.some.inj h1).symm
 refine⟨hx,SB.sl hx.sh.sr hB.sb,?_⟩
 have h:=b6w hx.sh.sr
 rw[show a3f (hO Z0)=some [] by kernel_rfl] at h
 exact (Option.some.inj h).symm
theorem c1S:a1Z Z0 a8r=some (a2U,b0G.2)∧R7 a2U∧SL a2U∧zr a2U = []∧a2U.S.Serial<1000:=by
 obtain⟨h1,h2,h3⟩:=c4p
 have hser:Z0.S.Serial=0:=by kernel_rfl
 obtain⟨r1,r2⟩:=run_eq h1 h2 h3 a8r (by decide) (by rw[hser];decide)
 obtain⟨a1,a2,a3,a4,_,_⟩:=b3s h1 h2 h3 a8r (by rw[hser];decide) (λ_=>True) trivial (λ_ _ _ _ _ _=>trivial) 8 (by decide)
 rw[show a8r.take 8=a8r from rfl] at a1 a2 a3 a4
 have e:b0G=(hO (runs Z0 a8r).1,(runs Z0 a8r).2):=by
  unfold b0G
  rw[r2]
  rfl
 have e2:a2U=(runs Z0 a8r).1:=by
  unfold a2U
  rw[e,c2p]
 have e3:b0G.2=(runs Z0 a8r).2:=by rw[e]
 rw[e2,e3]
 exact⟨r1,a1,a2,a3,by rw[hser] at a4;omega⟩
theorem c5j:P3=some true:=by
 obtain⟨r1,hx,hS,hz,hb⟩:=c1S
 unfold P3
 refine bnd (a:=Z0) (by kernel_rfl) ?_
 refine bnd (a:=(a2U,b0G.2)) r1 ?_
 refine bnd (c6v hx hS hz (by omega) (o:=⟨7,3,2,0⟩) (r:=(A2 (hO a2U) ⟨7,3,2,0⟩).getD (hO c2t,0,0)) (by kernel_rfl)) ?_
 refine bnd (c6v hx hS hz (by omega) (o:=⟨4,0,0,0⟩) (r:=(A2 (hO a2U) ⟨4,0,0,0⟩).getD (hO c2t,0,0)) (by kernel_rfl)) ?_
 refine bnd (c6v hx hS hz (by omega) (o:=⟨11,0,0,0⟩) (r:=(A2 (hO a2U) ⟨11,0,0,0⟩).getD (hO c2t,0,0)) (by kernel_rfl)) ?_
 dsimp only
 rw[c60 hx.sh.sr,b1J hx (c5N hx hS)]
 kernel_rfl
theorem c6o{x:Hp}(hB:HB x):∃b,a3p x=some b∧(b=true→R7 x∧x.S.Serial<1000000000∧zr x = []):=by
 obtain⟨b,h1,h2⟩:=c5l hB
 unfold a3p
 rw[h1,d1q]
 cases b
 ·exact⟨false,by simp[l6],λh=>by cases h⟩
 ·obtain⟨hx,hb⟩:=h2 rfl
  rw[beq_self_eq_true,F5,a9r hx.sh,d1q,F5,b4T hx.sh.sr,d1q,Bool.true_and]
  exact⟨_,rfl,λh=>⟨hx,hb,of_decide_eq_true h⟩⟩
theorem c2j{x:Hp}{K:Option Bool}(g:Bool→Bool)(hg:g false=true)(hB:HB x)(h:R7 x→SL x→zr x = []→x.S.Serial<1000000000→g true=false→K=some true):((a3p x).bind λv1=>(l6 ((g v1)==false) false P3).bind λv2=>if ((g v1)||(!v2)) then (P3).bind λv3=>some v3 else K)=some true:=by
 obtain⟨b,h1,h2⟩:=c6o hB
 rw[h1,d1q,c5j]
 cases hgb:g b
 ·simp only[beq_self_eq_true,F5,d1q,Bool.not_true,Bool.or_self,Bool.false_eq_true,if_false]
  cases b
  ·rw[hg] at hgb;cases hgb
  ·obtain⟨a,b,c⟩:=h2 rfl
   exact h a (SB.sl a.sh.sr hB.sb) c b hgb
 ·simp[l6]
end Go.Sh
namespace Go.Sh
theorem b3n{y:Hp}{a b h:Int}(hz:R7 (L9 y a.toNat h))(ha:0≤a)(hb:0≤b)(hab:a≠b):sd (a2n (L9 y a.toNat h)) b=sd y b:=by
 have e:(a2n (L9 y a.toNat h)).Roots=y.Roots.set a.toNat h:=(b3x hz).rt.trans (a5D y a.toNat h).1
 unfold sd
 rw[if_neg (by omega),if_neg (by omega),e,List.getD_eq_getElem?_getD,List.getElem?_set_ne (by omega),List.getD_eq_getElem?_getD]
section
variable{x:Hp}(hB:HB x)
include hB
theorem machineDoes{o:code_Op}{h:Int}(hh:h≤9223372036854775807):a2p x o h=some true:=by
 unfold a2p
 refine c2j (λb => !b) rfl hB λhx hS hz hb _=>?_
 obtain⟨y,v,e,n⟩:=b1Y hx hS hz (by omega) o
 have ysh:=n.rt.sh
 rw[n.mc,d1q,a9r hx.sh,d1q]
 refine bnd (a:=opR o) rfl ?_
 rw[n.rf,d1q,c5K ysh,d1q]
 rw[beq_self_eq_true,F5,a9r ysh,d1q,F5,c3z ysh,d1q]
 simp only[beq_self_eq_true,Bool.and_self,F5]
 rw[c3D hx.sh hh,d1q,c3C hx.sh hh,d1q]
 simp only[beq_self_eq_true,Bool.and_self,F5]
 rw[b6I hx.sh,d1q,c6i hx.sh,d1q]
 simp
theorem machineStays{o:code_Op}:a1G x o=some true:=by
 unfold a1G
 refine c2j (λb => !b) rfl hB λhx hS hz hb _=>?_
 obtain⟨y,v,e,n⟩:=b1Y hx hS hz (by omega) o
 have ysh:=n.rt.sh
 rw[n.mc,d1q,c5K ysh,d1q,if_neg (by simp),a9r ysh,d1q]
 by_cases he:e=0
 ·subst he
  rw[if_neg (by simp),b9b n.rt n.sl,d1q]
  refine bnd (a:=true) ?_ rfl
  rw[beq_self_eq_true,F5,b4T ysh.sr,decide_eq_true n.zr]
 ·obtain⟨rfl,rfl⟩:=n.er he
  rw[if_pos (by simpa using he)]
  simp only[beq_self_eq_true,F5]
  rw[a9r hx.sh,d1q,c3z hx.sh,d1q]
  rfl
theorem machineSame{a b:Int}:a2q x a b=some true:=by
 unfold a2q
 refine c2j (λv=>((((!v)||(decide (a<0)))||(decide (a > 5)))||(decide (b<0)))||(decide (b > 5))) (by simp) hB λhx hS hz hb hg=>?_
 have hg:(0≤a∧a≤5)∧0≤b∧b≤5:=by simp at hg;omega
 obtain⟨ha,hbb⟩:=hg
 have hR:=hx.sh.sr
 have hc2:B2 2 a b 0=0:=by
  show P8 (G2 a 0 5 6) (G2 b 0 5 6) 0=0
  unfold P8 G2
  rw[if_neg (by omega),if_neg (by omega)]
 have hc10:B2 10 a b 0=0:=hc2
 have hc1:B2 1 a 0 (-1)=0:=by
  show P8 (G2 a 0 5 6) (G2 0 0 4 1) (G2 (-1) (-1) 5 13)=0
  unfold P8 G2
  rw[if_neg (by omega)]
  rfl
 have c1:=d2 hx hS hc2
 have c2:=c1.nxt
 obtain⟨s1,_⟩:=a4N hx ha (a8w hx.sh b)
 have s2:sd (a2n (L9 x a.toNat (sd x b))) b=sd x b:=by
  by_cases e:a=b
  ·subst e;exact s1
  ·exact b3n c1.rt ha.1 hbb.1 e
 have c3:=d10 c2.rt c2.sl c2.zr hc10
 rw[s1,s2,if_pos rfl] at c3
 refine bnd c1.mc (bnd c3.mc ?_)
 rcases d1 hx hS (by omega) hc1 with ⟨e,m,_,em,_⟩ | ⟨_,_,i,hF,d⟩
 ·refine bnd em ?_
  have he:e=4:=by
   rcases c5W hR (by omega) 0 (-1) with ⟨h1,_⟩ | ⟨_,h2,_⟩ | ⟨_,_,_,q⟩ | ⟨_,_,j,_,q⟩
   ·exact absurd (by omega) h1
   ·exact absurd (by omega) h2
   ·rw[q] at m
    have:=congrArg (λr=>r.2.2) (Option.some.inj m)
    exact this.symm
   ·rw[q] at m
    have h1:hdl x.S j=0:=congrArg (λr=>r.2.1) (Option.some.inj m)
    have:=a7o hR (i:=j) (by assumption:Fst x.S j).1
    omega
  subst he
  have c4:=d10 hx hS hz hc10
  refine bnd c4.mc ?_
  simp
 ·have n:=d.nxt
  obtain⟨hi,h0,_⟩:=hF
  have hcc:(-1:Int) ≤ -1∧(-1:Int)≤5:=by decide
  have hn:(0:Int).toNat≤4:=by decide
  have hy:=b7k hx hi h0 hn hcc
  have hh:hdl x.S i=0∨hdl x.S i∈lv (wS x (mkS x.S i (0:Int).toNat (-1))).S:=.inr (by
   show _∈lv (mkS x.S i (0:Int).toNat (-1))
   rw[b7i hR hi h0 hn hcc]
   exact List.mem_append_right _ (List.mem_singleton.2 rfl))
  obtain⟨t1,_⟩:=a4N hy ha hh
  refine bnd d.mc ?_
  have c4:=d10 n.rt n.sl n.zr hc10
  rw[t1] at c4
  have hw:s6 (x.S.Serial+1)=x.S.Serial+1:=by have:=hR.ser;exact E0 (by omega) (by omega)
  by_cases e:a=b
  ·subst e
   rw[t1,if_pos rfl] at c4
   refine bnd c4.mc ?_
   rw[hw]
   simp
  ·have t2:sd (a2n (L9 (wS x (mkS x.S i (0:Int).toNat (-1))) a.toNat (hdl x.S i))) b=sd x b:=b3n d.rt ha.1 hbb.1 e
   rw[t2,if_neg (λq=>by
    rcases a8w hx.sh b with r | r
    ·have:=a7o hR hi
     omega
    ·exact b8L hR hi h0 hn hcc (q▸r))] at c4
   refine bnd c4.mc ?_
   rw[hw]
   simp[e]
end
end Go.Sh
