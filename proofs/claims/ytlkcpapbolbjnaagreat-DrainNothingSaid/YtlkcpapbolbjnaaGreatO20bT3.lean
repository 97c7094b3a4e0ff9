/-
 More of the theory.
-/
import Derived.Test.YtlkcpapbolbjnaaGreatO20bT2
set_option linter.unusedVariables false
set_option linter.unusedSimpArgs false
set_option linter.unusedSectionVars false
namespace Go.Sh
section
variable{x:Hp}{a b c:Int}
theorem d1d{z:Hp}(hz:Q8 z)(hS:SL z){k:Int}{r:Int}(hk:k=5∧r=c∨(k=6∨k=8)∧r=b):doR x ⟨k,a,b,c⟩ (z,0)=some (a1S z,ser z (sd z r),0):=by
 unfold doR T6;rw[if_neg (by simp),a5U hz hS,d3v]
 simp only[jn];rcases hk with ⟨rfl,rfl⟩ | ⟨rfl | rfl,rfl⟩
 ·rw[if_pos (by rfl),c1D hz.sh]
  rfl
 ·rw[if_neg (by decide),if_pos (by rfl),if_pos (by rfl),c1D hz.sh]
  rfl
 ·rw[if_neg (by decide),if_neg (by decide),if_pos (by rfl),c1D hz.sh]
  rfl
variable(hx:Q8 x)(hS:SL x)
include hx hS
theorem d1F{z:Hp}(hz:Q8 z)(zS:SL z){h:Int}(hh:h=0∨h∈lv x.S):rO (hO x) (hO z,h,0)=some (hO (a1S z),ser x h,0):=by
 unfold rO;rw[if_neg (by simp),a8p hz zS,d3v,c8O hx.sh (b08 hx hS hh)]
 rfl
theorem b0d{z:Hp}(hz:Q8 z)(zS:SL z)(k:Ks x.S z.S)(er:z.Roots=x.Roots){kd r:Int}(hk:kd=5∧r=c∨(kd=6∨kd=8)∧r=b)(hc:C3 kd a b c=0)(cw:Cw x z (if kd=6 then a else -1))
  (h1:u7 x ⟨kd,a,b,c⟩=doR x ⟨kd,a,b,c⟩ (z,0))(h2:a1n (hO x) ⟨kd,a,b,c⟩=some (hO z,sd x r,0)):Dn x ⟨kd,a,b,c⟩ z (ser x (sd x r)):=by
 refine⟨hz,zS,k.ev,cw,?_,?_⟩;·rw[h1,d1d hz zS hk,c77 er,d0F hx.sh k (b23 hx.sh r)]
 ·show C8 (hO x) ⟨kd,a,b,c⟩=_;rw[c2d (by omega) hc,h2,d3v,d1F hx hS hz zS (b23 hx.sh r)]
theorem d5(hc:C3 5 a b c=0):(sd x a=0∧Er x ⟨5,a,b,c⟩ 2)∨(∃e,a2e x (sd x a) b (sd x c)=some (x,e)∧Er x ⟨5,a,b,c⟩ e) ∨
  (sd x a∈lv x.S∧∃n:Nat,b=n∧n<(ob x.S (sd x a)).Fields.length∧Dn x ⟨5,a,b,c⟩ (a1z x (sd x a) n (sd x c)) (ser x (sd x c))):=by
 obtain⟨ha,hb,hcc⟩:=d2w hc;have hm:u7 x ⟨5,a,b,c⟩=_:=d2F hc;unfold V7 at hm;rw[a5F hx.sh,d3v] at hm;have hr:C8 (hO x) ⟨5,a,b,c⟩=_:=c2d (by omega) hc
 have hnm:a1n (hO x) ⟨5,a,b,c⟩=(X5 (hO x) a).bind λv4=>if (v4.2 != 0) then some (hO x,0,v4.2) else (a5N (hO x) c).bind λv5=>(a5L (hO x) v4.1 b v5).bind λv6=>some (v6.1,v5,v6.2):=rfl
 rw[b0C hx.sh ha,d3v,c5K hx.sh (by omega)] at hnm
 by_cases h0:sd x a=0
 ·have has:asd x a=(0,2):=by unfold asd;rw[if_pos h0]
  rw[has,if_pos (by simp)] at hm hnm
  refine .inl ⟨h0,by decide,?_,?_⟩
  ·rw[hm,d3v];exact a63 (e:=2) (by decide)
  ·show C8 (hO x) ⟨5,a,b,c⟩=_;rw[hr,hnm,d3v];exact c3i (e:=2) (by decide)
 ·have has:asd x a=(sd x a,0):=by unfold asd;rw[if_neg h0]
  rw[has,if_neg (by simp)] at hm hnm
  dsimp only at hm hnm;rw[a6O hx.sh,d3v] at hm;rw[d3v] at hnm;right;rcases c4q hx hS (sd x a) b (sd x c) (b24 hx.sh a) (b24 hx.sh c) with ⟨e,he,f1,f2⟩ | ⟨hl,hv,n,hn0,hn,f1,f2⟩
  ·refine .inl ⟨e,f1,he,?_,?_⟩;·rw[hm,f1,d3v,d3v,a63 he]
   ·show C8 (hO x) ⟨5,a,b,c⟩=_;rw[hr,hnm,f2,d3v,d3v,c3i he]
  ·refine .inr ⟨hl,n,hn0,hn,b0d hx hS (b67 hx hl hn hv) (c2W hx.sh.sr hS hl _ _) (c2V hx.sh.sr hl hn _) (a7M _ _ _ _).1 (.inl ⟨rfl,rfl⟩) hc (Cw.same (a7M _ _ _ _).2.1 _) ?_ ?_⟩
   ·rw[hm,f1];rfl
   ·rw[hnm,f2];rfl
theorem d6(hc:C3 6 a b c=0):(sd x b=0∧Er x ⟨6,a,b,c⟩ 2)∨(∃e,a0v x a (sd x b) c=some (x,e)∧Er x ⟨6,a,b,c⟩ e) ∨
  (wts x.Q a=false∧Dn x ⟨6,a,b,c⟩ (a3a x a.toNat (sd x b) c) (ser x (sd x b))):=by
 obtain⟨ha,hb,hcc⟩:=d2x hc;have hm:u7 x ⟨6,a,b,c⟩=_:=d2G hc;unfold R8 at hm;have hr:C8 (hO x) ⟨6,a,b,c⟩=_:=c2d (by omega) hc
 have key:(u7 x ⟨6,a,b,c⟩=(((a0v x a (sd x b) c).bind λv1=>some (v1.1,v1.2)).bind (doR x ⟨6,a,b,c⟩))∧a1n (hO x) ⟨6,a,b,c⟩=(a4e (hO x) a (sd x b) c).bind λv1=>some (v1.1,sd x b,v1.2))∨(sd x b=0∧Er x ⟨6,a,b,c⟩ 2):=by
  by_cases h1:b = -1
  ·subst h1;left;rw[b45 hx.sh (r:=-1) (by omega)]
   refine⟨?_,rfl⟩;rw[hm,if_pos (by rfl)]
  ·rw[if_neg (by simpa using h1),a5F hx.sh,d3v] at hm
   have hnm:a1n (hO x) ⟨6,a,b,c⟩=(X5 (hO x) b).bind λv4=>if (v4.2 != 0) then some (hO x,0,v4.2) else (a4e (hO x) a v4.1 c).bind λv7=>some (v7.1,v4.1,v7.2):=by
    unfold a1n;rw[if_neg (by simp;omega)]
    rfl
   rw[b0C hx.sh (by omega),d3v] at hnm
   by_cases h0:sd x b=0
   ·have has:asd x b=(0,2):=by unfold asd;rw[if_pos h0]
    rw[has,if_pos (by simp)] at hm hnm
    refine .inr ⟨h0,by decide,?_,?_⟩
    ·rw[hm,d3v];exact a63 (e:=2) (by decide)
    ·show C8 (hO x) ⟨6,a,b,c⟩=_;rw[hr,hnm,d3v];exact c3i (e:=2) (by decide)
   ·have has:asd x b=(sd x b,0):=by unfold asd;rw[if_neg h0]
    rw[has,if_neg (by simp)] at hm hnm
    exact .inl ⟨hm,hnm⟩
 rcases key with ⟨hm,hnm⟩ | key
 ·right;rcases c8m hx a (sd x b) c (b24 hx.sh b) hcc with ⟨e,he,f1,f2⟩ | ⟨hh,n,rfl,hn,hw,f1,f2⟩
  ·refine .inl ⟨e,f1,he,?_,?_⟩;·rw[hm,f1,d3v,d3v,a63 he]
   ·show C8 (hO x) ⟨6,a,b,c⟩=_;rw[hr,hnm,f2,d3v,d3v,c3i he]
  ·rw[Int.toNat_natCast];obtain⟨r1,r2,_,_⟩:=b5m x n (sd x b) c;refine .inr ⟨hw,b0d hx hS (b9Y hx hn hh hcc hw) (c51 hx hS hn _ _) (c50 hx hn _ _) r1 (.inr ⟨.inl rfl,rfl⟩) hc (by rw[if_pos rfl];exact Cw.set r2) ?_ ?_⟩
   ·rw[hm,f1];rfl
   ·rw[hnm,f2];rfl
 ·exact .inl key
theorem d8(hc:C3 8 a b c=0):(sd x a=0∧Er x ⟨8,a,b,c⟩ 2)∨(sd x a∈lv x.S∧∃e,a3N x (sd x a) (sd x b)=some (x,e)∧Er x ⟨8,a,b,c⟩ e) ∨
  (sd x a∈lv x.S∧∃r,W6 x.T (sd x a) (sd x b)=some r∧r.2.2=0∧Dn x ⟨8,a,b,c⟩ (a7b x (sd x b) r.1 r.2.1) (ser x (sd x b))):=by
 obtain⟨ha,hb⟩:=d2z hc;have hm:u7 x ⟨8,a,b,c⟩=_:=d2I hc;unfold Z2 at hm;rw[a5F hx.sh,d3v] at hm;have hr:C8 (hO x) ⟨8,a,b,c⟩=_:=c2d (by omega) hc
 have hnm:a1n (hO x) ⟨8,a,b,c⟩=(X5 (hO x) a).bind λv4=>if (v4.2 != 0) then some (hO x,0,v4.2) else (a5N (hO x) b).bind λv8=>(a79 (hO x) v4.1 v8).bind λv9=>some (v9.1,v8,v9.2):=rfl
 rw[b0C hx.sh ha,d3v,c5K hx.sh (by omega)] at hnm
 by_cases h0:sd x a=0
 ·have has:asd x a=(0,2):=by unfold asd;rw[if_pos h0]
  rw[has,if_pos (by simp)] at hm hnm
  refine .inl ⟨h0,by decide,?_,?_⟩
  ·rw[hm,d3v];exact a63 (e:=2) (by decide)
  ·show C8 (hO x) ⟨8,a,b,c⟩=_;rw[hr,hnm,d3v];exact c3i (e:=2) (by decide)
 ·have has:asd x a=(sd x a,0):=by unfold asd;rw[if_neg h0]
  have hl:=(b23 hx.sh a).resolve_left h0;rw[has,if_neg (by simp)] at hm hnm
  dsimp only at hm hnm;rw[a6O hx.sh,d3v] at hm;rw[d3v] at hnm;right;rcases c7V hx hS (sd x a) (sd x b) (b24 hx.sh a) (b24 hx.sh b) with ⟨e,he,f1,f2⟩ | ⟨hl,hv,r,r1,r2,f1,f2⟩
  ·refine .inl ⟨hl,e,f1,he,?_,?_⟩;·rw[hm,f1,d3v,d3v,a63 he]
   ·show C8 (hO x) ⟨8,a,b,c⟩=_;rw[hr,hnm,f2,d3v,d3v,c3i he]
  ·refine .inr ⟨hl,r,r1,r2,b0d hx hS (b9l hx hl hv r1 r2) (c5h hx.sh.sr hS _ _ _) (c5g hx.sh.sr _ _ _) (b0e _ _ _ _).1 (.inr ⟨.inr rfl,rfl⟩) hc (Cw.same (b0e _ _ _ _).2.1 _) ?_ ?_⟩
   ·rw[hm,f1];rfl
   ·rw[hnm,f2];rfl
theorem d10(hz:zr x = [])(hc:C3 10 a b c=0):Dn x ⟨10,a,b,c⟩ x (if sd x a=sd x b then 1 else 0):=by
 obtain⟨ha,hb⟩:=d09 hc;refine⟨hx,hS,Ev.refl x,Cw.refl x _,?_,?_⟩
 ·rw[d1e hc];unfold P4 doR T6;rw[d3v,if_neg (by simp),a5U hx hS,d3v]
  simp only[jn];rw[if_neg (by decide),if_neg (by decide),if_neg (by decide),if_pos (by rfl),a6O hx.sh,d3v,a6O hx.sh,d3v]
  by_cases q:sd x a=sd x b
  ·rw[if_pos (by simpa using q),if_pos q]
   rfl
  ·rw[if_neg (by simpa using q),if_neg q]
   rfl
 ·show C8 (hO x) ⟨10,a,b,c⟩=_;rw[d0v hc,show (hO x).Roots=x.Roots from rfl,b1F hx.sh ha,d3v,b1F hx.sh hb,d3v,c5P hz];by_cases q:sd x a=sd x b
  ·rw[if_pos (by simpa using q),if_pos q]
  ·rw[if_neg (by simpa using q),if_neg q]
theorem d1(hb:x.S.Serial<9223372036854775807)(hc:C3 1 a b c=0):(∃e,R6 x.S b c=some (x.S,0,e)∧Er x ⟨1,a,b,c⟩ e) ∨
  (b.toNat≤4∧(-1≤c∧c≤5)∧∃i,Fst x.S i∧Dn x ⟨1,a,b,c⟩ (G5 (wS x (mkS x.S i b.toNat c)) a.toNat (hdl x.S i)) (x.S.Serial+1)):=by
 obtain⟨ha,hbb,hcc⟩:=d2t hc;have hR:=hx.sh.sr;have hm:u7 x ⟨1,a,b,c⟩=_:=d2B hc;unfold R7 at hm;dsimp only at hm;have hr:C8 (hO x) ⟨1,a,b,c⟩=_:=d1L hc;rw[show (hO x).S=sO x.S from rfl] at hr;rcases d1o hR hb b c with ⟨e,he,f1,f2⟩ | ⟨_,_,i,hF,f1,f2⟩
 ·refine .inl ⟨e,f1,he,?_,?_⟩;·rw[hm,f1,d3v,if_pos (by simpa using he),d3v,a63 he]
  ·show C8 (hO x) ⟨1,a,b,c⟩=_;rw[hr,f2,d3v,if_pos (by simpa using he)]
 ·refine .inr ⟨by omega,hcc,i,hF,?_⟩
  obtain⟨hi,h0,_⟩:=hF;have hn:b.toNat≤4:=by omega
  have hy:=c4T hx hi h0 hn hcc;have yS:=d1t hx hS hi h0 hn hcc;have hh:hdl x.S i=0∨hdl x.S i∈lv (wS x (mkS x.S i b.toNat c)).S:=.inr (by
   show _∈lv (mkS x.S i b.toNat c);rw[c1U hR hi h0 hn hcc];exact List.mem_append_right _ (List.mem_singleton.2 rfl))
  have hz:=a0j hy (r:=a.toNat) (by omega) hh
  have zS:=a4k hy.sh.sr yS a.toNat (hdl x.S i);obtain⟨e1,e2⟩:=a88 hy ha hh;have e3:ser (wS x (mkS x.S i b.toNat c)) (hdl x.S i)=x.S.Serial+1:=by
   show (ob (mkS x.S i b.toNat c) (hdl x.S i)).Serial=_;rw[b2q hR hi h0 hn hcc]
  refine⟨hz,zS,(d1s hx hi h0 hn hcc).ks (a1Q hy.sh.sr a.toNat _),Cw.same (a4j (wS x (mkS x.S i b.toNat c)) a.toNat _).2.1 _,?_,?_⟩
  ·rw[hm,f1,d3v,if_neg (by simp)]
   dsimp only;rw[show B1 ⟨⟨mkS x.S i b.toNat c,x.Roots,x.Cells,x.T,x.Q⟩,⟨1,a,b,c⟩⟩ (hdl x.S i) 0=_ from a9g hy yS ha hh,d3v,d3v,c8t hz zS (by omega),e1,e2,e3]
  ·show C8 (hO x) ⟨1,a,b,c⟩=_;rw[hr,f2,d3v,if_neg (by simp)]
   dsimp only;rw[show W3 ⟨sO (mkS x.S i b.toNat c),(hO x).Roots,(hO x).Cells,(hO x).T,(hO x).Q⟩ a (hdl x.S i)=_ from c0Y hy yS a (b08 hy yS hh),if_neg (by omega),if_pos hh,d3v,a8p hz zS,d3v,d08 (a2u hz).sh,e1,e2,e3]
   rfl
end
theorem c9u{x:Hp}(hx:Q8 x)(hS:SL x)(hz:zr x = [])(hb:x.S.Serial<9223372036854775807)(o:j1):(∃e,Er x o e)∨∃z v,Dn x o z v:=by
 obtain⟨k,a,b,c⟩:=o;by_cases hc:C3 k a b c=0
 ·have:=c1O hc;have hk:k=1∨k=2∨k=3∨k=4∨k=5∨k=6∨k=7∨k=8∨k=9∨k=10∨k=11∨k=12:=by omega
  rcases hk with rfl | rfl | rfl | rfl | rfl | rfl | rfl | rfl | rfl | rfl | rfl | rfl
  ·rcases d1 hx hS hb hc with ⟨e,_,h⟩ | ⟨_,_,i,_,h⟩;·exact .inl ⟨e,h⟩
   ·exact .inr ⟨_,_,h⟩
  ·exact .inr ⟨_,_,d2 hx hS hc⟩
  ·exact .inr ⟨_,_,d3 hx hS hc⟩
  ·rcases d4 hx hS hc with ⟨_,h⟩ | ⟨e,_,h⟩ | ⟨_,n,_,_,h⟩;·exact .inl ⟨_,h⟩
   ·exact .inl ⟨_,h⟩
   ·exact .inr ⟨_,_,h⟩
  ·rcases d5 hx hS hc with ⟨_,h⟩ | ⟨e,_,h⟩ | ⟨_,n,_,_,h⟩;·exact .inl ⟨_,h⟩
   ·exact .inl ⟨_,h⟩
   ·exact .inr ⟨_,_,h⟩
  ·rcases d6 hx hS hc with ⟨_,h⟩ | ⟨e,_,h⟩ | ⟨_,h⟩;·exact .inl ⟨_,h⟩
   ·exact .inl ⟨_,h⟩
   ·exact .inr ⟨_,_,h⟩
  ·obtain⟨_,⟨_,h⟩ | ⟨_,h⟩⟩:=d7 hx hS hc;·exact .inl ⟨_,h⟩
   ·exact .inr ⟨_,_,h⟩
  ·rcases d8 hx hS hc with ⟨_,h⟩ | ⟨_,e,_,h⟩ | ⟨_,r,_,_,h⟩;·exact .inl ⟨_,h⟩
   ·exact .inl ⟨_,h⟩
   ·exact .inr ⟨_,_,h⟩
  ·rcases d9 hx hS hc with ⟨_,h⟩ | ⟨_,_,h⟩ | ⟨_,v,_,h⟩;·exact .inl ⟨_,h⟩
   ·exact .inl ⟨_,h⟩
   ·exact .inr ⟨_,_,h⟩
  ·exact .inr ⟨_,_,d10 hx hS hz hc⟩
  ·obtain⟨h1,h2⟩:=b63 (x:=x) (a:=a) (b:=b) (c:=c) (.inl rfl) hc;exact .inl ⟨14,by decide,h1,h2⟩
  ·obtain⟨h1,h2⟩:=b63 (x:=x) (a:=a) (b:=b) (c:=c) (.inr rfl) hc;exact .inl ⟨14,by decide,h1,h2⟩
 ·obtain⟨h1,h2⟩:=c4h (x:=x) (o:=⟨k,a,b,c⟩) hc;exact .inl ⟨_,hc,h1,h2⟩
end Go.Sh
namespace Go.Sh
noncomputable def dov(x:Hp)(o:j1):Hp × Int × Int:=(u7 x o).getD (x,0,0)
structure Nxt (x:Hp) (o:j1) (y:Hp) (v e:Int):Prop where
 rt:Q8 y
 sl:SL y
 zr:zr y = []
 ev:Ev x y
 cw:Cw x y (if o.Kind=6 then o.A else -1)
 er:e≠0→y=x∧v=0
 mc:u7 x o=some (y,v,e)
 rf:C8 (hO x) (opR o)=some (hO y,v,e)
theorem Dn.nxt{x z:Hp}{o:j1}{v:Int}(d:Dn x o z v):Nxt x o (a1S z) v 0:=by
 have st:=a8o d.rt;exact⟨a2u d.rt,c2q d.rt d.sl,b6C d.rt,d.ev.stl st,d.cw.trans (st.cw _),λh=>absurd rfl h,d.mc,d.rf⟩
theorem c1W{x:Hp}(hx:Q8 x)(hS:SL x)(hz:zr x = [])(hb:x.S.Serial<9223372036854775807)(o:j1):∃y v e,Nxt x o y v e:=by
 rcases c9u hx hS hz hb o with ⟨e,h1,h2,h3⟩ | ⟨z,v,d⟩;·exact⟨x,0,e,hx,hS,hz,Ev.refl x,Cw.refl x _,λ_=>⟨rfl,rfl⟩,h2,h3⟩
 ·exact⟨_,_,_,d.nxt⟩
theorem b3x{x:Hp}(hx:Q8 x)(hS:SL x)(hz:zr x = [])(hb:x.S.Serial<9223372036854775807)(o:j1):Nxt x o (dov x o).1 (dov x o).2.1 (dov x o).2.2:=by
 obtain⟨y,v,e,h⟩:=c1W hx hS hz hb o;have:dov x o=(y,v,e):=by unfold dov;rw[h.mc];rfl
 rw[this];exact h
noncomputable def runs(x:Hp)(l:List j1):Hp × List Int:=l.foldl (λp o=>((dov p.1 o).1,p.2 ++ [(dov p.1 o).2.1])) (x,[])
theorem a9b(x:Hp)(l:List j1)(o:j1):runs x (l ++ [o])=((dov (runs x l).1 o).1,(runs x l).2 ++ [(dov (runs x l).1 o).2.1]):=by
 unfold runs;rw[List.foldl_append];rfl
theorem b43{x:Hp}(hx:Q8 x)(hS:SL x)(hz:zr x = [])(l:List j1)(hb:x.S.Serial+l.length<9223372036854775807)(P:Hp→Prop)(h0:P x)
  (hs:∀(y:Hp) (o:j1),o∈l→Q8 y→Nxt y o (dov y o).1 (dov y o).2.1 (dov y o).2.2→P y→P (dov y o).1):∀k,k≤l.length →
  Q8 (runs x (l.take k)).1∧SL (runs x (l.take k)).1∧zr (runs x (l.take k)).1 = []∧(runs x (l.take k)).1.S.Serial≤x.S.Serial+k∧(runs x (l.take k)).2.length=k∧P (runs x (l.take k)).1
 | 0,_=>⟨hx,hS,hz,by show x.S.Serial≤_;omega,rfl,h0⟩
 | k+1,hk=>by
  obtain⟨a1,a2,a3,a4,a5,a6⟩:=b43 hx hS hz l hb P h0 hs k (by omega)
  have hk':k<l.length:=by omega
  have n:=b3x a1 a2 a3 (by omega) l[k]
  rw[X8 hk',a9b];exact⟨n.rt,n.sl,n.zr,by have:=n.ev.s2;show (dov _ _).1.S.Serial≤_;omega,by simp[a5],hs _ _ (List.getElem_mem hk') a1 n a6⟩
theorem run_eq{x:Hp}(hx:Q8 x)(hS:SL x)(hz:zr x = [])(l:List j1)(hl:l.length≤1000)(hb:x.S.Serial+l.length<9223372036854775807) :
  a0g x l=some (runs x l)∧a6J (hO x) (l.map opR)=some (hO (runs x l).1,(runs x l).2):=by
 have all:=b43 hx hS hz l hb (λ_=>True) trivial (λ_ _ _ _ _ _=>trivial);constructor
 ·unfold a0g;simp only[jn];refine Y9 (T:=Hp × List Int) l.length (λk acc=>acc=runs x (l.take k)) (by omega) rfl (λk acc hk hP=>?_) (λacc hP=>?_)
  ·subst hP;obtain⟨a1,a2,a3,a4,a5,_⟩:=all k (by omega)
   have n:=b3x a1 a2 a3 (by omega) l[k]
   refine .inl ⟨_,?_,rfl⟩;rw[X8 hk,a9b];show (if _ then _ else _)=_
   rw[if_pos (by simpa using hk),o0 hk,d3v,n.mc,d3v,B6 (by omega) (by rw[a5];simp;omega),d3v,j5]
  ·subst hP;refine⟨runs x (l.take l.length),?_,?_⟩
   ·show (if _ then _ else _)=_
    rw[if_neg (by simp)]
   ·rw[List.take_length]
 ·unfold a6J;simp only[jn];refine Y9 (T:=g9 × List Int) (l.map opR).length (λk acc=>acc=(hO (runs x (l.take k)).1,(runs x (l.take k)).2)) (by simp;omega) rfl (λk acc hk hP=>?_) (λacc hP=>?_)
  ·subst hP;have hk':k<l.length:=by simpa using hk
   obtain⟨a1,a2,a3,a4,a5,_⟩:=all k (by omega)
   have n:=b3x a1 a2 a3 (by omega) l[k]
   refine .inl ⟨_,?_,rfl⟩;rw[X8 hk',a9b];show (if _ then _ else _)=_
   rw[if_pos (by simpa using hk'),o0 hk,d3v,List.getElem_map]
   dsimp only;rw[n.rf,d3v,B6 (by omega) (by rw[a5];simp;omega),d3v,j5]
  ·subst hP;refine⟨(hO (runs x (l.take (l.map opR).length)).1,(runs x (l.take (l.map opR).length)).2),?_,?_⟩
   ·show (if _ then _ else _)=_
    rw[if_neg (by simp)]
   ·rw[List.length_map,List.take_length]
end Go.Sh
namespace Go.Sh
section
variable{x:Hp}(hB:HB x)
include hB
end
end Go.Sh
namespace Go.Sh
def nwH(k:Nat)(l:Int)(p:Nat):Hp:=⟨⟨⟨List.replicate k ⟨0,0,z0⟩,l⟩,0⟩,List.replicate 6 0,List.replicate 6 ⟨0,false,-1⟩,List.replicate p ⟨0,0,0⟩,⟨[],30⟩⟩
end Go.Sh
namespace Go.Sh
end Go.Sh
namespace Go.Sh
section
variable{x:Hp}(hB:HB x)
include hB
end
end Go.Sh
namespace Go.Sh
def c0V(o:j1):w9:=⟨o.Kind,o.A,o.B,o.C⟩
abbrev c38(o:j1):Int:=C3 o.Kind o.A o.B o.C
def b9j(o:j1):Bool:=((decide (o.Kind≥1))&&(decide (o.Kind≤10)))&&(c38 o==0)
def b9n(p:List j1):Bool:=decide (p.length≤6)&&p.all b9j
def b0f(l:List (List j1)):Bool:=decide (l.length≤6)&&l.all b9n
section
variable{l:List (List j1)}(hl:l.length≤12)(hp:∀p∈l,p.length≤12)
include hl hp
theorem c0N:a85 (l.map (List.map c0V))=some (b0f l):=by
 unfold a85 b0f;rw[List.length_map];by_cases h6:l.length > 6
 ·rw[if_pos (by simp;omega),decide_eq_false (by omega)]
  rfl
 ·rw[if_neg (by simp;omega),decide_eq_true (by omega),Bool.true_and]
  simp only[jn];have key:=c0y (f:=λ(s23:Int)=>
   if (decide (s23<(l.length:Int))) then
     (ix (l.map (List.map c0V)) s23).bind λv34=>
     if (decide ((v34.length:Int) > 6)) then
      some (.inr (.inl false))
     else
     (lp (S:=Int) (E:=Bool ⊕ Unit) (λ(s36:Int)=>
      if (decide (s36<(v34.length:Int))) then
       (ix v34 s36).bind λv38=>
       (Q1 v38).bind λv39=>
       (n0 ((!v39)==false) 0 (a2n v38)).bind λv40=>
       if ((!v39)||(v40 != 0)) then
        some (.inr (.inl false))
       else
       some (.inl (u9 (s36+1)))
      else
      some (.inr (.inr ()))) 0).bind λe35=>
     match e35 with
     | .inl w=>some (.inr (.inl w))
     | .inr w=>some (Sum.inl (u9 (s23+1)))
   else
   some (.inr (.inr ()))) l b9n (.inr ()) (Sum.inl (β:=Unit) false) (by omega) (λk hk=>?_) (by simp)
  ·refine bnd key ?_;cases l.all b9n <;> rfl
  ·rw[if_pos (by simpa using hk),a0Z,o0 hk,Option.map_some,d3v,List.length_map]
   unfold b9n;have hm:=hp _ (List.getElem_mem hk);generalize l[k]=p at hm ⊢;by_cases hq:p.length > 6
   ·rw[if_pos (by simp;omega),decide_eq_false (by omega)]
    rfl
   ·rw[if_neg (by simp;omega),decide_eq_true (by omega),Bool.true_and]
    have k2:=c0y (f:=λ(s36:Int)=>
      if (decide (s36<(p.length:Int))) then
       (ix (p.map c0V) s36).bind λv38=>
       (Q1 v38).bind λv39=>
       (n0 ((!v39)==false) 0 (a2n v38)).bind λv40=>
       if ((!v39)||(v40 != 0)) then
        some (.inr (.inl false))
       else
       some (Sum.inl (u9 (s36+1)))
      else
      some (.inr (.inr ()))) p b9j (.inr ()) (Sum.inl (β:=Unit) false) (by omega) (λj hj=>?_) (by simp)
    ·refine Eq.trans (bnd k2 (r:=if p.all b9j=true then some (.inl (u9 ((k:Int)+1))) else some (.inr (.inl false))) ?_) ?_
     ·cases p.all b9j <;> rfl
     ·rw[j5]
    ·rw[if_pos (by simpa using hj),a0Z,o0 hj,Option.map_some,d3v,a6h]
     unfold b9j Q1;rw[d3v,j5];rw[show (c0V p[j]).Kind=p[j].Kind from rfl];cases ((decide (p[j].Kind≥1))&&(decide (p[j].Kind≤10)));·rfl
     ·by_cases h:c38 p[j]=0
      ·have e:C3 p[j].Kind (c0V p[j]).A (c0V p[j]).B (c0V p[j]).C=0:=h;rw[e,h];rfl
      ·have e1:(C3 p[j].Kind p[j].A p[j].B p[j].C != 0)=true:=by simpa using h
       have e2:(c38 p[j]==0)=false:=by simpa using h
       rw[e2];refine bnd (a:=c38 p[j]) rfl ?_;rw[show (c38 p[j] != 0)=true from e1];rfl
end
end Go.Sh
namespace Go.Sh
theorem d1j(s:a7)(h:s.S.Cells.length≤30):b3O s=some (sO s):=by
 unfold b3O;simp only[jn,b3P,d3v];have e:=a36 (b:=80) cO s.S.Cells (by omega) (by omega)
 simp only[cO,oo] at e;rw[e];rfl
theorem c79(s:a7):a9m s=some (decide (Sm s)):=by
 unfold a9m;simp only[jn];refine F4 (min s.S.Cells.length 30) (λk=>∀j (h:j<s.S.Cells.length),j<k→s.S.Cells[j].Val.Fields.length≤10) (by omega) (λ_ _ h=>by omega) (λk hk hP=>?_) (λhP=>?_)
 ·have hk1:k<s.S.Cells.length:=by omega
  have hk2:k<30:=by omega
  have hc:((decide ((k:Int)<(s.S.Cells.length:Int)))&&(decide ((k:Int)<30)))=true:=by simp;omega
  by_cases g:s.S.Cells[k].Val.Fields.length≤10
  ·refine .inl ⟨?_,λj h hj=>?_⟩
   ·rw[hc];simp only[if_true,o0 hk1,d3v];rw[if_neg (by simp;omega),j5]
   ·rcases Nat.lt_or_ge j k with q | q
    ·exact hP j h q
    ·have:j=k:=by omega
     subst this;exact g
  ·refine .inr ⟨.inl false,?_,?_⟩
   ·rw[hc];simp only[if_true,o0 hk1,d3v];rw[if_pos (by simp;omega)]
   ·simp only;rw[decide_eq_false (λq:Sm s=>g (q.2 k hk1))]
 ·refine⟨.inr (),?_,?_⟩
  ·rw[show ((decide (((min s.S.Cells.length 30:Nat):Int)<(s.S.Cells.length:Int)))&&(decide (((min s.S.Cells.length 30:Nat):Int)<30)))=false by
    rcases Nat.lt_or_ge s.S.Cells.length 30 with q | q
    ·simp;omega
    ·simp;omega]
   rfl
  ·simp only;congr 1;rw[decide_eq_decide];constructor
   ·intro q;exact⟨by omega,λi h=>hP i h (by omega)⟩
   ·intro q;have:=q.1;omega
end Go.Sh
namespace Go.Sh
theorem d1R(t:Tb)(h:t.length≤1000):b3Q t=some (t.map L5):=by
 unfold b3Q;simp only[jn];have e:=a36 (b:=24) L5 t (by omega) (by omega)
 simp only[L5] at e;rw[e];rfl
end Go.Sh
namespace Go.Sh
theorem d1a(l:List g5)(h:l.length≤1000):a9k l=some (l.map wcR):=by
 unfold a9k;simp only[jn];have e:=a36 (b:=24) wcR l (by omega) (by omega)
 simp only[wcR] at e;rw[e];rfl
theorem d1S(q:TQ)(h:q.L.length≤1000):a9o q=some (tqR q):=by
 unfold a9o;simp only[jn];have e:=a36 (b:=24) tkR q.L (by omega) (by omega)
 simp only[tkR] at e;rw[e];rfl
theorem c4A{x:Hp}(h1:x.S.S.Cells.length≤30)(h2:x.Cells.length≤1000)(h3:x.T.length≤1000)(h4:x.Q.L.length≤1000):Q7 x=some (hO x):=by
 unfold Q7;rw[d1j x.S h1,d3v,d1a x.Cells h2,d3v,d1R x.T h3,d3v,d1S x.Q h4,d3v];rfl
theorem b0X{x:Hp}(h:HpS x):Q7 x=some (hO x):=by
 have h1:=h.sr.len;have h2:=h.c6;have h3:=h.hr.l8;have h4:=h.q30;exact c4A (by omega) (by omega) (by omega) (by omega)
theorem b8W(x:Hp):a10 x=some (decide (b2N x)):=by
 unfold a10;rw[c79,d3v];congr 1;rw[Bool.eq_iff_iff];simp only[Bool.and_eq_true,decide_eq_true_iff];unfold b2N;constructor
 ·rintro⟨⟨⟨⟨a,b⟩,c⟩,d⟩,e⟩;exact⟨a,by omega,by omega,by omega,by omega⟩
 ·rintro⟨a,b,c,d,e⟩;exact⟨⟨⟨⟨a,by omega⟩,by omega⟩,by omega⟩,by omega⟩
theorem b8V{x:Hp}(h:HpS x):a10 x=some true:=by rw[b8W,decide_eq_true h.d1g]
theorem c8a{x:Hp}(hB:HB x):∃b,a9n x=some b∧(b=true→Q8 x∧x.S.Serial<1000000000):=by
 unfold a9n;rw[b8W,d3v];by_cases c:b2N x∧x.S.Serial<1000000000
 ·have e:((decide (b2N x))&&(decide (x.S.Serial<1000000000)))=true:=by simp[c.1,c.2]
  rw[e];obtain⟨f,f2,f3,f4,f5⟩:=c.1;simp only[beq_self_eq_true,E8,Bool.true_and];rw[c4A f.1 (by omega) (by omega) (by omega),d3v]
  obtain⟨b,h1,h2⟩:=b2W x hB (by have:=f.1;omega) (by omega) (by omega) (by omega) (by omega)
  rw[h1,d3v];exact⟨b,rfl,λq=>⟨h2.1 q,c.2⟩⟩
 ·have e:((decide (b2N x))&&(decide (x.S.Serial<1000000000)))=false:=by
   rw[Bool.and_eq_false_iff,decide_eq_false_iff_not,decide_eq_false_iff_not];exact Decidable.not_and_iff_or_not.1 c
  rw[e];exact⟨false,by simp[n0],λq=>by cases q⟩
end Go.Sh
namespace Go.Sh
def Sv(s s':a7):Prop:=s'.S.Cells.length=s.S.Cells.length∧∀i,i<s.S.Cells.length→(ce s i).Gen≤(ce s' i).Gen∧((ce s' i).Gen=(ce s i).Gen→((ce s i).State≠0→(ce s' i).State≠0)∧((ce s' i).State=1→(ce s i).State=0∨((ce s i).State=1∧((ce s i).Val.Started=true→(ce s' i).Val.Started=true))))
theorem Sv.refl(s:a7):Sv s s:=⟨rfl,λi _=>⟨Int.le_refl _,λ_=>⟨id,λh=>.inr ⟨h,id⟩⟩⟩⟩
theorem Sv.trans{a b c:a7}(h:Sv a b)(q:Sv b c):Sv a c:=by
 obtain⟨h1,h2⟩:=h;obtain⟨q1,q2⟩:=q;refine⟨q1.trans h1,λi hi=>?_⟩;obtain⟨a1,a2⟩:=h2 i hi;obtain⟨b1,b2⟩:=q2 i (by omega)
 refine⟨by omega,λe=>?_⟩
 obtain⟨a3,a4⟩:=a2 (by omega)
 obtain⟨b3,b4⟩:=b2 (by omega)
 refine⟨λh=>b3 (a3 h),λh=>?_⟩;rcases b4 h with r | ⟨r,r'⟩
 ·exact .inl (Classical.byContradiction λn=>a3 n r)
 ·rcases a4 r with k | ⟨k,k'⟩
  ·exact .inl k
  ·exact .inr ⟨k,λs=>r' (k' s)⟩
def b2O(s:a7)(h:Int):Prop:=∃(i:Nat) (g:Int),i<s.S.Cells.length∧h=1+(i:Int)+32*g∧(g<(ce s i).Gen∨(g=(ce s i).Gen∧(ce s i).State≠0∧((ce s i).State=1→(ce s i).Val.Started=true)))
theorem Sv.c8Q{s s':a7}(h:Sv s s'){k:Int}(q:b2O s k):b2O s' k:=by
 obtain⟨i,g,hi,e,q⟩:=q;obtain⟨h1,h2⟩:=h;obtain⟨a,b⟩:=h2 i hi;refine⟨i,g,by omega,e,?_⟩
 rcases q with q | ⟨q1,q2,q3⟩
 ·exact .inl (by omega)
 ·by_cases c:(ce s' i).Gen=(ce s i).Gen
  ·obtain⟨b1,b2⟩:=b c;refine .inr ⟨by omega,b1 q2,λr=>?_⟩
   rcases b2 r with k | ⟨k1,k2⟩
   ·exact absurd k q2
   ·exact k2 (q3 k1)
  ·exact .inl (by omega)
theorem c3s{s:a7}(hR:SR s){h:Int}(hh:h∈lv s)(hs:(ob s h).Started=false):¬b2O s h:=by
 rintro⟨i,g,hi,e,q⟩;obtain⟨j,hj⟩:=(a3s hR).1 hh;have hl:=hR.len;have hij:i=j:=by
  have:=hj.2.2;have:=hj.1;omega
 subst hij;have:=hj.2.2;rcases q with q | ⟨q1,q2,q3⟩
 ·omega
 ·rw[O3 hR hj,q3 hj.2.1] at hs;cases hs
theorem c5R{s:a7}(hR:SR s){h:Int}(hh:h∈lv s)(hs:(ob s h).Started=true):b2O s h:=by
 obtain⟨j,hj⟩:=(a3s hR).1 hh;refine⟨j,_,hj.1,hj.2.2,.inr ⟨rfl,by rw[hj.2.1];decide,λ_=>?_⟩⟩
 rw[←O3 hR hj];exact hs
theorem Kin.sv{s s':a7}(hR:SR s)(k:Kin s s'):Sv s s':=⟨k.len,λi hi=>by
 obtain⟨a,b,_,_,_⟩:=k.ce i hi;refine⟨by omega,λ_=>⟨by omega,λh=>.inr ⟨by omega,λq=>?_⟩⟩⟩
 have h1:At s (hdl s i) i:=⟨hi,by omega,rfl⟩
 have h2:At s' (hdl s i) i:=⟨by rw[k.len];exact hi,h,by rw[b];rfl⟩
 have hl:=J4 hR ((a3s hR).2 ⟨i,h1⟩);obtain⟨n,e⟩:=k.ob (hdl s i) (by omega)
 rw[O3 k.sr h2,O3 hR h1] at e;rw[e];exact q⟩
theorem c5M{s:a7}(hR:SR s){h:Int}(hh:h∈lv s){o:k8}(hs:o.Serial=(ob s h).Serial)(ho:OkO s o)(hst:(ob s h).Started=true→o.Started=true):Sv s (seO s h o):=⟨c2n s h o,λi hi=>by
 have q:=y4 hR hh;rw[b8c hR hh hs ho];split
 ·rename_i e;subst e;refine⟨Int.le_refl _,λ_=>⟨id,λr=>.inr ⟨q.2.1,λk=>hst ?_⟩⟩⟩;rw[O3 hR q];exact k
 ·exact⟨Int.le_refl _,λ_=>⟨id,λr=>.inr ⟨r,id⟩⟩⟩⟩
theorem c4R{s:a7}(hR:SR s){i:Nat}(hi:i<s.S.Cells.length)(ht:Th (ce s i))(d:Int):Sv s (mkA s i d):=⟨M3 ..,λj hj=>by
 rw[a3l hR hi ht];split
 ·rename_i e;subst e;exact⟨Int.le_refl _,λ_=>⟨id,λr=>.inr ⟨r,id⟩⟩⟩
 ·exact⟨Int.le_refl _,λ_=>⟨id,λr=>.inr ⟨r,id⟩⟩⟩⟩
theorem c9H{s:a7}{i:Nat}(hi:i<s.S.Cells.length):Sv s (gvA s i):=⟨W4 ..,λj hj=>by
 unfold gvA;rw[K7 hi];by_cases e:j=i
 ·subst e;rw[if_pos rfl];split;·exact⟨Int.le_refl _,λ_=>⟨λ_=>(by decide:(3:Int)≠0),λr=>absurd (show (3:Int)=1 from r) (by decide)⟩⟩
  ·refine⟨by show _≤(ce s j).Gen+1;omega,λr=>?_⟩
   have:(ce s j).Gen+1=(ce s j).Gen:=r;omega
 ·rw[if_neg e];exact⟨Int.le_refl _,λ_=>⟨id,λr=>.inr ⟨r,id⟩⟩⟩⟩
theorem Gn.sv{s s':a7}{ds:List Int}(g:Gn s s' ds):Sv s s':=⟨g.len,λj hj=>by
 rw[g.ce];split
 ·unfold gnC;split
  ·split;·exact⟨Int.le_refl _,λ_=>⟨λ_=>(by decide:(3:Int)≠0),λr=>absurd (show (3:Int)=1 from r) (by decide)⟩⟩
   ·refine⟨by show _≤(Sh.ce s j).Gen+1;omega,λr=>?_⟩
    have:(Sh.ce s j).Gen+1=(Sh.ce s j).Gen:=r;omega
  ·exact⟨Int.le_refl _,λ_=>⟨λ_=>(by decide:(2:Int)≠0),λr=>absurd (show (2:Int)=1 from r) (by decide)⟩⟩
 ·exact⟨Int.le_refl _,λ_=>⟨id,λr=>.inr ⟨r,id⟩⟩⟩⟩
theorem d1u{s:a7}(hR:SR s){i:Nat}(hi:i<s.S.Cells.length)(h0:(ce s i).State=0){n:Nat}(hn:n≤4){p:Int}(hp : -1≤p∧p≤5):Sv s (mkS s i n p):=⟨a5h hR hi h0 hn hp,λj hj=>by
 rw[a7a hR hi h0 hn hp];split
 ·rename_i e;subst e;exact⟨Int.le_refl _,λ_=>⟨λr=>absurd h0 r,λ_=>.inl h0⟩⟩
 ·exact⟨Int.le_refl _,λ_=>⟨id,λr=>.inr ⟨r,id⟩⟩⟩⟩
theorem c02{x:Hp}(hR:SR x.S)(h:Int):Sv x.S (B8 x h).S:=(G4 hR h (f:=Z4) λc=>E1).sv hR
theorem b75{x:Hp}(hR:SR x.S)(h:Int):Sv x.S (R4 x h).S:=(G4 hR h (f:=a95) λc=>Q2).sv hR
theorem b9G{x:Hp}(hR:SR x.S)(r:Nat)(h:Int):Sv x.S (G5 x r h).S:=
 (c02 hR h).trans (b75 (x:=wR (B8 x h) (x.Roots.set r h)) (a3n hR h) _)
theorem c2X{x:Hp}(hR:SR x.S){h:Int}(hh:h∈lv x.S){n:Nat}(hn:n<(ob x.S h).Fields.length)(v:Int):Sv x.S (a1z x h n v).S:=by
 have k1:=b78 hR v;have hh1:h∈lv (B8 x v).S:=by rw[k1.lv];exact hh
 have hof:(ob (B8 x v).S h).Fields=(ob x.S h).Fields:=by
  obtain⟨n,e⟩:=(G4 hR v (f:=Z4) λc=>E1).ob h (by have:=J4 hR hh;omega)
  show (ob (stO x v Z4).S h).Fields=_;rw[e]
 have ho:OkO (B8 x v).S (flg (ob (B8 x v).S h) ((ob x.S h).Fields.set n v)):=by
  have:=K1 k1.sr hh1;refine⟨this.s1,this.s2,this.st,this.wk,this.p1,this.p2,?_⟩;have h4:=this.fl;rw[hof] at h4;simpa using h4
 have k2:=c5M (o:=flg (ob (B8 x v).S h) ((ob x.S h).Fields.set n v)) k1.sr hh1 rfl ho id;exact ((c02 hR v).trans k2).trans (b75 (x:=wS (B8 x v) (seO (B8 x v).S h (flg (ob (B8 x v).S h) ((ob x.S h).Fields.set n v)))) (a1c (o:=flg (ob (B8 x v).S h) ((ob x.S h).Fields.set n v)) k1.sr hh1 rfl ho) _)
theorem c5i{x:Hp}(hR:SR x.S)(v:Int)(t:Tb)(old:Int):Sv x.S (a7b x v t old).S:=
 (c02 hR v).trans (b75 (x:=wT (B8 x v) t) (a3n hR v) old)
theorem c9X{x:Hp}(hR:SR x.S)(h d:Int):Sv x.S (mkd x h d).S:=by
 unfold mkd;split
 ·rename_i q;exact c4R hR q.1 q.2.1 d
 ·exact Sv.refl _
theorem c8h{x:Hp}(hR:SR x.S)(h:Int):Sv x.S (a8t x h).S:=by
 unfold a8t;split
 ·rename_i q;have k:=c4R hR q.1 q.2.1 (-1);split;·exact k.trans (c9H (by rw[k.1];exact q.1))
  ·exact k
 ·exact Sv.refl _
theorem c52{x:Hp}(hx:Q8 x)(n:Nat)(h call:Int):Sv x.S (a3a x n h call).S:=by
 have hR:=hx.sh.sr;unfold a3a;have s1:Sv x.S (mkd (wC x (x.Cells.set n (wcl h call))) h 1).S:=c9X (x:=wC x (x.Cells.set n (wcl h call))) hR h 1;refine s1.trans (c8h ?_ _);unfold mkd;split
 ·rename_i q;have:=(hR.ok _ q.1 q.2.1).wk;exact b4z hR q.1 q.2.1 (by omega)
 ·exact hR
theorem c9m{x:Hp}(hR:SR x.S){ds:List Int}(hn:ds.Nodup)(hm:∀d∈ds,d∈lv x.S):Sv x.S (buH x ds).S:=by
 have g:=a3h ds hR hn hm;exact g.sv.trans ((a5Q (ds.flatMap (outs x.S)++(wot x.T ds).2) (x:=a5q x ds (wot x.T ds).1) g.sr).1.sv g.sr)
theorem d0r{x:Hp}(hR:SR x.S){h:Int}(hh:h∈lv x.S):Sv x.S (quH x h).S:=by
 have oko:=K1 hR hh;have ho:OkO x.S (srt (ob x.S h)):=⟨oko.s1,oko.s2,oko.st,oko.wk,oko.p1,oko.p2,oko.fl⟩;exact (c5M (o:=srt (ob x.S h)) hR hh rfl ho λ_=>rfl).trans ((b1e hR hh).1.sv (a1c (o:=srt (ob x.S h)) hR hh rfl ho))
theorem d0L{x:Hp}(hx:Q8 x):Sv x.S (stp x).S:=by
 cases h:zr x with
 | nil=>rw[a9e h];exact Sv.refl _
 | cons z l=>
  have hz:z∈zr x:=by rw[h];exact List.mem_cons_self ..
  have hzl:=(a4w.1 hz).1;rw[a4p h];split;·exact d0r hx.sh.sr hzl
  ·exact c9m hx.sh.sr (by simp) (by simpa using hzl)
theorem d0I{x:Hp}(hx:Q8 x)(n:Nat):Sv x.S (stN n x).S:=by
 induction n with
 | zero=>exact Sv.refl _
 | succ n ih=>rw[a1W];exact ih.trans (d0L (a0z hx n))
theorem c78{x:Hp}(hx:Q8 x):Sv x.S (a1S x).S:=d0I hx 100
structure Fw (x y:Hp):Prop where
 sv:Sv x.S y.S
 q:∃l,y.Q=⟨x.Q.L++l,x.Q.Cap⟩∧∀t∈l,t.Kind=1→¬b2O x.S t.At
theorem Fw.of{x y:Hp}(h:Sv x.S y.S)(q:y.Q=x.Q):Fw x y:=⟨h,[],by rw[q,List.append_nil],λt ht=>by cases ht⟩
theorem Fw.refl(x:Hp):Fw x x:=Fw.of (Sv.refl _) rfl
theorem Fw.trans{x y z:Hp}(a:Fw x y)(b:Fw y z):Fw x z:=by
 obtain⟨l,q1,q2⟩:=a.q;obtain⟨m,r1,r2⟩:=b.q;refine⟨a.sv.trans b.sv,l++m,by rw[r1,q1,List.append_assoc],λt ht hk=>?_⟩
 rcases List.mem_append.1 ht with h | h
 ·exact q2 t h hk
 ·exact λs=>r2 t h hk (a.sv.c8Q s)
theorem b8e{x:Hp}(hx:Q8 x):Fw x (a1S x):=by
 obtain⟨l,q1,q2,_⟩:=(a8o hx).q;exact⟨c78 hx,l,q1,λt ht hk=>c3s hx.sh.sr (q2 t ht hk).1 (q2 t ht hk).2⟩
end Go.Sh
namespace Go.Sh
theorem a4i{x:Hp}(hR:SR x.S)(r:Nat)(h:Int):Fw x (G5 x r h):=Fw.of (b9G hR r h) (a4j x r h).2.2.2
theorem d1f{x:Hp}(hx:Q8 x)(hS:SL x)(hz:zr x = [])(hb:x.S.Serial<9223372036854775807)(o:j1):(∃e,Er x o e)∨∃z v,Dn x o z v∧Fw x z:=by
 have hR:=hx.sh.sr;obtain⟨k,a,b,c⟩:=o;by_cases hc:C3 k a b c=0
 ·have:=c1O hc;have hk:k=1∨k=2∨k=3∨k=4∨k=5∨k=6∨k=7∨k=8∨k=9∨k=10∨k=11∨k=12:=by omega
  rcases hk with rfl | rfl | rfl | rfl | rfl | rfl | rfl | rfl | rfl | rfl | rfl | rfl
  ·rcases d1 hx hS hb hc with ⟨e,_,h⟩ | ⟨hn,hcc,i,hF,h⟩;·exact .inl ⟨e,h⟩
   ·obtain⟨hi,h0,_⟩:=hF;have k1:Fw x (wS x (mkS x.S i b.toNat c)):=Fw.of (d1u hR hi h0 hn hcc) rfl;exact .inr ⟨_,_,h,k1.trans (a4i (x:=wS x (mkS x.S i b.toNat c)) (b9f hR hi h0 hn hcc) _ _)⟩
  ·exact .inr ⟨_,_,d2 hx hS hc,a4i hR _ _⟩
  ·exact .inr ⟨_,_,d3 hx hS hc,a4i hR _ _⟩
  ·rcases d4 hx hS hc with ⟨_,h⟩ | ⟨e,_,h⟩ | ⟨_,n,_,_,h⟩;·exact .inl ⟨_,h⟩
   ·exact .inl ⟨_,h⟩
   ·exact .inr ⟨_,_,h,a4i hR _ _⟩
  ·rcases d5 hx hS hc with ⟨_,h⟩ | ⟨e,_,h⟩ | ⟨hl,n,_,hn,h⟩;·exact .inl ⟨_,h⟩
   ·exact .inl ⟨_,h⟩
   ·exact .inr ⟨_,_,h,Fw.of (c2X hR hl hn _) (a7M _ _ _ _).2.2.2⟩
  ·rcases d6 hx hS hc with ⟨_,h⟩ | ⟨e,_,h⟩ | ⟨_,h⟩;·exact .inl ⟨_,h⟩
   ·exact .inl ⟨_,h⟩
   ·exact .inr ⟨_,_,h,Fw.of (c52 hx _ _ _) (b5m _ _ _ _).2.2.2⟩
  ·obtain⟨_,⟨_,h⟩ | ⟨_,h⟩⟩:=d7 hx hS hc;·exact .inl ⟨_,h⟩
   ·exact .inr ⟨_,_,h,a4i hR _ _⟩
  ·rcases d8 hx hS hc with ⟨_,h⟩ | ⟨_,e,_,h⟩ | ⟨_,r,_,_,h⟩;·exact .inl ⟨_,h⟩
   ·exact .inl ⟨_,h⟩
   ·exact .inr ⟨_,_,h,Fw.of (c5i hR _ _ _) (b0e _ _ _ _).2.2.2⟩
  ·rcases d9 hx hS hc with ⟨_,h⟩ | ⟨_,_,h⟩ | ⟨_,v,_,h⟩;·exact .inl ⟨_,h⟩
   ·exact .inl ⟨_,h⟩
   ·exact .inr ⟨_,_,h,a4i hR _ _⟩
  ·exact .inr ⟨_,_,d10 hx hS hz hc,Fw.refl x⟩
  ·obtain⟨h1,h2⟩:=b63 (x:=x) (a:=a) (b:=b) (c:=c) (.inl rfl) hc;exact .inl ⟨14,by decide,h1,h2⟩
  ·obtain⟨h1,h2⟩:=b63 (x:=x) (a:=a) (b:=b) (c:=c) (.inr rfl) hc;exact .inl ⟨14,by decide,h1,h2⟩
 ·obtain⟨h1,h2⟩:=c4h (x:=x) (o:=⟨k,a,b,c⟩) hc;exact .inl ⟨_,hc,h1,h2⟩
theorem c9v{x:Hp}(hx:Q8 x)(hS:SL x)(hz:zr x = [])(hb:x.S.Serial<9223372036854775807)(o:j1):Fw x (dov x o).1:=by
 rcases d1f hx hS hz hb o with ⟨e,_,h,_⟩ | ⟨z,v,d,f⟩
 ·have:dov x o=(x,0,e):=by unfold dov;rw[h];rfl
  rw[this];exact Fw.refl x
 ·have:dov x o=(a1S z,v,0):=by unfold dov;rw[d.mc];rfl
  rw[this];exact f.trans (b8e d.rt)
theorem d1M{x:Hp}(h1:HpS x)(h2:Wk x){L:List Int}(h3:a1f x L){r:Nat}(hr:r<6){h:Int}(hh:h=0∨h∈lv x.S):HpS (G5 x r h)∧Wk (G5 x r h)∧a1f (G5 x r h) L:=by
 have kin:=G4 h1.sr h (f:=Z4) λc=>E1;have l1:lv (B8 x h).S=lv x.S:=kin.lv;have f1:a1f (B8 x h) (h::L):=b9H h1.sr h3 h;have s1:HpS (B8 x h):=h1.st h (f:=Z4) λc=>E1;have s2:HpS (wR (B8 x h) (x.Roots.set r h)):=s1.roots (by rw[List.length_set];exact h1.r6) λv hv=>by
  rw[l1];rcases List.mem_or_eq_of_mem_set hv with q | q
  ·exact h1.rt v q
  ·exact q▸hh
 have w1:Wk (B8 x h):=h2.st h1.sr h (f:=Z4) λc=>E1;have one:∀v k,U5 [v] k=if v=k∧k≠0 then 1 else 0:=λv k=>by rw[G2,P8,Nat.zero_add]
 have f2:a1f (wR (B8 x h) (x.Roots.set r h)) (x.Roots.getD r 0::L):=f1.mv rfl (λ_ _=>rfl) λk hk=>by
  have:=b3K (l:=x.Roots) (r:=r) (by rw[h1.r6];exact hr) h k
  rw[one,one] at this;rw[b2y x h];unfold nms otr;dsimp only;rw[K4,K4,b2K,b2K,G2 h L,G2 (x.Roots.getD r 0) L];omega
 exact⟨s2.st _ λc=>Q2,Wk.st (x:=wR (B8 x h) (x.Roots.set r h)) w1 s2.sr _ λc=>Q2,b1C (x:=wR (B8 x h) (x.Roots.set r h)) s2.sr f2⟩
abbrev unq(x:Hp)(ts:List c8):Hp:=wQ x ⟨ts,x.Q.Cap⟩
noncomputable def b2f(x:Hp)(ts:List c8)(h:Int):Hp:=R4 (G5 (unq x ts) 5 h) h
section
variable{x:Hp}(hx:Q8 x){t:c8}{ts:List c8}(hq:x.Q.L=t::ts)
include hx hq
theorem b8q:HpS (unq x ts):=by
 have h:=hx.sh;refine⟨h.sr,h.hr,h.r6,h.c6,h.cap,?_,λu hu=>h.tk u (by rw[hq];exact List.mem_cons_of_mem _ hu),?_,h.rt,h.fl,h.pr,λi hi=>?_⟩
 ·have:=h.q30;rw[hq,List.length_cons] at this;show ts.length≤30;omega
 ·have:=h.td;rw[hq,List.pairwise_cons] at this;exact this.2
 ·obtain⟨a,b,c,d,e⟩:=h.cl i hi;refine⟨a,b,c,d,λq=>⟨(e q).1,?_⟩⟩;have:=(e q).2;rw[Bool.eq_false_iff] at this ⊢;intro r;obtain⟨u,hu,k1,k2⟩:=a62.1 r;exact this (a62.2 ⟨u,by rw[hq];exact List.mem_cons_of_mem _ hu,k1,k2⟩)
theorem b9V:a1f (unq x ts) (if t.Kind=1 then [t.At] else []):=hx.fair.mv rfl (λ_ _=>rfl) λh _=>by
 unfold nms otr b2i;dsimp only;rw[hq,List.filter_cons];by_cases k:t.Kind=1
 ·rw[if_pos k,if_pos (by simpa using k),List.map_cons,K4,K4,G2 t.At (List.map _ _),G2 t.At [],P8]
  omega
 ·rw[if_neg k,if_neg (by simpa using k),P8]
theorem c0d(hk:t.Kind≠1):Q8 (unq x ts):=⟨b8q hx hq,hx.wk,by have:=b9V hx hq;rwa [if_neg hk] at this⟩
theorem b69(hk:t.Kind=1):t.At∈lv x.S∧(ob x.S t.At).Started=true:=by
 rcases (hx.sh.tk t (by rw[hq];exact List.mem_cons_self ..)).2.2 with ⟨_,b,c⟩ | ⟨b,_⟩
 ·exact⟨b,c⟩
 ·omega
theorem a5v(hk:t.Kind=1):Q8 (b2f x ts t.At):=by
 have f:=b9V hx hq;rw[if_pos hk] at f;obtain⟨a,b,c⟩:=d1M (b8q hx hq) (x:=unq x ts) hx.wk f (r:=5) (by decide) (.inr (b69 hx hq hk).1)
 exact⟨a.st _ λc=>Q2,b.st a.sr _ λc=>Q2,b1C a.sr c⟩
omit hq in
theorem c0k (hS:SL x) (h:Int):SL (b2f x ts h):=by
 have k:=a4k (x:=unq x ts) hx.sh.sr hS 5 h;exact b73 [h] (a1Q (x:=unq x ts) hx.sh.sr 5 h).sr k
omit hq in
theorem c9z (h:Int):Ks x.S (b2f x ts h).S:=by
 have k:=a1Q (x:=unq x ts) hx.sh.sr 5 h;exact k.trans (b74 k.sr h)
omit hq in
theorem c4r (h:Int):(b2f x ts h).Roots=x.Roots.set 5 h∧(b2f x ts h).Cells=x.Cells∧(b2f x ts h).T=x.T∧(b2f x ts h).Q=⟨ts,x.Q.Cap⟩:=by
 obtain⟨a,b,c,d⟩:=b4Y (G5 (unq x ts) 5 h) h;obtain⟨a',b',c',d'⟩:=a4j (unq x ts) 5 h;exact⟨a.trans a',b.trans b',c.trans c',d.trans d'⟩
omit hq in
theorem c9y (h:Int):Fw (unq x ts) (b2f x ts h):=Fw.of ((b9G (x:=unq x ts) hx.sh.sr 5 h).trans (b75 (a1Q (x:=unq x ts) hx.sh.sr 5 h).sr h)) (c4r hx h).2.2.2
end
def prg(ps:List (List j1))(n:Int):List j1:=if n<0∨(ps.length:Int)≤n then [] else ps.getD n.toNat []
noncomputable def pre(x:Hp)(t:c8)(ts:List c8):Hp:=if t.Kind=1 then a1S (b2f x ts t.At) else unq x ts
noncomputable def ran(ps:List (List j1))(x:Hp)(t:c8)(ts:List c8):Hp:=(runs (pre x t ts) (prg ps t.Prog)).1
noncomputable def dne(ps:List (List j1))(x:Hp)(t:c8)(ts:List c8):Hp:=if t.Kind=1 then a1S (G5 (ran ps x t ts) 5 0) else ran ps x t ts
structure Oh (x:Hp):Prop where
 rt:Q8 x
 sl:SL x
 zr:zr x = []
theorem Nxt.ok{x y:Hp}{o:j1}{v e:Int}(n:Nxt x o y v e):Oh y:=⟨n.rt,n.sl,n.zr⟩
theorem c2p{x:Hp}(h:Q8 x)(s:SL x):Oh (a1S x):=⟨a2u h,c2q h s,b6C h⟩
theorem c5I{x:Hp}(hx:Oh x)(l:List j1)(hb:x.S.Serial+l.length<9223372036854775807):Oh (runs x l).1∧Fw x (runs x l).1∧(runs x l).1.S.Serial≤x.S.Serial+l.length∧(runs x l).2.length=l.length:=by
 have key:∀k,k≤l.length→Oh (runs x (l.take k)).1∧Fw x (runs x (l.take k)).1∧(runs x (l.take k)).1.S.Serial≤x.S.Serial+k∧(runs x (l.take k)).2.length=k:=by
  intro k;induction k with
  | zero=>exact λ_=>⟨hx,Fw.refl x,by show x.S.Serial≤_;omega,rfl⟩
  | succ k ih=>
   intro hk;obtain⟨a,b,c,d⟩:=ih (by omega)
   have hk':k<l.length:=by omega
   have n:=b3x a.rt a.sl a.zr (by omega) l[k]
   rw[X8 hk',a9b];exact⟨n.ok,b.trans (c9v a.rt a.sl a.zr (by omega) _),by have:=n.ev.s2;show (dov _ _).1.S.Serial≤_;omega,by simp[d]⟩
 have:=key l.length (Nat.le_refl _);rwa [List.take_length] at this
section
variable{x:Hp}(hx:Oh x){t:c8}{ts:List c8}(hq:x.Q.L=t::ts)(ps:List (List j1))
include hx hq
theorem c0L:Oh (pre x t ts):=by
 unfold pre;split
 ·rename_i k;exact c2p (a5v hx.rt hq k) (c0k hx.rt hx.sl _)
 ·rename_i k;exact⟨c0d hx.rt hq k,hx.sl,hx.zr⟩
theorem d0i:Fw (unq x ts) (pre x t ts):=by
 unfold pre;split
 ·rename_i k;exact (c9y hx.rt _).trans (b8e (a5v hx.rt hq k))
 ·exact Fw.refl _
theorem b7w:(pre x t ts).S.Serial=x.S.Serial:=by
 unfold pre;split
 ·rename_i k;rw[(a8o (a5v hx.rt hq k)).ser,(c9z hx.rt _).ser]
 ·rfl
variable(hb:x.S.Serial+(prg ps t.Prog).length<9223372036854775807)
include hb
theorem b7Z:Oh (ran ps x t ts)∧Fw (unq x ts) (ran ps x t ts)∧(ran ps x t ts).S.Serial≤x.S.Serial+(prg ps t.Prog).length:=by
 have e:=b7w hx hq;obtain⟨a,b,c,_⟩:=c5I (c0L hx hq) (prg ps t.Prog) (by rw[e];exact hb)
 exact⟨a,(d0i hx hq).trans b,by rw[e] at c;exact c⟩
theorem a8E:Oh (dne ps x t ts)∧Fw (unq x ts) (dne ps x t ts)∧(dne ps x t ts).S.Serial≤x.S.Serial+(prg ps t.Prog).length∧(t.Kind=1→sd (dne ps x t ts) 5=0):=by
 obtain⟨a,b,c⟩:=b7Z hx hq ps hb;unfold dne;split
 ·have hz:=a0j a.rt (r:=5) (by decide) (h:=0) (.inl rfl)
  have k:=a1Q a.rt.sh.sr 5 0;refine⟨c2p hz (a4k a.rt.sh.sr a.sl 5 0),(b.trans (a4i a.rt.sh.sr 5 0)).trans (b8e hz),?_,λ_=>(a88 a.rt (a:=5) (by decide) (h:=0) (.inl rfl)).1⟩
  rw[(a8o hz).ser,k.ser];exact c
 ·exact⟨a,b,c,λq=>absurd q (by assumption)⟩
end
end Go.Sh
namespace Go.Sh
def cst(ps:List (List j1))(t:c8):Int:=1+((prg ps t.Prog).length:Int)
def can(ps:List (List j1))(p:Hp × Int):Prop:=∃t ts,p.1.Q.L=t::ts∧cst ps t≤p.2
noncomputable def nxd(ps:List (List j1))(p:Hp × Int):Hp × Int:=match p.1.Q.L with
 | []=>p
 | t::ts=>if cst ps t≤p.2 then (dne ps p.1 t ts,p.2-cst ps t) else p
noncomputable def dN(ps:List (List j1)):Nat→Hp × Int→Hp × Int
 | 0,p=>p
 | n+1,p=>dN ps n (nxd ps p)
section
variable(ps:List (List j1))
theorem a3B(n:Nat)(p:Hp × Int):dN ps (n+1) p=nxd ps (dN ps n p):=by
 induction n generalizing p with
 | zero=>rfl
 | succ n ih=>exact ih (nxd ps p)
theorem b6Y(n m:Nat)(p:Hp × Int):dN ps (n+m) p=dN ps m (dN ps n p):=by
 induction m with
 | zero=>rfl
 | succ m ih=>rw[show n+(m+1)=(n+m)+1 by omega,a3B,ih,a3B]
theorem c1V{p:Hp × Int}(h:p.1.Q.L = []):nxd ps p=p:=by unfold nxd;rw[h]
theorem a2W{p:Hp × Int}{t:c8}{ts:List c8}(h:p.1.Q.L=t::ts):nxd ps p=if cst ps t≤p.2 then (dne ps p.1 t ts,p.2-cst ps t) else p:=by unfold nxd;rw[h]
theorem b0F{p:Hp × Int}{t:c8}{ts:List c8}(h:p.1.Q.L=t::ts):can ps p↔cst ps t≤p.2:=by
 constructor
 ·rintro⟨u,us,e,c⟩;rw[h] at e;injection e with e1 e2
  rw[e1];exact c
 ·exact λc=>⟨t,ts,h,c⟩
theorem b2X{p:Hp × Int}(h:p.1.Q.L = []):¬can ps p:=by
 rintro⟨u,us,e,c⟩;rw[h] at e;cases e
theorem c7G{p:Hp × Int}(h:¬can ps p):nxd ps p=p:=by
 cases e:p.1.Q.L with
 | nil=>exact c1V ps e
 | cons t ts=>rw[a2W ps e,if_neg (λq=>h ((b0F ps e).2 q))]
theorem c9r{p:Hp × Int}(h:¬can ps p)(n:Nat):dN ps n p=p:=by
 induction n with
 | zero=>rfl
 | succ n ih=>rw[a3B,ih,c7G ps h]
theorem a6j(t:c8):1≤cst ps t:=by unfold cst;omega
theorem c1F{p:Hp × Int}(hb:0≤p.2):∃n:Nat,(n:Int)≤p.2∧¬can ps (dN ps n p)∧∀j,j<n→can ps (dN ps j p):=by
 have key:∀m:Nat,(∃n:Nat,n≤m∧¬can ps (dN ps n p))∨((dN ps m p).2+m≤p.2∧0≤(dN ps m p).2):=by
  intro m;induction m with
  | zero=>exact .inr ⟨by show p.2+((0:Nat):Int)≤_;omega,hb⟩
  | succ m ih=>
   rcases ih with ⟨n,h1,h2⟩ | ⟨h1,h2⟩;·exact .inl ⟨n,by omega,h2⟩
   ·by_cases q:can ps (dN ps m p)
    ·right;obtain⟨t,ts,e,c⟩:=q;have:=a6j ps t;rw[a3B,a2W ps e,if_pos c];dsimp only;omega
    ·exact .inl ⟨m,by omega,q⟩
 have hex:∃n:Nat,(n:Int)≤p.2∧¬can ps (dN ps n p):=by
  rcases key (p.2.toNat+1) with ⟨n,h1,h2⟩ | ⟨h1,h2⟩
  ·rcases Nat.lt_or_ge n (p.2.toNat+1) with q | q
   ·exact⟨n,by omega,h2⟩
   ·have hn:n=p.2.toNat+1:=by omega
    rcases key p.2.toNat with ⟨n,h1,h2⟩ | ⟨h1,h3⟩;·exact⟨n,by omega,h2⟩
    ·refine⟨p.2.toNat,by omega,λ⟨t,ts,e,c⟩=>?_⟩
     have:=a6j ps t;omega
  ·omega
 obtain⟨n,⟨hn,hz⟩,hmin⟩:=Z9 hex;refine⟨n,hn,hz,λj hj=>Classical.byContradiction λq=>?_⟩;have:=hmin j ⟨by omega,q⟩
 omega
theorem b19{p:Hp × Int}(hx:Oh p.1)(hb:0≤p.2)(hs:p.1.S.Serial+p.2<9223372036854775807):∀n,Oh (dN ps n p).1∧0≤(dN ps n p).2∧(dN ps n p).2≤p.2∧(dN ps n p).1.S.Serial+(dN ps n p).2≤p.1.S.Serial+p.2
 | 0=>⟨hx,hb,Int.le_refl _,Int.le_refl _⟩
 | n+1=>by
  obtain⟨a,b,c,d⟩:=b19 hx hb hs n;rw[a3B];cases e:(dN ps n p).1.Q.L with
  | nil=>rw[c1V ps e];exact⟨a,b,c,d⟩
  | cons t ts=>
   rw[a2W ps e];split
   ·rename_i q;have q2:=q;unfold cst at q2;obtain⟨r1,_,r3,_⟩:=a8E a e ps (by omega)
    refine⟨r1,?_,?_,?_⟩;·dsimp only;omega
    ·have:=a6j ps t;dsimp only;omega
    ·dsimp only;unfold cst;omega
   ·exact⟨a,b,c,d⟩
theorem b6Z{x:Hp}{f g:Int}(hg:0≤g):∀n,(∀j,j<n→can ps (dN ps j (x,f)))→dN ps n (x,f+g)=((dN ps n (x,f)).1,(dN ps n (x,f)).2+g)
 | 0,_=>rfl
 | n+1,h=>by
  have ih:=b6Z hg n λj hj=>h j (by omega)
  obtain⟨t,ts,e,c⟩:=h n (by omega)
  rw[a3B,ih,a3B,a2W ps e,if_pos c];have e':((dN ps n (x,f)).1,(dN ps n (x,f)).2+g).1.Q.L=t::ts:=e;rw[a2W ps e',if_pos (by dsimp only;omega)]
  dsimp only;congr 1;omega
theorem c36{x:Hp}{f g:Int}(hg:0≤g)(h:can ps (x,f)):can ps (x,f+g):=by
 obtain⟨t,ts,e,c⟩:=h;exact⟨t,ts,e,by dsimp only at c ⊢;omega⟩
end
noncomputable def dn(ps:List (List j1))(p:Hp × Int):Nat:=if h:0≤p.2 then Classical.choose (c1F ps h) else 0
theorem a3C(ps:List (List j1)){p:Hp × Int}(h:0≤p.2):(dn ps p:Int)≤p.2∧¬can ps (dN ps (dn ps p) p)∧∀j,j<dn ps p→can ps (dN ps j p):=by
 unfold dn;rw[dif_pos h];exact Classical.choose_spec (c1F ps h)
theorem b62(ps:List (List j1)){p:Hp × Int}(h:0≤p.2){n:Nat}(h1:¬can ps (dN ps n p))(h2:∀j,j<n→can ps (dN ps j p)):dn ps p=n:=by
 obtain⟨_,a,b⟩:=a3C ps h;rcases Nat.lt_trichotomy (dn ps p) n with q | q | q
 ·exact absurd (h2 _ q) a
 ·exact q
 ·exact absurd (b _ q) h1
noncomputable def dr(ps:List (List j1))(p:Hp × Int):Hp × Int:=dN ps (dn ps p) p
theorem c4i(ps:List (List j1)){x:Hp}{f g:Int}(hx:Oh x)(hf:0≤f)(hg:0≤g)(hs:x.S.Serial+f<9223372036854775807) :
  dn ps (x,f+g)=dn ps (x,f)+dn ps ((dr ps (x,f)).1,(dr ps (x,f)).2+g)∧dr ps (x,f+g)=dr ps ((dr ps (x,f)).1,(dr ps (x,f)).2+g):=by
 obtain⟨a1,a2,a3⟩:=a3C ps (p:=(x,f)) hf;have m:=b6Z ps (x:=x) (f:=f) hg (dn ps (x,f)) a3;obtain⟨b1,b2,b3,b4⟩:=b19 ps (p:=(x,f)) hx hf hs (dn ps (x,f));have hl:0≤(dr ps (x,f)).2+g:=by unfold dr;omega
 obtain⟨c1,c2,c3⟩:=a3C ps (p:=((dr ps (x,f)).1,(dr ps (x,f)).2+g)) hl;have key:dn ps (x,f+g)=dn ps (x,f)+dn ps ((dr ps (x,f)).1,(dr ps (x,f)).2+g):=by
  refine b62 ps (show 0≤f+g by omega) ?_ λj hj=>?_
  ·rw[b6Y,m];exact c2
  ·rcases Nat.lt_or_ge j (dn ps (x,f)) with q | q
   ·rw[b6Z ps hg j λi hi=>a3 i (by omega)]
    exact c36 ps hg (a3 j q)
   ·obtain⟨i,rfl⟩:∃i,j=dn ps (x,f)+i:=⟨j-dn ps (x,f),by omega⟩
    rw[b6Y,m];exact c3 i (by omega)
 refine⟨key,?_⟩;have e:dr ps (x,f+g)=dN ps (dn ps (x,f+g)) (x,f+g):=rfl;rw[e,key,b6Y,m];rfl
theorem b8S(ps:List (List j1)){x:Hp}{f:Int}(hx:Oh x)(hf:0≤f)(hs:x.S.Serial+f<9223372036854775807):Oh (dr ps (x,f)).1∧0≤(dr ps (x,f)).2∧(dr ps (x,f)).2≤f∧(dr ps (x,f)).1.S.Serial+(dr ps (x,f)).2≤x.S.Serial+f:=b19 ps (p:=(x,f)) hx hf hs _
end Go.Sh
namespace Go.Sh
section
variable{x:Hp}(hx:HpS x)(hS:∀k∈lv x.S,(ob x.S k).Strong≤9223372036854775807)
include hx hS
theorem c4K{h:Int}(hh:h=0∨h∈lv x.S):h≤9223372036854775807:=by
 rcases hh with q | q
 ·omega
 ·have:=J4 hx.sr q;omega
theorem c5D(k:Int){h:Int}(hh:h≤9223372036854775807):a0u x k h=some (if k<0∨5<k then (x,6) else if h=0∨h∈lv x.S then (G5 x k.toNat h,0) else (x,3)):=by
 have hR:=hx.sr;have r6:=hx.r6;unfold a0u;by_cases hk:k<0∨5<k
 ·rw[if_pos hk,if_pos (by rw[r6];simp;omega)]
 ·rw[if_neg hk,if_neg (by rw[r6];simp;omega),a06 hR hh,d3v]
  by_cases hn:h=0∨h∈lv x.S
  ·rw[if_pos hn,decide_eq_true hn,if_neg (by simp)]
   obtain⟨n,rfl⟩:∃n:Nat,k=n:=⟨k.toNat,by omega⟩
   have hn6:n<6:=by omega
   have hnl:n<x.Roots.length:=by omega
   have old:x.Roots[n]≤9223372036854775807:=c4K hx hS (hx.rt _ (List.getElem_mem hnl));have e1:=a5R x h;have hn2:n<(B8 x h).Roots.length:=by rw[e1.1];exact hnl
   rw[o0 hnl,d3v];unfold E7 P2 F2;rw[a5P hR hh hS,d3v];dsimp only;rw[P7 (by omega) (by rw[e1.1];omega),d3v,o0 hn2,d3v,d3v]
   have hrel:=a2q (x:=wR (B8 x h) (x.Roots.set n h)) (a3n hR h) old;rw[Int.toNat_natCast,e1.1,show C5 ⟨(B8 x h).S,x.Roots.set n h,(B8 x h).Cells,(B8 x h).T,(B8 x h).Q⟩ x.Roots[n]=_ from hrel];unfold G5;rw[List.getD_eq_getElem?_getD,List.getElem?_eq_getElem hnl];rfl
  ·rw[if_neg hn,decide_eq_false hn,if_pos (by simp)]
theorem c72(k:Int){h:Int}(hh:h≤9223372036854775807):W3 (hO x) k h=some (if k<0∨5<k then (hO x,6) else if h=0∨h∈lv x.S then (hO (G5 x k.toNat h),0) else (hO x,3)):=by
 have hR:=hx.sr;have r6:=hx.r6;unfold W3;by_cases hk:k<0∨5<k
 ·rw[if_pos hk,if_pos (by simp;omega)]
 ·rw[if_neg hk,if_neg (by simp;omega),a6x hR hh,d3v]
  by_cases hn:h=0∨h∈lv x.S
  ·rw[if_pos hn,decide_eq_true hn,if_neg (by simp)]
   obtain⟨n,rfl⟩:∃n:Nat,k=n:=⟨k.toNat,by omega⟩
   have hnl:n<x.Roots.length:=by omega
   have hnl':n<(hO x).Roots.length:=hnl;have old:x.Roots[n]≤9223372036854775807:=c4K hx hS (hx.rt _ (List.getElem_mem hnl));have e1:=a5R x h;have r6':(hO x).Roots.length=6:=r6;rw[o0 hnl',d3v,a8g hR hh hS,d3v,P7 (by omega) (by rw[r6'];omega),d3v,o0 hnl',d3v]
   have hrel:=a3R (x:=wR (B8 x h) (x.Roots.set n h)) (a3n hR h) old;rw[Int.toNat_natCast];rw[show F0 ⟨(hO (B8 x h)).S,(hO x).Roots.set n h,(hO (B8 x h)).Cells,(hO (B8 x h)).T,(hO (B8 x h)).Q⟩ (hO x).Roots[n]=_ from hrel];unfold G5;rw[List.getD_eq_getElem?_getD,List.getElem?_eq_getElem hnl];rfl
  ·rw[if_neg hn,decide_eq_false hn,if_pos (by simp)]
end
theorem c0M(ps:List (List j1))(n:Int):a3Y ps n=some (prg ps n):=by
 unfold a3Y prg;by_cases h:n<0∨(ps.length:Int)≤n
 ·rw[if_pos (by simpa using h),if_pos h]
 ·rw[if_neg (by simpa using h),if_neg h]
  obtain⟨k,rfl⟩:∃k:Nat,n=k:=⟨n.toNat,by omega⟩
  have hk:k<ps.length:=by omega
  rw[o0 hk,d3v,Int.toNat_natCast,List.getD_eq_getElem?_getD,List.getElem?_eq_getElem hk];rfl
abbrev psR(ps:List (List j1)):List (List w9):=ps.map (List.map opR)
theorem c5n(ps:List (List j1))(n:Int):a8d (psR ps) n=some ((prg ps n).map opR):=by
 unfold a8d prg;rw[List.length_map];by_cases h:n<0∨(ps.length:Int)≤n
 ·rw[if_pos (by simpa using h),if_pos h]
  rfl
 ·rw[if_neg (by simpa using h),if_neg h]
  obtain⟨k,rfl⟩:∃k:Nat,n=k:=⟨n.toNat,by omega⟩
  have hk:k<ps.length:=by omega
  have hk2:k<(psR ps).length:=by simpa using hk
  rw[o0 hk2,d3v,Int.toNat_natCast,List.getD_eq_getElem?_getD,List.getElem?_eq_getElem hk];simp[psR]
def Mp(ps:List (List j1)):Prop:=∀p∈ps,p.length≤6
theorem a2K{ps:List (List j1)}(h:Mp ps)(n:Int):(prg ps n).length≤6:=by
 unfold prg;split;·simp
 ·rename_i q;have hk:n.toNat<ps.length:=by omega
  rw[List.getD_eq_getElem?_getD,List.getElem?_eq_getElem hk];exact h _ (List.getElem_mem hk)
theorem b6U{ps:List (List j1)}(h:Mp ps)(t:c8):a2d ps t=some (cst ps t):=by
 have:=a2K h t.Prog;unfold a2d cst;rw[c0M,d3v,C9 (by omega) (by omega)]
theorem c4f{ps:List (List j1)}(h:Mp ps)(t:c8):a8c (psR ps) ⟨t.Kind,t.At,t.Prog⟩=some (cst ps t):=by
 have:=a2K h t.Prog;unfold a8c cst;show (a8d (psR ps) t.Prog).bind _=_;rw[c5n,d3v,List.length_map,C9 (by omega) (by omega)]
theorem c9q{ps:List (List j1)}(h:Mp ps)(t:c8):cst ps t≤7:=by
 have:=a2K h t.Prog;unfold cst;omega
theorem b4e(x:Hp):U8 x=some (x.Q.L.isEmpty):=by
 unfold U8;rw[b5e,d3v];unfold tnx;cases x.Q.L <;> rfl
theorem c4k(x:Hp):b2w (hO x)=some (x.Q.L.isEmpty):=by
 unfold b2w;show some ((((x.Q.L.map _).length:Nat):Int)==0)=_;cases x.Q.L with
 | nil=>rfl
 | cons a l=>simp;omega
section
variable{x:Hp}(hx:Oh x){t:c8}{ts:List c8}(hq:x.Q.L=t::ts){ps:List (List j1)}(hm:Mp ps)(hb:x.S.Serial<9000000000000000000)
include hx hq hm hb
theorem b9T:P1 x ps=some (dne ps x t ts,t,0):=by
 have L5:=a2K hm t.Prog;have pok:=c0L hx hq;have pser:=b7w hx hq;obtain⟨rok,_,_⟩:=b7Z hx hq ps (by omega)
 have hrun:=(run_eq pok.rt pok.sl pok.zr (prg ps t.Prog) (by omega) (by rw[pser];omega)).1
 have hrun':a0g (pre x t ts) (prg ps t.Prog)=some (ran ps x t ts,(runs (pre x t ts) (prg ps t.Prog)).2):=hrun;have hz:=a0j rok.rt (r:=5) (by decide) (h:=0) (.inl rfl)
 have zS:=a4k rok.rt.sh.sr rok.sl 5 0;unfold P1;rw[b5e,d3v];have e:tnx x.Q=(⟨ts,x.Q.Cap⟩,t,0):=by unfold tnx;rw[hq]
 rw[e];dsimp only;rw[if_neg (by simp)]
 simp only[jn];by_cases k:t.Kind=1
 ·have hk:(t.Kind==1)=true:=by simpa using k
  have hat:=(b69 hx.rt hq k).1;have ush:=b8q hx.rt hq;have hm1:=a4T hx.rt.sh.sr hat;have e1:a0u ⟨x.S,x.Roots,x.Cells,x.T,⟨ts,x.Q.Cap⟩⟩ 5 t.At=some (G5 (unq x ts) 5 t.At,0):=by
   have:=c5D (x:=unq x ts) ush hx.sl 5 hm1;rw[if_neg (by omega),if_pos (.inr hat)] at this
   exact this
  have e2:C5 (G5 (unq x ts) 5 t.At) t.At=some (b2f x ts t.At):=a2q (a1Q (x:=unq x ts) hx.rt.sh.sr 5 t.At).sr hm1;have e3:=a5U (a5v hx.rt hq k) (c0k hx.rt hx.sl t.At);have e4:pre x t ts=a1S (b2f x ts t.At):=by unfold pre;rw[if_pos k]
  have e5:=c2j rok.rt rok.sl 5 (h:=0) (by decide)
  rw[if_neg (by omega),if_pos (.inl rfl)] at e5
  rw[if_pos hk,e1,d3v];dsimp only;rw[e2,d3v,e3,d3v,c0M,d3v,←e4,hrun',d3v,if_pos hk];dsimp only;rw[e5,d3v];refine bnd (a5U hz zS) ?_;unfold dne;rw[if_pos k];rfl
 ·have hk:¬(t.Kind==1)=true:=by simpa using k
  have e4:pre x t ts=unq x ts:=by unfold pre;rw[if_neg k]
  rw[if_neg hk,c0M,d3v,show (⟨x.S,x.Roots,x.Cells,x.T,⟨ts,x.Q.Cap⟩⟩:a8)=pre x t ts from e4.symm,hrun',d3v,if_neg hk];unfold dne;rw[if_neg k]
theorem c5S:a5O (hO x) (psR ps)=some (hO (dne ps x t ts),tkR t,0):=by
 have L5:=a2K hm t.Prog;have pok:=c0L hx hq;have pser:=b7w hx hq;obtain⟨rok,_,_⟩:=b7Z hx hq ps (by omega)
 have hrun:=(run_eq pok.rt pok.sl pok.zr (prg ps t.Prog) (by omega) (by rw[pser];omega)).2
 have hrun':a6J (hO (pre x t ts)) ((prg ps t.Prog).map opR)=some (hO (ran ps x t ts),(runs (pre x t ts) (prg ps t.Prog)).2):=hrun;have hz:=a0j rok.rt (r:=5) (by decide) (h:=0) (.inl rfl)
 have zS:=a4k rok.rt.sh.sr rok.sl 5 0;unfold a5O;rw[show (hO x).Q=tqR x.Q from rfl,c5v,d3v];have e:tnx x.Q=(⟨ts,x.Q.Cap⟩,t,0):=by unfold tnx;rw[hq]
 rw[e];dsimp only;rw[if_neg (by simp)]
 simp only[jn];have hkk:(tkR t).Kind=t.Kind:=rfl;have hka:(tkR t).At=t.At:=rfl;have hkp:(tkR t).Prog=t.Prog:=rfl;rw[hkk,hka,hkp];by_cases k:t.Kind=1
 ·have hk:(t.Kind==1)=true:=by simpa using k
  have hat:=(b69 hx.rt hq k).1;have ush:=b8q hx.rt hq;have hm1:=a4T hx.rt.sh.sr hat;have e1:W3 (hO (unq x ts)) 5 t.At=some (hO (G5 (unq x ts) 5 t.At),0):=by
   have:=c72 (x:=unq x ts) ush hx.sl 5 hm1;rw[if_neg (by omega),if_pos (.inr hat)] at this
   exact this
  have e2:F0 (hO (G5 (unq x ts) 5 t.At)) t.At=some (hO (b2f x ts t.At)):=a3R (a1Q (x:=unq x ts) hx.rt.sh.sr 5 t.At).sr hm1;have e3:=a8p (a5v hx.rt hq k) (c0k hx.rt hx.sl t.At);have e4:pre x t ts=a1S (b2f x ts t.At):=by unfold pre;rw[if_pos k]
  have e5:=c0Y rok.rt rok.sl 5 (h:=0) (by decide)
  rw[if_neg (by omega),if_pos (.inl rfl)] at e5
  rw[if_pos hk,show (⟨(hO x).S,(hO x).Roots,(hO x).Cells,(hO x).T,tqR ⟨ts,x.Q.Cap⟩⟩:g9)=hO (unq x ts) from rfl,e1,d3v];dsimp only;rw[e2,d3v,e3,d3v,c5n,d3v,←e4,hrun',d3v,if_pos hk];dsimp only;rw[e5,d3v];refine bnd (a8p hz zS) ?_;unfold dne;rw[if_pos k];rfl
 ·have hk:¬(t.Kind==1)=true:=by simpa using k
  have e4:pre x t ts=unq x ts:=by unfold pre;rw[if_neg k]
  rw[if_neg hk,c5n,d3v,show (⟨(hO x).S,(hO x).Roots,(hO x).Cells,(hO x).T,tqR ⟨ts,x.Q.Cap⟩⟩:g9)=hO (pre x t ts) by rw[e4];rfl,hrun',d3v,if_neg hk]
  unfold dne;rw[if_neg k]
end
theorem b9N{x:Hp}(h:x.Q.L = [])(ps:List (List j1)):P1 x ps=some (x,⟨0,0,0⟩,10)∧a5O (hO x) (psR ps)=some (hO x,⟨0,0,0⟩,10):=by
 constructor
 ·unfold P1;rw[b5e,d3v];unfold tnx;rw[h];rfl
 ·unfold a5O;rw[show (hO x).Q=tqR x.Q from rfl,c5v,d3v];unfold tnx;rw[h];rfl
section
variable{x:Hp}(hx:Oh x){ps:List (List j1)}(hm:Mp ps){f:Int}(hf:0≤f)(hf2:f≤1000000)(hb:x.S.Serial<8000000000000000000)
include hx hm hf hf2 hb
def dre(p:Hp × Int):Int:=if p.1.Q.L.isEmpty then 0 else 12
theorem drain_eq:G6 x ps f=some ((dr ps (x,f)).1,(dn ps (x,f):Int),(dr ps (x,f)).2,dre (dr ps (x,f))):=by
 obtain⟨a1,a2,a3⟩:=a3C ps (p:=(x,f)) hf;have all:=b19 ps (p:=(x,f)) hx hf (by show x.S.Serial+f<_;omega)
 unfold G6;simp only[jn];dsimp only at a1;refine a5E (λk=>((dN ps k (x,f)).2,(dN ps k (x,f)).1,(k:Int),(dN ps k (x,f)).2,(dN ps k (x,f)).1)) rfl (dn ps (x,f)) (λ_=>True) (by omega) trivial (λk hk _=>.inl ⟨?_,trivial⟩) (λ_=>⟨((dn ps (x,f):Int),(dr ps (x,f)).2,(dr ps (x,f)).1),?_,?_⟩)
 ·obtain⟨b1,b2,b3,b4⟩:=all k;obtain⟨t,ts,e,c⟩:=a3 k hk;dsimp only at b2 b3 b4;have hc:=a6j ps t;rw[b4e,e,d3v];show (a1r _).bind _=_;rw[b5e,d3v];have e2:tnx (dN ps k (x,f)).1.Q=(⟨ts,(dN ps k (x,f)).1.Q.Cap⟩,t,0):=by unfold tnx;rw[e]
  rw[e2];dsimp only;rw[b6U hm,d3v,if_neg (by simp;omega),b9T b1 e hm (by omega),d3v,C9 (by omega) (by omega),j5,a3B,a2W ps e,if_pos c]
 ·rw[b4e,d3v];cases e:(dN ps (dn ps (x,f)) (x,f)).1.Q.L with
  | nil=>rfl
  | cons t ts=>
   have hc:¬cst ps t≤(dN ps (dn ps (x,f)) (x,f)).2:=λq=>a2 ((b0F ps e).2 q);show (a1r _).bind _=_;rw[b5e,d3v];have e2:tnx (dN ps (dn ps (x,f)) (x,f)).1.Q=(⟨ts,(dN ps (dn ps (x,f)) (x,f)).1.Q.Cap⟩,t,0):=by unfold tnx;rw[e]
   rw[e2];dsimp only;rw[b6U hm,d3v,if_pos (by simp;omega)]
   rfl
 ·dsimp only;rw[b4e,d3v];unfold dre;cases (dr ps (x,f)).1.Q.L.isEmpty <;> rfl
theorem c7h:a86 (hO x) (psR ps) f=some (hO (dr ps (x,f)).1,(dn ps (x,f):Int),(dr ps (x,f)).2,dre (dr ps (x,f))):=by
 obtain⟨a1,a2,a3⟩:=a3C ps (p:=(x,f)) hf;have all:=b19 ps (p:=(x,f)) hx hf (by show x.S.Serial+f<_;omega)
 unfold a86;simp only[jn];dsimp only at a1;refine a5E (λk=>((dN ps k (x,f)).2,(k:Int),hO (dN ps k (x,f)).1)) rfl (dn ps (x,f)) (λ_=>True) (by omega) trivial (λk hk _=>.inl ⟨?_,trivial⟩) (λ_=>?_)
 ·obtain⟨b1,b2,b3,b4⟩:=all k;obtain⟨t,ts,e,c⟩:=a3 k hk;dsimp only at b2 b3 b4;have hc:=a6j ps t;rw[c4k,e,d3v];have e2:ix (hO (dN ps k (x,f)).1).Q.L 0=some (tkR t):=by
   show ix ((dN ps k (x,f)).1.Q.L.map tkR) 0=_;rw[e];rfl
  show (ix (hO (dN ps k (x,f)).1).Q.L 0).bind _=_;rw[e2,d3v,show a8c (psR ps) (tkR t)=_ from c4f hm t,d3v,if_neg (by simp;omega),c5S b1 e hm (by omega),d3v,C9 (by omega) (by omega),j5,a3B,a2W ps e,if_pos c]
 ·cases e:(dN ps (dn ps (x,f)) (x,f)).1.Q.L with
  | nil=>
   refine⟨.inr ((dr ps (x,f)).2,(dn ps (x,f):Int),hO (dr ps (x,f)).1),?_,?_⟩
   ·rw[c4k,e];rfl
   ·unfold dre;have e':(dr ps (x,f)).1.Q.L = []:=e;rw[e'];rfl
  | cons t ts=>
   have hc:¬cst ps t≤(dN ps (dn ps (x,f)) (x,f)).2:=λq=>a2 ((b0F ps e).2 q);refine⟨.inl (hO (dr ps (x,f)).1,(dn ps (x,f):Int),(dr ps (x,f)).2,12),?_,?_⟩
   ·rw[c4k,e,d3v];have e2:ix (hO (dN ps (dn ps (x,f)) (x,f)).1).Q.L 0=some (tkR t):=by
     show ix ((dN ps (dn ps (x,f)) (x,f)).1.Q.L.map tkR) 0=_;rw[e];rfl
    show (ix (hO (dN ps (dn ps (x,f)) (x,f)).1).Q.L 0).bind _=_;rw[e2,d3v,show a8c (psR ps) (tkR t)=_ from c4f hm t,d3v,if_pos (by simp;omega)]
    rfl
   ·unfold dre;have e':(dr ps (x,f)).1.Q.L=t::ts:=e;rw[e'];rfl
end
end Go.Sh
namespace Go.Sh
theorem c9o{x:Hp}(hB:HB x):∃b,a1Z x=some b∧(b=true→Q8 x∧x.S.Serial<1000000000∧zr x = []):=by
 obtain⟨b,h1,h2⟩:=c8a hB;unfold a1Z;rw[h1,d3v];cases b;·exact⟨false,by simp[n0],λh=>by cases h⟩
 ·obtain⟨hx,hb⟩:=h2 rfl;rw[beq_self_eq_true,E8,b0X hx.sh,d3v,E8,b2F hx.sh.sr,d3v,Bool.true_and];exact⟨_,rfl,λh=>⟨hx,hb,of_decide_eq_true h⟩⟩
theorem c57{l:List (List j1)}(hl:l.length≤12)(hp:∀p∈l,p.length≤12):a9l l=some (psR l):=by
 unfold a9l;simp only[jn];refine Y9 l.length (λk acc=>acc=(l.take k).map (List.map opR)) (by omega) (by simp) (λk acc hk hacc=>.inl ⟨_,?_,rfl⟩) (λacc hacc=>⟨_,if_neg (by simp),by rw[hacc,List.take_length]⟩)
 subst hacc;have hm:=hp _ (List.getElem_mem hk);dsimp only;rw[if_pos (by simpa using hk)]
 have e:=a36 (b:=32) opR l[k] (by omega) (by omega)
 simp only[opR] at e;simp only[o0 hk,d3v];rw[e,d3v,B6 (by omega) (by simp;omega),d3v,j5,List.take_succ_eq_append_getElem hk,List.map_append]
 rfl
theorem d1v{l:List (List j1)}(h:b0f l=true):Mp l∧l.length≤6:=by
 unfold b0f at h;rw[Bool.and_eq_true,decide_eq_true_iff,List.all_eq_true] at h;refine⟨λp hp=>?_,h.1⟩;have:=h.2 p hp;unfold b9n at this;rw[Bool.and_eq_true,decide_eq_true_iff] at this;exact this.1
theorem d1q(l:List (List j1)):∃b,a02 l=some b∧(b=true→l.length≤10∧(∀p∈l,p.length≤10)∧b0f l=true):=by
 unfold a02;simp only[jn];have hlen:min l.length 10≤10:=Nat.min_le_right ..;refine b60 (Q:=λb=>b=true→l.length≤10∧(∀p∈l,p.length≤10)∧b0f l=true) (min l.length 10) (λk=>∀h:k<l.length,(l[k]).length≤10) (by omega) (λk hk=>?_) ?_ (λhP=>?_) (λhP=>?_)
 ·have hkl:k<l.length:=by omega
  have hk10:k<10:=by omega
  have c:((decide (((k:Nat):Int)<(l.length:Int)))&&(decide (((k:Nat):Int)<10)))=true:=by simp;omega
  by_cases q:(l[k]).length≤10
  ·refine⟨_,?_,.inl ⟨λ_=>q,rfl⟩⟩;rw[if_pos c,o0 hkl,d3v,if_neg (by simp;omega),j5]
  ·refine⟨_,?_,.inr ⟨λh=>q (h hkl),rfl⟩⟩;rw[if_pos c,o0 hkl,d3v,if_pos (by simp;omega)]
 ·rw[if_neg (by simp;omega)]
 ·by_cases h10:l.length≤10
  ·have hp:∀p∈l,p.length≤10:=λp hp=>by
    obtain⟨k,hk,rfl⟩:=List.getElem_of_mem hp;exact hP k (by omega) hk
   have hp12:∀p∈l,p.length≤12:=λp q=>by have:=hp p q;omega
   have c:decide ((l.length:Int)≤10)=true:=by simp;omega
   refine⟨b0f l,?_,λh=>⟨h10,hp,h⟩⟩;dsimp only;rw[c,beq_self_eq_true,E8,c57 (by omega) hp12,d3v,E8]
   refine bnd (c0N (l:=l) (by omega) hp12) ?_
   rfl
  ·have c:decide ((l.length:Int)≤10)=false:=by simp;omega
   refine⟨false,?_,λh=>by cases h⟩
   dsimp only;rw[c];rfl
 ·exact⟨false,rfl,λh=>by cases h⟩
theorem b0Q(hsh:F9=some true){x:Hp}{l:List (List j1)}{K:Option Bool}(g:Bool→Bool→Bool)(hg:∀b,g false b=true)(hg2:∀b,g b false=true)(hB:HB x)
  (h:Oh x→x.S.Serial<1000000000→l.length≤10→(∀p∈l,p.length≤10)→Mp l→g true true=false→K=some true) :
  ((a1Z x).bind λv1=>(n0 ((!v1)==false) false (a02 l)).bind λv2=>(n0 ((g v1 v2)==false) false F9).bind λv3=>if ((g v1 v2)||(!v3)) then (F9).bind λv4=>some v4 else K)=some true:=by
 obtain⟨b,h1,h2⟩:=c9o hB;obtain⟨c,h3,h4⟩:=d1q l;rw[h1,d3v,hsh];cases b
 ·rw[show n0 ((!false)==false) false (a02 l)=some false from rfl,d3v,hg false];rfl
 ·rw[show n0 ((!true)==false) false (a02 l)=a02 l from rfl,h3,d3v];cases c
  ·rw[hg2 true];rfl
  ·obtain⟨a,b,d⟩:=h2 rfl;obtain⟨e1,e2,e3⟩:=h4 rfl;cases hgb:g true true
   ·simp only[beq_self_eq_true,E8,d3v,Bool.not_true,Bool.or_self,Bool.false_eq_true,if_false];exact h ⟨a,SB.sl a.sh.sr hB.sb,d⟩ b e1 e2 (d1v e3).1 hgb
   ·rfl
end Go.Sh
namespace Go.Sh
theorem b5b{x:Hp}(hx:Oh x){ps:List (List j1)}(hm:Mp ps)(hb:x.S.Serial<9000000000000000000):∃y u e,P1 x ps=some (y,u,e)∧a5O (hO x) (psR ps)=some (hO y,tkR u,e)∧Oh y ∧
  (x.Q.L = []∧y=x∧e=10∧u=⟨0,0,0⟩∨∃ts,x.Q.L=u::ts∧e=0∧y=dne ps x u ts):=by
 cases hq:x.Q.L with
 | nil=>
  obtain⟨a,b⟩:=b9N hq ps;exact⟨_,_,_,a,b,hx,.inl ⟨rfl,rfl,rfl,rfl⟩⟩
 | cons t ts=>
  have:=a2K hm t.Prog;exact⟨_,_,_,b9T hx hq hm hb,c5S hx hq hm hb,(a8E hx hq ps (by omega)).1,.inr ⟨ts,rfl,rfl,rfl⟩⟩
theorem b9X{n:Int}(h0:0≤n)(h1:n≤255):u9 n=n:=C9 (by omega) (by omega)
section
variable{x:Hp}{l:List (List j1)}(hsh:F9=some true)(hB:HB x)
include hsh hB
theorem drainStays{f:Int}(h0:0≤f)(h1:f≤255):a4t x l f=some true:=by
 unfold a4t;refine b0Q hsh (λa b=>(!a)||(!b)) (λ_=>rfl) (λb=>by simp) hB λhx hb h10 hp hm _=>?_
 obtain⟨d1,d2,d3,_⟩:=b8S l hx h0 (by omega)
 obtain⟨y,u,e,s1,_,hy,s3⟩:=b5b hx hm (by omega)
 rw[b9X h0 h1,drain_eq hx hm h0 (by omega) (by omega),d3v,s1,d3v]
 dsimp only;rw[b8V d1.rt.sh,d3v];simp only[Bool.not_true,beq_self_eq_true,E8];rw[b8V hy.rt.sh,d3v,hy.rt.sh.r6,if_neg (by simp),b0X d1.rt.sh,d3v,b4W d1.rt d1.sl,d3v]
 simp only[beq_self_eq_true,E8];rw[b2F d1.rt.sh.sr,d3v,decide_eq_true d1.zr];simp only[beq_self_eq_true,Bool.and_self,E8];rw[b0X hy.rt.sh,d3v,b4W hy.rt hy.sl,d3v];simp only[beq_self_eq_true,Bool.and_self,E8];rw[d3v,b2F hy.rt.sh.sr,d3v,decide_eq_true hy.zr];have c1:decide ((dr l (x,f)).2≥0)=true:=by simpa using d2
 have c2:decide ((dr l (x,f)).2≤f)=true:=by simpa using d3
 have c3:((dre (dr l (x,f))==0)==((((dr l (x,f)).1.Q.L.length:Nat):Int)==0))=true:=by
  unfold dre;cases (dr l (x,f)).1.Q.L with
  | nil=>rfl
  | cons a k=>simp;omega
 rw[c1,c2,c3];simp only[beq_self_eq_true,Bool.and_self,E8,Bool.true_and];cases c:((e != 0)||(u.Kind != 1))
 ·have ce:e=0:=by
   rw[Bool.or_eq_false_iff] at c;simpa using c.1
  have ck:u.Kind=1:=by
   rw[Bool.or_eq_false_iff] at c;simpa using c.2
  rcases s3 with ⟨_,_,q,_⟩ | ⟨ts,q1,_,q3⟩;·omega
  ·have:=a2K hm u.Prog;have h5:=(a8E hx q1 l (by omega)).2.2.2 ck
   rw[←q3] at h5;have hix:=b1F hy.rt.sh (r:=5) (by decide)
   rw[h5] at hix;simp only[beq_self_eq_true,E8];rw[hix];rfl
 ·rfl
theorem drainParts{f g:Int}(f0:0≤f)(f1:f≤255)(g0:0≤g)(g1:g≤255):a4s x l f g=some true:=by
 unfold a4s;refine b0Q hsh (λa b=>(!a)||(!b)) (λ_=>rfl) (λb=>by simp) hB λhx hb h10 hp hm _=>?_
 obtain⟨d1,d2,d3,d4⟩:=b8S l hx f0 (by omega)
 obtain⟨p1,p2⟩:=c4i l hx f0 g0 (by omega)
 have ok:=(b8S l hx (f:=f+g) (by omega) (by omega)).1.rt.sh
 have n1:=(a3C l (p:=(x,f)) f0).1;have n2:=(a3C l (p:=(x,f+g)) (by show 0≤f+g;omega)).1
 have n3:=(a3C l (p:=((dr l (x,f)).1,(dr l (x,f)).2+g)) (by show 0≤(dr l (x,f)).2+g;omega)).1
 dsimp only at n1 n2 n3;rw[b9X f0 f1,b9X g0 g1,C9 (n:=f+g) (by omega) (by omega),drain_eq hx hm f0 (by omega) (by omega),d3v]
 dsimp only;rw[C9 (by omega) (by omega),drain_eq d1 hm (f:=(dr l (x,f)).2+g) (by omega) (by omega) (by omega),d3v,drain_eq hx hm (f:=f+g) (by omega) (by omega) (by omega),d3v]
 dsimp only;rw[←p2,b8V ok,d3v,beq_self_eq_true,E8,d3v];simp only[beq_self_eq_true,Bool.and_self,E8];rw[b0X ok,d3v,d3v,c5J ok,d3v,p1,C9 (by omega) (by omega)]
 simp
theorem drainNothing{f:Int}(h0:0≤f)(h1:f≤255):a2y x l f=some true:=by
 unfold a2y;refine b0Q hsh (λa b=>(!a)||(!b)) (λ_=>rfl) (λb=>by simp) hB λhx hb h10 hp hm _=>?_
 have z:dn l (x,0)=0:=b62 l (p:=(x,0)) (Int.le_refl 0) (by
  rintro⟨t,ts,_,c⟩;have:=a6j l t;change cst l t≤0 at c
  omega) (λj hj=>by omega)
 have zr:dr l (x,0)=(x,0):=by unfold dr;rw[z];rfl
 have hdn:=(a3C l (p:=(x,f)) h0);have d:=b8S l hx h0 (by omega)
 rw[b9X h0 h1,drain_eq hx hm (f:=0) (by decide) (by decide) (by omega),d3v,z,zr]
 dsimp only;rw[b8V hx.rt.sh,d3v];simp only[Bool.not_true,beq_self_eq_true,E8];rw[b0X hx.rt.sh,d3v,d3v,c5J hx.rt.sh,d3v];simp only[Bool.not_true,Bool.or_self,show ((((0:Nat):Int)) != 0)=false from rfl,show (((0:Int)) != 0)=false from rfl,beq_self_eq_true,E8];rw[b4e,d3v];have c:(((dre (x,0))==0) != x.Q.L.isEmpty)=false:=by
  unfold dre;cases x.Q.L.isEmpty <;> rfl
 rw[c,if_neg (by simp),drain_eq hx hm h0 (by omega) (by omega),d3v]
 dsimp only;cases hq:x.Q.L with
 | nil=>
  have e:=c9r l (p:=(x,f)) (b2X l hq);have e1:dn l (x,f)=0:=b62 l (p:=(x,f)) h0 (b2X l hq) λj hj=>by omega
  have e2:dr l (x,f)=(x,f):=by unfold dr;rw[e1];rfl
  rw[e1,e2];simp
 | cons t ts=>
  rw[if_neg (by simp;omega),show ix (t::ts) 0=some t from rfl,d3v,b6U hm,d3v]
  have c1:=a6j l t;have c2:=c9q hm t;have c3:=b0F l (p:=(x,f)) hq;dsimp only at c3;have k1:decide (cst l t≥1)=true:=by simpa using c1
  have k2:decide (cst l t≤7)=true:=by simpa using c2
  rw[k1,k2];by_cases q:cst l t≤f
  ·have hp:0<dn l (x,f):=Nat.pos_of_ne_zero λe=>by
    have:=hdn.2.1;rw[e] at this;exact this (c3.2 q)
   have hl:(dr l (x,f)).2≤f-cst l t:=by
    obtain⟨m,hm'⟩:∃m,dn l (x,f)=1+m:=⟨dn l (x,f)-1,by omega⟩
    have pl:=a2K hm t.Prog;have e1:dN l 1 (x,f)=(dne l x t ts,f-cst l t):=by
     show nxd l (x,f)=_;rw[a2W l (p:=(x,f)) hq,if_pos q]
    obtain⟨o1,_,o3,_⟩:=a8E hx hq l (by omega)
    have:=b19 l (p:=(dne l x t ts,f-cst l t)) o1 (by show 0≤f-cst l t;omega) (by show (dne l x t ts).S.Serial+(f-cst l t)<_;omega) m
    unfold dr;rw[hm',b6Y,e1];exact this.2.2.1
   have k3:decide (((dn l (x,f):Nat):Int) > 0)=true:=by simp;omega
   have k4:decide (cst l t≤f)=true:=by simpa using q
   have k5:decide ((dr l (x,f)).2≤u9 (f-cst l t))=true:=by rw[C9 (by omega) (by omega)];simpa using hl
   rw[k3,k4,k5];simp
  ·have e1:dn l (x,f)=0:=b62 l (p:=(x,f)) h0 (λr=>q (c3.1 r)) λj hj=>by omega
   have k4:decide (cst l t≤f)=false:=by simpa using q
   rw[e1,k4];simp
end
end Go.Sh
namespace Go.Sh
def flt(t:c8):List Int:=[t.Kind,t.At,t.Prog]
theorem c1G(l:List c8):(l.flatMap flt).length=3*l.length:=by
 induction l with
 | nil=>rfl
 | cons a l ih=>
  rw[List.flatMap_cons,List.length_append,ih];simp[flt];omega
section
variable{x:Hp}{l:List (List j1)}(hsh:F9=some true)(hB:HB x)
include hsh hB
theorem drainOrder:a4r x l=some true:=by
 unfold a4r;refine b0Q hsh (λa b=>(((!a)||(!b))||(((x.Q.L.length:Nat):Int)==0))) (λ_=>rfl) (λb=>by simp) hB λhx hb h10 hp hm hg=>?_
 have hg:x.Q.L ≠ []:=λe=>by rw[e] at hg;simp at hg
 obtain⟨y,u,e,s1,_,hy,s3⟩:=b5b hx hm (by omega)
 rcases s3 with ⟨q,_⟩ | ⟨ts,hq,rfl,hd⟩;·exact absurd q hg
 ·have pl:=a2K hm u.Prog;obtain⟨_,fw,_,_⟩:=a8E hx hq l (by omega)
  rw[←hd] at fw;obtain⟨k,q1,_⟩:=fw.q;have hQ:y.Q.L=ts++k:=by rw[q1]
  have q30:=hx.rt.sh.q30;have q30':=hy.rt.sh.q30;have hn:x.Q.L.length=ts.length+1:=by rw[hq];rfl
  have hn':y.Q.L.length=ts.length+k.length:=by rw[hQ,List.length_append]
  rw[s1,d3v];simp only[bne_self_eq_false,beq_self_eq_true,E8];have hix:ix x.Q.L 0=some u:=by rw[hq];rfl
  rw[hix,d3v];simp only[beq_self_eq_true,Bool.and_self,Bool.not_true,Bool.false_or];rw[if_neg (by rw[C9 (by omega) (by omega)];simp;omega)]
  simp only[jn];refine b7o (λ(s:Int × List Int × List Int)=>∃i:Nat,s.1=((i+1:Nat):Int)∧i≤ts.length∧s.2.1=(ts.take i).flatMap flt∧s.2.2=(ts.take i).flatMap flt) (λs=>1+ts.length-s.1.toNat) ⟨0,rfl,Nat.zero_le _,by simp,by simp⟩ (by show 1+ts.length-_<_;omega) ?_
  rintro⟨_,_,_⟩ ⟨i,rfl,hi,rfl,rfl⟩;by_cases c:i<ts.length
  ·refine .inl ⟨(((i+1+1:Nat):Int),(ts.take (i+1)).flatMap flt,(ts.take (i+1)).flatMap flt),?_,⟨i+1,rfl,c,rfl,rfl⟩,by show 1+ts.length-_<1+ts.length-_;simp;omega⟩
   have hi1:i+1<x.Q.L.length:=by omega
   have hi2:i<y.Q.L.length:=by omega
   have e1:x.Q.L[i+1]=ts[i]:=by simp only[hq];exact List.getElem_cons_succ ..
   have e2:y.Q.L[i]=ts[i]:=by simp only[hQ];exact List.getElem_append_left c
   have hl:=c1G (ts.take i);have hl2:(ts.take i).length≤ts.length:=by simp;omega
   dsimp only;rw[if_pos (by simp;omega),o0 hi1,d3v,e1,B6 (by omega) (by simp[hl];omega),d3v,C9 (by omega) (by omega),show (((i+1:Nat):Int)-1)=((i:Nat):Int) by omega,o0 hi2,d3v,e2,B6 (by omega) (by simp[hl];omega),d3v,j5,X8 c,List.flatMap_append]
   rfl
  ·have:i=ts.length:=by omega
   subst this;refine .inr ⟨_,if_neg (by simp;omega),?_⟩
   dsimp only;rw[b4s (by rw[c1G];simp;omega)]
   rfl
theorem drainOnce{n:Int}(h0:0≤n)(h1:n≤255):a5k x l n=some true:=by
 unfold a5k;refine b0Q hsh (λa b=>(!a)||(!b)) (λ_=>rfl) (λb=>by simp) hB λhx hb h10 hp hm _=>?_
 simp only[b9X h0 h1,a87 h0 (show (0:Int)<40 by decide),d3v]
 obtain⟨N,hN,hN2⟩:∃N:Nat,n % 40=(N:Int)∧N<40:=⟨(n % 40).toNat,by omega,by omega⟩
 rw[hN];simp only[jn];refine b7o (λ(s:Int × Hp × List Int)=>∃i:Nat,s.1=(i:Int)∧i≤N∧Oh s.2.1∧s.2.1.S.Serial≤x.S.Serial+6*i∧s.2.2.length≤i∧(∀h∈s.2.2,b2O s.2.1.S h)∧∀t∈s.2.1.Q.L,t.Kind=1→t.At∉s.2.2) (λs=>N-s.1.toNat) ⟨0,rfl,Nat.zero_le _,hx,by show x.S.Serial≤_;omega,Nat.le_refl _,(λh hh=>by cases hh),λt _ _ q=>by cases q⟩ (by show N-_<_;omega) ?_
 rintro⟨_,z,dn⟩ ⟨i,rfl,hi,hz,hs,hl,hsp,hq⟩;dsimp only at hz hs hl hsp hq;by_cases c:i<N
 ·obtain⟨y,u,e,s1,_,hy,s3⟩:=b5b hz hm (by omega)
  dsimp only;rw[if_pos (by simpa using c),s1,d3v]
  dsimp only;rcases s3 with ⟨q,_,rfl,_⟩ | ⟨ts,q,rfl,hd⟩
  ·refine .inr ⟨.inl true,?_,rfl⟩;rw[if_pos (by simp),b4e,q]
   rfl
  ·have pl:=a2K hm u.Prog;obtain⟨_,fw,hser,_⟩:=a8E hz q l (by omega)
   rw[←hd] at fw hser;obtain⟨k,q1,q2⟩:=fw.q;have hQ:y.Q.L=ts++k:=by rw[q1]
   have q30':=hy.rt.sh.q30;have hum:u∈z.Q.L:=by rw[q];exact List.mem_cons_self ..
   have td:=hz.rt.sh.td;rw[q,List.pairwise_cons] at td;have key:∀d:List Int,d=(if u.Kind=1 then dn ++ [u.At] else dn)→d.length≤i+1∧(∀h∈d,b2O y.S h)∧∀t∈y.Q.L,t.Kind=1→t.At∉d:=by
    rintro d rfl;have hsz:∀h∈(if u.Kind=1 then dn ++ [u.At] else dn),b2O z.S h:=λh hh=>by
     split at hh
     ·rename_i k1;rcases List.mem_append.1 hh with r | r
      ·exact hsp h r
      ·rw[List.mem_singleton.1 r];obtain⟨a,b⟩:=b69 hz.rt q k1;exact c5R hz.rt.sh.sr a b
     ·exact hsp h hh
    refine⟨?_,λh hh=>fw.sv.c8Q (hsz h hh),λt ht hk hh=>?_⟩
    ·split;·rw[List.length_append];simp;omega
     ·omega
    ·rw[hQ] at ht;rcases List.mem_append.1 ht with r | r
     ·have htz:t∈z.Q.L:=by rw[q];exact List.mem_cons_of_mem _ r
      split at hh
      ·rename_i k1;rcases List.mem_append.1 hh with r2 | r2
       ·exact hq t htz hk r2
       ·exact td.1 t r ⟨k1.trans hk.symm,(List.mem_singleton.1 r2).symm⟩
      ·exact hq t htz hk hh
     ·exact q2 t r hk (hsz _ hh)
   have inner:∀d:List Int,d.length≤40→(∀t∈y.Q.L,t.Kind=1→t.At∉d)→∀ {R:Type} (κ:Bool ⊕ Unit→Option R) (r:R),κ (.inr ())=some r→((lp (S:=Int) (E:=Bool ⊕ Unit) (λ(s107:Int)=>
        if (decide (s107<(y.Q.L.length:Int))) then
         (ix y.Q.L s107).bind λv109=>
         (n0 ((v109.Kind==1)==true) 0 (T9 d v109.At)).bind λv110=>
         if ((v109.Kind==1)&&(decide (v110 > 0))) then
          some (.inr (.inl false))
         else
         some (.inl (u9 (s107+1)))
        else
        some (.inr (.inr ()))) 0).bind κ)=some r:=λd hd hnd R κ r hr=>by
    refine F4 y.Q.L.length (λ_=>True) (by omega) trivial (λj hj _=>.inl ⟨?_,trivial⟩) (λ_=>⟨.inr (),if_neg (by simp),hr⟩)
    rw[if_pos (by simpa using hj),o0 hj,d3v]
    by_cases kk:(y.Q.L[j]).Kind=1
    ·have:=hnd _ (List.getElem_mem hj) kk;rw[show ((y.Q.L[j]).Kind==1)=true by simpa using kk,beq_self_eq_true,E8,a2w _ _ (by omega),d3v,b3J this,if_neg (by simp),j5]
    ·rw[show ((y.Q.L[j]).Kind==1)=false by simpa using kk]
     refine bnd (a:=0) rfl ?_;rw[if_neg (by simp),j5]
   obtain⟨k1,k2,k3⟩:=key _ rfl;refine .inl ⟨(((i+1:Nat):Int),y,if u.Kind=1 then dn ++ [u.At] else dn),?_,⟨i+1,rfl,c,hy,by show y.S.Serial≤_;omega,k1,k2,k3⟩,by show N-_<N-_;simp;omega⟩
   rw[if_neg (by simp),b8V hy.rt.sh,d3v,if_neg (by simp)]
   by_cases kk:u.Kind=1
   ·rw[if_pos kk] at k1 k2 k3 ⊢;rw[if_pos (by simpa using kk),a2w _ _ (by omega),d3v,b3J (hq u hum kk),if_neg (by simp),B6 (by omega) (by simp;omega),d3v]
    refine inner _ (by omega) k3 _ _ ?_
    rw[j5]
   ·rw[if_neg kk] at k1 k2 k3 ⊢;rw[if_neg (by simpa using kk)]
    refine inner _ (by omega) k3 _ _ ?_
    rw[j5]
 ·refine .inr ⟨.inr (),if_neg (by simp;omega),rfl⟩
end
end Go.Sh
namespace Go.Sh
section
variable{x:Hp}(hx:Q8 x)
include hx
end
section
variable{x:Hp}(hx:Q8 x)
include hx
end
end Go.Sh
namespace Go.Sh
end Go.Sh
namespace Go.Sh
structure Rs (x:Hp) (n:Nat):Prop where
 rt:Q8 x
 sl:SL x
 zr:zr x = []
 ser:x.S.Serial≤n
theorem c7m{k p:Nat}{l:Int}(hk:1≤k∧k≤24)(hl:0≤l∧l≤9)(hp:1≤p∧p≤8) :
  a7S k l p=some (nwH k l p)∧Q8 (nwH k l p)∧SL (nwH k l p)∧zr (nwH k l p) = []:=by
 have e1:a9c k l=some (nwH k l p).S:=by
  unfold a9c a1d;rw[if_neg (by simp;omega),b4A (by omega) (by omega)]
  rfl
 have h3:RtR (sO (nwH k l p).S):=by
  refine⟨by simp[sO,nwH];omega,hl.1,hl.2,by simp[sO,nwH],λi h=>?_,λi h=>?_,λi h q=>?_,λi h k hk q=>?_⟩
  ·simp[sO,cO,nwH];omega
  ·simp[sO,cO,oo,b0s,nwH]
  ·exfalso;simp[sO,cO,oo,Thr,nwH] at q
  ·exfalso;simp[sO,cO,oo,Thr,nwH] at q
 have hR:SR (nwH k l p).S:=x4.1 h3;have hce:∀i,ce (nwH k l p).S i=⟨0,0,z0⟩:=λi=>by
  unfold ce nwH;dsimp only;rw[List.getD_eq_getElem?_getD,List.getElem?_replicate];split <;> rfl
 have hlv:lv (nwH k l p).S = []:=List.eq_nil_iff_forall_not_mem.2 λh hh=>by
  obtain⟨i,q⟩:=(a3s hR).1 hh;have:=q.2.1;rw[hce] at this;cases this
 refine⟨?_,⟨⟨hR,(d0O (V:=Int) (λ_ _=>True) hp.1 hp.2).1,rfl,rfl,rfl,Nat.zero_le _,(λt ht=>nomatch ht),List.Pairwise.nil,(λh hh=>.inl (List.mem_replicate.1 hh).2),λh hh=>?_,λa v hv=>?_,λi hi=>?_⟩,λi hi ht=>?_,λh hh=>?_⟩,λh hh=>?_,?_⟩
 ·unfold a7S;rw[if_neg (by simp;omega),e1,d3v,show mk 8 6 (0:Int)=some (List.replicate 6 0) from rfl,d3v]
  refine bnd (a:=List.replicate 6 ⟨0,false,-1⟩) (by kernel_rfl) ?_
  rw[c9Z hp.1 hp.2,d3v];refine bnd (a:=⟨[],30⟩) (by kernel_rfl) ?_
  rfl
 ·rw[hlv] at hh;cases hh
 ·obtain⟨i,hi,_⟩:=hv;have:=hi.2.1;rw[show (nwH k l p).T=List.replicate p ⟨0,0,0⟩ from rfl,b4L] at this;cases this
 ·have:(nwH k l p).Cells[i]=⟨0,false,-1⟩:=List.getElem_replicate ..;rw[this];exact⟨by decide,by decide,λ_=>rfl,λh=>absurd rfl h,λh=>by cases h⟩
 ·rw[hce] at ht;rcases ht with h | h <;> cases h
 ·rw[hlv] at hh;cases hh
 ·rw[hlv] at hh;cases hh
 ·unfold zr;rw[hlv];rfl
theorem d0z{k p:Nat}{l:Int}(hk:1≤k∧k≤24)(hl:0≤l∧l≤9)(hp:1≤p∧p≤8):a7S k l p=some (nwH k l p)∧Rs (nwH k l p) 0:=by
 obtain⟨a,b,c,d⟩:=c7m hk hl hp;exact⟨a,b,c,d,Int.le_refl _⟩
theorem d0A{x:Hp}{n:Nat}(hx:Rs x n)(hn:n≤100000){l:List j1}(hl:l.length≤1000){r:g9 × List Int}(h:a6J (hO x) (l.map opR)=some r):a0g x l=some (hOI r.1,r.2)∧Rs (hOI r.1) (n+l.length):=by
 have hs:=hx.ser;obtain⟨r1,r2⟩:=run_eq hx.rt hx.sl hx.zr l hl (by omega)
 obtain⟨a1,a2,a3,a4,_,_⟩:=b43 hx.rt hx.sl hx.zr l (by omega) (λ_=>True) trivial (λ_ _ _ _ _ _=>trivial) l.length (Nat.le_refl _)
 rw[List.take_length] at a1 a2 a3 a4;rw[r2] at h;have e:=Option.some.inj h;rw[←e,c0u,r1];exact⟨rfl,a1,a2,a3,by omega⟩
end Go.Sh
namespace Go.Sh
theorem Rs.oh{x:Hp}{n:Nat}(h:Rs x n):Oh x:=⟨h.rt,h.sl,h.zr⟩
theorem b40{x:Hp}{n:Nat}(hx:Rs x n)(hn:n≤100000){ps:List (List j1)}(hm:Mp ps){f:Nat}(hf:f≤1000){r:g9 × Int × Int × Int}(h:a86 (hO x) (psR ps) f=some r):G6 x ps f=some (hOI r.1,r.2)∧Rs (hOI r.1) (n+f):=by
 have hs:=hx.ser;have e:=c7h hx.oh hm (f:=f) (by omega) (by omega) (by omega)
 rw[h] at e;have e:=Option.some.inj e;obtain⟨a,b,c,d⟩:=b8S ps hx.oh (f:=f) (by omega) (by omega)
 rw[e,c0u,drain_eq hx.oh hm (by omega) (by omega) (by omega)]
 exact⟨rfl,a.rt,a.sl,a.zr,by show (dr ps (x,(f:Int))).1.S.Serial≤_;omega⟩
theorem d1O{x:Hp}{n:Nat}(hx:Rs x n)(hn:n≤100000){o:j1}{r:g9 × Int × Int}(h:C8 (hO x) (opR o)=some r):u7 x o=some (hOI r.1,r.2)∧Rs (hOI r.1) (n+1):=by
 have hs:=hx.ser;obtain⟨y,v,e,d⟩:=c1W hx.rt hx.sl hx.zr (by omega) o
 have q:=d.rf;rw[h] at q;have q:=Option.some.inj q;have:=d.ev.s2;rw[q,c0u,d.mc];exact⟨rfl,d.rt,d.sl,d.zr,by show y.S.Serial≤_;omega⟩
def p20:List (List j1):=[[(⟨2,2,5,0⟩:j1)],[]]
def l20:List j1:=[(⟨1,0,0,0⟩:j1),(⟨6,0,0,1⟩:j1),(⟨3,0,0,0⟩:j1)]
def e20:g9:=((a6J (hO (nwH 3 5 8)) (l20.map opR)).getD (hO c7n,[])).1
def d20(x:g9)(f:Nat):g9 × Int × Int × Int:=(a86 (hO (hOI x)) (psR p20) f).getD (hO c7n,0,0,0)
def o20(x:g9)(o:j1):g9 × Int × Int:=(C8 (hO (hOI x)) (opR o)).getD (hO c7n,0,0)
theorem c9Y:Mp p20:=(by decide:∀p∈p20,p.length≤6)
theorem shown20:F9=some true:=by
 obtain⟨a1,a2⟩:=d0z (k:=3) (p:=8) (l:=5) (by decide) (by decide) (by decide)
 obtain⟨b1,b2⟩:=d0A a2 (by decide) (l:=l20) (by decide) (r:=(a6J (hO (nwH 3 5 8)) (l20.map opR)).getD (hO c7n,[])) (by kernel_rfl)
 have b2:Rs (hOI e20) 3:=b2;obtain⟨c1,c2⟩:=b40 b2 (by decide) c9Y (f:=1) (by decide) (r:=d20 e20 1) (by kernel_rfl)
 obtain⟨d1,d2⟩:=b40 b2 (by decide) c9Y (f:=5) (by decide) (r:=d20 e20 5) (by kernel_rfl)
 obtain⟨f1,f2⟩:=d1O d2 (by decide) (o:=⟨3,2,0,0⟩) (r:=o20 (d20 e20 5).1 ⟨3,2,0,0⟩) (by kernel_rfl)
 obtain⟨g1,g2⟩:=b40 f2 (by decide) c9Y (f:=5) (by decide) (r:=d20 (o20 (d20 e20 5).1 ⟨3,2,0,0⟩).1 5) (by kernel_rfl)
 have hq:(hOI (d20 e20 5).1).Q.L = []:=by kernel_rfl
 unfold F9;refine bnd a1 ?_;refine bnd b1 ?_;refine bnd c1 ?_;refine bnd d1 ?_;refine bnd f1 ?_;refine bnd g1 ?_;refine bnd (b9N hq p20).1 ?_;rw[b3f g2.rt (c8C g2.rt g2.sl)];kernel_rfl
end Go.Sh
