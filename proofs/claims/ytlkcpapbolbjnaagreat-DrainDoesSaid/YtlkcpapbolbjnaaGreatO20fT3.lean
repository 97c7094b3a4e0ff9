/-
 More of the theory.
-/
import Derived.Test.YtlkcpapbolbjnaaGreatO20fT2
set_option linter.unusedVariables false
set_option linter.unusedSimpArgs false
set_option linter.unusedSectionVars false
namespace Go.Sh
section
variable{x:Hp}{a b c:Int}
theorem d1S{z:Hp}(hz:S9 z)(hS:SL z){k:Int}{r:Int}(hk:k=5∧r=c∨(k=6∨k=8)∧r=b):doR x ⟨k,a,b,c⟩ (z,0)=some (a17 z,ser z (sd z r),0):=by
 unfold doR U1;rw[if_neg (by simp),a6n hz hS,d4l]
 simp only[jn];rcases hk with ⟨rfl,rfl⟩ | ⟨rfl | rfl,rfl⟩
 ·rw[if_pos (by rfl),c2w hz.sh]
  rfl
 ·rw[if_neg (by decide),if_pos (by rfl),if_pos (by rfl),c2w hz.sh]
  rfl
 ·rw[if_neg (by decide),if_neg (by decide),if_pos (by rfl),c2w hz.sh]
  rfl
variable(hx:S9 x)(hS:SL x)
include hx hS
theorem d2u{z:Hp}(hz:S9 z)(zS:SL z){h:Int}(hh:h=0∨h∈lv x.S):rO (hO x) (hO z,h,0)=some (hO (a17 z),ser x h,0):=by
 unfold rO;rw[if_neg (by simp),a8L hz zS,d4l,c9D hx.sh (b1x hx hS hh)]
 rfl
theorem b0z{z:Hp}(hz:S9 z)(zS:SL z)(k:Ks x.S z.S)(er:z.Roots=x.Roots){kd r:Int}(hk:kd=5∧r=c∨(kd=6∨kd=8)∧r=b)(hc:C8 kd a b c=0)(cw:Cw x z (if kd=6 then a else -1))
  (h1:w9 x ⟨kd,a,b,c⟩=doR x ⟨kd,a,b,c⟩ (z,0))(h2:a0P (hO x) ⟨kd,a,b,c⟩=some (hO z,sd x r,0)):Dn x ⟨kd,a,b,c⟩ z (ser x (sd x r)):=by
 refine⟨hz,zS,k.ev,cw,?_,?_⟩;·rw[h1,d1S hz zS hk,c8R er,d1k hx.sh k (b3C hx.sh r)]
 ·show C7 (hO x) ⟨kd,a,b,c⟩=_;rw[c28 (by omega) hc,h2,d4l,d2u hx hS hz zS (b3C hx.sh r)]
theorem d5(hc:C8 5 a b c=0):(sd x a=0∧Er x ⟨5,a,b,c⟩ 2)∨(∃e,a2q x (sd x a) b (sd x c)=some (x,e)∧Er x ⟨5,a,b,c⟩ e) ∨
  (sd x a∈lv x.S∧∃n:Nat,b=n∧n<(ob x.S (sd x a)).Fields.length∧Dn x ⟨5,a,b,c⟩ (a1N x (sd x a) n (sd x c)) (ser x (sd x c))):=by
 obtain⟨ha,hb,hcc⟩:=d3n hc;have hm:w9 x ⟨5,a,b,c⟩=_:=d3w hc;unfold W3 at hm;rw[a57 hx.sh,d4l] at hm;have hr:C7 (hO x) ⟨5,a,b,c⟩=_:=c28 (by omega) hc
 have hnm:a0P (hO x) ⟨5,a,b,c⟩=(U6 (hO x) a).bind λv4=>if (v4.2 != 0) then some (hO x,0,v4.2) else (a4r (hO x) c).bind λv5=>(a3Y (hO x) v4.1 b v5).bind λv6=>some (v6.1,v5,v6.2):=rfl
 rw[b02 hx.sh ha,d4l,c6E hx.sh (by omega)] at hnm
 by_cases h0:sd x a=0
 ·have has:asd x a=(0,2):=by unfold asd;rw[if_pos h0]
  rw[has,if_pos (by simp)] at hm hnm
  refine .inl ⟨h0,by decide,?_,?_⟩
  ·rw[hm,d4l];exact a7v (e:=2) (by decide)
  ·show C7 (hO x) ⟨5,a,b,c⟩=_;rw[hr,hnm,d4l];exact c4h (e:=2) (by decide)
 ·have has:asd x a=(sd x a,0):=by unfold asd;rw[if_neg h0]
  rw[has,if_neg (by simp)] at hm hnm
  dsimp only at hm hnm;rw[a7d hx.sh,d4l] at hm;rw[d4l] at hnm;right;rcases c5k hx hS (sd x a) b (sd x c) (b3D hx.sh a) (b3D hx.sh c) with ⟨e,he,f1,f2⟩ | ⟨hl,hv,n,hn0,hn,f1,f2⟩
  ·refine .inl ⟨e,f1,he,?_,?_⟩;·rw[hm,f1,d4l,d4l,a7v he]
   ·show C7 (hO x) ⟨5,a,b,c⟩=_;rw[hr,hnm,f2,d4l,d4l,c4h he]
  ·refine .inr ⟨hl,n,hn0,hn,b0z hx hS (b7K hx hl hn hv) (c3T hx.sh.sr hS hl _ _) (c3S hx.sh.sr hl hn _) (a8b _ _ _ _).1 (.inl ⟨rfl,rfl⟩) hc (Cw.same (a8b _ _ _ _).2.1 _) ?_ ?_⟩
   ·rw[hm,f1];rfl
   ·rw[hnm,f2];rfl
theorem d6(hc:C8 6 a b c=0):(sd x b=0∧Er x ⟨6,a,b,c⟩ 2)∨(∃e,a0K x a (sd x b) c=some (x,e)∧Er x ⟨6,a,b,c⟩ e) ∨
  (wts x.Q a=false∧Dn x ⟨6,a,b,c⟩ (a3k x a.toNat (sd x b) c) (ser x (sd x b))):=by
 obtain⟨ha,hb,hcc⟩:=d3o hc;have hm:w9 x ⟨6,a,b,c⟩=_:=d3x hc;unfold T1 at hm;have hr:C7 (hO x) ⟨6,a,b,c⟩=_:=c28 (by omega) hc
 have key:(w9 x ⟨6,a,b,c⟩=(((a0K x a (sd x b) c).bind λv1=>some (v1.1,v1.2)).bind (doR x ⟨6,a,b,c⟩))∧a0P (hO x) ⟨6,a,b,c⟩=(a14 (hO x) a (sd x b) c).bind λv1=>some (v1.1,sd x b,v1.2))∨(sd x b=0∧Er x ⟨6,a,b,c⟩ 2):=by
  by_cases h1:b = -1
  ·subst h1;left;rw[b5I hx.sh (r:=-1) (by omega)]
   refine⟨?_,rfl⟩;rw[hm,if_pos (by rfl)]
  ·rw[if_neg (by simpa using h1),a57 hx.sh,d4l] at hm
   have hnm:a0P (hO x) ⟨6,a,b,c⟩=(U6 (hO x) b).bind λv4=>if (v4.2 != 0) then some (hO x,0,v4.2) else (a14 (hO x) a v4.1 c).bind λv7=>some (v7.1,v4.1,v7.2):=by
    unfold a0P;rw[if_neg (by simp;omega)]
    rfl
   rw[b02 hx.sh (by omega),d4l] at hnm
   by_cases h0:sd x b=0
   ·have has:asd x b=(0,2):=by unfold asd;rw[if_pos h0]
    rw[has,if_pos (by simp)] at hm hnm
    refine .inr ⟨h0,by decide,?_,?_⟩
    ·rw[hm,d4l];exact a7v (e:=2) (by decide)
    ·show C7 (hO x) ⟨6,a,b,c⟩=_;rw[hr,hnm,d4l];exact c4h (e:=2) (by decide)
   ·have has:asd x b=(sd x b,0):=by unfold asd;rw[if_neg h0]
    rw[has,if_neg (by simp)] at hm hnm
    exact .inl ⟨hm,hnm⟩
 rcases key with ⟨hm,hnm⟩ | key
 ·right;rcases c86 hx a (sd x b) c (b3D hx.sh b) hcc with ⟨e,he,f1,f2⟩ | ⟨hh,n,rfl,hn,hw,f1,f2⟩
  ·refine .inl ⟨e,f1,he,?_,?_⟩;·rw[hm,f1,d4l,d4l,a7v he]
   ·show C7 (hO x) ⟨6,a,b,c⟩=_;rw[hr,hnm,f2,d4l,d4l,c4h he]
  ·rw[Int.toNat_natCast];obtain⟨r1,r2,_,_⟩:=b5Z x n (sd x b) c;refine .inr ⟨hw,b0z hx hS (c0z hx hn hh hcc hw) (c6V hx hS hn _ _) (c6U hx hn _ _) r1 (.inr ⟨.inl rfl,rfl⟩) hc (by rw[if_pos rfl];exact Cw.set r2) ?_ ?_⟩
   ·rw[hm,f1];rfl
   ·rw[hnm,f2];rfl
 ·exact .inl key
theorem d8(hc:C8 8 a b c=0):(sd x a=0∧Er x ⟨8,a,b,c⟩ 2)∨(sd x a∈lv x.S∧∃e,a3V x (sd x a) (sd x b)=some (x,e)∧Er x ⟨8,a,b,c⟩ e) ∨
  (sd x a∈lv x.S∧∃r,X6 x.T (sd x a) (sd x b)=some r∧r.2.2=0∧Dn x ⟨8,a,b,c⟩ (a7D x (sd x b) r.1 r.2.1) (ser x (sd x b))):=by
 obtain⟨ha,hb⟩:=d3q hc;have hm:w9 x ⟨8,a,b,c⟩=_:=d3z hc;unfold Z7 at hm;rw[a57 hx.sh,d4l] at hm;have hr:C7 (hO x) ⟨8,a,b,c⟩=_:=c28 (by omega) hc
 have hnm:a0P (hO x) ⟨8,a,b,c⟩=(U6 (hO x) a).bind λv4=>if (v4.2 != 0) then some (hO x,0,v4.2) else (a4r (hO x) b).bind λv8=>(a6f (hO x) v4.1 v8).bind λv9=>some (v9.1,v8,v9.2):=rfl
 rw[b02 hx.sh ha,d4l,c6E hx.sh (by omega)] at hnm
 by_cases h0:sd x a=0
 ·have has:asd x a=(0,2):=by unfold asd;rw[if_pos h0]
  rw[has,if_pos (by simp)] at hm hnm
  refine .inl ⟨h0,by decide,?_,?_⟩
  ·rw[hm,d4l];exact a7v (e:=2) (by decide)
  ·show C7 (hO x) ⟨8,a,b,c⟩=_;rw[hr,hnm,d4l];exact c4h (e:=2) (by decide)
 ·have has:asd x a=(sd x a,0):=by unfold asd;rw[if_neg h0]
  have hl:=(b3C hx.sh a).resolve_left h0;rw[has,if_neg (by simp)] at hm hnm
  dsimp only at hm hnm;rw[a7d hx.sh,d4l] at hm;rw[d4l] at hnm;right;rcases c8F hx hS (sd x a) (sd x b) (b3D hx.sh a) (b3D hx.sh b) with ⟨e,he,f1,f2⟩ | ⟨hl,hv,r,r1,r2,f1,f2⟩
  ·refine .inl ⟨hl,e,f1,he,?_,?_⟩;·rw[hm,f1,d4l,d4l,a7v he]
   ·show C7 (hO x) ⟨8,a,b,c⟩=_;rw[hr,hnm,f2,d4l,d4l,c4h he]
  ·refine .inr ⟨hl,r,r1,r2,b0z hx hS (b9R hx hl hv r1 r2) (c6c hx.sh.sr hS _ _ _) (c6b hx.sh.sr _ _ _) (b0A _ _ _ _).1 (.inr ⟨.inr rfl,rfl⟩) hc (Cw.same (b0A _ _ _ _).2.1 _) ?_ ?_⟩
   ·rw[hm,f1];rfl
   ·rw[hnm,f2];rfl
theorem d10(hz:zr x = [])(hc:C8 10 a b c=0):Dn x ⟨10,a,b,c⟩ x (if sd x a=sd x b then 1 else 0):=by
 obtain⟨ha,hb⟩:=d1P hc;refine⟨hx,hS,Ev.refl x,Cw.refl x _,?_,?_⟩
 ·rw[d1T hc];unfold P8 doR U1;rw[d4l,if_neg (by simp),a6n hx hS,d4l]
  simp only[jn];rw[if_neg (by decide),if_neg (by decide),if_neg (by decide),if_pos (by rfl),a7d hx.sh,d4l,a7d hx.sh,d4l]
  by_cases q:sd x a=sd x b
  ·rw[if_pos (by simpa using q),if_pos q]
   rfl
  ·rw[if_neg (by simpa using q),if_neg q]
   rfl
 ·show C7 (hO x) ⟨10,a,b,c⟩=_;rw[d1a hc,show (hO x).Roots=x.Roots from rfl,b3B hx.sh ha,d4l,b3B hx.sh hb,d4l,c6J hz];by_cases q:sd x a=sd x b
  ·rw[if_pos (by simpa using q),if_pos q]
  ·rw[if_neg (by simpa using q),if_neg q]
theorem d1(hb:x.S.Serial<9223372036854775807)(hc:C8 1 a b c=0):(∃e,S0 x.S b c=some (x.S,0,e)∧Er x ⟨1,a,b,c⟩ e) ∨
  (b.toNat≤4∧(-1≤c∧c≤5)∧∃i,Fst x.S i∧Dn x ⟨1,a,b,c⟩ (H0 (wS x (mkS x.S i b.toNat c)) a.toNat (hdl x.S i)) (x.S.Serial+1)):=by
 obtain⟨ha,hbb,hcc⟩:=d3k hc;have hR:=hx.sh.sr;have hm:w9 x ⟨1,a,b,c⟩=_:=d3s hc;unfold T0 at hm;dsimp only at hm;have hr:C7 (hO x) ⟨1,a,b,c⟩=_:=d2A hc;rw[show (hO x).S=sO x.S from rfl] at hr;rcases d2d hR hb b c with ⟨e,he,f1,f2⟩ | ⟨_,_,i,hF,f1,f2⟩
 ·refine .inl ⟨e,f1,he,?_,?_⟩;·rw[hm,f1,d4l,if_pos (by simpa using he),d4l,a7v he]
  ·show C7 (hO x) ⟨1,a,b,c⟩=_;rw[hr,f2,d4l,if_pos (by simpa using he)]
 ·refine .inr ⟨by omega,hcc,i,hF,?_⟩
  obtain⟨hi,h0,_⟩:=hF;have hn:b.toNat≤4:=by omega
  have hy:=c5N hx hi h0 hn hcc;have yS:=d2j hx hS hi h0 hn hcc;have hh:hdl x.S i=0∨hdl x.S i∈lv (wS x (mkS x.S i b.toNat c)).S:=.inr (by
   show _∈lv (mkS x.S i b.toNat c);rw[c2S hR hi h0 hn hcc];exact List.mem_append_right _ (List.mem_singleton.2 rfl))
  have hz:=a0w hy (r:=a.toNat) (by omega) hh
  have zS:=a4x hy.sh.sr yS a.toNat (hdl x.S i);obtain⟨e1,e2⟩:=a9w hy ha hh;have e3:ser (wS x (mkS x.S i b.toNat c)) (hdl x.S i)=x.S.Serial+1:=by
   show (ob (mkS x.S i b.toNat c) (hdl x.S i)).Serial=_;rw[b2X hR hi h0 hn hcc]
  refine⟨hz,zS,(d2i hx hi h0 hn hcc).ks (a15 hy.sh.sr a.toNat _),Cw.same (a4w (wS x (mkS x.S i b.toNat c)) a.toNat _).2.1 _,?_,?_⟩
  ·rw[hm,f1,d4l,if_neg (by simp)]
   dsimp only;rw[show B7 ⟨⟨mkS x.S i b.toNat c,x.Roots,x.Cells,x.T,x.Q⟩,⟨1,a,b,c⟩⟩ (hdl x.S i) 0=_ from a9E hy yS ha hh,d4l,d4l,c9g hz zS (by omega),e1,e2,e3]
  ·show C7 (hO x) ⟨1,a,b,c⟩=_;rw[hr,f2,d4l,if_neg (by simp)]
   dsimp only;rw[show U5 ⟨sO (mkS x.S i b.toNat c),(hO x).Roots,(hO x).Cells,(hO x).T,(hO x).Q⟩ a (hdl x.S i)=_ from c1P hy yS a (b1x hy yS hh),if_neg (by omega),if_pos hh,d4l,a8L hz zS,d4l,d1O (a2I hz).sh,e1,e2,e3]
   rfl
end
theorem c99{x:Hp}(hx:S9 x)(hS:SL x)(hz:zr x = [])(hb:x.S.Serial<9223372036854775807)(o:j2):(∃e,Er x o e)∨∃z v,Dn x o z v:=by
 obtain⟨k,a,b,c⟩:=o;by_cases hc:C8 k a b c=0
 ·have:=c2M hc;have hk:k=1∨k=2∨k=3∨k=4∨k=5∨k=6∨k=7∨k=8∨k=9∨k=10∨k=11∨k=12:=by omega
  rcases hk with rfl | rfl | rfl | rfl | rfl | rfl | rfl | rfl | rfl | rfl | rfl | rfl
  ·rcases d1 hx hS hb hc with ⟨e,_,h⟩ | ⟨_,_,i,_,h⟩;·exact .inl ⟨e,h⟩
   ·exact .inr ⟨_,_,h⟩
  ·exact .inr ⟨_,_,d2 hx hS hc⟩
  ·exact .inr ⟨_,_,d3 hx hS hc⟩
  ·rcases d4 hx hS hc with ⟨_,h⟩ | ⟨e,_,h⟩ | ⟨_,n,_,_,h⟩;·exact .inl ⟨_,h⟩
   ·exact .inl ⟨_,h⟩
   ·exact .inr ⟨_,_,h⟩
  ·rcases d5 hx hS hc with ⟨_,h⟩ | ⟨e,_,h⟩ | ⟨_,n,_,_,h⟩;·exact .inl ⟨_,h⟩
   ·exact .inl ⟨_,h⟩
   ·exact .inr ⟨_,_,h⟩
  ·rcases d6 hx hS hc with ⟨_,h⟩ | ⟨e,_,h⟩ | ⟨_,h⟩;·exact .inl ⟨_,h⟩
   ·exact .inl ⟨_,h⟩
   ·exact .inr ⟨_,_,h⟩
  ·obtain⟨_,⟨_,h⟩ | ⟨_,h⟩⟩:=d7 hx hS hc;·exact .inl ⟨_,h⟩
   ·exact .inr ⟨_,_,h⟩
  ·rcases d8 hx hS hc with ⟨_,h⟩ | ⟨_,e,_,h⟩ | ⟨_,r,_,_,h⟩;·exact .inl ⟨_,h⟩
   ·exact .inl ⟨_,h⟩
   ·exact .inr ⟨_,_,h⟩
  ·rcases d9 hx hS hc with ⟨_,h⟩ | ⟨_,_,h⟩ | ⟨_,v,_,h⟩;·exact .inl ⟨_,h⟩
   ·exact .inl ⟨_,h⟩
   ·exact .inr ⟨_,_,h⟩
  ·exact .inr ⟨_,_,d10 hx hS hz hc⟩
  ·obtain⟨h1,h2⟩:=b7F (x:=x) (a:=a) (b:=b) (c:=c) (.inl rfl) hc;exact .inl ⟨14,by decide,h1,h2⟩
  ·obtain⟨h1,h2⟩:=b7F (x:=x) (a:=a) (b:=b) (c:=c) (.inr rfl) hc;exact .inl ⟨14,by decide,h1,h2⟩
 ·obtain⟨h1,h2⟩:=c5d (x:=x) (o:=⟨k,a,b,c⟩) hc;exact .inl ⟨_,hc,h1,h2⟩
end Go.Sh
namespace Go.Sh
noncomputable def dov(x:Hp)(o:j2):Hp × Int × Int:=(w9 x o).getD (x,0,0)
structure Nxt (x:Hp) (o:j2) (y:Hp) (v e:Int):Prop where
 rt:S9 y
 sl:SL y
 zr:zr y = []
 ev:Ev x y
 cw:Cw x y (if o.Kind=6 then o.A else -1)
 er:e≠0→y=x∧v=0
 mc:w9 x o=some (y,v,e)
 rf:C7 (hO x) (opR o)=some (hO y,v,e)
theorem Dn.nxt{x z:Hp}{o:j2}{v:Int}(d:Dn x o z v):Nxt x o (a17 z) v 0:=by
 have st:=a8K d.rt;exact⟨a2I d.rt,c3l d.rt d.sl,b7g d.rt,d.ev.stl st,d.cw.trans (st.cw _),λh=>absurd rfl h,d.mc,d.rf⟩
theorem c2T{x:Hp}(hx:S9 x)(hS:SL x)(hz:zr x = [])(hb:x.S.Serial<9223372036854775807)(o:j2):∃y v e,Nxt x o y v e:=by
 rcases c99 hx hS hz hb o with ⟨e,h1,h2,h3⟩ | ⟨z,v,d⟩;·exact⟨x,0,e,hx,hS,hz,Ev.refl x,Cw.refl x _,λ_=>⟨rfl,rfl⟩,h2,h3⟩
 ·exact⟨_,_,_,d.nxt⟩
theorem b37{x:Hp}(hx:S9 x)(hS:SL x)(hz:zr x = [])(hb:x.S.Serial<9223372036854775807)(o:j2):Nxt x o (dov x o).1 (dov x o).2.1 (dov x o).2.2:=by
 obtain⟨y,v,e,h⟩:=c2T hx hS hz hb o;have:dov x o=(y,v,e):=by unfold dov;rw[h.mc];rfl
 rw[this];exact h
noncomputable def runs(x:Hp)(l:List j2):Hp × List Int:=l.foldl (λp o=>((dov p.1 o).1,p.2 ++ [(dov p.1 o).2.1])) (x,[])
theorem a9z(x:Hp)(l:List j2)(o:j2):runs x (l ++ [o])=((dov (runs x l).1 o).1,(runs x l).2 ++ [(dov (runs x l).1 o).2.1]):=by
 unfold runs;rw[List.foldl_append];rfl
theorem b5G{x:Hp}(hx:S9 x)(hS:SL x)(hz:zr x = [])(l:List j2)(hb:x.S.Serial+l.length<9223372036854775807)(P:Hp→Prop)(h0:P x)
  (hs:∀(y:Hp) (o:j2),o∈l→S9 y→Nxt y o (dov y o).1 (dov y o).2.1 (dov y o).2.2→P y→P (dov y o).1):∀k,k≤l.length →
  S9 (runs x (l.take k)).1∧SL (runs x (l.take k)).1∧zr (runs x (l.take k)).1 = []∧(runs x (l.take k)).1.S.Serial≤x.S.Serial+k∧(runs x (l.take k)).2.length=k∧P (runs x (l.take k)).1
 | 0,_=>⟨hx,hS,hz,by show x.S.Serial≤_;omega,rfl,h0⟩
 | k+1,hk=>by
  obtain⟨a1,a2,a3,a4,a5,a6⟩:=b5G hx hS hz l hb P h0 hs k (by omega)
  have hk':k<l.length:=by omega
  have n:=b37 a1 a2 a3 (by omega) l[k]
  rw[a0S hk',a9z];exact⟨n.rt,n.sl,n.zr,by have:=n.ev.s2;show (dov _ _).1.S.Serial≤_;omega,by simp[a5],hs _ _ (List.getElem_mem hk') a1 n a6⟩
theorem run_eq{x:Hp}(hx:S9 x)(hS:SL x)(hz:zr x = [])(l:List j2)(hl:l.length≤1000)(hb:x.S.Serial+l.length<9223372036854775807) :
  a0p x l=some (runs x l)∧a5i (hO x) (l.map opR)=some (hO (runs x l).1,(runs x l).2):=by
 have all:=b5G hx hS hz l hb (λ_=>True) trivial (λ_ _ _ _ _ _=>trivial);constructor
 ·unfold a0p;simp only[jn];refine Z4 (T:=Hp × List Int) l.length (λk acc=>acc=runs x (l.take k)) (by omega) rfl (λk acc hk hP=>?_) (λacc hP=>?_)
  ·subst hP;obtain⟨a1,a2,a3,a4,a5,_⟩:=all k (by omega)
   have n:=b37 a1 a2 a3 (by omega) l[k]
   refine .inl ⟨_,?_,rfl⟩;rw[a0S hk,a9z];show (if _ then _ else _)=_
   rw[if_pos (by simpa using hk),o8 hk,d4l,n.mc,d4l,C6 (by omega) (by rw[a5];simp;omega),d4l,k8]
  ·subst hP;refine⟨runs x (l.take l.length),?_,?_⟩
   ·show (if _ then _ else _)=_
    rw[if_neg (by simp)]
   ·rw[List.take_length]
 ·unfold a5i;simp only[jn];refine Z4 (T:=c7 × List Int) (l.map opR).length (λk acc=>acc=(hO (runs x (l.take k)).1,(runs x (l.take k)).2)) (by simp;omega) rfl (λk acc hk hP=>?_) (λacc hP=>?_)
  ·subst hP;have hk':k<l.length:=by simpa using hk
   obtain⟨a1,a2,a3,a4,a5,_⟩:=all k (by omega)
   have n:=b37 a1 a2 a3 (by omega) l[k]
   refine .inl ⟨_,?_,rfl⟩;rw[a0S hk',a9z];show (if _ then _ else _)=_
   rw[if_pos (by simpa using hk'),o8 hk,d4l,List.getElem_map]
   dsimp only;rw[n.rf,d4l,C6 (by omega) (by rw[a5];simp;omega),d4l,k8]
  ·subst hP;refine⟨(hO (runs x (l.take (l.map opR).length)).1,(runs x (l.take (l.map opR).length)).2),?_,?_⟩
   ·show (if _ then _ else _)=_
    rw[if_neg (by simp)]
   ·rw[List.length_map,List.take_length]
end Go.Sh
namespace Go.Sh
section
variable{x:Hp}(hB:HB x)
include hB
end
end Go.Sh
namespace Go.Sh
def nwH(k:Nat)(l:Int)(p:Nat):Hp:=⟨⟨⟨List.replicate k ⟨0,0,z0⟩,l⟩,0⟩,List.replicate 6 0,List.replicate 6 ⟨0,false,-1⟩,List.replicate p ⟨0,0,0⟩,⟨[],30⟩⟩
end Go.Sh
namespace Go.Sh
end Go.Sh
namespace Go.Sh
section
variable{x:Hp}(hB:HB x)
include hB
end
end Go.Sh
namespace Go.Sh
def c1L(o:j2):p9:=⟨o.Kind,o.A,o.B,o.C⟩
abbrev c45(o:j2):Int:=C8 o.Kind o.A o.B o.C
def b9P(o:j2):Bool:=((decide (o.Kind≥1))&&(decide (o.Kind≤10)))&&(c45 o==0)
def b9T(p:List j2):Bool:=decide (p.length≤6)&&p.all b9P
def b0B(l:List (List j2)):Bool:=decide (l.length≤6)&&l.all b9T
section
variable{l:List (List j2)}(hl:l.length≤12)(hp:∀p∈l,p.length≤12)
include hl hp
theorem c1w:a9v (l.map (List.map c1L))=some (b0B l):=by
 unfold a9v b0B;rw[List.length_map];by_cases h6:l.length > 6
 ·rw[if_pos (by simp;omega),decide_eq_false (by omega)]
  rfl
 ·rw[if_neg (by simp;omega),decide_eq_true (by omega),Bool.true_and]
  simp only[jn];have key:=c1i (f:=λ(s23:Int)=>
   if (decide (s23<(l.length:Int))) then
     (ix (l.map (List.map c1L)) s23).bind λv34=>
     if (decide ((v34.length:Int) > 6)) then
      some (.inr (.inl false))
     else
     (lp (S:=Int) (E:=Bool ⊕ Unit) (λ(s36:Int)=>
      if (decide (s36<(v34.length:Int))) then
       (ix v34 s36).bind λv38=>
       (Q6 v38).bind λv39=>
       (p7 ((!v39)==false) 0 (a2B v38)).bind λv40=>
       if ((!v39)||(v40 != 0)) then
        some (.inr (.inl false))
       else
       some (.inl (x6 (s36+1)))
      else
      some (.inr (.inr ()))) 0).bind λe35=>
     match e35 with
     | .inl w=>some (.inr (.inl w))
     | .inr w=>some (Sum.inl (x6 (s23+1)))
   else
   some (.inr (.inr ()))) l b9T (.inr ()) (Sum.inl (β:=Unit) false) (by omega) (λk hk=>?_) (by simp)
  ·refine bnd key ?_;cases l.all b9T <;> rfl
  ·rw[if_pos (by simpa using hk),a1g,o8 hk,Option.map_some,d4l,List.length_map]
   unfold b9T;have hm:=hp _ (List.getElem_mem hk);generalize l[k]=p at hm ⊢;by_cases hq:p.length > 6
   ·rw[if_pos (by simp;omega),decide_eq_false (by omega)]
    rfl
   ·rw[if_neg (by simp;omega),decide_eq_true (by omega),Bool.true_and]
    have k2:=c1i (f:=λ(s36:Int)=>
      if (decide (s36<(p.length:Int))) then
       (ix (p.map c1L) s36).bind λv38=>
       (Q6 v38).bind λv39=>
       (p7 ((!v39)==false) 0 (a2B v38)).bind λv40=>
       if ((!v39)||(v40 != 0)) then
        some (.inr (.inl false))
       else
       some (Sum.inl (x6 (s36+1)))
      else
      some (.inr (.inr ()))) p b9P (.inr ()) (Sum.inl (β:=Unit) false) (by omega) (λj hj=>?_) (by simp)
    ·refine Eq.trans (bnd k2 (r:=if p.all b9P=true then some (.inl (x6 ((k:Int)+1))) else some (.inr (.inl false))) ?_) ?_
     ·cases p.all b9P <;> rfl
     ·rw[k8]
    ·rw[if_pos (by simpa using hj),a1g,o8 hj,Option.map_some,d4l,a6J]
     unfold b9P Q6;rw[d4l,k8];rw[show (c1L p[j]).Kind=p[j].Kind from rfl];cases ((decide (p[j].Kind≥1))&&(decide (p[j].Kind≤10)));·rfl
     ·by_cases h:c45 p[j]=0
      ·have e:C8 p[j].Kind (c1L p[j]).A (c1L p[j]).B (c1L p[j]).C=0:=h;rw[e,h];rfl
      ·have e1:(C8 p[j].Kind p[j].A p[j].B p[j].C != 0)=true:=by simpa using h
       have e2:(c45 p[j]==0)=false:=by simpa using h
       rw[e2];refine bnd (a:=c45 p[j]) rfl ?_;rw[show (c45 p[j] != 0)=true from e1];rfl
end
end Go.Sh
namespace Go.Sh
theorem d1Z(s:a7)(h:s.S.Cells.length≤30):b4q s=some (sO s):=by
 unfold b4q;simp only[jn,b4r,d4l];have e:=a4i (b:=80) cO s.S.Cells (by omega) (by omega)
 simp only[cO,oo] at e;rw[e];rfl
theorem c8T(s:a7):a9J s=some (decide (Sm s)):=by
 unfold a9J;simp only[jn];refine G2 (min s.S.Cells.length 30) (λk=>∀j (h:j<s.S.Cells.length),j<k→s.S.Cells[j].Val.Fields.length≤10) (by omega) (λ_ _ h=>by omega) (λk hk hP=>?_) (λhP=>?_)
 ·have hk1:k<s.S.Cells.length:=by omega
  have hk2:k<30:=by omega
  have hc:((decide ((k:Int)<(s.S.Cells.length:Int)))&&(decide ((k:Int)<30)))=true:=by simp;omega
  by_cases g:s.S.Cells[k].Val.Fields.length≤10
  ·refine .inl ⟨?_,λj h hj=>?_⟩
   ·rw[hc];simp only[if_true,o8 hk1,d4l];rw[if_neg (by simp;omega),k8]
   ·rcases Nat.lt_or_ge j k with q | q
    ·exact hP j h q
    ·have:j=k:=by omega
     subst this;exact g
  ·refine .inr ⟨.inl false,?_,?_⟩
   ·rw[hc];simp only[if_true,o8 hk1,d4l];rw[if_pos (by simp;omega)]
   ·simp only;rw[decide_eq_false (λq:Sm s=>g (q.2 k hk1))]
 ·refine⟨.inr (),?_,?_⟩
  ·rw[show ((decide (((min s.S.Cells.length 30:Nat):Int)<(s.S.Cells.length:Int)))&&(decide (((min s.S.Cells.length 30:Nat):Int)<30)))=false by
    rcases Nat.lt_or_ge s.S.Cells.length 30 with q | q
    ·simp;omega
    ·simp;omega]
   rfl
  ·simp only;congr 1;rw[decide_eq_decide];constructor
   ·intro q;exact⟨by omega,λi h=>hP i h (by omega)⟩
   ·intro q;have:=q.1;omega
end Go.Sh
namespace Go.Sh
theorem d2H(t:Tb)(h:t.length≤1000):b4s t=some (t.map M1):=by
 unfold b4s;simp only[jn];have e:=a4i (b:=24) M1 t (by omega) (by omega)
 simp only[M1] at e;rw[e];rfl
end Go.Sh
namespace Go.Sh
theorem d1Q(l:List g7)(h:l.length≤1000):a9I l=some (l.map wcR):=by
 unfold a9I;simp only[jn];have e:=a4i (b:=24) wcR l (by omega) (by omega)
 simp only[wcR] at e;rw[e];rfl
theorem d2I(q:TQ)(h:q.L.length≤1000):a9L q=some (tqR q):=by
 unfold a9L;simp only[jn];have e:=a4i (b:=24) tkR q.L (by omega) (by omega)
 simp only[tkR] at e;rw[e];rfl
theorem c5u{x:Hp}(h1:x.S.S.Cells.length≤30)(h2:x.Cells.length≤1000)(h3:x.T.length≤1000)(h4:x.Q.L.length≤1000):a0C x=some (hO x):=by
 unfold a0C;rw[d1Z x.S h1,d4l,d1Q x.Cells h2,d4l,d2H x.T h3,d4l,d2I x.Q h4,d4l];rfl
theorem b1m{x:Hp}(h:HpS x):a0C x=some (hO x):=by
 have h1:=h.sr.len;have h2:=h.c6;have h3:=h.hr.l8;have h4:=h.q30;exact c5u (by omega) (by omega) (by omega) (by omega)
theorem b9p(x:Hp):a7r x=some (decide (b3h x)):=by
 unfold a7r;rw[c8T,d4l];congr 1;rw[Bool.eq_iff_iff];simp only[Bool.and_eq_true,decide_eq_true_iff];unfold b3h;constructor
 ·rintro⟨⟨⟨⟨a,b⟩,c⟩,d⟩,e⟩;exact⟨a,by omega,by omega,by omega,by omega⟩
 ·rintro⟨a,b,c,d,e⟩;exact⟨⟨⟨⟨a,by omega⟩,by omega⟩,by omega⟩,by omega⟩
theorem c9o{x:Hp}(h:HpS x):a7r x=some true:=by rw[b9p,decide_eq_true h.d3E]
theorem c8U{x:Hp}(hB:HB x):∃b,a9K x=some b∧(b=true→S9 x∧x.S.Serial<1000000000):=by
 unfold a9K;rw[b9p,d4l];by_cases c:b3h x∧x.S.Serial<1000000000
 ·have e:((decide (b3h x))&&(decide (x.S.Serial<1000000000)))=true:=by simp[c.1,c.2]
  rw[e];obtain⟨f,f2,f3,f4,f5⟩:=c.1;simp only[beq_self_eq_true,G9,Bool.true_and];rw[c5u f.1 (by omega) (by omega) (by omega),d4l]
  obtain⟨b,h1,h2⟩:=b9x x hB (by have:=f.1;omega) (by omega) (by omega) (by omega) (by omega)
  rw[h1,d4l];exact⟨b,rfl,λq=>⟨h2.1 q,c.2⟩⟩
 ·have e:((decide (b3h x))&&(decide (x.S.Serial<1000000000)))=false:=by
   rw[Bool.and_eq_false_iff,decide_eq_false_iff_not,decide_eq_false_iff_not];exact Decidable.not_and_iff_or_not.1 c
  rw[e];exact⟨false,by simp[p7],λq=>by cases q⟩
end Go.Sh
namespace Go.Sh
def Sv(s s':a7):Prop:=s'.S.Cells.length=s.S.Cells.length∧∀i,i<s.S.Cells.length→(ce s i).Gen≤(ce s' i).Gen∧((ce s' i).Gen=(ce s i).Gen→((ce s i).State≠0→(ce s' i).State≠0)∧((ce s' i).State=1→(ce s i).State=0∨((ce s i).State=1∧((ce s i).Val.Started=true→(ce s' i).Val.Started=true))))
theorem Sv.refl(s:a7):Sv s s:=⟨rfl,λi _=>⟨Int.le_refl _,λ_=>⟨id,λh=>.inr ⟨h,id⟩⟩⟩⟩
theorem Sv.trans{a b c:a7}(h:Sv a b)(q:Sv b c):Sv a c:=by
 obtain⟨h1,h2⟩:=h;obtain⟨q1,q2⟩:=q;refine⟨q1.trans h1,λi hi=>?_⟩;obtain⟨a1,a2⟩:=h2 i hi;obtain⟨b1,b2⟩:=q2 i (by omega)
 refine⟨by omega,λe=>?_⟩
 obtain⟨a3,a4⟩:=a2 (by omega)
 obtain⟨b3,b4⟩:=b2 (by omega)
 refine⟨λh=>b3 (a3 h),λh=>?_⟩;rcases b4 h with r | ⟨r,r'⟩
 ·exact .inl (Classical.byContradiction λn=>a3 n r)
 ·rcases a4 r with k | ⟨k,k'⟩
  ·exact .inl k
  ·exact .inr ⟨k,λs=>r' (k' s)⟩
def c2b(s:a7)(h:Int):Prop:=∃(i:Nat) (g:Int),i<s.S.Cells.length∧h=1+(i:Int)+32*g∧(g<(ce s i).Gen∨(g=(ce s i).Gen∧(ce s i).State≠0∧((ce s i).State=1→(ce s i).Val.Started=true)))
theorem Sv.d2G{s s':a7}(h:Sv s s'){k:Int}(q:c2b s k):c2b s' k:=by
 obtain⟨i,g,hi,e,q⟩:=q;obtain⟨h1,h2⟩:=h;obtain⟨a,b⟩:=h2 i hi;refine⟨i,g,by omega,e,?_⟩
 rcases q with q | ⟨q1,q2,q3⟩
 ·exact .inl (by omega)
 ·by_cases c:(ce s' i).Gen=(ce s i).Gen
  ·obtain⟨b1,b2⟩:=b c;refine .inr ⟨by omega,b1 q2,λr=>?_⟩
   rcases b2 r with k | ⟨k1,k2⟩
   ·exact absurd k q2
   ·exact k2 (q3 k1)
  ·exact .inl (by omega)
theorem c4s{s:a7}(hR:SR s){h:Int}(hh:h∈lv s)(hs:(ob s h).Started=false):¬c2b s h:=by
 rintro⟨i,g,hi,e,q⟩;obtain⟨j,hj⟩:=(a4j hR).1 hh;have hl:=hR.len;have hij:i=j:=by
  have:=hj.2.2;have:=hj.1;omega
 subst hij;have:=hj.2.2;rcases q with q | ⟨q1,q2,q3⟩
 ·omega
 ·rw[P5 hR hj,q3 hj.2.1] at hs;cases hs
theorem Kin.sv{s s':a7}(hR:SR s)(k:Kin s s'):Sv s s':=⟨k.len,λi hi=>by
 obtain⟨a,b,_,_,_⟩:=k.ce i hi;refine⟨by omega,λ_=>⟨by omega,λh=>.inr ⟨by omega,λq=>?_⟩⟩⟩
 have h1:At s (hdl s i) i:=⟨hi,by omega,rfl⟩
 have h2:At s' (hdl s i) i:=⟨by rw[k.len];exact hi,h,by rw[b];rfl⟩
 have hl:=K1 hR ((a4j hR).2 ⟨i,h1⟩);obtain⟨n,e⟩:=k.ob (hdl s i) (by omega)
 rw[P5 k.sr h2,P5 hR h1] at e;rw[e];exact q⟩
theorem c6G{s:a7}(hR:SR s){h:Int}(hh:h∈lv s){o:k9}(hs:o.Serial=(ob s h).Serial)(ho:OkO s o)(hst:(ob s h).Started=true→o.Started=true):Sv s (seO s h o):=⟨c3i s h o,λi hi=>by
 have q:=z6 hR hh;rw[b8I hR hh hs ho];split
 ·rename_i e;subst e;refine⟨Int.le_refl _,λ_=>⟨id,λr=>.inr ⟨q.2.1,λk=>hst ?_⟩⟩⟩;rw[P5 hR q];exact k
 ·exact⟨Int.le_refl _,λ_=>⟨id,λr=>.inr ⟨r,id⟩⟩⟩⟩
theorem c5L{s:a7}(hR:SR s){i:Nat}(hi:i<s.S.Cells.length)(ht:Th (ce s i))(d:Int):Sv s (mkA s i d):=⟨N4 ..,λj hj=>by
 rw[a3v hR hi ht];split
 ·rename_i e;subst e;exact⟨Int.le_refl _,λ_=>⟨id,λr=>.inr ⟨r,id⟩⟩⟩
 ·exact⟨Int.le_refl _,λ_=>⟨id,λr=>.inr ⟨r,id⟩⟩⟩⟩
theorem d0m{s:a7}{i:Nat}(hi:i<s.S.Cells.length):Sv s (gvA s i):=⟨X4 ..,λj hj=>by
 unfold gvA;rw[L3 hi];by_cases e:j=i
 ·subst e;rw[if_pos rfl];split;·exact⟨Int.le_refl _,λ_=>⟨λ_=>(by decide:(3:Int)≠0),λr=>absurd (show (3:Int)=1 from r) (by decide)⟩⟩
  ·refine⟨by show _≤(ce s j).Gen+1;omega,λr=>?_⟩
   have:(ce s j).Gen+1=(ce s j).Gen:=r;omega
 ·rw[if_neg e];exact⟨Int.le_refl _,λ_=>⟨id,λr=>.inr ⟨r,id⟩⟩⟩⟩
theorem Gn.sv{s s':a7}{ds:List Int}(g:Gn s s' ds):Sv s s':=⟨g.len,λj hj=>by
 rw[g.ce];split
 ·unfold gnC;split
  ·split;·exact⟨Int.le_refl _,λ_=>⟨λ_=>(by decide:(3:Int)≠0),λr=>absurd (show (3:Int)=1 from r) (by decide)⟩⟩
   ·refine⟨by show _≤(Sh.ce s j).Gen+1;omega,λr=>?_⟩
    have:(Sh.ce s j).Gen+1=(Sh.ce s j).Gen:=r;omega
  ·exact⟨Int.le_refl _,λ_=>⟨λ_=>(by decide:(2:Int)≠0),λr=>absurd (show (2:Int)=1 from r) (by decide)⟩⟩
 ·exact⟨Int.le_refl _,λ_=>⟨id,λr=>.inr ⟨r,id⟩⟩⟩⟩
theorem d2k{s:a7}(hR:SR s){i:Nat}(hi:i<s.S.Cells.length)(h0:(ce s i).State=0){n:Nat}(hn:n≤4){p:Int}(hp : -1≤p∧p≤5):Sv s (mkS s i n p):=⟨a5C hR hi h0 hn hp,λj hj=>by
 rw[a7B hR hi h0 hn hp];split
 ·rename_i e;subst e;exact⟨Int.le_refl _,λ_=>⟨λr=>absurd h0 r,λ_=>.inl h0⟩⟩
 ·exact⟨Int.le_refl _,λ_=>⟨id,λr=>.inr ⟨r,id⟩⟩⟩⟩
theorem c1T{x:Hp}(hR:SR x.S)(h:Int):Sv x.S (C3 x h).S:=(G7 hR h (f:=Z9) λc=>E3).sv hR
theorem b8B{x:Hp}(hR:SR x.S)(h:Int):Sv x.S (R8 x h).S:=(G7 hR h (f:=b0r) λc=>Q9).sv hR
theorem c0i{x:Hp}(hR:SR x.S)(r:Nat)(h:Int):Sv x.S (H0 x r h).S:=
 (c1T hR h).trans (b8B (x:=wR (C3 x h) (x.Roots.set r h)) (a3x hR h) _)
theorem c3U{x:Hp}(hR:SR x.S){h:Int}(hh:h∈lv x.S){n:Nat}(hn:n<(ob x.S h).Fields.length)(v:Int):Sv x.S (a1N x h n v).S:=by
 have k1:=b8E hR v;have hh1:h∈lv (C3 x v).S:=by rw[k1.lv];exact hh
 have hof:(ob (C3 x v).S h).Fields=(ob x.S h).Fields:=by
  obtain⟨n,e⟩:=(G7 hR v (f:=Z9) λc=>E3).ob h (by have:=K1 hR hh;omega)
  show (ob (stO x v Z9).S h).Fields=_;rw[e]
 have ho:OkO (C3 x v).S (flg (ob (C3 x v).S h) ((ob x.S h).Fields.set n v)):=by
  have:=K8 k1.sr hh1;refine⟨this.s1,this.s2,this.st,this.wk,this.p1,this.p2,?_⟩;have h4:=this.fl;rw[hof] at h4;simpa using h4
 have k2:=c6G (o:=flg (ob (C3 x v).S h) ((ob x.S h).Fields.set n v)) k1.sr hh1 rfl ho id;exact ((c1T hR v).trans k2).trans (b8B (x:=wS (C3 x v) (seO (C3 x v).S h (flg (ob (C3 x v).S h) ((ob x.S h).Fields.set n v)))) (a1p (o:=flg (ob (C3 x v).S h) ((ob x.S h).Fields.set n v)) k1.sr hh1 rfl ho) _)
theorem c6d{x:Hp}(hR:SR x.S)(v:Int)(t:Tb)(old:Int):Sv x.S (a7D x v t old).S:=
 (c1T hR v).trans (b8B (x:=wT (C3 x v) t) (a3x hR v) old)
theorem d0C{x:Hp}(hR:SR x.S)(h d:Int):Sv x.S (mkd x h d).S:=by
 unfold mkd;split
 ·rename_i q;exact c5L hR q.1 q.2.1 d
 ·exact Sv.refl _
theorem c81{x:Hp}(hR:SR x.S)(h:Int):Sv x.S (a8P x h).S:=by
 unfold a8P;split
 ·rename_i q;have k:=c5L hR q.1 q.2.1 (-1);split;·exact k.trans (d0m (by rw[k.1];exact q.1))
  ·exact k
 ·exact Sv.refl _
theorem c6W{x:Hp}(hx:S9 x)(n:Nat)(h call:Int):Sv x.S (a3k x n h call).S:=by
 have hR:=hx.sh.sr;unfold a3k;have s1:Sv x.S (mkd (wC x (x.Cells.set n (wcl h call))) h 1).S:=d0C (x:=wC x (x.Cells.set n (wcl h call))) hR h 1;refine s1.trans (c81 ?_ _);unfold mkd;split
 ·rename_i q;have:=(hR.ok _ q.1 q.2.1).wk;exact b47 hR q.1 q.2.1 (by omega)
 ·exact hR
theorem c93{x:Hp}(hR:SR x.S){ds:List Int}(hn:ds.Nodup)(hm:∀d∈ds,d∈lv x.S):Sv x.S (buH x ds).S:=by
 have g:=a3r ds hR hn hm;exact g.sv.trans ((a6j (ds.flatMap (outs x.S)++(wot x.T ds).2) (x:=a5O x ds (wot x.T ds).1) g.sr).1.sv g.sr)
theorem d06{x:Hp}(hR:SR x.S){h:Int}(hh:h∈lv x.S):Sv x.S (quH x h).S:=by
 have oko:=K8 hR hh;have ho:OkO x.S (srt (ob x.S h)):=⟨oko.s1,oko.s2,oko.st,oko.wk,oko.p1,oko.p2,oko.fl⟩;exact (c6G (o:=srt (ob x.S h)) hR hh rfl ho λ_=>rfl).trans ((b1H hR hh).1.sv (a1p (o:=srt (ob x.S h)) hR hh rfl ho))
theorem d1r{x:Hp}(hx:S9 x):Sv x.S (stp x).S:=by
 cases h:zr x with
 | nil=>rw[a9C h];exact Sv.refl _
 | cons z l=>
  have hz:z∈zr x:=by rw[h];exact List.mem_cons_self ..
  have hzl:=(a4H.1 hz).1;rw[a4C h];split;·exact d06 hx.sh.sr hzl
  ·exact c93 hx.sh.sr (by simp) (by simpa using hzl)
theorem d1o{x:Hp}(hx:S9 x)(n:Nat):Sv x.S (stN n x).S:=by
 induction n with
 | zero=>exact Sv.refl _
 | succ n ih=>rw[a2b];exact ih.trans (d1r (a0Q hx n))
theorem c8S{x:Hp}(hx:S9 x):Sv x.S (a17 x).S:=d1o hx 100
structure Fw (x y:Hp):Prop where
 sv:Sv x.S y.S
 q:∃l,y.Q=⟨x.Q.L++l,x.Q.Cap⟩∧∀t∈l,t.Kind=1→¬c2b x.S t.At
theorem Fw.of{x y:Hp}(h:Sv x.S y.S)(q:y.Q=x.Q):Fw x y:=⟨h,[],by rw[q,List.append_nil],λt ht=>by cases ht⟩
theorem Fw.refl(x:Hp):Fw x x:=Fw.of (Sv.refl _) rfl
theorem Fw.trans{x y z:Hp}(a:Fw x y)(b:Fw y z):Fw x z:=by
 obtain⟨l,q1,q2⟩:=a.q;obtain⟨m,r1,r2⟩:=b.q;refine⟨a.sv.trans b.sv,l++m,by rw[r1,q1,List.append_assoc],λt ht hk=>?_⟩
 rcases List.mem_append.1 ht with h | h
 ·exact q2 t h hk
 ·exact λs=>r2 t h hk (a.sv.d2G s)
theorem b8K{x:Hp}(hx:S9 x):Fw x (a17 x):=by
 obtain⟨l,q1,q2,_⟩:=(a8K hx).q;exact⟨c8S hx,l,q1,λt ht hk=>c4s hx.sh.sr (q2 t ht hk).1 (q2 t ht hk).2⟩
end Go.Sh
namespace Go.Sh
theorem a4v{x:Hp}(hR:SR x.S)(r:Nat)(h:Int):Fw x (H0 x r h):=Fw.of (c0i hR r h) (a4w x r h).2.2.2
theorem d1U{x:Hp}(hx:S9 x)(hS:SL x)(hz:zr x = [])(hb:x.S.Serial<9223372036854775807)(o:j2):(∃e,Er x o e)∨∃z v,Dn x o z v∧Fw x z:=by
 have hR:=hx.sh.sr;obtain⟨k,a,b,c⟩:=o;by_cases hc:C8 k a b c=0
 ·have:=c2M hc;have hk:k=1∨k=2∨k=3∨k=4∨k=5∨k=6∨k=7∨k=8∨k=9∨k=10∨k=11∨k=12:=by omega
  rcases hk with rfl | rfl | rfl | rfl | rfl | rfl | rfl | rfl | rfl | rfl | rfl | rfl
  ·rcases d1 hx hS hb hc with ⟨e,_,h⟩ | ⟨hn,hcc,i,hF,h⟩;·exact .inl ⟨e,h⟩
   ·obtain⟨hi,h0,_⟩:=hF;have k1:Fw x (wS x (mkS x.S i b.toNat c)):=Fw.of (d2k hR hi h0 hn hcc) rfl;exact .inr ⟨_,_,h,k1.trans (a4v (x:=wS x (mkS x.S i b.toNat c)) (b9J hR hi h0 hn hcc) _ _)⟩
  ·exact .inr ⟨_,_,d2 hx hS hc,a4v hR _ _⟩
  ·exact .inr ⟨_,_,d3 hx hS hc,a4v hR _ _⟩
  ·rcases d4 hx hS hc with ⟨_,h⟩ | ⟨e,_,h⟩ | ⟨_,n,_,_,h⟩;·exact .inl ⟨_,h⟩
   ·exact .inl ⟨_,h⟩
   ·exact .inr ⟨_,_,h,a4v hR _ _⟩
  ·rcases d5 hx hS hc with ⟨_,h⟩ | ⟨e,_,h⟩ | ⟨hl,n,_,hn,h⟩;·exact .inl ⟨_,h⟩
   ·exact .inl ⟨_,h⟩
   ·exact .inr ⟨_,_,h,Fw.of (c3U hR hl hn _) (a8b _ _ _ _).2.2.2⟩
  ·rcases d6 hx hS hc with ⟨_,h⟩ | ⟨e,_,h⟩ | ⟨_,h⟩;·exact .inl ⟨_,h⟩
   ·exact .inl ⟨_,h⟩
   ·exact .inr ⟨_,_,h,Fw.of (c6W hx _ _ _) (b5Z _ _ _ _).2.2.2⟩
  ·obtain⟨_,⟨_,h⟩ | ⟨_,h⟩⟩:=d7 hx hS hc;·exact .inl ⟨_,h⟩
   ·exact .inr ⟨_,_,h,a4v hR _ _⟩
  ·rcases d8 hx hS hc with ⟨_,h⟩ | ⟨_,e,_,h⟩ | ⟨_,r,_,_,h⟩;·exact .inl ⟨_,h⟩
   ·exact .inl ⟨_,h⟩
   ·exact .inr ⟨_,_,h,Fw.of (c6d hR _ _ _) (b0A _ _ _ _).2.2.2⟩
  ·rcases d9 hx hS hc with ⟨_,h⟩ | ⟨_,_,h⟩ | ⟨_,v,_,h⟩;·exact .inl ⟨_,h⟩
   ·exact .inl ⟨_,h⟩
   ·exact .inr ⟨_,_,h,a4v hR _ _⟩
  ·exact .inr ⟨_,_,d10 hx hS hz hc,Fw.refl x⟩
  ·obtain⟨h1,h2⟩:=b7F (x:=x) (a:=a) (b:=b) (c:=c) (.inl rfl) hc;exact .inl ⟨14,by decide,h1,h2⟩
  ·obtain⟨h1,h2⟩:=b7F (x:=x) (a:=a) (b:=b) (c:=c) (.inr rfl) hc;exact .inl ⟨14,by decide,h1,h2⟩
 ·obtain⟨h1,h2⟩:=c5d (x:=x) (o:=⟨k,a,b,c⟩) hc;exact .inl ⟨_,hc,h1,h2⟩
theorem d0a{x:Hp}(hx:S9 x)(hS:SL x)(hz:zr x = [])(hb:x.S.Serial<9223372036854775807)(o:j2):Fw x (dov x o).1:=by
 rcases d1U hx hS hz hb o with ⟨e,_,h,_⟩ | ⟨z,v,d,f⟩
 ·have:dov x o=(x,0,e):=by unfold dov;rw[h];rfl
  rw[this];exact Fw.refl x
 ·have:dov x o=(a17 z,v,0):=by unfold dov;rw[d.mc];rfl
  rw[this];exact f.trans (b8K d.rt)
theorem d2B{x:Hp}(h1:HpS x)(h2:Wk x){L:List Int}(h3:a1r x L){r:Nat}(hr:r<6){h:Int}(hh:h=0∨h∈lv x.S):HpS (H0 x r h)∧Wk (H0 x r h)∧a1r (H0 x r h) L:=by
 have kin:=G7 h1.sr h (f:=Z9) λc=>E3;have l1:lv (C3 x h).S=lv x.S:=kin.lv;have f1:a1r (C3 x h) (h::L):=c0j h1.sr h3 h;have s1:HpS (C3 x h):=h1.st h (f:=Z9) λc=>E3;have s2:HpS (wR (C3 x h) (x.Roots.set r h)):=s1.roots (by rw[List.length_set];exact h1.r6) λv hv=>by
  rw[l1];rcases List.mem_or_eq_of_mem_set hv with q | q
  ·exact h1.rt v q
  ·exact q▸hh
 have w1:Wk (C3 x h):=h2.st h1.sr h (f:=Z9) λc=>E3;have one:∀v k,V2 [v] k=if v=k∧k≠0 then 1 else 0:=λv k=>by rw[G5,Q3,Nat.zero_add]
 have f2:a1r (wR (C3 x h) (x.Roots.set r h)) (x.Roots.getD r 0::L):=f1.mv rfl (λ_ _=>rfl) λk hk=>by
  have:=b4m (l:=x.Roots) (r:=r) (by rw[h1.r6];exact hr) h k
  rw[one,one] at this;rw[b23 x h];unfold nms otr;dsimp only;rw[L1,L1,b3e,b3e,G5 h L,G5 (x.Roots.getD r 0) L];omega
 exact⟨s2.st _ λc=>Q9,Wk.st (x:=wR (C3 x h) (x.Roots.set r h)) w1 s2.sr _ λc=>Q9,b2b (x:=wR (C3 x h) (x.Roots.set r h)) s2.sr f2⟩
abbrev unq(x:Hp)(ts:List g8):Hp:=wQ x ⟨ts,x.Q.Cap⟩
noncomputable def b2M(x:Hp)(ts:List g8)(h:Int):Hp:=R8 (H0 (unq x ts) 5 h) h
section
variable{x:Hp}(hx:S9 x){t:g8}{ts:List g8}(hq:x.Q.L=t::ts)
include hx hq
theorem b8W:HpS (unq x ts):=by
 have h:=hx.sh;refine⟨h.sr,h.hr,h.r6,h.c6,h.cap,?_,λu hu=>h.tk u (by rw[hq];exact List.mem_cons_of_mem _ hu),?_,h.rt,h.fl,h.pr,λi hi=>?_⟩
 ·have:=h.q30;rw[hq,List.length_cons] at this;show ts.length≤30;omega
 ·have:=h.td;rw[hq,List.pairwise_cons] at this;exact this.2
 ·obtain⟨a,b,c,d,e⟩:=h.cl i hi;refine⟨a,b,c,d,λq=>⟨(e q).1,?_⟩⟩;have:=(e q).2;rw[Bool.eq_false_iff] at this ⊢;intro r;obtain⟨u,hu,k1,k2⟩:=a7u.1 r;exact this (a7u.2 ⟨u,by rw[hq];exact List.mem_cons_of_mem _ hu,k1,k2⟩)
theorem c0x:a1r (unq x ts) (if t.Kind=1 then [t.At] else []):=hx.fair.mv rfl (λ_ _=>rfl) λh _=>by
 unfold nms otr b2P;dsimp only;rw[hq,List.filter_cons];by_cases k:t.Kind=1
 ·rw[if_pos k,if_pos (by simpa using k),List.map_cons,L1,L1,G5 t.At (List.map _ _),G5 t.At [],Q3]
  omega
 ·rw[if_neg k,if_neg (by simpa using k),Q3]
theorem c0U(hk:t.Kind≠1):S9 (unq x ts):=⟨b8W hx hq,hx.wk,by have:=c0x hx hq;rwa [if_neg hk] at this⟩
theorem c02(hk:t.Kind=1):t.At∈lv x.S∧(ob x.S t.At).Started=true:=by
 rcases (hx.sh.tk t (by rw[hq];exact List.mem_cons_self ..)).2.2 with ⟨_,b,c⟩ | ⟨b,_⟩
 ·exact⟨b,c⟩
 ·omega
theorem a5T(hk:t.Kind=1):S9 (b2M x ts t.At):=by
 have f:=c0x hx hq;rw[if_pos hk] at f;obtain⟨a,b,c⟩:=d2B (b8W hx hq) (x:=unq x ts) hx.wk f (r:=5) (by decide) (.inr (c02 hx hq hk).1)
 exact⟨a.st _ λc=>Q9,b.st a.sr _ λc=>Q9,b2b a.sr c⟩
omit hq in
theorem c03 (hS:SL x) (h:Int):SL (b2M x ts h):=by
 have k:=a4x (x:=unq x ts) hx.sh.sr hS 5 h;exact b8z [h] (a15 (x:=unq x ts) hx.sh.sr 5 h).sr k
omit hq in
theorem d0e (h:Int):Ks x.S (b2M x ts h).S:=by
 have k:=a15 (x:=unq x ts) hx.sh.sr 5 h;exact k.trans (b8A k.sr h)
omit hq in
theorem c5l (h:Int):(b2M x ts h).Roots=x.Roots.set 5 h∧(b2M x ts h).Cells=x.Cells∧(b2M x ts h).T=x.T∧(b2M x ts h).Q=⟨ts,x.Q.Cap⟩:=by
 obtain⟨a,b,c,d⟩:=b5B (H0 (unq x ts) 5 h) h;obtain⟨a',b',c',d'⟩:=a4w (unq x ts) 5 h;exact⟨a.trans a',b.trans b',c.trans c',d.trans d'⟩
omit hq in
theorem d0d (h:Int):Fw (unq x ts) (b2M x ts h):=Fw.of ((c0i (x:=unq x ts) hx.sh.sr 5 h).trans (b8B (a15 (x:=unq x ts) hx.sh.sr 5 h).sr h)) (c5l hx h).2.2.2
end
def prg(ps:List (List j2))(n:Int):List j2:=if n<0∨(ps.length:Int)≤n then [] else ps.getD n.toNat []
noncomputable def pre(x:Hp)(t:g8)(ts:List g8):Hp:=if t.Kind=1 then a17 (b2M x ts t.At) else unq x ts
noncomputable def ran(ps:List (List j2))(x:Hp)(t:g8)(ts:List g8):Hp:=(runs (pre x t ts) (prg ps t.Prog)).1
noncomputable def dne(ps:List (List j2))(x:Hp)(t:g8)(ts:List g8):Hp:=if t.Kind=1 then a17 (H0 (ran ps x t ts) 5 0) else ran ps x t ts
structure Oh (x:Hp):Prop where
 rt:S9 x
 sl:SL x
 zr:zr x = []
theorem Nxt.ok{x y:Hp}{o:j2}{v e:Int}(n:Nxt x o y v e):Oh y:=⟨n.rt,n.sl,n.zr⟩
theorem c3k{x:Hp}(h:S9 x)(s:SL x):Oh (a17 x):=⟨a2I h,c3l h s,b7g h⟩
theorem c6C{x:Hp}(hx:Oh x)(l:List j2)(hb:x.S.Serial+l.length<9223372036854775807):Oh (runs x l).1∧Fw x (runs x l).1∧(runs x l).1.S.Serial≤x.S.Serial+l.length∧(runs x l).2.length=l.length:=by
 have key:∀k,k≤l.length→Oh (runs x (l.take k)).1∧Fw x (runs x (l.take k)).1∧(runs x (l.take k)).1.S.Serial≤x.S.Serial+k∧(runs x (l.take k)).2.length=k:=by
  intro k;induction k with
  | zero=>exact λ_=>⟨hx,Fw.refl x,by show x.S.Serial≤_;omega,rfl⟩
  | succ k ih=>
   intro hk;obtain⟨a,b,c,d⟩:=ih (by omega)
   have hk':k<l.length:=by omega
   have n:=b37 a.rt a.sl a.zr (by omega) l[k]
   rw[a0S hk',a9z];exact⟨n.ok,b.trans (d0a a.rt a.sl a.zr (by omega) _),by have:=n.ev.s2;show (dov _ _).1.S.Serial≤_;omega,by simp[d]⟩
 have:=key l.length (Nat.le_refl _);rwa [List.take_length] at this
section
variable{x:Hp}(hx:Oh x){t:g8}{ts:List g8}(hq:x.Q.L=t::ts)(ps:List (List j2))
include hx hq
theorem c1v:Oh (pre x t ts):=by
 unfold pre;split
 ·rename_i k;exact c3k (a5T hx.rt hq k) (c03 hx.rt hx.sl _)
 ·rename_i k;exact⟨c0U hx.rt hq k,hx.sl,hx.zr⟩
theorem d0X:Fw (unq x ts) (pre x t ts):=by
 unfold pre;split
 ·rename_i k;exact (d0d hx.rt _).trans (b8K (a5T hx.rt hq k))
 ·exact Fw.refl _
theorem b76:(pre x t ts).S.Serial=x.S.Serial:=by
 unfold pre;split
 ·rename_i k;rw[(a8K (a5T hx.rt hq k)).ser,(d0e hx.rt _).ser]
 ·rfl
variable(hb:x.S.Serial+(prg ps t.Prog).length<9223372036854775807)
include hb
theorem b8v:Oh (ran ps x t ts)∧Fw (unq x ts) (ran ps x t ts)∧(ran ps x t ts).S.Serial≤x.S.Serial+(prg ps t.Prog).length:=by
 have e:=b76 hx hq;obtain⟨a,b,c,_⟩:=c6C (c1v hx hq) (prg ps t.Prog) (by rw[e];exact hb)
 exact⟨a,(d0X hx hq).trans b,by rw[e] at c;exact c⟩
theorem c2B:Oh (dne ps x t ts)∧Fw (unq x ts) (dne ps x t ts)∧(dne ps x t ts).S.Serial≤x.S.Serial+(prg ps t.Prog).length∧(t.Kind=1→sd (dne ps x t ts) 5=0):=by
 obtain⟨a,b,c⟩:=b8v hx hq ps hb;unfold dne;split
 ·have hz:=a0w a.rt (r:=5) (by decide) (h:=0) (.inl rfl)
  have k:=a15 a.rt.sh.sr 5 0;refine⟨c3k hz (a4x a.rt.sh.sr a.sl 5 0),(b.trans (a4v a.rt.sh.sr 5 0)).trans (b8K hz),?_,λ_=>(a9w a.rt (a:=5) (by decide) (h:=0) (.inl rfl)).1⟩
  rw[(a8K hz).ser,k.ser];exact c
 ·exact⟨a,b,c,λq=>absurd q (by assumption)⟩
end
end Go.Sh
namespace Go.Sh
def cst(ps:List (List j2))(t:g8):Int:=1+((prg ps t.Prog).length:Int)
def can(ps:List (List j2))(p:Hp × Int):Prop:=∃t ts,p.1.Q.L=t::ts∧cst ps t≤p.2
noncomputable def nxd(ps:List (List j2))(p:Hp × Int):Hp × Int:=match p.1.Q.L with
 | []=>p
 | t::ts=>if cst ps t≤p.2 then (dne ps p.1 t ts,p.2-cst ps t) else p
noncomputable def dN(ps:List (List j2)):Nat→Hp × Int→Hp × Int
 | 0,p=>p
 | n+1,p=>dN ps n (nxd ps p)
section
variable(ps:List (List j2))
theorem b32(n:Nat)(p:Hp × Int):dN ps (n+1) p=nxd ps (dN ps n p):=by
 induction n generalizing p with
 | zero=>rfl
 | succ n ih=>exact ih (nxd ps p)
theorem c8q{p:Hp × Int}(h:p.1.Q.L = []):nxd ps p=p:=by unfold nxd;rw[h]
theorem b1F{p:Hp × Int}{t:g8}{ts:List g8}(h:p.1.Q.L=t::ts):nxd ps p=if cst ps t≤p.2 then (dne ps p.1 t ts,p.2-cst ps t) else p:=by unfold nxd;rw[h]
theorem b9j{p:Hp × Int}{t:g8}{ts:List g8}(h:p.1.Q.L=t::ts):can ps p↔cst ps t≤p.2:=by
 constructor
 ·rintro⟨u,us,e,c⟩;rw[h] at e;injection e with e1 e2
  rw[e1];exact c
 ·exact λc=>⟨t,ts,h,c⟩
theorem b1a(t:g8):1≤cst ps t:=by unfold cst;omega
theorem c2y{p:Hp × Int}(hb:0≤p.2):∃n:Nat,(n:Int)≤p.2∧¬can ps (dN ps n p)∧∀j,j<n→can ps (dN ps j p):=by
 have key:∀m:Nat,(∃n:Nat,n≤m∧¬can ps (dN ps n p))∨((dN ps m p).2+m≤p.2∧0≤(dN ps m p).2):=by
  intro m;induction m with
  | zero=>exact .inr ⟨by show p.2+((0:Nat):Int)≤_;omega,hb⟩
  | succ m ih=>
   rcases ih with ⟨n,h1,h2⟩ | ⟨h1,h2⟩;·exact .inl ⟨n,by omega,h2⟩
   ·by_cases q:can ps (dN ps m p)
    ·right;obtain⟨t,ts,e,c⟩:=q;have:=b1a ps t;rw[b32,b1F ps e,if_pos c];dsimp only;omega
    ·exact .inl ⟨m,by omega,q⟩
 have hex:∃n:Nat,(n:Int)≤p.2∧¬can ps (dN ps n p):=by
  rcases key (p.2.toNat+1) with ⟨n,h1,h2⟩ | ⟨h1,h2⟩
  ·rcases Nat.lt_or_ge n (p.2.toNat+1) with q | q
   ·exact⟨n,by omega,h2⟩
   ·have hn:n=p.2.toNat+1:=by omega
    rcases key p.2.toNat with ⟨n,h1,h2⟩ | ⟨h1,h3⟩;·exact⟨n,by omega,h2⟩
    ·refine⟨p.2.toNat,by omega,λ⟨t,ts,e,c⟩=>?_⟩
     have:=b1a ps t;omega
  ·omega
 obtain⟨n,⟨hn,hz⟩,hmin⟩:=a0i hex;refine⟨n,hn,hz,λj hj=>Classical.byContradiction λq=>?_⟩;have:=hmin j ⟨by omega,q⟩
 omega
theorem b7C{p:Hp × Int}(hx:Oh p.1)(hb:0≤p.2)(hs:p.1.S.Serial+p.2<9223372036854775807):∀n,Oh (dN ps n p).1∧0≤(dN ps n p).2∧(dN ps n p).2≤p.2∧(dN ps n p).1.S.Serial+(dN ps n p).2≤p.1.S.Serial+p.2
 | 0=>⟨hx,hb,Int.le_refl _,Int.le_refl _⟩
 | n+1=>by
  obtain⟨a,b,c,d⟩:=b7C hx hb hs n;rw[b32];cases e:(dN ps n p).1.Q.L with
  | nil=>rw[c8q ps e];exact⟨a,b,c,d⟩
  | cons t ts=>
   rw[b1F ps e];split
   ·rename_i q;have q2:=q;unfold cst at q2;obtain⟨r1,_,r3,_⟩:=c2B a e ps (by omega)
    refine⟨r1,?_,?_,?_⟩;·dsimp only;omega
    ·have:=b1a ps t;dsimp only;omega
    ·dsimp only;unfold cst;omega
   ·exact⟨a,b,c,d⟩
end
noncomputable def dn(ps:List (List j2))(p:Hp × Int):Nat:=if h:0≤p.2 then Classical.choose (c2y ps h) else 0
theorem c2z(ps:List (List j2)){p:Hp × Int}(h:0≤p.2):(dn ps p:Int)≤p.2∧¬can ps (dN ps (dn ps p) p)∧∀j,j<dn ps p→can ps (dN ps j p):=by
 unfold dn;rw[dif_pos h];exact Classical.choose_spec (c2y ps h)
noncomputable def dr(ps:List (List j2))(p:Hp × Int):Hp × Int:=dN ps (dn ps p) p
theorem c9i(ps:List (List j2)){x:Hp}{f:Int}(hx:Oh x)(hf:0≤f)(hs:x.S.Serial+f<9223372036854775807):Oh (dr ps (x,f)).1∧0≤(dr ps (x,f)).2∧(dr ps (x,f)).2≤f∧(dr ps (x,f)).1.S.Serial+(dr ps (x,f)).2≤x.S.Serial+f:=b7C ps (p:=(x,f)) hx hf hs _
end Go.Sh
namespace Go.Sh
section
variable{x:Hp}(hx:HpS x)(hS:∀k∈lv x.S,(ob x.S k).Strong≤9223372036854775807)
include hx hS
theorem c5E{h:Int}(hh:h=0∨h∈lv x.S):h≤9223372036854775807:=by
 rcases hh with q | q
 ·omega
 ·have:=K1 hx.sr q;omega
theorem c6x(k:Int){h:Int}(hh:h≤9223372036854775807):a0J x k h=some (if k<0∨5<k then (x,6) else if h=0∨h∈lv x.S then (H0 x k.toNat h,0) else (x,3)):=by
 have hR:=hx.sr;have r6:=hx.r6;unfold a0J;by_cases hk:k<0∨5<k
 ·rw[if_pos hk,if_pos (by rw[r6];simp;omega)]
 ·rw[if_neg hk,if_neg (by rw[r6];simp;omega),a1m hR hh,d4l]
  by_cases hn:h=0∨h∈lv x.S
  ·rw[if_pos hn,decide_eq_true hn,if_neg (by simp)]
   obtain⟨n,rfl⟩:∃n:Nat,k=n:=⟨k.toNat,by omega⟩
   have hn6:n<6:=by omega
   have hnl:n<x.Roots.length:=by omega
   have old:x.Roots[n]≤9223372036854775807:=c5E hx hS (hx.rt _ (List.getElem_mem hnl));have e1:=a6k x h;have hn2:n<(C3 x h).Roots.length:=by rw[e1.1];exact hnl
   rw[o8 hnl,d4l];unfold F3 P6 F6;rw[a6i hR hh hS,d4l];dsimp only;rw[Q2 (by omega) (by rw[e1.1];omega),d4l,o8 hn2,d4l,d4l]
   have hrel:=a2E (x:=wR (C3 x h) (x.Roots.set n h)) (a3x hR h) old;rw[Int.toNat_natCast,e1.1,show D0 ⟨(C3 x h).S,x.Roots.set n h,(C3 x h).Cells,(C3 x h).T,(C3 x h).Q⟩ x.Roots[n]=_ from hrel];unfold H0;rw[List.getD_eq_getElem?_getD,List.getElem?_eq_getElem hnl];rfl
  ·rw[if_neg hn,decide_eq_false hn,if_pos (by simp)]
theorem c8M(k:Int){h:Int}(hh:h≤9223372036854775807):U5 (hO x) k h=some (if k<0∨5<k then (hO x,6) else if h=0∨h∈lv x.S then (hO (H0 x k.toNat h),0) else (hO x,3)):=by
 have hR:=hx.sr;have r6:=hx.r6;unfold U5;by_cases hk:k<0∨5<k
 ·rw[if_pos hk,if_pos (by simp;omega)]
 ·rw[if_neg hk,if_neg (by simp;omega),a6Y hR hh,d4l]
  by_cases hn:h=0∨h∈lv x.S
  ·rw[if_pos hn,decide_eq_true hn,if_neg (by simp)]
   obtain⟨n,rfl⟩:∃n:Nat,k=n:=⟨k.toNat,by omega⟩
   have hnl:n<x.Roots.length:=by omega
   have hnl':n<(hO x).Roots.length:=hnl;have old:x.Roots[n]≤9223372036854775807:=c5E hx hS (hx.rt _ (List.getElem_mem hnl));have e1:=a6k x h;have r6':(hO x).Roots.length=6:=r6;rw[o8 hnl',d4l,a8C hR hh hS,d4l,Q2 (by omega) (by rw[r6'];omega),d4l,o8 hnl',d4l]
   have hrel:=a31 (x:=wR (C3 x h) (x.Roots.set n h)) (a3x hR h) old;rw[Int.toNat_natCast];rw[show E4 ⟨(hO (C3 x h)).S,(hO x).Roots.set n h,(hO (C3 x h)).Cells,(hO (C3 x h)).T,(hO (C3 x h)).Q⟩ (hO x).Roots[n]=_ from hrel];unfold H0;rw[List.getD_eq_getElem?_getD,List.getElem?_eq_getElem hnl];rfl
  ·rw[if_neg hn,decide_eq_false hn,if_pos (by simp)]
end
theorem b77(ps:List (List j2))(n:Int):a2p ps n=some (prg ps n):=by
 unfold a2p prg;by_cases h:n<0∨(ps.length:Int)≤n
 ·rw[if_pos (by simpa using h),if_pos h]
 ·rw[if_neg (by simpa using h),if_neg h]
  obtain⟨k,rfl⟩:∃k:Nat,n=k:=⟨n.toNat,by omega⟩
  have hk:k<ps.length:=by omega
  rw[o8 hk,d4l,Int.toNat_natCast,List.getD_eq_getElem?_getD,List.getElem?_eq_getElem hk];rfl
abbrev psR(ps:List (List j2)):List (List p9):=ps.map (List.map opR)
theorem c22(ps:List (List j2))(n:Int):a4t (psR ps) n=some ((prg ps n).map opR):=by
 unfold a4t prg;rw[List.length_map];by_cases h:n<0∨(ps.length:Int)≤n
 ·rw[if_pos (by simpa using h),if_pos h]
  rfl
 ·rw[if_neg (by simpa using h),if_neg h]
  obtain⟨k,rfl⟩:∃k:Nat,n=k:=⟨n.toNat,by omega⟩
  have hk:k<ps.length:=by omega
  have hk2:k<(psR ps).length:=by simpa using hk
  rw[o8 hk2,d4l,Int.toNat_natCast,List.getD_eq_getElem?_getD,List.getElem?_eq_getElem hk];simp[psR]
def Mp(ps:List (List j2)):Prop:=∀p∈ps,p.length≤6
theorem b1G{ps:List (List j2)}(h:Mp ps)(n:Int):(prg ps n).length≤6:=by
 unfold prg;split;·simp
 ·rename_i q;have hk:n.toNat<ps.length:=by omega
  rw[List.getD_eq_getElem?_getD,List.getElem?_eq_getElem hk];exact h _ (List.getElem_mem hk)
theorem b7y{ps:List (List j2)}(h:Mp ps)(t:g8):a2o ps t=some (cst ps t):=by
 have:=b1G h t.Prog;unfold a2o cst;rw[b77,d4l,F7 (by omega) (by omega)]
theorem c0W{ps:List (List j2)}(h:Mp ps)(t:g8):a4s (psR ps) ⟨t.Kind,t.At,t.Prog⟩=some (cst ps t):=by
 have:=b1G h t.Prog;unfold a4s cst;show (a4t (psR ps) t.Prog).bind _=_;rw[c22,d4l,List.length_map,F7 (by omega) (by omega)]
theorem b7H(x:Hp):a0h x=some (x.Q.L.isEmpty):=by
 unfold a0h;rw[b5Q,d4l];unfold tnx;cases x.Q.L <;> rfl
theorem c2D(x:Hp):a30 (hO x)=some (x.Q.L.isEmpty):=by
 unfold a30;show some ((((x.Q.L.map _).length:Nat):Int)==0)=_;cases x.Q.L with
 | nil=>rfl
 | cons a l=>simp;omega
section
variable{x:Hp}(hx:Oh x){t:g8}{ts:List g8}(hq:x.Q.L=t::ts){ps:List (List j2)}(hm:Mp ps)(hb:x.S.Serial<9000000000000000000)
include hx hq hm hb
theorem c0v:V9 x ps=some (dne ps x t ts,t,0):=by
 have M1:=b1G hm t.Prog;have pok:=c1v hx hq;have pser:=b76 hx hq;obtain⟨rok,_,_⟩:=b8v hx hq ps (by omega)
 have hrun:=(run_eq pok.rt pok.sl pok.zr (prg ps t.Prog) (by omega) (by rw[pser];omega)).1
 have hrun':a0p (pre x t ts) (prg ps t.Prog)=some (ran ps x t ts,(runs (pre x t ts) (prg ps t.Prog)).2):=hrun;have hz:=a0w rok.rt (r:=5) (by decide) (h:=0) (.inl rfl)
 have zS:=a4x rok.rt.sh.sr rok.sl 5 0;unfold V9;rw[b5Q,d4l];have e:tnx x.Q=(⟨ts,x.Q.Cap⟩,t,0):=by unfold tnx;rw[hq]
 rw[e];dsimp only;rw[if_neg (by simp)]
 simp only[jn];by_cases k:t.Kind=1
 ·have hk:(t.Kind==1)=true:=by simpa using k
  have hat:=(c02 hx.rt hq k).1;have ush:=b8W hx.rt hq;have hm1:=a44 hx.rt.sh.sr hat;have e1:a0J ⟨x.S,x.Roots,x.Cells,x.T,⟨ts,x.Q.Cap⟩⟩ 5 t.At=some (H0 (unq x ts) 5 t.At,0):=by
   have:=c6x (x:=unq x ts) ush hx.sl 5 hm1;rw[if_neg (by omega),if_pos (.inr hat)] at this
   exact this
  have e2:D0 (H0 (unq x ts) 5 t.At) t.At=some (b2M x ts t.At):=a2E (a15 (x:=unq x ts) hx.rt.sh.sr 5 t.At).sr hm1;have e3:=a6n (a5T hx.rt hq k) (c03 hx.rt hx.sl t.At);have e4:pre x t ts=a17 (b2M x ts t.At):=by unfold pre;rw[if_pos k]
  have e5:=c3e rok.rt rok.sl 5 (h:=0) (by decide)
  rw[if_neg (by omega),if_pos (.inl rfl)] at e5
  rw[if_pos hk,e1,d4l];dsimp only;rw[e2,d4l,e3,d4l,b77,d4l,←e4,hrun',d4l,if_pos hk];dsimp only;rw[e5,d4l];refine bnd (a6n hz zS) ?_;unfold dne;rw[if_pos k];rfl
 ·have hk:¬(t.Kind==1)=true:=by simpa using k
  have e4:pre x t ts=unq x ts:=by unfold pre;rw[if_neg k]
  rw[if_neg hk,b77,d4l,show (⟨x.S,x.Roots,x.Cells,x.T,⟨ts,x.Q.Cap⟩⟩:b7)=pre x t ts from e4.symm,hrun',d4l,if_neg hk];unfold dne;rw[if_neg k]
theorem c6L:a3g (hO x) (psR ps)=some (hO (dne ps x t ts),tkR t,0):=by
 have M1:=b1G hm t.Prog;have pok:=c1v hx hq;have pser:=b76 hx hq;obtain⟨rok,_,_⟩:=b8v hx hq ps (by omega)
 have hrun:=(run_eq pok.rt pok.sl pok.zr (prg ps t.Prog) (by omega) (by rw[pser];omega)).2
 have hrun':a5i (hO (pre x t ts)) ((prg ps t.Prog).map opR)=some (hO (ran ps x t ts),(runs (pre x t ts) (prg ps t.Prog)).2):=hrun;have hz:=a0w rok.rt (r:=5) (by decide) (h:=0) (.inl rfl)
 have zS:=a4x rok.rt.sh.sr rok.sl 5 0;unfold a3g;rw[show (hO x).Q=tqR x.Q from rfl,c6p,d4l];have e:tnx x.Q=(⟨ts,x.Q.Cap⟩,t,0):=by unfold tnx;rw[hq]
 rw[e];dsimp only;rw[if_neg (by simp)]
 simp only[jn];have hkk:(tkR t).Kind=t.Kind:=rfl;have hka:(tkR t).At=t.At:=rfl;have hkp:(tkR t).Prog=t.Prog:=rfl;rw[hkk,hka,hkp];by_cases k:t.Kind=1
 ·have hk:(t.Kind==1)=true:=by simpa using k
  have hat:=(c02 hx.rt hq k).1;have ush:=b8W hx.rt hq;have hm1:=a44 hx.rt.sh.sr hat;have e1:U5 (hO (unq x ts)) 5 t.At=some (hO (H0 (unq x ts) 5 t.At),0):=by
   have:=c8M (x:=unq x ts) ush hx.sl 5 hm1;rw[if_neg (by omega),if_pos (.inr hat)] at this
   exact this
  have e2:E4 (hO (H0 (unq x ts) 5 t.At)) t.At=some (hO (b2M x ts t.At)):=a31 (a15 (x:=unq x ts) hx.rt.sh.sr 5 t.At).sr hm1;have e3:=a8L (a5T hx.rt hq k) (c03 hx.rt hx.sl t.At);have e4:pre x t ts=a17 (b2M x ts t.At):=by unfold pre;rw[if_pos k]
  have e5:=c1P rok.rt rok.sl 5 (h:=0) (by decide)
  rw[if_neg (by omega),if_pos (.inl rfl)] at e5
  rw[if_pos hk,show (⟨(hO x).S,(hO x).Roots,(hO x).Cells,(hO x).T,tqR ⟨ts,x.Q.Cap⟩⟩:c7)=hO (unq x ts) from rfl,e1,d4l];dsimp only;rw[e2,d4l,e3,d4l,c22,d4l,←e4,hrun',d4l,if_pos hk];dsimp only;rw[e5,d4l];refine bnd (a8L hz zS) ?_;unfold dne;rw[if_pos k];rfl
 ·have hk:¬(t.Kind==1)=true:=by simpa using k
  have e4:pre x t ts=unq x ts:=by unfold pre;rw[if_neg k]
  rw[if_neg hk,c22,d4l,show (⟨(hO x).S,(hO x).Roots,(hO x).Cells,(hO x).T,tqR ⟨ts,x.Q.Cap⟩⟩:c7)=hO (pre x t ts) by rw[e4];rfl,hrun',d4l,if_neg hk]
  unfold dne;rw[if_neg k]
end
theorem c0p{x:Hp}(h:x.Q.L = [])(ps:List (List j2)):V9 x ps=some (x,⟨0,0,0⟩,10)∧a3g (hO x) (psR ps)=some (hO x,⟨0,0,0⟩,10):=by
 constructor
 ·unfold V9;rw[b5Q,d4l];unfold tnx;rw[h];rfl
 ·unfold a3g;rw[show (hO x).Q=tqR x.Q from rfl,c6p,d4l];unfold tnx;rw[h];rfl
section
variable{x:Hp}(hx:Oh x){ps:List (List j2)}(hm:Mp ps){f:Int}(hf:0≤f)(hf2:f≤1000000)(hb:x.S.Serial<8000000000000000000)
include hx hm hf hf2 hb
def dre(p:Hp × Int):Int:=if p.1.Q.L.isEmpty then 0 else 12
theorem drain_eq:V4 x ps f=some ((dr ps (x,f)).1,(dn ps (x,f):Int),(dr ps (x,f)).2,dre (dr ps (x,f))):=by
 obtain⟨a1,a2,a3⟩:=c2z ps (p:=(x,f)) hf;have all:=b7C ps (p:=(x,f)) hx hf (by show x.S.Serial+f<_;omega)
 unfold V4;simp only[jn];dsimp only at a1;refine a54 (λk=>((dN ps k (x,f)).2,(dN ps k (x,f)).1,(k:Int),(dN ps k (x,f)).2,(dN ps k (x,f)).1)) rfl (dn ps (x,f)) (λ_=>True) (by omega) trivial (λk hk _=>.inl ⟨?_,trivial⟩) (λ_=>⟨((dn ps (x,f):Int),(dr ps (x,f)).2,(dr ps (x,f)).1),?_,?_⟩)
 ·obtain⟨b1,b2,b3,b4⟩:=all k;obtain⟨t,ts,e,c⟩:=a3 k hk;dsimp only at b2 b3 b4;have hc:=b1a ps t;rw[b7H,e,d4l];show (a1C _).bind _=_;rw[b5Q,d4l];have e2:tnx (dN ps k (x,f)).1.Q=(⟨ts,(dN ps k (x,f)).1.Q.Cap⟩,t,0):=by unfold tnx;rw[e]
  rw[e2];dsimp only;rw[b7y hm,d4l,if_neg (by simp;omega),c0v b1 e hm (by omega),d4l,F7 (by omega) (by omega),k8,b32,b1F ps e,if_pos c]
 ·rw[b7H,d4l];cases e:(dN ps (dn ps (x,f)) (x,f)).1.Q.L with
  | nil=>rfl
  | cons t ts=>
   have hc:¬cst ps t≤(dN ps (dn ps (x,f)) (x,f)).2:=λq=>a2 ((b9j ps e).2 q);show (a1C _).bind _=_;rw[b5Q,d4l];have e2:tnx (dN ps (dn ps (x,f)) (x,f)).1.Q=(⟨ts,(dN ps (dn ps (x,f)) (x,f)).1.Q.Cap⟩,t,0):=by unfold tnx;rw[e]
   rw[e2];dsimp only;rw[b7y hm,d4l,if_pos (by simp;omega)]
   rfl
 ·dsimp only;rw[b7H,d4l];unfold dre;cases (dr ps (x,f)).1.Q.L.isEmpty <;> rfl
theorem c2C:a3Z (hO x) (psR ps) f=some (hO (dr ps (x,f)).1,(dn ps (x,f):Int),(dr ps (x,f)).2,dre (dr ps (x,f))):=by
 obtain⟨a1,a2,a3⟩:=c2z ps (p:=(x,f)) hf;have all:=b7C ps (p:=(x,f)) hx hf (by show x.S.Serial+f<_;omega)
 unfold a3Z;simp only[jn];dsimp only at a1;refine a54 (λk=>((dN ps k (x,f)).2,(k:Int),hO (dN ps k (x,f)).1)) rfl (dn ps (x,f)) (λ_=>True) (by omega) trivial (λk hk _=>.inl ⟨?_,trivial⟩) (λ_=>?_)
 ·obtain⟨b1,b2,b3,b4⟩:=all k;obtain⟨t,ts,e,c⟩:=a3 k hk;dsimp only at b2 b3 b4;have hc:=b1a ps t;rw[c2D,e,d4l];have e2:ix (hO (dN ps k (x,f)).1).Q.L 0=some (tkR t):=by
   show ix ((dN ps k (x,f)).1.Q.L.map tkR) 0=_;rw[e];rfl
  show (ix (hO (dN ps k (x,f)).1).Q.L 0).bind _=_;rw[e2,d4l,show a4s (psR ps) (tkR t)=_ from c0W hm t,d4l,if_neg (by simp;omega),c6L b1 e hm (by omega),d4l,F7 (by omega) (by omega),k8,b32,b1F ps e,if_pos c]
 ·cases e:(dN ps (dn ps (x,f)) (x,f)).1.Q.L with
  | nil=>
   refine⟨.inr ((dr ps (x,f)).2,(dn ps (x,f):Int),hO (dr ps (x,f)).1),?_,?_⟩
   ·rw[c2D,e];rfl
   ·unfold dre;have e':(dr ps (x,f)).1.Q.L = []:=e;rw[e'];rfl
  | cons t ts=>
   have hc:¬cst ps t≤(dN ps (dn ps (x,f)) (x,f)).2:=λq=>a2 ((b9j ps e).2 q);refine⟨.inl (hO (dr ps (x,f)).1,(dn ps (x,f):Int),(dr ps (x,f)).2,12),?_,?_⟩
   ·rw[c2D,e,d4l];have e2:ix (hO (dN ps (dn ps (x,f)) (x,f)).1).Q.L 0=some (tkR t):=by
     show ix ((dN ps (dn ps (x,f)) (x,f)).1.Q.L.map tkR) 0=_;rw[e];rfl
    show (ix (hO (dN ps (dn ps (x,f)) (x,f)).1).Q.L 0).bind _=_;rw[e2,d4l,show a4s (psR ps) (tkR t)=_ from c0W hm t,d4l,if_pos (by simp;omega)]
    rfl
   ·unfold dre;have e':(dr ps (x,f)).1.Q.L=t::ts:=e;rw[e'];rfl
end
end Go.Sh
namespace Go.Sh
theorem c95{x:Hp}(hB:HB x):∃b,a6s x=some b∧(b=true→S9 x∧x.S.Serial<1000000000∧zr x = []):=by
 obtain⟨b,h1,h2⟩:=c8U hB;unfold a6s;rw[h1,d4l];cases b;·exact⟨false,by simp[p7],λh=>by cases h⟩
 ·obtain⟨hx,hb⟩:=h2 rfl;rw[beq_self_eq_true,G9,b1m hx.sh,d4l,G9,c4q hx.sh.sr,d4l,Bool.true_and];exact⟨_,rfl,λh=>⟨hx,hb,of_decide_eq_true h⟩⟩
theorem b54{l:List (List j2)}(hl:l.length≤12)(hp:∀p∈l,p.length≤12):a34 l=some (psR l):=by
 unfold a34;simp only[jn];refine Z4 l.length (λk acc=>acc=(l.take k).map (List.map opR)) (by omega) (by simp) (λk acc hk hacc=>.inl ⟨_,?_,rfl⟩) (λacc hacc=>⟨_,if_neg (by simp),by rw[hacc,List.take_length]⟩)
 subst hacc;have hm:=hp _ (List.getElem_mem hk);dsimp only;rw[if_pos (by simpa using hk)]
 have e:=a4i (b:=32) opR l[k] (by omega) (by omega)
 simp only[opR] at e;simp only[o8 hk,d4l];rw[e,d4l,C6 (by omega) (by simp;omega),d4l,k8,List.take_succ_eq_append_getElem hk,List.map_append]
 rfl
theorem d2l{l:List (List j2)}(h:b0B l=true):Mp l∧l.length≤6:=by
 unfold b0B at h;rw[Bool.and_eq_true,decide_eq_true_iff,List.all_eq_true] at h;refine⟨λp hp=>?_,h.1⟩;have:=h.2 p hp;unfold b9T at this;rw[Bool.and_eq_true,decide_eq_true_iff] at this;exact this.1
theorem d2g(l:List (List j2)):∃b,a3Q l=some b∧(b=true→l.length≤10∧(∀p∈l,p.length≤10)∧b0B l=true):=by
 unfold a3Q;simp only[jn];have hlen:min l.length 10≤10:=Nat.min_le_right ..;refine b7D (Q:=λb=>b=true→l.length≤10∧(∀p∈l,p.length≤10)∧b0B l=true) (min l.length 10) (λk=>∀h:k<l.length,(l[k]).length≤10) (by omega) (λk hk=>?_) ?_ (λhP=>?_) (λhP=>?_)
 ·have hkl:k<l.length:=by omega
  have hk10:k<10:=by omega
  have c:((decide (((k:Nat):Int)<(l.length:Int)))&&(decide (((k:Nat):Int)<10)))=true:=by simp;omega
  by_cases q:(l[k]).length≤10
  ·refine⟨_,?_,.inl ⟨λ_=>q,rfl⟩⟩;rw[if_pos c,o8 hkl,d4l,if_neg (by simp;omega),k8]
  ·refine⟨_,?_,.inr ⟨λh=>q (h hkl),rfl⟩⟩;rw[if_pos c,o8 hkl,d4l,if_pos (by simp;omega)]
 ·rw[if_neg (by simp;omega)]
 ·by_cases h10:l.length≤10
  ·have hp:∀p∈l,p.length≤10:=λp hp=>by
    obtain⟨k,hk,rfl⟩:=List.getElem_of_mem hp;exact hP k (by omega) hk
   have hp12:∀p∈l,p.length≤12:=λp q=>by have:=hp p q;omega
   have c:decide ((l.length:Int)≤10)=true:=by simp;omega
   refine⟨b0B l,?_,λh=>⟨h10,hp,h⟩⟩;dsimp only;rw[c,beq_self_eq_true,G9,b54 (by omega) hp12,d4l,G9]
   refine bnd (c1w (l:=l) (by omega) hp12) ?_
   rfl
  ·have c:decide ((l.length:Int)≤10)=false:=by simp;omega
   refine⟨false,?_,λh=>by cases h⟩
   dsimp only;rw[c];rfl
 ·exact⟨false,rfl,λh=>by cases h⟩
theorem c2E(hsh:Q7=some true){x:Hp}{l:List (List j2)}{K:Option Bool}(g:Bool→Bool→Bool)(hg:∀b,g false b=true)(hg2:∀b,g b false=true)(hB:HB x)
  (h:Oh x→x.S.Serial<1000000000→l.length≤10→(∀p∈l,p.length≤10)→Mp l→g true true=false→K=some true) :
  ((a6s x).bind λv1=>(p7 ((!v1)==false) false (a3Q l)).bind λv2=>(p7 ((g v1 v2)==false) false Q7).bind λv3=>if ((g v1 v2)||(!v3)) then (Q7).bind λv4=>some v4 else K)=some true:=by
 obtain⟨b,h1,h2⟩:=c95 hB;obtain⟨c,h3,h4⟩:=d2g l;rw[h1,d4l,hsh];cases b
 ·rw[show p7 ((!false)==false) false (a3Q l)=some false from rfl,d4l,hg false];rfl
 ·rw[show p7 ((!true)==false) false (a3Q l)=a3Q l from rfl,h3,d4l];cases c
  ·rw[hg2 true];rfl
  ·obtain⟨a,b,d⟩:=h2 rfl;obtain⟨e1,e2,e3⟩:=h4 rfl;cases hgb:g true true
   ·simp only[beq_self_eq_true,G9,d4l,Bool.not_true,Bool.or_self,Bool.false_eq_true,if_false];exact h ⟨a,SB.sl a.sh.sr hB.sb,d⟩ b e1 e2 (d2l e3).1 hgb
   ·rfl
end Go.Sh
namespace Go.Sh
theorem c6M{x:Hp}(hx:Oh x){ps:List (List j2)}(hm:Mp ps)(hb:x.S.Serial<9000000000000000000):∃y u e,V9 x ps=some (y,u,e)∧a3g (hO x) (psR ps)=some (hO y,tkR u,e)∧Oh y ∧
  (x.Q.L = []∧y=x∧e=10∧u=⟨0,0,0⟩∨∃ts,x.Q.L=u::ts∧e=0∧y=dne ps x u ts):=by
 cases hq:x.Q.L with
 | nil=>
  obtain⟨a,b⟩:=c0p hq ps;exact⟨_,_,_,a,b,hx,.inl ⟨rfl,rfl,rfl,rfl⟩⟩
 | cons t ts=>
  have:=b1G hm t.Prog;exact⟨_,_,_,c0v hx hq hm hb,c6L hx hq hm hb,(c2B hx hq ps (by omega)).1,.inr ⟨ts,rfl,rfl,rfl⟩⟩
theorem d2K{n:Int}(h0:0≤n)(h1:n≤255):x6 n=n:=F7 (by omega) (by omega)
section
variable{x:Hp}{l:List (List j2)}(hsh:Q7=some true)(hB:HB x)
include hsh hB
theorem drainSteps{t:g8}:a4E x l t=some true:=by
 unfold a4E;refine c2E hsh (λa b=>(!a)||(!b)) (λ_=>rfl) (λb=>by simp) hB λhx hb h10 hp hm _=>?_
 have hp12:∀p∈l,p.length≤12:=λp q=>by have:=hp p q;omega
 obtain⟨y,u,e,s1,s2,hy,s3⟩:=c6M hx hm (by omega)
 rw[b54 (by omega) hp12,d4l,s1,d4l,b1m hx.rt.sh,d4l,s2,d4l]
 dsimp only;rw[c9o hy.rt.sh,d4l,beq_self_eq_true,G9,b1m hy.rt.sh,d4l,G9,c6D hy.rt.sh,d4l];simp only[tkR,beq_self_eq_true,Bool.and_self,G9];rw[b7y hm,d4l,c0W hm,d4l];simp only[beq_self_eq_true,Bool.and_self,G9];rw[b7H,d4l,c2D,d4l];simp only[beq_self_eq_true,Bool.and_self,G9];rw[b77,d4l,c22,d4l,List.length_map];simp
theorem drainDoes{f:Int}(h0:0≤f)(h1:f≤255):a5G x l f=some true:=by
 unfold a5G;refine c2E hsh (λa b=>(!a)||(!b)) (λ_=>rfl) (λb=>by simp) hB λhx hb h10 hp hm _=>?_
 have hp12:∀p∈l,p.length≤12:=λp q=>by have:=hp p q;omega
 have ok:=(c9i l hx h0 (by omega)).1.rt.sh
 rw[d2K h0 h1,drain_eq hx hm h0 (by omega) (by omega),d4l,b1m hx.rt.sh,d4l,b54 (by omega) hp12,d4l,c2C hx hm h0 (by omega) (by omega),d4l]
 dsimp only;rw[c9o ok,d4l,beq_self_eq_true,G9,b1m ok,d4l,G9,c6D ok,d4l];simp
end
end Go.Sh
namespace Go.Sh
section
variable{x:Hp}{l:List (List j2)}(hsh:Q7=some true)(hB:HB x)
include hsh hB
end
end Go.Sh
namespace Go.Sh
section
variable{x:Hp}(hx:S9 x)
include hx
end
section
variable{x:Hp}(hx:S9 x)
include hx
end
end Go.Sh
namespace Go.Sh
end Go.Sh
namespace Go.Sh
structure Rs (x:Hp) (n:Nat):Prop where
 rt:S9 x
 sl:SL x
 zr:zr x = []
 ser:x.S.Serial≤n
theorem c76{k p:Nat}{l:Int}(hk:1≤k∧k≤24)(hl:0≤l∧l≤9)(hp:1≤p∧p≤8) :
  a8h k l p=some (nwH k l p)∧S9 (nwH k l p)∧SL (nwH k l p)∧zr (nwH k l p) = []:=by
 have e1:a9A k l=some (nwH k l p).S:=by
  unfold a9A a1q;rw[if_neg (by simp;omega),b48 (by omega) (by omega)]
  rfl
 have h3:RtR (sO (nwH k l p).S):=by
  refine⟨by simp[sO,nwH];omega,hl.1,hl.2,by simp[sO,nwH],λi h=>?_,λi h=>?_,λi h q=>?_,λi h k hk q=>?_⟩
  ·simp[sO,cO,nwH];omega
  ·simp[sO,cO,oo,b0Q,nwH]
  ·exfalso;simp[sO,cO,oo,Thr,nwH] at q
  ·exfalso;simp[sO,cO,oo,Thr,nwH] at q
 have hR:SR (nwH k l p).S:=y4.1 h3;have hce:∀i,ce (nwH k l p).S i=⟨0,0,z0⟩:=λi=>by
  unfold ce nwH;dsimp only;rw[List.getD_eq_getElem?_getD,List.getElem?_replicate];split <;> rfl
 have hlv:lv (nwH k l p).S = []:=List.eq_nil_iff_forall_not_mem.2 λh hh=>by
  obtain⟨i,q⟩:=(a4j hR).1 hh;have:=q.2.1;rw[hce] at this;cases this
 refine⟨?_,⟨⟨hR,(d1u (V:=Int) (λ_ _=>True) hp.1 hp.2).1,rfl,rfl,rfl,Nat.zero_le _,(λt ht=>nomatch ht),List.Pairwise.nil,(λh hh=>.inl (List.mem_replicate.1 hh).2),λh hh=>?_,λa v hv=>?_,λi hi=>?_⟩,λi hi ht=>?_,λh hh=>?_⟩,λh hh=>?_,?_⟩
 ·unfold a8h;rw[if_neg (by simp;omega),e1,d4l,show mk 8 6 (0:Int)=some (List.replicate 6 0) from rfl,d4l]
  refine bnd (a:=List.replicate 6 ⟨0,false,-1⟩) (by kernel_rfl) ?_
  rw[d0E hp.1 hp.2,d4l];refine bnd (a:=⟨[],30⟩) (by kernel_rfl) ?_
  rfl
 ·rw[hlv] at hh;cases hh
 ·obtain⟨i,hi,_⟩:=hv;have:=hi.2.1;rw[show (nwH k l p).T=List.replicate p ⟨0,0,0⟩ from rfl,b5k] at this;cases this
 ·have:(nwH k l p).Cells[i]=⟨0,false,-1⟩:=List.getElem_replicate ..;rw[this];exact⟨by decide,by decide,λ_=>rfl,λh=>absurd rfl h,λh=>by cases h⟩
 ·rw[hce] at ht;rcases ht with h | h <;> cases h
 ·rw[hlv] at hh;cases hh
 ·rw[hlv] at hh;cases hh
 ·unfold zr;rw[hlv];rfl
theorem d1e{k p:Nat}{l:Int}(hk:1≤k∧k≤24)(hl:0≤l∧l≤9)(hp:1≤p∧p≤8):a8h k l p=some (nwH k l p)∧Rs (nwH k l p) 0:=by
 obtain⟨a,b,c,d⟩:=c76 hk hl hp;exact⟨a,b,c,d,Int.le_refl _⟩
theorem d1f{x:Hp}{n:Nat}(hx:Rs x n)(hn:n≤100000){l:List j2}(hl:l.length≤1000){r:c7 × List Int}(h:a5i (hO x) (l.map opR)=some r):a0p x l=some (hOI r.1,r.2)∧Rs (hOI r.1) (n+l.length):=by
 have hs:=hx.ser;obtain⟨r1,r2⟩:=run_eq hx.rt hx.sl hx.zr l hl (by omega)
 obtain⟨a1,a2,a3,a4,_,_⟩:=b5G hx.rt hx.sl hx.zr l (by omega) (λ_=>True) trivial (λ_ _ _ _ _ _=>trivial) l.length (Nat.le_refl _)
 rw[List.take_length] at a1 a2 a3 a4;rw[r2] at h;have e:=Option.some.inj h;rw[←e,c1d,r1];exact⟨rfl,a1,a2,a3,by omega⟩
end Go.Sh
namespace Go.Sh
theorem Rs.oh{x:Hp}{n:Nat}(h:Rs x n):Oh x:=⟨h.rt,h.sl,h.zr⟩
theorem b5D{x:Hp}{n:Nat}(hx:Rs x n)(hn:n≤100000){ps:List (List j2)}(hm:Mp ps){f:Nat}(hf:f≤1000){r:c7 × Int × Int × Int}(h:a3Z (hO x) (psR ps) f=some r):V4 x ps f=some (hOI r.1,r.2)∧Rs (hOI r.1) (n+f):=by
 have hs:=hx.ser;have e:=c2C hx.oh hm (f:=f) (by omega) (by omega) (by omega)
 rw[h] at e;have e:=Option.some.inj e;obtain⟨a,b,c,d⟩:=c9i ps hx.oh (f:=f) (by omega) (by omega)
 rw[e,c1d,drain_eq hx.oh hm (by omega) (by omega) (by omega)]
 exact⟨rfl,a.rt,a.sl,a.zr,by show (dr ps (x,(f:Int))).1.S.Serial≤_;omega⟩
theorem d2D{x:Hp}{n:Nat}(hx:Rs x n)(hn:n≤100000){o:j2}{r:c7 × Int × Int}(h:C7 (hO x) (opR o)=some r):w9 x o=some (hOI r.1,r.2)∧Rs (hOI r.1) (n+1):=by
 have hs:=hx.ser;obtain⟨y,v,e,d⟩:=c2T hx.rt hx.sl hx.zr (by omega) o
 have q:=d.rf;rw[h] at q;have q:=Option.some.inj q;have:=d.ev.s2;rw[q,c1d,d.mc];exact⟨rfl,d.rt,d.sl,d.zr,by show y.S.Serial≤_;omega⟩
def p20:List (List j2):=[[(⟨2,2,5,0⟩:j2)],[]]
def l20:List j2:=[(⟨1,0,0,0⟩:j2),(⟨6,0,0,1⟩:j2),(⟨3,0,0,0⟩:j2)]
def e20:c7:=((a5i (hO (nwH 3 5 8)) (l20.map opR)).getD (hO c77,[])).1
def d20(x:c7)(f:Nat):c7 × Int × Int × Int:=(a3Z (hO (hOI x)) (psR p20) f).getD (hO c77,0,0,0)
def o20(x:c7)(o:j2):c7 × Int × Int:=(C7 (hO (hOI x)) (opR o)).getD (hO c77,0,0)
theorem d0D:Mp p20:=(by decide:∀p∈p20,p.length≤6)
theorem shown20:Q7=some true:=by
 obtain⟨a1,a2⟩:=d1e (k:=3) (p:=8) (l:=5) (by decide) (by decide) (by decide)
 obtain⟨b1,b2⟩:=d1f a2 (by decide) (l:=l20) (by decide) (r:=(a5i (hO (nwH 3 5 8)) (l20.map opR)).getD (hO c77,[])) (by kernel_rfl)
 have b2:Rs (hOI e20) 3:=b2;obtain⟨c1,c2⟩:=b5D b2 (by decide) d0D (f:=1) (by decide) (r:=d20 e20 1) (by kernel_rfl)
 obtain⟨d1,d2⟩:=b5D b2 (by decide) d0D (f:=5) (by decide) (r:=d20 e20 5) (by kernel_rfl)
 obtain⟨f1,f2⟩:=d2D d2 (by decide) (o:=⟨3,2,0,0⟩) (r:=o20 (d20 e20 5).1 ⟨3,2,0,0⟩) (by kernel_rfl)
 obtain⟨g1,g2⟩:=b5D f2 (by decide) d0D (f:=5) (by decide) (r:=d20 (o20 (d20 e20 5).1 ⟨3,2,0,0⟩).1 5) (by kernel_rfl)
 have hq:(hOI (d20 e20 5).1).Q.L = []:=by kernel_rfl
 unfold Q7;refine bnd a1 ?_;refine bnd b1 ?_;refine bnd c1 ?_;refine bnd d1 ?_;refine bnd f1 ?_;refine bnd g1 ?_;refine bnd (c0p hq p20).1 ?_;rw[b3P g2.rt (d1W g2.rt g2.sl)];kernel_rfl
end Go.Sh
