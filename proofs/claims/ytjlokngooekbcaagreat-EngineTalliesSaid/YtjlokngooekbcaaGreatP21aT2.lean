/-
 More of the theory.
-/
import Derived.Test.YtjlokngooekbcaaGreatP21aT
set_option linter.unusedVariables false
set_option linter.unusedSimpArgs false
set_option linter.unusedSectionVars false
namespace Go.Sh
instance(s:a7)(h:Int)(i:Nat):Decidable (V4 s h i):=by unfold V4;infer_instance
abbrev wkg(o:m8)(n:Int):m8:=⟨o.Serial,o.Strong,n,o.Prog,o.Started,o.Fields⟩
def mkA(s:a7)(i:Nat)(d:Int):a7:=a10 s i (wkg (ce s i).Val ((ce s i).Val.Weak+d))
def gvA(s:a7)(i:Nat):a7:=G9 s i (if (ce s i).Gen=s.S.Last then ⟨3,(ce s i).Gen,z0⟩ else ⟨0,(ce s i).Gen+1,z0⟩)
def hdl(s:a7)(i:Nat):Int:=1+(i:Int)+32*(ce s i).Gen
theorem c2A{s:a7}{i:Nat}(hi:i<s.S.a8.length)(ht:Th (ce s i)):V4 s (hdl s i) i:=⟨hi,ht,rfl⟩
theorem b3F{s:a7}(hR:SR s){i:Nat}(hi:i<s.S.a8.length):1≤hdl s i:=by
 have:=hR.cell i hi;unfold hdl;omega
section
variable{s:a7}(hR:SR s){i:Nat}(hi:i<s.S.a8.length)(ht:Th (ce s i))
include hR hi ht
theorem b4N{d:Int}(hd:0≤(ce s i).Val.Weak+d):SR (mkA s i d):=by
 have:=hR.ok i hi ht;exact hR.put hi ht rfl ⟨this.s1,this.s2,this.st,hd,this.p1,this.p2,this.fl⟩
theorem a3t(d:Int)(j:Nat):ce (mkA s i d) j=if j=i then ⟨(ce s i).State,(ce s i).Gen,wkg (ce s i).Val ((ce s i).Val.Weak+d)⟩ else ce s j:=a6s hi _ j
theorem a6K{d:Int}(hd:0≤(ce s i).Val.Weak+d):Kn s (mkA s i d):=by
 have hS:=b4N hR hi ht hd;refine⟨hS,M5 ..,c6n hR hi rfl hS,λk j=>b3B hi _,λk hk=>?_⟩;have q:=A1 hR hk;rw[O3 hS ((b4h hi _).2 q),O3 hR q,a3t hR hi ht];split
 ·rename_i e;rw[e];exact⟨_,_,rfl⟩
 ·exact⟨_,_,rfl⟩
theorem a6L{d:Int}(hd:0≤(ce s i).Val.Weak+d){k:Int}(hk:k∈lv s):(ob (mkA s i d) k).Strong=(ob s k).Strong:=by
 have hS:=b4N hR hi ht hd;have q:=A1 hR hk;rw[O3 hS ((b4h hi _).2 q),O3 hR q,a3t hR hi ht];split
 ·rename_i e;rw[e]
 ·rfl
omit ht in
theorem b7E:SR (gvA s i):=by
 have hc:=hR.cell i hi;have no:b5J (oo z0):=⟨rfl,rfl,rfl,rfl,rfl,rfl⟩;unfold gvA;split;·exact hR.G9 hi ⟨by simp,by simp,hc.2.2.1,hc.2.2.2⟩ (λ_=>no) (λq=>absurd q (by unfold Th;simp))
 ·refine hR.G9 hi ⟨by simp,by simp,?_,?_⟩ (λ_=>no) (λq=>absurd q (by unfold Th;simp))
  ·show 0≤(ce s i).Gen+1;omega
  ·show (ce s i).Gen+1≤s.S.Last;omega
omit hR ht in
theorem b7B:∃c,(c.State=0∨c.State=3)∧gvA s i=G9 s i c∧∀j,ce (gvA s i) j=if j=i then c else ce s j:=by
 unfold gvA;split;·exact⟨_,.inr rfl,rfl,λj=>K6 hi _ j⟩
 ·exact⟨_,.inl rfl,rfl,λj=>K6 hi _ j⟩
omit ht in
theorem b7C (h2:(ce s i).State=2):lv (gvA s i)=lv s:=by
 obtain⟨c,c1,c2,_⟩:=b7B (s:=s) hi;have hS:=b7E hR hi;rw[c2] at hS ⊢;rw[c22 hR hi (by omega) hS,List.filter_eq_self]
 intro h hh;rw[decide_eq_true_iff];intro e;have:=(A1 hR hh).2.1;rw[e] at this;omega
omit ht in
theorem b7D (h2:(ce s i).State=2) {k:Int} (hk:k∈lv s):ob (gvA s i) k=ob s k:=by
 obtain⟨c,c1,c2,_⟩:=b7B (s:=s) hi;have hS:=b7E hR hi;rw[c2] at hS ⊢;refine c29 hR hi hS hk λe=>?_;have:=(A1 hR hk).2.1;rw[e] at this;omega
omit ht in
theorem d1O {k:Int} {j:Nat}:V4 (gvA s i) k j↔V4 s k j∧j≠i:=by
 obtain⟨c,c1,c2,c3⟩:=b7B (s:=s) hi;by_cases e:j=i
 ·subst e;constructor
  ·rintro⟨_,h,_⟩;rw[c3,if_pos rfl] at h;unfold Th at h;omega
  ·rintro⟨_,h⟩;exact absurd rfl h
 ·rw[c2,c5l hi c e];simp[e]
theorem c84(h2:(ce s i).State=2)(y:Int):inn (gvA s i) y=inn s y:=by
 unfold inn;rw[b7C hR hi h2];congr 1;refine List.map_congr_left λx hx=>?_;unfold outs;rw[b7D hR hi h2 hx]
end
def mkd(x:Hp)(h:Int)(d:Int):Hp:=if V4 x.S h (D5 h) then wS x (mkA x.S (D5 h) d) else x
def a8C(x:Hp)(h:Int):Hp:=
 if V4 x.S h (D5 h) then
  (if (ce x.S (D5 h)).State=2∧(ce x.S (D5 h)).Val.Weak=1 then wS x (gvA (mkA x.S (D5 h) (-1)) (D5 h)) else wS x (mkA x.S (D5 h) (-1)))
 else x
abbrev wcl(h call:Int):g5:=⟨h,h != 0,call⟩
def tgt(x:Hp)(w:Nat):Int:=(x.a8.getD w ⟨0,false,0⟩).Target
def a2m(x:Hp)(w:Nat)(h call:Int):Hp:=a8C (mkd (wC x (x.a8.set w (wcl h call))) h 1) (tgt x w)
theorem c9q{l:List g5}{w:Nat}(hw:w<l.length)(c:g5){k:Int}(hk:k≠0):nmg (l.set w c) k+(if l[w].Target=k then 1 else 0)=nmg l k+if c.Target=k then 1 else 0:=by
 unfold nmg;rw[List.countP_set hw];have e:∀d:g5,(((k != 0)&&(d.Target==k))=true)=(d.Target=k):=λd=>by simp[hk]
 simp only[e];have:(if l[w].Target=k then 1 else 0)≤l.countP λc=>(k != 0)&&(c.Target==k):=by
  split
  ·rename_i q;exact List.countP_pos_iff.2 ⟨l[w],List.getElem_mem hw,by simp[q,hk]⟩
  ·exact Nat.zero_le _
 omega
theorem b1h{l:List g5}{i:Nat}(hi:i<l.length)(h0:l[i].Target≠0):0<nmg l l[i].Target:=List.countP_pos_iff.2 ⟨l[i],List.getElem_mem hi,by simp[h0]⟩
theorem c0C{x:Hp}(hx:M2 x){w:Nat}(hw:w<6){h call:Int}(hh:h=0∨h∈lv x.S)(hc : -1≤call∧call≤5)(hq:wts x.Q w=false):M2 (a2m x w h call):=by
 have hR:=hx.sh.sr;have hwl:w<x.a8.length:=by rw[hx.sh.c6];exact hw
 have htg:tgt x w=x.a8[w].Target:=by
  unfold tgt;rw[List.getD_eq_getElem?_getD,List.getElem?_eq_getElem hwl];rfl
 have s1:HpS (wC x (x.a8.set w (wcl h call))):=by
  have:=hx.sh;refine⟨this.sr,this.hr,this.r6,by simpa using this.c6,this.cap,this.q30,this.tk,this.td,this.rt,this.fl,this.pr,λi hi=>?_⟩
  dsimp only at hi ⊢;rw[List.getElem_set];rw[List.length_set] at hi;split
  ·rename_i e;subst e;dsimp only;refine⟨hc.1,hc.2,λq=>by simp[q],λq=>?_,λq=>?_⟩
   ·exact⟨_,(A1 hR (hh.resolve_left q)).d⟩
   ·have q:h≠0:=by simpa using q
    exact⟨hh.resolve_left q,hq⟩
  ·exact this.cl i hi
 have k2:∃s2,mkd (wC x (x.a8.set w (wcl h call))) h 1=wS (wC x (x.a8.set w (wcl h call))) s2∧Kn x.S s2∧(∀k∈lv x.S,(ob s2 k).Strong=(ob x.S k).Strong) ∧
   ∀i,i<x.S.S.a8.length→(ce s2 i).State=(ce x.S i).State∧(ce s2 i).Gen=(ce x.S i).Gen∧(ce s2 i).Val.Fields=(ce x.S i).Val.Fields∧(ce s2 i).Val.Strong=(ce x.S i).Val.Strong∧(Th (ce x.S i)→(ce s2 i).Val.Weak=(ce x.S i).Val.Weak+if h=hdl x.S i then 1 else 0):=by
  unfold mkd;rcases hh with h0 | hh
  ·have hno:¬V4 x.S h (D5 h):=λq=>by have:=q.rng hR;omega
   rw[if_neg hno];refine⟨x.S,rfl,(Kin.refl hR).kn hR,λ_ _=>rfl,λi hi=>⟨rfl,rfl,rfl,rfl,λht=>?_⟩⟩;have:=b3F hR hi;rw[if_neg (by omega)]
   omega
  ·have hp:=A1 hR hh;have hwk:=(hR.ok _ hp.1 (.inl hp.2.1)).wk;rw[if_pos hp.d];refine⟨_,rfl,a6K hR hp.1 (.inl hp.2.1) (by omega),λk hk=>a6L hR hp.1 (.inl hp.2.1) (by omega) hk,λi hi=>?_⟩
   rw[a3t hR hp.1 (.inl hp.2.1)];split
   ·rename_i e;subst e;refine⟨rfl,rfl,rfl,rfl,λ_=>?_⟩;rw[if_pos (show h=hdl x.S (D5 h) from hp.2.2)]
   ·rename_i e;refine⟨rfl,rfl,rfl,rfl,λht=>?_⟩;rw[if_neg];·omega
    ·intro q;exact e (V4.one hR (q▸c2A hi ht) hp.d)
 obtain⟨s2,e2,kn2,st2,ce2⟩:=k2;have hR2:=kn2.sr;have len2:=kn2.len;have hS2:HpS (wS (wC x (x.a8.set w (wcl h call))) s2):=s1.kn kn2;have hdl2:∀i,i<x.S.S.a8.length→hdl s2 i=hdl x.S i:=λi hi=>by unfold hdl;rw[(ce2 i hi).2.1]
 have th2:∀i,i<x.S.S.a8.length→(Th (ce s2 i)↔Th (ce x.S i)):=λi hi=>by unfold Th;rw[(ce2 i hi).1]
 have wk2:∀i,i<x.S.S.a8.length→Th (ce x.S i)→(ce s2 i).Val.Weak=(nmg (x.a8.set w (wcl h call)) (hdl x.S i):Int)+if tgt x w=hdl x.S i then 1 else 0:=λi hi ht=>by
  have h0:hdl x.S i≠0:=by have:=b3F hR hi;omega
  have:=c9q hwl (wcl h call) h0;rw[(ce2 i hi).2.2.2.2 ht,(hx.wk i hi ht).1,htg];dsimp only at this;unfold hdl at this ⊢;by_cases a:h=1+(i:Int)+32*(ce x.S i).Gen <;> by_cases b:x.a8[w].Target=1+(i:Int)+32*(ce x.S i).Gen
  ·rw[if_pos a,if_pos b] at *;omega
  ·rw[if_pos a,if_neg b] at *;omega
  ·rw[if_neg a,if_pos b] at *;omega
  ·rw[if_neg a,if_neg b] at *;omega
 have dd2:∀i,i<x.S.S.a8.length→(ce s2 i).State=2→(ce s2 i).Val.Fields = []∧(ce s2 i).Val.Strong=0:=λi hi q=>by
  obtain⟨a,_,b,c,_⟩:=ce2 i hi;rw[a] at q;rw[b,c];exact ((hx.wk i hi (.inr q)).2 q).2
 have nms2:∀k,nms (wS (wC x (x.a8.set w (wcl h call))) s2) k=nms x k:=λk=>by
  unfold nms otr;dsimp only;rw[kn2.inn]
 have fair2:a1l (wS (wC x (x.a8.set w (wcl h call))) s2) []:=hx.fair.mv kn2.lv st2 λk _=>by rw[nms2]
 unfold a2m;rw[e2];unfold a8C;dsimp only;by_cases hold:tgt x w=0
 ·have hno:¬V4 s2 (tgt x w) (D5 (tgt x w)):=λq=>by have:=q.rng hR2;omega
  rw[if_neg hno];refine⟨hS2,λi hi ht=>?_,fair2⟩;dsimp only at hi ht ⊢;rw[len2] at hi;have ht':=(th2 i hi).1 ht;have h0:=b3F hR hi;have hw2:=wk2 i hi ht';rw[if_neg (by omega)] at hw2
  rw[show (1+(i:Int)+32*(ce s2 i).Gen)=hdl x.S i from hdl2 i hi];refine⟨by omega,λq=>⟨?_,dd2 i hi q⟩⟩
  have q':(ce x.S i).State=2:=by rw[←(ce2 i hi).1];exact q
  have:=((hx.wk i hi ht').2 q').1;rw[(ce2 i hi).2.2.2.2 ht'];split <;> omega
 ·obtain⟨p,hp⟩:∃p,V4 x.S (tgt x w) p:=by
   rw[htg] at hold ⊢;exact (hx.sh.cl w hwl).2.2.2.1 hold
  have hpp:=hp.D5 hR;have hp2:V4 s2 (tgt x w) p:=(kn2.ad _ _).2 hp;have hth:tgt x w=hdl x.S p:=hp.2.2;rw[hpp,if_pos hp2];have hpl2:=hp2.1;have hw2:=wk2 p hp.1 hp.2.1;rw[if_pos hth] at hw2;have hd:0≤(ce s2 p).Val.Weak+(-1):=by omega
  have kn3:=a6K hR2 hpl2 hp2.2.1 hd;have hR3:=kn3.sr;have ce3:=a3t hR2 hpl2 hp2.2.1 (-1);have hS3:HpS (wS (wC x (x.a8.set w (wcl h call))) (mkA s2 p (-1))):=hS2.kn kn3;have fair3:a1l (wS (wC x (x.a8.set w (wcl h call))) (mkA s2 p (-1))) []:=fair2.mv kn3.lv (λk hk=>a6L hR2 hpl2 hp2.2.1 hd hk) λk _=>by
   unfold nms otr;dsimp only;rw[kn3.inn]
  have wk3:∀i,i<x.S.S.a8.length→Th (ce x.S i)→(ce (mkA s2 p (-1)) i).Val.Weak=(nmg (x.a8.set w (wcl h call)) (hdl x.S i):Int):=λi hi ht=>by
   rw[ce3];by_cases e:i=p
   ·subst e;rw[if_pos rfl];dsimp only;omega
   ·rw[if_neg e,wk2 i hi ht,if_neg];·omega
    ·intro q;exact e (V4.one hR (q▸c2A hi ht) hp)
  have cs3:∀i,(ce (mkA s2 p (-1)) i).State=(ce s2 i).State∧(ce (mkA s2 p (-1)) i).Gen=(ce s2 i).Gen∧(ce (mkA s2 p (-1)) i).Val.Fields=(ce s2 i).Val.Fields∧(ce (mkA s2 p (-1)) i).Val.Strong=(ce s2 i).Val.Strong:=λi=>by
   rw[ce3];split
   ·rename_i e;subst e;exact⟨rfl,rfl,rfl,rfl⟩
   ·exact⟨rfl,rfl,rfl,rfl⟩
  by_cases hg:(ce s2 p).State=2∧(ce s2 p).Val.Weak=1
  ·-- the slot is given back
   rw[if_pos hg];have hpl3:p<(mkA s2 p (-1)).S.a8.length:=by rw[kn3.len];exact hpl2
   have h23:(ce (mkA s2 p (-1)) p).State=2:=by rw[(cs3 p).1];exact hg.1
   have hn0:nmg (x.a8.set w (wcl h call)) (tgt x w)=0:=by rw[hth];omega
   have hlv:=b7C hR3 hpl3 h23;have hob:=λk hk=>b7D (k:=k) hR3 hpl3 h23 hk;obtain⟨c,c1,c2,c3⟩:=b7B (s:=mkA s2 p (-1)) hpl3;refine⟨⟨b7E hR3 hpl3,hS3.hr,hS3.r6,hS3.c6,hS3.cap,hS3.q30,λt htt=>?_,hS3.td,λv hv=>?_,λv hv u hu=>?_,λk v hkv=>?_,λi hi=>?_⟩,λi hi ht=>?_,?_⟩
   ·obtain⟨a,b,d⟩:=hS3.tk t htt;refine⟨a,b,?_⟩;dsimp only at d ⊢;rw[hlv];rcases d with ⟨d1,d2,d3⟩ | d;·exact .inl ⟨d1,d2,by rw[hob _ d2];exact d3⟩
    ·exact .inr d
   ·dsimp only;rw[hlv];exact hS3.rt v hv
   ·dsimp only at hv hu ⊢;rw[hlv] at hv ⊢;rw[hob _ hv] at hu;exact hS3.fl v hv u hu
   ·dsimp only;rw[hlv];exact hS3.pr k v hkv
   ·obtain⟨a1,a2,a3,a4,a5⟩:=hS3.cl i hi;refine⟨a1,a2,a3,λq=>?_,λq=>?_⟩
    ·obtain⟨j,hj⟩:=a4 q;refine⟨j,(d1O hR3 hpl3).2 ⟨hj,λe=>?_⟩⟩;subst e;have e1:=(kn2.ad _ _).1 ((kn3.ad _ _).1 hj);have e2:(x.a8.set w (wcl h call))[i].Target=tgt x w:=e1.2.2.trans hp.2.2.symm;have:=b1h hi q;dsimp only at this;rw[e2] at this;omega
    ·dsimp only;rw[hlv];exact a5 q
   ·dsimp only at hi ht ⊢;rw[show (gvA (mkA s2 p (-1)) p).S.a8.length=x.S.S.a8.length by rw[c2,X4,kn3.len,len2]] at hi
    rw[c3] at ht ⊢;split at ht;·unfold Th at ht;omega
    ·rename_i e;rw[if_neg e];have ht':Th (ce x.S i):=(th2 i hi).1 (by unfold Th at ht ⊢;rw[(cs3 i).1] at ht;exact ht)
     have:=wk3 i hi ht';rw[show (1+(i:Int)+32*(ce (mkA s2 p (-1)) i).Gen)=hdl x.S i by rw[(cs3 i).2.1];exact hdl2 i hi]
     refine⟨this,λq=>?_⟩;rw[(cs3 i).1] at q;rw[(cs3 i).2.2.1,(cs3 i).2.2.2,ce3,if_neg e];refine⟨?_,dd2 i hi q⟩;have q':(ce x.S i).State=2:=by rw[←(ce2 i hi).1];exact q
     have:=((hx.wk i hi ht').2 q').1;rw[(ce2 i hi).2.2.2.2 ht'];split <;> omega
   ·refine fair3.mv hlv (λk hk=>by rw[hob k hk]) λk _=>?_
    unfold nms otr;dsimp only;rw[c84 hR3 hpl3 (.inr h23) h23]
  ·rw[if_neg hg];refine⟨hS3,λi hi ht=>?_,fair3⟩;dsimp only at hi ht ⊢;rw[kn3.len,len2] at hi;have ht':Th (ce x.S i):=(th2 i hi).1 (by unfold Th at ht ⊢;rw[(cs3 i).1] at ht;exact ht)
   have:=wk3 i hi ht';rw[show (1+(i:Int)+32*(ce (mkA s2 p (-1)) i).Gen)=hdl x.S i by rw[(cs3 i).2.1];exact hdl2 i hi]
   refine⟨this,λq=>?_⟩;rw[(cs3 i).1] at q;rw[(cs3 i).2.2.1,(cs3 i).2.2.2];refine⟨?_,dd2 i hi q⟩;rw[ce3];split
   ·rename_i e;subst e;dsimp only;have:(ce s2 i).Val.Weak≠1:=λq2=>hg ⟨q,q2⟩;omega
   ·have q':(ce x.S i).State=2:=by rw[←(ce2 i hi).1];exact q
    have:=((hx.wk i hi ht').2 q').1;rw[(ce2 i hi).2.2.2.2 ht'];split <;> omega
end Go.Sh
namespace Go.Sh
def wcR(c:g5):u9:=⟨c.Target,c.Intact,c.Call⟩
def hO(x:Hp):g8:=⟨sO x.S,x.Roots,x.a8.map wcR,x.T.map J3,tqR x.Q⟩
structure HB (x:Hp):Prop where
 sb:SB x.S
 fb:FB x.S
 rb:LB x.Roots
 cb:∀c∈x.a8,c.Target≤9223372036854775807
 tb:TB x.T
 qb:∀t∈x.Q.L,t.At≤9223372036854775807
theorem c6l{β:Type}{b:Nat}{f:Int × List β→Option ((Int × List β) ⊕ List β)}(n:Nat)(g:Nat→β)(hb:0<b)(h:n*b≤140737488355328)
  (hs:∀(k:Nat) acc,k<n→f ((k:Int),acc)=(app b acc [g k]).bind λv=>some (.inl (u5 ((k:Int)+1),v)))(he:∀acc,f ((n:Int),acc)=some (.inr acc)):lp f (0,[])=some ((List.range n).map g):=by
 have hl:n*1≤n*b:=Nat.mul_le_mul_left _ hb;refine a3R (a2w n (λk l=>l=(List.range k).map g) (λe=>e=(List.range n).map g) (by omega) (by simp) ?_ ?_)
 ·rintro k l hk rfl;have h3:(k+1)*b≤n*b:=Nat.mul_le_mul_right _ hk;refine .inl ⟨(List.range (k+1)).map g,?_,rfl⟩;rw[hs k _ hk,A2 hb (by simp;omega),d6y,l5,List.range_succ,List.map_append]
  rfl
 ·rintro l rfl;exact⟨_,he _,rfl⟩
theorem b5P{R:Type}{f:Int→Option (Int ⊕ (Bool ⊕ Unit))}{κ:Bool ⊕ Unit→Option R}{Q:R→Prop}(n:Nat)(p:Nat→Prop)(hn:n<4611686018427387904)
  (hs:∀k:Nat,k<n→∃z,f (k:Int)=some z∧((p k∧z = .inl ((k+1:Nat):Int))∨(¬p k∧z = .inr (.inl false))))(he:f (n:Int)=some (.inr (.inr ())))
  (h1:(∀k,k<n→p k)→∃r,κ (.inr ())=some r∧Q r)(h0:(¬∀k,k<n→p k)→∃r,κ (.inl false)=some r∧Q r):∃r,(lp f 0).bind κ=some r∧Q r:=by
 obtain⟨e,e1,e2⟩:=b6G (f:=f) n (λk=>∀j,j<k→p j) (λe=>(e = .inr ()∧∀k,k<n→p k)∨(e = .inl false∧¬∀k,k<n→p k)) hn (λj hj=>by omega) (λk hk hP=>by
  obtain⟨z,z1,z2⟩:=hs k hk;rcases z2 with ⟨a,rfl⟩ | ⟨a,rfl⟩
  ·refine .inl ⟨z1,λj hj=>?_⟩;rcases Nat.lt_or_ge j k with q | q
   ·exact hP j q
   ·have:j=k:=by omega
    subst this;exact a
  ·exact .inr ⟨_,z1,.inr ⟨rfl,λq=>a (q k hk)⟩⟩) (λhP=>⟨_,he,.inl ⟨rfl,hP⟩⟩)
 rw[e1];rcases e2 with ⟨rfl,h⟩ | ⟨rfl,h⟩;·exact h1 h
 ·exact h0 h
theorem c7p{s:a7}(hR:SR s){h:Int}(hh:h∈lv s):seO s h (ob s h)=s:=by
 have q:=A1 hR hh;unfold seO a10;rw[O3 hR q];have e:s.S.a8.set (D5 h) ⟨(ce s (D5 h)).State,(ce s (D5 h)).Gen,(ce s (D5 h)).Val⟩=s.S.a8:=by
  rw[show (⟨(ce s (D5 h)).State,(ce s (D5 h)).Gen,(ce s (D5 h)).Val⟩:b8)=ce s (D5 h) from rfl,E5 q.1];exact List.set_getElem_self q.1
 rw[e]
section
variable{x:Hp}(hR:SR x.S)
include hR
theorem c6g{h:Int}(hh:h≤9223372036854775807):a4Z x h=some (decide (h∈lv x.S)):=by
 unfold a4Z;obtain⟨e,h1,h2⟩:=Q1 (s7.2 hR) hh;rw[h1,d6y];congr 1;rw[Bool.eq_iff_iff,beq_iff_eq,decide_eq_true_iff,h2]
theorem a6H{h:Int}(hh:h≤9223372036854775807):X9 (hO x) h=some (decide (h∈lv x.S)):=by
 unfold X9;obtain⟨e,h1,h2⟩:=Q1 (s7.2 hR) hh;rw[show (hO x).S=sO x.S from rfl,a4h x.S (by have:=hR.len;omega) hh,h1,Option.map_some,d6y]
 congr 1;rw[Bool.eq_iff_iff,beq_iff_eq,decide_eq_true_iff,h2]
theorem a2x{h:Int}(hh:h≤9223372036854775807):K8 x h=some (decide (h=0∨h∈lv x.S)):=by
 unfold K8;by_cases q:h=0
 ·subst q;simp[u4]
 ·have e:(h==0)=false:=by simpa using q
  rw[e];simp only[beq_self_eq_true,U7,Bool.false_or];rw[c6g hR hh,d6y];simp[q]
theorem a6J{h:Int}(hh:h≤9223372036854775807):Y0 (hO x) h=some (decide (h=0∨h∈lv x.S)):=by
 unfold Y0;by_cases q:h=0
 ·subst q;simp[u4]
 ·have e:(h==0)=false:=by simpa using q
  rw[e];simp only[beq_self_eq_true,U7,Bool.false_or];rw[a6H hR hh,d6y];simp[q]
theorem d1Z{c:Int}(hc:c≤9223372036854775807):a8K c=some (U4 c):=by
 unfold a8K a38 G0 U4;simp only[d6y];by_cases q:12≤c
 ·rw[if_pos (by simpa using q),if_pos q,d6y]
 ·rw[if_neg (by simpa using q),if_neg q,d6y]
  by_cases q2:c<0
  ·rw[if_pos (show 0 > c from q2),if_pos q2];rfl
  ·rw[if_neg (show ¬0 > c from q2),if_neg q2,C6 (by omega) (by omega)]
theorem b9D{c:Int}(hc:c≤9223372036854775807):b3P c=some (U4 c):=by
 unfold b3P a0B U4;simp only[d6y];by_cases q:12≤c
 ·rw[if_pos (by simpa using q),if_pos q]
 ·rw[if_neg (by simpa using q),if_neg q]
  by_cases q2:c<0
  ·rw[if_pos (by simpa using q2),if_pos q2]
  ·rw[if_neg (by simpa using q2),if_neg q2,C6 (by omega) (by omega)]
omit hR in
theorem c64 {s:a7} (hR:SR s) {h:Int} (hh:h∈lv s) {n:Int} (hn:0≤n):K2 s h (stg (ob s h) n)=some (seO s h (stg (ob s h) n),0):=by
 have:=J4 hR hh;exact b1H (o:=stg (ob s h) n) hR hh rfl ⟨this.s1,this.s2,hn,this.wk,this.p1,this.p2,this.fl⟩
omit hR in
theorem b1I {s:a7} (hR:SR s) {h:Int} (hh:h∈lv s) {o:m8} (hs:o.Serial=(ob s h).Serial) (ho:OkO s o):O2 (sO s) h (oo o)=some (sO (seO s h o),0):=by
 have:=H4 hR hh;rw[c7t s hR.len (by omega) o,b1H hR hh hs ho]
 rfl
theorem a54{h:Int}(hh:h≤9223372036854775807)(hB:∀k∈lv x.S,(ob x.S k).Strong≤9223372036854775807):a0g x h=some (C5 x h):=by
 unfold a0g U2 C5 stO;obtain⟨e,h1,h2⟩:=Q1 (s7.2 hR) hh;rw[h1,d6y];by_cases q:h∈lv x.S
 ·have e0:=h2.2 q;subst e0;rw[if_pos q,d1Z hR (hB h q)];simp only[beq_self_eq_true,if_true,d6y];have:=c64 hR q (D8 (J4 hR q).st);rw[this];rfl
 ·have:(e==0)=false:=by simpa using λc=>q (h2.1 c)
  rw[this,if_neg q];rfl
theorem a8q{h:Int}(hh:h≤9223372036854775807)(hB:∀k∈lv x.S,(ob x.S k).Strong≤9223372036854775807):a1h (hO x) h=some (hO (C5 x h)):=by
 unfold a1h a6Y C5 stO;obtain⟨e,h1,h2⟩:=Q1 (s7.2 hR) hh;have hg:F1 (hO x).S h=some (oo (ob x.S h),e):=by
  rw[show (hO x).S=sO x.S from rfl,a4h x.S (by have:=hR.len;omega) hh,h1]
  rfl
 rw[hg,d6y];by_cases q:h∈lv x.S
 ·have e0:=h2.2 q;subst e0;have hs:b3P (oo (ob x.S h),(0:Int)).1.Strong=some (U4 (ob x.S h).Strong):=b9D hR (hB h q);rw[if_pos q,hs,d6y];simp only[d6y,bne_self_eq_false,Bool.false_eq_true,if_false];have ok:=J4 hR q;have:=b1I (o:=stg (ob x.S h) (U4 (ob x.S h).Strong)) hR q rfl ⟨ok.s1,ok.s2,D8 ok.st,ok.wk,ok.p1,ok.p2,ok.fl⟩;rw[show O2 (hO x).S h ⟨(oo (ob x.S h)).Serial,U4 (ob x.S h).Strong,(oo (ob x.S h)).Weak,(oo (ob x.S h)).Prog,(oo (ob x.S h)).Started,(oo (ob x.S h)).Fields⟩=_ from this];rfl
 ·have he:(e != 0)=true:=by simpa using λc=>q (h2.1 c)
  have hb:(oo (ob x.S h)).Strong≤9223372036854775807:=by
   rw[a9Q (s7.2 hR) hh q];decide
  rw[b9D hR hb,d6y,d6y];simp only[he,if_true];rw[if_neg q];rfl
omit hR in
theorem d1x (c:Int) (h1 : -1000000≤c):a1T c=some (a5G c):=by
 unfold a1T b19 a2r G0 a5G;simp only[d6y];by_cases q:12≤c
 ·rw[if_pos (by simpa using q),if_pos q]
  rfl
 ·rw[if_neg (by simpa using q),if_neg q]
  by_cases q2:c<1
  ·rw[if_pos (by simpa using q2),if_pos q2]
   rfl
  ·rw[if_neg (by simpa using q2),if_neg q2,C6 (by omega) (by omega)]
   rfl
theorem a2F{h:Int}(hh:h≤9223372036854775807):C9 x h=some (Q3 x h):=by
 unfold C9 N2 Q3 stO;obtain⟨e,h1,h2⟩:=Q1 (s7.2 hR) hh;rw[h1,d6y];by_cases q:h∈lv x.S
 ·have e0:=h2.2 q;subst e0;have ok:=J4 hR q;rw[if_pos q,d1x _ (by have:=ok.st;dsimp only;omega)]
  simp only[beq_self_eq_true,if_true,d6y];have:=c64 hR q (N9 ok.st);rw[this];rfl
 ·have:(e==0)=false:=by simpa using λc=>q (h2.1 c)
  rw[this,if_neg q];rfl
theorem a32{h:Int}(hh:h≤9223372036854775807):F5 (hO x) h=some (hO (Q3 x h)):=by
 unfold F5 a6Y Q3 stO;obtain⟨e,h1,h2⟩:=Q1 (s7.2 hR) hh;have hg:F1 (hO x).S h=some (oo (ob x.S h),e):=by
  rw[show (hO x).S=sO x.S from rfl,a4h x.S (by have:=hR.len;omega) hh,h1]
  rfl
 rw[hg,d6y];by_cases q:h∈lv x.S
 ·have e0:=h2.2 q;subst e0;have ok:=J4 hR q;have put:∀n,0≤n→O2 (hO x).S h ⟨(oo (ob x.S h)).Serial,n,(oo (ob x.S h)).Weak,(oo (ob x.S h)).Prog,(oo (ob x.S h)).Started,(oo (ob x.S h)).Fields⟩=some (sO (seO x.S h (stg (ob x.S h) n)),0):=λn hn=>
   b1I (o:=stg (ob x.S h) n) hR q rfl ⟨ok.s1,ok.s2,hn,ok.wk,ok.p1,ok.p2,ok.fl⟩
  have hs:(oo (ob x.S h)).Strong=(ob x.S h).Strong:=rfl;rw[if_pos q];unfold b72 a0B a5G;simp only[d6y,hs];by_cases q1:12≤(ob x.S h).Strong
  ·rw[if_pos (by simpa using q1),if_pos q1]
   simp only[d6y,bne_self_eq_false,Bool.false_eq_true,if_false];rw[put 12 (by decide)]
   rfl
  ·rw[if_neg (by simpa using q1),if_neg q1]
   by_cases q2:(ob x.S h).Strong<1
   ·rw[if_pos (by simpa using q2),if_pos q2]
    simp only[d6y,show ((11:Int) != 0)=true from rfl,if_true];rw[show stg (ob x.S h) (ob x.S h).Strong=ob x.S h from rfl,c7p hR q]
   ·rw[if_neg (by simpa using q2),if_neg q2,C6 (by omega) (by have:=ok.st;omega)]
    simp only[d6y,bne_self_eq_false,Bool.false_eq_true,if_false];rw[put _ (by omega)]
    rfl
 ·have he:(e != 0)=true:=by simpa using λc=>q (h2.1 c)
  rw[if_neg q,a9Q (s7.2 hR) hh q];unfold b72 a0B;simp only[d6y];rfl
end
theorem c4P{x:Hp}(hR:SR x.S)(hB:SB x.S):∀k∈lv x.S,(ob x.S k).Strong≤9223372036854775807:=λk hk=>(b2N (s7.2 hR) hB hk).2
end Go.Sh
namespace Go.Sh
theorem a57(x:Hp)(h:Int):(C5 x h).Roots=x.Roots∧(C5 x h).a8=x.a8∧(C5 x h).T=x.T∧(C5 x h).Q=x.Q:=by
 rw[b2F];exact⟨rfl,rfl,rfl,rfl⟩
theorem a3w{x:Hp}(hR:SR x.S)(h:Int):SR (C5 x h).S:=(G2 hR h λc=>D8).sr
section
variable{x:Hp}(hx:M2 x)(hS:∀k∈lv x.S,(ob x.S k).Strong≤9223372036854775807)
include hx hS
theorem b1d{h:Int}(hh:h=0∨h∈lv x.S):h≤9223372036854775807:=by
 rcases hh with q | q
 ·omega
 ·have:=H4 hx.sh.sr q;omega
theorem c3x(k:Int){h:Int}(hh:h≤9223372036854775807):a0w x k h=some (if k<0∨5<k then (x,6) else if h=0∨h∈lv x.S then (G1 x k.toNat h,0) else (x,3)):=by
 have hR:=hx.sh.sr;have r6:=hx.sh.r6;unfold a0w;by_cases hk:k<0∨5<k
 ·rw[if_pos hk,if_pos (by rw[r6];simp;omega)]
 ·rw[if_neg hk,if_neg (by rw[r6];simp;omega),a2x hR hh,d6y]
  by_cases hn:h=0∨h∈lv x.S
  ·rw[if_pos hn,decide_eq_true hn,if_neg (by simp)]
   obtain⟨n,rfl⟩:∃n:Nat,k=n:=⟨k.toNat,by omega⟩
   have hn6:n<6:=by omega
   have hnl:n<x.Roots.length:=by omega
   have old:x.Roots[n]≤9223372036854775807:=b1d hx hS (hx.sh.rt _ (List.getElem_mem hnl));have e1:=a57 x h;have hn2:n<(C5 x h).Roots.length:=by rw[e1.1];exact hnl
   rw[o9 hnl,d6y];unfold F0 O9 L9;rw[a54 hR hh hS,d6y];dsimp only;rw[M3 (by omega) (by rw[e1.1];omega),d6y,o9 hn2,d6y,d6y]
   have hrel:=a2F (x:=wR (C5 x h) (x.Roots.set n h)) (a3w hR h) old;rw[Int.toNat_natCast,e1.1,show C9 ⟨(C5 x h).S,x.Roots.set n h,(C5 x h).a8,(C5 x h).T,(C5 x h).Q⟩ x.Roots[n]=_ from hrel];unfold G1;rw[List.getD_eq_getElem?_getD,List.getElem?_eq_getElem hnl];rfl
  ·rw[if_neg hn,decide_eq_false hn,if_pos (by simp)]
theorem c1P(k:Int){h:Int}(hh:h≤9223372036854775807):X0 (hO x) k h=some (if k<0∨5<k then (hO x,6) else if h=0∨h∈lv x.S then (hO (G1 x k.toNat h),0) else (hO x,3)):=by
 have hR:=hx.sh.sr;have r6:=hx.sh.r6;unfold X0;by_cases hk:k<0∨5<k
 ·rw[if_pos hk,if_pos (by simp;omega)]
 ·rw[if_neg hk,if_neg (by simp;omega),a6J hR hh,d6y]
  by_cases hn:h=0∨h∈lv x.S
  ·rw[if_pos hn,decide_eq_true hn,if_neg (by simp)]
   obtain⟨n,rfl⟩:∃n:Nat,k=n:=⟨k.toNat,by omega⟩
   have hnl:n<x.Roots.length:=by omega
   have hnl':n<(hO x).Roots.length:=hnl;have old:x.Roots[n]≤9223372036854775807:=b1d hx hS (hx.sh.rt _ (List.getElem_mem hnl));have e1:=a57 x h;have r6':(hO x).Roots.length=6:=r6;rw[o9 hnl',d6y,a8q hR hh hS,d6y,M3 (by omega) (by rw[r6'];omega),d6y,o9 hnl',d6y]
   have hrel:=a32 (x:=wR (C5 x h) (x.Roots.set n h)) (a3w hR h) old;rw[Int.toNat_natCast];rw[show F5 ⟨(hO (C5 x h)).S,(hO x).Roots.set n h,(hO (C5 x h)).a8,(hO (C5 x h)).T,(hO (C5 x h)).Q⟩ (hO x).Roots[n]=_ from hrel];unfold G1;rw[List.getD_eq_getElem?_getD,List.getElem?_eq_getElem hnl];rfl
  ·rw[if_neg hn,decide_eq_false hn,if_pos (by simp)]
omit hx hS in
theorem d3N {l:List Int} {n:Nat} (hn:n<l.length):b2Q l n=some (l[n],0)∧b41 l n=some (l[n],0):=by
 constructor
 ·unfold b2Q a7g;rw[d6y,if_neg (by simp;omega),o9 hn,d6y]
 ·unfold b41;rw[if_neg (by simp;omega),o9 hn,d6y]
omit hx hS in
theorem d0u {l:List Int} {k:Int} (hk:¬(0≤k∧k<l.length)):b2Q l k=some (0,5)∧b41 l k=some (0,5):=by
 constructor
 ·unfold b2Q a7g;rw[d6y,if_pos (by simp;omega)]
 ·unfold b41;rw[if_pos (by simp;omega)]
theorem b2U(h k:Int)(hh:h≤9223372036854775807):(∃e,e≠0∧a0o x.S h k=some (0,e)∧a3Z (sO x.S) h k=some (0,e)) ∨
  (h∈lv x.S∧∃n:Nat,k=n∧∃hn:n<(ob x.S h).Fields.length,a0o x.S h k=some ((ob x.S h).Fields[n],0)∧a3Z (sO x.S) h k=some ((ob x.S h).Fields[n],0)):=by
 have hR:=hx.sh.sr;obtain⟨e,h1,h2⟩:=Q1 (s7.2 hR) hh;have hg:F1 (sO x.S) h=some (oo (ob x.S h),e):=by
  rw[a4h x.S (by have:=hR.len;omega) hh,h1]
  rfl
 unfold a0o a3Z;rw[h1,d6y,hg,d6y];by_cases q:h∈lv x.S
 ·have:=h2.2 q;subst this;rw[if_neg (by simp),if_neg (by simp),show (oo (ob x.S h),(0:Int)).1.Fields=(ob x.S h).Fields from rfl]
  by_cases hk:0≤k∧k<(ob x.S h).Fields.length
  ·right;obtain⟨n,rfl⟩:∃n:Nat,k=n:=⟨k.toNat,by omega⟩
   have hn:n<(ob x.S h).Fields.length:=by omega
   refine⟨q,n,rfl,hn,?_,?_⟩
   ·rw[(d3N hn).1];rfl
   ·rw[(d3N hn).2];rfl
  ·left;refine⟨5,by decide,?_,?_⟩
   ·rw[(d0u hk).1];rfl
   ·rw[(d0u hk).2];rfl
 ·left;have he:(e != 0)=true:=by simpa using λc=>q (h2.1 c)
  refine⟨e,by simpa using he,?_,?_⟩
  ·simp only[he,if_true]
  ·simp only[he,if_true]
theorem c63{s:a7}(hR:SR s){h:Int}(hh:h∈lv s){n:Nat}(hn:n<(ob s h).Fields.length)(v:Int) :
  a9j s h n v=some (seO s h (flg (ob s h) ((ob s h).Fields.set n v)),0)∧b76 (sO s) h n v=some (sO (seO s h (flg (ob s h) ((ob s h).Fields.set n v))),0):=by
 have ok:=J4 hR hh;have hf:=ok.fl;have hle:=H4 hR hh;have ho:OkO s (flg (ob s h) ((ob s h).Fields.set n v)):=⟨ok.s1,ok.s2,ok.st,ok.wk,ok.p1,ok.p2,by simpa using hf⟩
 have h1:=b1H (o:=flg (ob s h) ((ob s h).Fields.set n v)) hR hh rfl ho;have h2:=b1I (o:=flg (ob s h) ((ob s h).Fields.set n v)) hR hh rfl ho;constructor
 ·unfold a9j;rw[b2j (s7.2 hR) hh,d6y,if_neg (by simp)]
  unfold b5v a7g;dsimp only;rw[d6y,if_neg (by simp;omega),a7u (by omega) (by omega),d6y]
  have e:cpy (List.replicate (ob s h).Fields.length (0:Int)) (ob s h).Fields=some (ob s h).Fields:=by
   unfold cpy;rw[if_pos (by simp)]
   simp
  rw[e,d6y,o9 hn,d6y,d6y,if_neg (by simp),Int.toNat_natCast]
  dsimp only;rw[show K2 s h ⟨(ob s h).Serial,(ob s h).Strong,(ob s h).Weak,(ob s h).Prog,(ob s h).Started,(ob s h).Fields.set n v⟩=_ from h1];rfl
 ·unfold b76;rw[a4h s (by have:=hR.len;omega) (by omega),b2j (s7.2 hR) hh,Option.map_some,d6y,if_neg (by simp)]
  unfold b94;have hn':n<(oo (ob s h)).Fields.length:=hn;have hf':(oo (ob s h)).Fields.length≤4:=hf;dsimp only;rw[if_neg (by simp;omega),M3 (by omega) (by omega),d6y,o9 hn',d6y,d6y,if_neg (by simp),Int.toNat_natCast]
  dsimp only;rw[show O2 (sO s) h ⟨(oo (ob s h)).Serial,(oo (ob s h)).Strong,(oo (ob s h)).Weak,(oo (ob s h)).Prog,(oo (ob s h)).Started,(oo (ob s h)).Fields.set n v⟩=_ from h2];rfl
theorem c5X(h k v:Int)(hh:h≤9223372036854775807)(hv:v≤9223372036854775807) :
  (∃e,e≠0∧a2u x h k v=some (x,e)∧a5X (hO x) h k v=some (hO x,e)) ∨
  (h∈lv x.S∧(v=0∨v∈lv x.S)∧∃n:Nat,k=n∧n<(ob x.S h).Fields.length∧a2u x h k v=some (a09 x h n v,0)∧a5X (hO x) h k v=some (hO (a09 x h n v),0)):=by
 have hR:=hx.sh.sr;unfold a2u a5X;rcases b2U hx hS h k hh with ⟨e,he,f1,f2⟩ | ⟨hl,n,rfl,hn,f1,f2⟩
 ·left;have he':(e != 0)=true:=by simpa using he
  refine⟨e,he,?_,?_⟩;·rw[f1,d6y,if_pos he']
  ·rw[show (hO x).S=sO x.S from rfl,f2,d6y,if_pos he']
 ·rw[f1,d6y,if_neg (by simp),show (hO x).S=sO x.S from rfl,f2,d6y,if_neg (by simp),a2x hR hv,d6y,a6J hR hv,d6y]
  by_cases hn2:v=0∨v∈lv x.S
  ·right;refine⟨hl,hn2,n,rfl,hn,?_⟩;rw[decide_eq_true hn2,if_neg (by simp),if_neg (by simp)]
   have kin:=G2 hR v (f:=U4) λc=>D8;have hR1:SR (C5 x v).S:=kin.sr;have hl1:h∈lv (C5 x v).S:=by rw[show lv (C5 x v).S=lv x.S from kin.lv];exact hl
   have hof:(ob (C5 x v).S h).Fields=(ob x.S h).Fields:=by
    obtain⟨m,e⟩:=kin.ob h hh;show (ob (stO x v U4).S h).Fields=_;rw[e]
   have hn1:n<(ob (C5 x v).S h).Fields.length:=by rw[hof];exact hn
   have old:(ob x.S h).Fields[n]≤9223372036854775807:=b1d hx hS (hx.sh.fl h hl _ (List.getElem_mem hn));have ok:=J4 hR1 hl1;have sr2:SR (seO (C5 x v).S h (flg (ob (C5 x v).S h) ((ob (C5 x v).S h).Fields.set n v))):=a0Q (o:=flg (ob (C5 x v).S h) ((ob (C5 x v).S h).Fields.set n v)) hR1 hl1 rfl ⟨ok.s1,ok.s2,ok.st,ok.wk,ok.p1,ok.p2,by simpa using ok.fl⟩
   obtain⟨p1,p2⟩:=c63 hx hS hR1 hl1 hn1 v;have hd:(ob x.S h).Fields.getD n 0=(ob x.S h).Fields[n]:=by
    rw[List.getD_eq_getElem?_getD,List.getElem?_eq_getElem hn];rfl
   constructor
   ·unfold I1 a0M;rw[a54 hR hv hS,d6y];dsimp only;rw[p1,d6y,d6y];have hrel:=a2F (x:=wS (C5 x v) (seO (C5 x v).S h (flg (ob (C5 x v).S h) ((ob (C5 x v).S h).Fields.set n v)))) sr2 old;rw[show C9 ⟨seO (C5 x v).S h (flg (ob (C5 x v).S h) ((ob (C5 x v).S h).Fields.set n v)),(C5 x v).Roots,(C5 x v).a8,(C5 x v).T,(C5 x v).Q⟩ (ob x.S h).Fields[n]=_ from hrel];unfold a09;rw[hd,hof];rfl
   ·rw[a8q hR hv hS,d6y,show (hO (C5 x v)).S=sO (C5 x v).S from rfl,p2,d6y];have hrel:=a32 (x:=wS (C5 x v) (seO (C5 x v).S h (flg (ob (C5 x v).S h) ((ob (C5 x v).S h).Fields.set n v)))) sr2 old;dsimp only;rw[show F5 ⟨sO (seO (C5 x v).S h (flg (ob (C5 x v).S h) ((ob (C5 x v).S h).Fields.set n v))),(hO (C5 x v)).Roots,(hO (C5 x v)).a8,(hO (C5 x v)).T,(hO (C5 x v)).Q⟩ (ob x.S h).Fields[n]=_ from hrel];unfold a09;rw[hd,hof];rfl
  ·left;refine⟨3,by decide,?_,?_⟩
   ·rw[decide_eq_false hn2,if_pos (by simp)]
   ·rw[decide_eq_false hn2,if_pos (by simp)]
theorem c9I(k v:Int)(hk:k≤9223372036854775807)(hv:v≤9223372036854775807) :
  (∃e,e≠0∧a3X x k v=some (x,e)∧a8i (hO x) k v=some (hO x,e)) ∨
  (k∈lv x.S∧(v=0∨v∈lv x.S)∧∃r,T9 x.T k v=some r∧r.2.2=0∧a3X x k v=some (a5S x v r.1 r.2.1,0)∧a8i (hO x) k v=some (hO (a5S x v r.1 r.2.1),0)):=by
 have hR:=hx.sh.sr;unfold a3X a8i;by_cases k0:k=0
 ·left;subst k0;exact⟨2,by decide,by simp,by simp⟩
 ·rw[if_neg (by simpa using k0),if_neg (by simpa using k0),a2x hR hk,d6y,a6H hR hk,d6y,a2x hR hv,a6J hR hv]
  have hkk:(k=0∨k∈lv x.S)↔k∈lv x.S:=by simp[k0]
  by_cases hl:k∈lv x.S∧(v=0∨v∈lv x.S)
  ·obtain⟨hl,hn⟩:=hl;rw[decide_eq_true (hkk.2 hl),decide_eq_true hl,decide_eq_true hn];simp only[Bool.not_true,beq_self_eq_true,U7,d6y,Bool.or_self,Bool.false_eq_true,if_false];obtain⟨r,r1,r2,r3,r4,r5⟩:=c4I hx.sh.hr k v;rw[r1,d6y,show (hO x).T=x.T.map J3 from rfl,r4,d6y];by_cases h0:r.2.2=0
   ·right;refine⟨hl,hn,r,rfl,h0,?_⟩;have e1:(r.2.2 != 0)=false:=by simpa using h0
    have old:r.2.1≤9223372036854775807:=by
     rcases r5 with ⟨_,rfl⟩ | ⟨_,_,⟨i,hi,rfl⟩ | ⟨_,rfl⟩⟩ | ⟨_,_,⟨i,hi,rfl⟩ | ⟨d,_,_,_,_,rfl⟩ | ⟨_,_,rfl⟩⟩;·simp
     ·exact b1d hx hS (.inr (hx.sh.pr k _ ⟨i,hi,rfl⟩).2)
     ·simp
     ·exact b1d hx hS (.inr (hx.sh.pr k _ ⟨i,hi,rfl⟩).2)
     ·simp
     ·simp
    constructor
    ·rw[e1];simp only[Bool.false_eq_true,if_false];unfold J2 W2;rw[a54 hR hv hS,d6y,d6y];dsimp only;have hrel:=a2F (x:=wT (C5 x v) r.1) (a3w hR v) old;rw[show C9 ⟨(C5 x v).S,(C5 x v).Roots,(C5 x v).a8,r.1,(C5 x v).Q⟩ r.2.1=_ from hrel];rfl
    ·dsimp only;rw[e1];simp only[Bool.false_eq_true,if_false];rw[a8q hR hv hS,d6y];have hrel:=a32 (x:=wT (C5 x v) r.1) (a3w hR v) old;rw[show F5 ⟨(hO (C5 x v)).S,(hO (C5 x v)).Roots,(hO (C5 x v)).a8,r.1.map J3,(hO (C5 x v)).Q⟩ r.2.1=_ from hrel];rfl
   ·left;have e1:(r.2.2 != 0)=true:=by simpa using h0
    refine⟨r.2.2,h0,by rw[if_pos e1],by dsimp only;rw[if_pos e1]⟩
  ·left;refine⟨3,by decide,?_,?_⟩
   ·by_cases hl2:k∈lv x.S
    ·have:¬(v=0∨v∈lv x.S):=λq=>hl ⟨hl2,q⟩;rw[decide_eq_true (hkk.2 hl2),decide_eq_false this];rfl
    ·rw[decide_eq_false λq=>hl2 (hkk.1 q)];rfl
   ·by_cases hl2:k∈lv x.S
    ·have:¬(v=0∨v∈lv x.S):=λq=>hl ⟨hl2,q⟩;rw[decide_eq_true hl2,decide_eq_false this];rfl
    ·rw[decide_eq_false hl2];rfl
end
theorem c2P{s:a7}(hR:SR s){h:Int}{i:Nat}(q:V4 s h i):N5 s.S h=some ((gvA s i).S,0):=by
 have hi:=q.1;have hc:=hR.cell i hi;have l9:=hR.l9;unfold N5 gvA;rw[a4R hR q,d6y,if_neg (by simp),b9E hi,d6y]
 by_cases g:(ce s i).Gen=s.S.Last
 ·rw[if_pos (by simpa using g),if_pos g,a6i rfl hi hR.len]
  rfl
 ·rw[if_neg (by simpa using g),if_neg g,a6i rfl hi hR.len,C6 (by omega) (by omega)]
  rfl
theorem c6i{s:a7}{i:Nat}(hi:i<s.S.a8.length):ix (sO s).a8 (i:Int)=some (cO (ce s i)):=by
 rw[c3A,b9E hi];rfl
theorem c3B(s:a7)(i:Nat)(c:b8):sO (G9 s i c)=⟨(sO s).a8.set i (cO c),s.S.Last,s.Serial⟩:=by
 unfold sO G9;rw[List.map_set]
theorem b5u(t:m9)(p:B9)(hl:t.a8.length≤1000)(hp:p.a8.length=t.a8.length):a1g t p=some ⟨(List.range t.a8.length).map λk=>⟨(p.a8.getD k ⟨0,0,0⟩).State,(p.a8.getD k ⟨0,0,0⟩).Gen,(t.a8.getD k ⟨0,0,oo z0⟩).Val⟩,t.Last,t.Serial⟩:=by
 unfold a1g;simp only[jn];rw[c6l (b:=80) t.a8.length (λk=>⟨(p.a8.getD k ⟨0,0,0⟩).State,(p.a8.getD k ⟨0,0,0⟩).Gen,(t.a8.getD k ⟨0,0,oo z0⟩).Val⟩) (by omega) (by omega) (λk acc hk=>?_) (λacc=>by simp)]
 ·rfl
 ·have hk2:k<p.a8.length:=by omega
  simp only[Int.ofNat_lt,hk,decide_true,if_true,o9 hk,o9 hk2,d6y];rw[List.getD_eq_getElem?_getD,List.getElem?_eq_getElem hk2,List.getD_eq_getElem?_getD,List.getElem?_eq_getElem hk];rfl
theorem c54{s:a7}(hR:SR s){h:Int}{i:Nat}(q:V4 s h i):b1n (sO s) h=some (sO (gvA s i)):=by
 have hi:=q.1;have hc:=hR.cell i hi;have l9:=hR.l9;have hlen:=hR.len;have hr:=q.rng hR;have hH:Hnd h:=((b0b hR).2 q).2.1;have hsl:(h-1) % 32=i:=((b0b hR).2 q).2.2.1;have J3:i<(pl (sO s)).a8.length:=by rw[a1e,C0];exact hi
 have key:∀st g,(st:Int)=st→a1g (sO s) ⟨(pl (sO s)).a8.set i ⟨st,g,0⟩,(pl (sO s)).Last⟩=some ⟨(sO s).a8.set i ⟨st,g,oo (ce s i).Val⟩,s.S.Last,s.Serial⟩:=λst g _=>by
  rw[b5u _ _ (by rw[C0];omega) (by simp[a1e])]
  congr 1;congr 1;refine List.ext_getElem (by simp) λk h1 h2=>?_
  have hk:k<s.S.a8.length:=by simpa[C0] using h1
  have hk2:k<(sO s).a8.length:=by rw[C0];exact hk
  have hk3:k<(pl (sO s)).a8.length:=by rw[a1e];exact hk2
  simp only[List.getElem_map,List.getElem_range,List.getElem_set];have e1:(sO s).a8.getD k ⟨0,0,oo z0⟩=cO (ce s k):=by
   rw[List.getD_eq_getElem?_getD,List.getElem?_eq_getElem hk2,E5 hk];simp[sO]
  have e2:((pl (sO s)).a8.set i ⟨st,g,0⟩).getD k ⟨0,0,0⟩=if k=i then ⟨st,g,0⟩ else plc k (cO (ce s k)):=by
   rw[a5J J3];split;·rfl
   ·rw[List.getD_eq_getElem?_getD,List.getElem?_eq_getElem hk3,E5 hk];simp[pl,sO]
  rw[e1,e2];by_cases e:k=i
  ·subst e;rw[if_pos rfl,if_pos rfl];rfl
  ·rw[if_neg e,if_neg (Ne.symm e)];rw[E5 hk];simp[sO,plc,cO]
 have fin:∀st g,(a3i ⟨(sO s).a8.set i ⟨st,g,oo (ce s i).Val⟩,s.S.Last,s.Serial⟩ (i:Int) ⟨0,0,0,0,false,[]⟩)=some (sO (G9 s i ⟨st,g,z0⟩)):=λst g=>by
  unfold a3i;have hi2:i<((sO s).a8.set i ⟨st,g,oo (ce s i).Val⟩).length:=by simp[C0];exact hi
  rw[M3 (by omega) (by simp[C0];omega),d6y,o9 hi2,d6y,c3B]
  simp[cO,oo,List.set_set]
 unfold b1n b92 gvA;rw[a2Y _ (by rw[C0];omega),d6y,a99 s (by omega),a4R hR q,d6y,if_neg (by simp)]
 rw[b9W (by rw[C0];exact hi),d6y]
 have hgen:(plc i ((sO s).a8[i]'(by rw[C0];exact hi))).Gen=(ce s i).Gen:=by
  rw[E5 hi];simp[plc,sO,cO]
 have hlast:(pl (sO s)).Last=s.S.Last:=rfl;have w3:∀c:B8,a0Y (pl (sO s)) (i:Int) c=some ⟨(pl (sO s)).a8.set i c,(pl (sO s)).Last⟩:=λc=>by
  unfold a0Y;rw[M3 (by omega) (by rw[a1e,C0];omega),d6y,o9 J3,d6y,Int.toNat_natCast]
 rw[hgen,hlast,a8b,if_pos hH,hsl];by_cases g:(ce s i).Gen=s.S.Last
 ·rw[if_pos (by simp[g]),if_pos g,w3,d6y,d6y,if_neg (by simp),key _ _ rfl,d6y,d6y,fin]
  rfl
 ·rw[if_neg (by simp;omega),if_neg g,w3,d6y,d6y,if_neg (by simp),key _ _ rfl,d6y,d6y,C6 (by omega) (by omega),fin]
  rfl
section
variable{x:Hp}(hR:SR x.S)
include hR
theorem b6H{h d:Int}(hh:h≤9223372036854775807)(hw:V4 x.S h (D5 h) → -1000≤(ce x.S (D5 h)).Val.Weak+d∧(ce x.S (D5 h)).Val.Weak+d≤1000):a1r x h d=some (mkd x h d):=by
 unfold a1r mkd;by_cases q:V4 x.S h (D5 h)
 ·have:=hw q;rw[if_pos q,a4R hR q,d6y];simp only[beq_self_eq_true,if_true];rw[b9E q.1,d6y,C6 (by omega) (by omega),b8C hR q,d6y]
  rfl
 ·have hno:∀i,¬V4 x.S h i:=λi hi=>q (by rw[hi.D5 hR];exact hi)
  rw[if_neg q,a6r hR hh hno,d6y];have:((if h=0 then 2 else 3:Int)==0)=false:=by simpa using a1M h
  simp only[this,Bool.false_eq_true,if_false]
theorem c0x{h:Int}(hh:h≤9223372036854775807)(hw:V4 x.S h (D5 h)→1≤(ce x.S (D5 h)).Val.Weak∧(ce x.S (D5 h)).Val.Weak≤1000):a2V x h=some (a8C x h):=by
 unfold a2V;rw[b6H hR hh (λq=>by have:=hw q;omega),d6y]
 unfold mkd a8C;by_cases q:V4 x.S h (D5 h)
 ·have hw:=hw q;rw[if_pos q,if_pos q];have sr1:=b4N hR q.1 q.2.1 (d:=-1) (by omega)
  have q1:V4 (mkA x.S (D5 h) (-1)) h (D5 h):=(b3B q.1 _).2 q;dsimp only;rw[a4R sr1 q1,d6y,if_neg (by simp),b9E q1.1,d6y,a3t hR q.1 q.2.1,if_pos rfl]
  dsimp only;by_cases c:(ce x.S (D5 h)).State=2∧(ce x.S (D5 h)).Val.Weak=1
  ·rw[if_pos c,if_pos (by simp[c.1,c.2]),c2P sr1 q1,d6y]
   rfl
  ·rw[if_neg c,if_neg (by simp only[Bool.and_eq_true,beq_iff_eq];omega)]
 ·have hno:∀i,¬V4 x.S h i:=λi hi=>q (by rw[hi.D5 hR];exact hi)
  rw[if_neg q,if_neg q,a6r hR hh hno,d6y];have:((if h=0 then 2 else 3:Int) != 0)=true:=by simpa using a1M h
  simp only[this,if_true]
theorem c4R{h:Int}(hh:h≤9223372036854775807)(hw:V4 x.S h (D5 h)→1≤(ce x.S (D5 h)).Val.Weak∧(ce x.S (D5 h)).Val.Weak≤1000):a1u (hO x) h=some (hO (a8C x h)):=by
 have hl:=hR.len;unfold a1u;rw[show (hO x).S=sO x.S from rfl,a2Y _ (by rw[C0];omega),d6y,a99 x.S hh]
 unfold a8C;by_cases q:V4 x.S h (D5 h)
 ·have hw:=hw q;have hr:=q.rng hR;rw[if_pos q,a4R hR q,d6y,if_neg (by simp),c6i q.1,d6y]
  have sr1:=b4N hR q.1 q.2.1 (d:=-1) (by omega)
  have q1:V4 (mkA x.S (D5 h) (-1)) h (D5 h):=(b3B q.1 _).2 q;have hs:O2 (sO x.S) h (oo (wkg (ce x.S (D5 h)).Val ((ce x.S (D5 h)).Val.Weak + -1)))=some (sO (mkA x.S (D5 h) (-1)),0):=by
   rw[c7t x.S hl hh,b8C hR q];rfl
  have hw64:u5 ((cO (ce x.S (D5 h))).Val.Weak-1)=(ce x.S (D5 h)).Val.Weak + -1:=by
   show u5 ((ce x.S (D5 h)).Val.Weak-1)=_;rw[C6 (by omega) (by omega)]
   omega
  rw[hw64];rw[show O2 (sO x.S) h ⟨(cO (ce x.S (D5 h))).Val.Serial,(cO (ce x.S (D5 h))).Val.Strong,(ce x.S (D5 h)).Val.Weak + -1,(cO (ce x.S (D5 h))).Val.Prog,(cO (ce x.S (D5 h))).Val.Started,(cO (ce x.S (D5 h))).Val.Fields⟩=_ from hs,d6y,c6i q1.1,d6y,a3t hR q.1 q.2.1,if_pos rfl];by_cases c:(ce x.S (D5 h)).State=2∧(ce x.S (D5 h)).Val.Weak=1
  ·rw[if_pos c,if_pos (by simp[cO,c.1,c.2]),c54 sr1 q1,d6y]
   rfl
  ·rw[if_neg c,if_neg (by simp only[cO,Bool.and_eq_true,beq_iff_eq,decide_eq_true_eq];omega)]
   rfl
 ·have hno:∀i,¬V4 x.S h i:=λi hi=>q (by rw[hi.D5 hR];exact hi)
  rw[if_neg q,a6r hR hh hno,d6y];have:((if h=0 then 2 else 3:Int) != 0)=true:=by simpa using a1M h
  simp only[this,if_true]
end
theorem c7I{l:List g5}(hl:l.length≤1000){n:Nat}(hn:n<l.length)(h call:Int):b1X l n h call=some (l.set n (wcl h call),l[n].Target,0):=by
 unfold b1X a6h a0p;simp only[d6y];rw[if_neg (by simp;omega),a7u (by omega) (by omega),d6y]
 have e:cpy (List.replicate l.length (⟨0,false,0⟩:g5)) l=some l:=by
  unfold cpy;rw[if_pos (by simp)]
  simp
 rw[e,d6y,d6y,o9 hn,d6y,d6y,Int.toNat_natCast]
theorem c17{l:List g5}(hl:l.length≤1000){n:Nat}(hn:n<l.length)(h call:Int):b79 (l.map wcR) n h call=some ((l.set n (wcl h call)).map wcR,l[n].Target,0):=by
 unfold b79;have hn':n<(l.map wcR).length:=by simpa using hn
 rw[if_neg (by simp;omega),M3 (by omega) (by simp;omega),d6y,o9 hn',d6y,d6y,Int.toNat_natCast,List.map_set]
 simp[wcR]
theorem d2o(l:List g5)(h:Int):nmg l h≤l.length:=List.countP_le_length
theorem d0m{x:Hp}(hx:M2 x)(k h call:Int)(hh:h≤9223372036854775807)(hc : -1≤call∧call≤5) :
  (∃e,e≠0∧a0x x k h call=some (x,e)∧a4q (hO x) k h call=some (hO x,e)) ∨
  ((h=0∨h∈lv x.S)∧∃n:Nat,k=n∧n<6∧wts x.Q n=false∧a0x x k h call=some (a2m x n h call,0)∧a4q (hO x) k h call=some (hO (a2m x n h call),0)):=by
 have hR:=hx.sh.sr;have c6:=hx.sh.c6;have q30:=hx.sh.q30;unfold a0x a4q;by_cases hk:k<0∨5<k
 ·left;have e1:((decide (k<0))||(decide (k≥(x.a8.length:Int))))=true:=by rw[c6];simp;omega
  have e2:((decide (k<0))||(decide (k > 5)))=true:=by simp;omega
  refine⟨7,by decide,?_,?_⟩
  ·rw[e1];rfl
  ·rw[e2];rfl
 ·obtain⟨n,rfl⟩:∃n:Nat,k=n:=⟨k.toNat,by omega⟩
  have hn6:n<6:=by omega
  have e1:((decide ((n:Int)<0))||(decide ((n:Int)≥(x.a8.length:Int))))=false:=by rw[c6];simp;omega
  have e2:((decide ((n:Int)<0))||(decide ((n:Int) > 5)))=false:=by simp;omega
  rw[e1,e2];simp only[beq_self_eq_true,U7,Bool.false_or];have hwq:a4B x.Q n=some (wts x.Q n):=d0a (by omega)
  have hwr:a2B (hO x).Q n=some (wts x.Q n):=c3k (by omega)
  rw[hwq,d6y,hwr,d6y,a2x hR hh,d6y,a6J hR hh,d6y];by_cases hw:wts x.Q n=true
  ·left;rw[if_pos hw,if_pos hw];exact⟨7,by decide,rfl,rfl⟩
  ·have hw:wts x.Q n=false:=by simpa using hw
   rw[hw,if_neg (show ¬(false=true) by decide),if_neg (show ¬(false=true) by decide)]
   by_cases hl:h=0∨h∈lv x.S
   ·right;refine⟨hl,n,rfl,hn6,hw,?_⟩;have hnl:n<x.a8.length:=by omega
    rw[decide_eq_true hl,if_neg (by simp),if_neg (by simp),c7I (by omega) hnl,d6y,show (hO x).a8=x.a8.map wcR from rfl,c17 (by omega) hnl,d6y]
    have htg:tgt x n=x.a8[n].Target:=by
     unfold tgt;rw[List.getD_eq_getElem?_getD,List.getElem?_eq_getElem hnl];rfl
    have wkb:∀i,i<x.S.S.a8.length→Th (ce x.S i)→0≤(ce x.S i).Val.Weak∧(ce x.S i).Val.Weak≤6:=λi hi ht=>by
     have:=(hx.wk i hi ht).1;have:=d2o x.a8 (1+(i:Int)+32*(ce x.S i).Gen);omega
    have mk1:∃s2,mkd (wC x (x.a8.set n (wcl h call))) h 1=wS (wC x (x.a8.set n (wcl h call))) s2∧SR s2∧(∀k i,V4 s2 k i↔V4 x.S k i)∧(∀i,i<x.S.S.a8.length→Th (ce x.S i)→(ce x.S i).Val.Weak≤(ce s2 i).Val.Weak∧(ce s2 i).Val.Weak≤(ce x.S i).Val.Weak+1) ∧
      (h≠0→F1 (sO x.S) h=some (oo (ce x.S (D5 h)).Val,0)∧O2 (sO x.S) h (oo (wkg (ce x.S (D5 h)).Val ((ce x.S (D5 h)).Val.Weak+1)))=some (sO s2,0))∧(h=0→s2=x.S):=by
     unfold mkd;by_cases h0:h=0
     ·have hno:¬V4 x.S h (D5 h):=λq=>by have:=q.rng hR;omega
      rw[if_neg hno];exact⟨x.S,rfl,hR,λ_ _=>Iff.rfl,λi _ _=>by omega,λq=>absurd h0 q,λ_=>rfl⟩
     ·have hll:=hl.resolve_left h0;have hp:=A1 hR hll;have hb:=wkb _ hp.1 (.inl hp.2.1);rw[if_pos hp.d];have kn:=a6K hR hp.1 (.inl hp.2.1) (d:=1) (by omega)
      refine⟨_,rfl,kn.sr,kn.ad,λi hi ht=>?_,λ_=>⟨?_,?_⟩,λq=>absurd q h0⟩
      ·rw[a3t hR hp.1 (.inl hp.2.1)];split;·rename_i e;subst e;dsimp only;omega
       ·omega
      ·rw[a4h x.S (by have:=hR.len;omega) hh,d1q hR hp]
       rfl
      ·rw[c7t x.S hR.len hh,b8C hR hp.d];rfl
    obtain⟨s2,m1,m2,m3,m4,m5,m6⟩:=mk1;have hold:tgt x n≤9223372036854775807:=by
     by_cases q:tgt x n=0
     ·omega
     ·obtain⟨p,hp⟩:=(hx.sh.cl n hnl).2.2.2.1 (by rw[←htg];exact q)
      have:=hp.rng hR;rw[htg];omega
    have hun:V4 s2 (tgt x n) (D5 (tgt x n))→1≤(ce s2 (D5 (tgt x n))).Val.Weak∧(ce s2 (D5 (tgt x n))).Val.Weak≤1000:=λq=>by
     have q':=(m3 _ _).1 q;have r:=q'.rng hR;have:=(hx.wk _ q'.1 q'.2.1).1;have hp:0<nmg x.a8 x.a8[n].Target:=b1h hnl (by rw[←htg];omega)
     rw[←htg,q'.2.2] at hp;have:=m4 _ q'.1 q'.2.1;have:=wkb _ q'.1 q'.2.1;omega
    have u1:=c0x (x:=wS (wC x (x.a8.set n (wcl h call))) s2) m2 hold hun;have u2:=c4R (x:=wS (wC x (x.a8.set n (wcl h call))) s2) m2 hold hun;have hwb:V4 x.S h (D5 h) → -1000≤(ce x.S (D5 h)).Val.Weak+1∧(ce x.S (D5 h)).Val.Weak+1≤1000:=λq=>by
     have:=wkb _ q.1 q.2.1;omega
    have mm:=b6H (x:=wC x (x.a8.set n (wcl h call))) (d:=1) hR hh hwb;constructor
    ·dsimp only;rw[show a1r ⟨x.S,x.Roots,x.a8.set n (wcl h call),x.T,x.Q⟩ h 1=_ from mm,d6y,m1,←htg,u1,d6y];unfold a2m;rw[m1]
    ·unfold a2m;rw[m1];dsimp only;by_cases h0:h=0
     ·rw[if_neg (by simpa using h0),←htg]
      rw[m6 h0] at u2 ⊢;rw[show a1u ⟨(hO x).S,(hO x).Roots,(x.a8.set n (wcl h call)).map wcR,(hO x).T,(hO x).Q⟩ (tgt x n)=_ from u2,d6y]
     ·obtain⟨g1,g2⟩:=m5 h0;have hp:=A1 hR (hl.resolve_left h0);have hb:=wkb _ hp.1 (.inl hp.2.1);rw[if_pos (by simpa using h0),show (hO x).S=sO x.S from rfl,g1,d6y]
      have e:u5 ((oo (ce x.S (D5 h)).Val).Weak+1)=(ce x.S (D5 h)).Val.Weak+1:=by
       show u5 ((ce x.S (D5 h)).Val.Weak+1)=_;rw[C6 (by omega) (by omega)]
      dsimp only;rw[e];rw[show O2 (sO x.S) h ⟨(oo (ce x.S (D5 h)).Val).Serial,(oo (ce x.S (D5 h)).Val).Strong,(ce x.S (D5 h)).Val.Weak+1,(oo (ce x.S (D5 h)).Val).Prog,(oo (ce x.S (D5 h)).Val).Started,(oo (ce x.S (D5 h)).Val).Fields⟩=_ from g2,d6y,←htg];dsimp only;rw[show a1u ⟨sO s2,(hO x).Roots,(x.a8.set n (wcl h call)).map wcR,(hO x).T,(hO x).Q⟩ (tgt x n)=_ from u2,d6y]
   ·left;rw[decide_eq_false hl];refine⟨3,by decide,?_,?_⟩ <;> rw[if_pos (by rfl)]
end Go.Sh
namespace Go.Sh
section
variable{x:Hp}(hx:M2 x)(hS:∀k∈lv x.S,(ob x.S k).Strong≤9223372036854775807)
include hx hS
end
end Go.Sh
namespace Go.Sh
abbrev tz:k8:=⟨0,0,0⟩
abbrev cz0:g5:=⟨0,false,0⟩
theorem F7{α:Type}{l:List α}{i:Nat}(h:i<l.length)(d:α):l.getD i d=l[i]:=by
 rw[List.getD_eq_getElem?_getD,List.getElem?_eq_getElem h];rfl
def TkP(x:Hp)(t:k8):Prop:=0≤t.Prog∧t.Prog≤5∧((t.Kind=1∧t.At∈lv x.S∧(ob x.S t.At).Started=true)∨(t.Kind=2∧0≤t.At∧t.At≤5))
def TkS(a b:k8):Prop:=a.Kind=b.Kind∧a.At=b.At
instance(a b:k8):Decidable (TkS a b):=by unfold TkS;infer_instance
section
variable{x:Hp}(hR:SR x.S)
include hR
theorem d0e(hq:x.Q.L.length≤1000)(hB:∀t∈x.Q.L,t.At≤9223372036854775807):∃b,a87 (hO x)=some b∧(b=true↔((∀t∈x.Q.L,TkP x t)∧x.Q.L.Pairwise (λa b=>¬TkS a b)∧x.Q.Cap=30∧x.Q.L.length≤30)):=by
 have hlen:(hO x).Q.L.length=x.Q.L.length:=by simp[hO,tqR]
 unfold a87;simp only[jn];rw[hlen];refine b5P x.Q.L.length (λi=>TkP x (x.Q.L.getD i tz)∧∀k,k<i→¬TkS (x.Q.L.getD k tz) (x.Q.L.getD i tz)) (by omega) (λi hi=>?_) (by simp) (λhall=>?_) (λhno=>?_)
 ·have hi':i<(hO x).Q.L.length:=by rw[hlen];exact hi
  have hg:(hO x).Q.L[i]=⟨(x.Q.L.getD i tz).Kind,(x.Q.L.getD i tz).At,(x.Q.L.getD i tz).Prog⟩:=by
   rw[F7 hi];simp[hO,tqR,tkR]
  have hat:=hB _ (List.getElem_mem hi);rw[←F7 hi tz] at hat;simp only[Int.ofNat_lt,hi,decide_true,if_true,o9 hi',d6y,hg];generalize ht:x.Q.L.getD i tz=t at hat;by_cases c1:((((t.Kind != 1)&&(t.Kind != 2))||(decide (t.Prog<0)))||(decide (t.Prog > 5)))=true
  ·rw[if_pos c1];refine⟨_,rfl,.inr ⟨λq=>?_,rfl⟩⟩;obtain⟨⟨q1,q2,q3⟩,_⟩:=q;simp only[Bool.or_eq_true,Bool.and_eq_true,bne_iff_ne,ne_eq,decide_eq_true_eq] at c1;rcases q3 with q3 | q3 <;> omega
  ·rw[if_neg c1];have c1':(t.Kind=1∨t.Kind=2)∧0≤t.Prog∧t.Prog≤5:=by
    simp only[Bool.or_eq_true,Bool.and_eq_true,bne_iff_ne,ne_eq,decide_eq_true_eq] at c1;omega
   refine b5P i (λk=>¬TkS (x.Q.L.getD k tz) t) (by omega) (λk hk=>?_) (by simp) (λhall=>?_) (λhno=>?_)
   ·have hk1:k<x.Q.L.length:=by omega
    have hk':k<(hO x).Q.L.length:=by rw[hlen];exact hk1
    have hgk:(hO x).Q.L[k]=⟨(x.Q.L.getD k tz).Kind,(x.Q.L.getD k tz).At,(x.Q.L.getD k tz).Prog⟩:=by
     rw[F7 hk1];simp[hO,tqR,tkR]
    simp only[Int.ofNat_lt,hk,decide_true,if_true,o9 hk',d6y,hgk];by_cases c:TkS (x.Q.L.getD k tz) t
    ·rw[if_pos (by simpa[TkS] using c)]
     exact⟨_,rfl,.inr ⟨λq=>q c,rfl⟩⟩
    ·rw[if_neg (by simpa[TkS] using c),l5]
     exact⟨_,rfl,.inl ⟨c,rfl⟩⟩
   ·dsimp only;obtain⟨e,h1,h2⟩:=Q1 (s7.2 hR) hat;rw[show (hO x).S=sO x.S from rfl,a4h x.S (by have:=hR.len;omega) hat,h1,Option.map_some,d6y]
    by_cases c2:TkP x t
    ·rw[if_neg,l5];·exact⟨_,rfl,.inl ⟨⟨c2,hall⟩,rfl⟩⟩
     ·obtain⟨_,_,q | q⟩:=c2
      ·have:=h2.2 q.2.1;simp[q.1,this,oo,q.2.2]
      ·simp[q.1];omega
    ·rw[if_pos];·exact⟨_,rfl,.inr ⟨λq=>c2 q.1,rfl⟩⟩
     ·simp only[Bool.or_eq_true,Bool.and_eq_true,beq_iff_eq,bne_iff_ne,ne_eq,Bool.not_eq_true',decide_eq_true_eq,oo];rcases c1'.1 with k1 | k2
      ·left;refine⟨k1,Classical.byContradiction λq=>c2 ⟨c1'.2.1,c1'.2.2,.inl ⟨k1,?_,?_⟩⟩⟩;·exact h2.1 (Classical.byContradiction λq2=>q (.inl q2))
       ·cases hst:(ob x.S t.At).Started;·exact absurd (.inr hst) q
        ·rfl
      ·right;refine⟨k2,?_⟩;have:¬(0≤t.At∧t.At≤5):=λq=>c2 ⟨c1'.2.1,c1'.2.2,.inr ⟨k2,q.1,q.2⟩⟩;omega
   ·exact⟨_,rfl,.inr ⟨λq=>hno q.2,rfl⟩⟩
 ·refine⟨_,rfl,?_⟩;rw[Bool.and_eq_true,beq_iff_eq,decide_eq_true_iff];constructor
  ·rintro⟨a,b⟩;refine⟨λt ht=>?_,?_,a,by first | exact_mod_cast b | (simp[hO,tqR] at b;omega)⟩
   ·obtain⟨i,hi,rfl⟩:=List.getElem_of_mem ht;have:=(hall i hi).1;rwa [F7 hi] at this
   ·rw[List.pairwise_iff_getElem];intro i j hi hj hij;have:=(hall j hj).2 i hij;rwa [F7 hi,F7 hj] at this
  ·rintro⟨_,_,a,b⟩;exact⟨a,by first | exact_mod_cast b | (simp[hO,tqR];omega)⟩
 ·refine⟨false,rfl,?_⟩;simp only[Bool.false_eq_true,false_iff];rintro⟨a,b,_⟩;refine hno λi hi=>⟨?_,λk hk=>?_⟩
  ·rw[F7 hi];exact a _ (List.getElem_mem hi)
  ·have hk1:k<x.Q.L.length:=by omega
   rw[F7 hi,F7 hk1];exact List.pairwise_iff_getElem.1 b k i hk1 hi hk
theorem c9o(hT:HR x.T)(hB:HB x)(hr:x.Roots.length≤1000):∃b,a86 (hO x)=some b∧(b=true↔((∀h∈x.Roots,h=0∨h∈lv x.S)∧(∀h∈lv x.S,∀v∈(ob x.S h).Fields,v=0∨v∈lv x.S)∧∀k v,Has x.T k v→k∈lv x.S∧v∈lv x.S)):=by
 have hlen:(hO x).Roots.length=x.Roots.length:=rfl;have h24:=F3 (s7.2 hR);unfold a86;simp only[jn];refine b5P x.Roots.length (λi=>x.Roots.getD i 0=0∨x.Roots.getD i 0∈lv x.S) (by omega) (λi hi=>?_) (by simp[hlen]) (λhall=>?_) (λhno=>?_)
 ·have hb:=hB.rb _ (List.getElem_mem hi);rw[hlen];simp only[Int.ofNat_lt,hi,decide_true,if_true];rw[show (hO x).Roots=x.Roots from rfl,o9 hi,d6y,a6J hR hb,d6y,F7 hi];by_cases c:x.Roots[i]=0∨x.Roots[i]∈lv x.S
  ·rw[decide_eq_true c,if_neg (by simp),l5]
   exact⟨_,rfl,.inl ⟨c,rfl⟩⟩
  ·rw[decide_eq_false c,if_pos (by simp)]
   exact⟨_,rfl,.inr ⟨c,rfl⟩⟩
 ·dsimp only;have hall':∀h∈x.Roots,h=0∨h∈lv x.S:=λh hh=>by
   obtain⟨i,hi,rfl⟩:=List.getElem_of_mem hh;have:=hall i hi;rwa [F7 hi] at this
  rw[show (hO x).S=sO x.S from rfl,a5r (s7.2 hR),d6y];refine b5P (lv x.S).length (λi=>∀v∈(ob x.S ((lv x.S).getD i 0)).Fields,v=0∨v∈lv x.S) (by omega) (λi hi=>?_) (by simp) (λhall2=>?_) (λhno=>?_)
  ·have hm:=List.getElem_mem hi;have hle:=c20 (s7.2 hR) hi;have hfl:=(J4 hR hm).fl;simp only[Int.ofNat_lt,hi,decide_true,if_true];rw[o9 hi,d6y,a4h x.S (by have:=hR.len;omega) hle,b2j (s7.2 hR) hm,Option.map_some,d6y,F7 hi]
   have hff:(oo (ob x.S (lv x.S)[i])).Fields=(ob x.S (lv x.S)[i]).Fields:=rfl;dsimp only;rw[hff];refine b5P (ob x.S (lv x.S)[i]).Fields.length (λk=>(ob x.S (lv x.S)[i]).Fields.getD k 0=0∨(ob x.S (lv x.S)[i]).Fields.getD k 0∈lv x.S) (by omega) (λk hk=>?_) (by simp) (λhall3=>?_) (λhno=>?_)
   ·have hp:=A1 hR hm;have hb:(ob x.S (lv x.S)[i]).Fields[k]≤9223372036854775807:=by
     have e:=O3 hR hp;exact d0B.1 hB.fb _ hp.1 _ (by rw[←e];exact List.getElem_mem hk)
    simp only[Int.ofNat_lt,hk,decide_true,if_true];rw[o9 hk,d6y,a6J hR hb,d6y,F7 hk];by_cases c:(ob x.S (lv x.S)[i]).Fields[k]=0∨(ob x.S (lv x.S)[i]).Fields[k]∈lv x.S
    ·rw[decide_eq_true c,if_neg (by simp),l5]
     exact⟨_,rfl,.inl ⟨c,rfl⟩⟩
    ·rw[decide_eq_false c,if_pos (by simp)]
     exact⟨_,rfl,.inr ⟨c,rfl⟩⟩
   ·dsimp only;rw[l5];refine⟨_,rfl,.inl ⟨λv hv=>?_,rfl⟩⟩;obtain⟨k,hk,rfl⟩:=List.getElem_of_mem hv;have:=hall3 k hk;rwa [F7 hk] at this
   ·refine⟨_,rfl,.inr ⟨λq=>hno λk hk=>?_,rfl⟩⟩;rw[F7 hk];exact q _ (List.getElem_mem hk)
  ·dsimp only;have hall2':∀h∈lv x.S,∀v∈(ob x.S h).Fields,v=0∨v∈lv x.S:=λh hh=>by
    obtain⟨i,hi,rfl⟩:=List.getElem_of_mem hh;have:=hall2 i hi;rwa [F7 hi] at this
   have h8:=a4o hT.l8;rw[show (hO x).T=x.T.map J3 from rfl,b2E hT,d6y,List.length_map];refine b5P (prs x.T).length (λi=>((prs x.T).getD i ⟨0,0⟩).Key∈lv x.S∧((prs x.T).getD i ⟨0,0⟩).Val∈lv x.S) (by omega) (λi hi=>?_) (by simp) (λhall3=>?_) (λhno=>?_)
   ·have hi':i<((prs x.T).map pp).length:=by simpa using hi
    have hb:=hB.tb.has (a05.1 (List.getElem_mem hi));simp only[Int.ofNat_lt,hi,decide_true,if_true];rw[o9 hi',d6y,List.getElem_map,a6H hR hb.1,d6y,F7 hi];by_cases c:(prs x.T)[i].Key∈lv x.S
    ·rw[decide_eq_true c];simp only[Bool.not_true,beq_self_eq_true,U7,Bool.false_or];rw[a6H hR hb.2,d6y];by_cases c2:(prs x.T)[i].Val∈lv x.S
     ·rw[decide_eq_true c2,if_neg (by simp),l5]
      exact⟨_,rfl,.inl ⟨⟨c,c2⟩,rfl⟩⟩
     ·rw[decide_eq_false c2,if_pos (by simp)]
      exact⟨_,rfl,.inr ⟨λq=>c2 q.2,rfl⟩⟩
    ·rw[decide_eq_false c];simp only[Bool.not_false,show ((true==false):Bool)=false from rfl,a79,d6y,Bool.true_or,if_true];exact⟨_,rfl,.inr ⟨λq=>c q.1,rfl⟩⟩
   ·refine⟨true,rfl,?_⟩;simp only[true_iff];refine⟨hall',hall2',λk v hkv=>?_⟩;obtain⟨i,hi,e⟩:=List.getElem_of_mem (a05 (p:=⟨k,v⟩).2 hkv);have:=hall3 i hi;rw[F7 hi,e] at this;exact this
   ·refine⟨false,rfl,?_⟩;simp only[Bool.false_eq_true,false_iff];rintro⟨_,_,q⟩;refine hno λi hi=>?_;rw[F7 hi];exact q _ _ (a05.1 (List.getElem_mem hi))
  ·refine⟨false,rfl,?_⟩;simp only[Bool.false_eq_true,false_iff];rintro⟨_,q,_⟩;refine hno λi hi=>?_;rw[F7 hi];exact q _ (List.getElem_mem hi)
 ·refine⟨false,rfl,?_⟩;simp only[Bool.false_eq_true,false_iff];rintro⟨q,_⟩;refine hno λi hi=>?_;rw[F7 hi];exact q _ (List.getElem_mem hi)
def ClP(x:Hp)(i:Nat)(c:g5):Prop:=-1≤c.Call∧c.Call≤5∧(c.Target=0→c.Intact=false)∧(c.Target≠0→∃p,V4 x.S c.Target p)∧(c.Intact=true→c.Target∈lv x.S∧wts x.Q i=false)
theorem c8Q(hl:x.a8.length≤1000)(hq:x.Q.L.length≤1000)(hB:∀c∈x.a8,c.Target≤9223372036854775807):∃b,a85 (hO x)=some b∧(b=true↔∀i (hi:i<x.a8.length),ClP x i x.a8[i]):=by
 have hlen:(hO x).a8.length=x.a8.length:=by simp[hO]
 unfold a85;simp only[jn];rw[hlen];refine b5P x.a8.length (λi=>ClP x i (x.a8.getD i cz0)) (by omega) (λi hi=>?_) (by simp) (λhall=>⟨true,rfl,?_⟩) (λhno=>⟨false,rfl,?_⟩)
 ·have hi':i<(hO x).a8.length:=by rw[hlen];exact hi
  have hg:(hO x).a8[i]=⟨(x.a8.getD i cz0).Target,(x.a8.getD i cz0).Intact,(x.a8.getD i cz0).Call⟩:=by
   rw[F7 hi];simp[hO,wcR]
  have hb:=hB _ (List.getElem_mem hi);rw[←F7 hi cz0] at hb;simp only[Int.ofNat_lt,hi,decide_true,if_true,o9 hi',d6y,hg];generalize x.a8.getD i cz0=c at hb;rw[show (hO x).S=sO x.S from rfl,a2Y _ (by rw[C0];have:=hR.len;omega),d6y]
  rw[a99 x.S hb];obtain⟨z,z1,z2⟩:∃z,w8 x.S.S c.Target=some z∧(z.2=0↔∃p,V4 x.S c.Target p):=by
   by_cases q:∃p,V4 x.S c.Target p
   ·obtain⟨p,hp⟩:=q;exact⟨_,a4R hR hp,by simp;exact⟨p,hp⟩⟩
   ·refine⟨_,a6r hR hb (λp hp=>q ⟨p,hp⟩),?_⟩;simp only[q,iff_false];exact a1M _
  rw[z1,d6y];by_cases c1:((((decide (c.Call<(-1)))||(decide (c.Call > 5)))||((c.Target==0)&&c.Intact))||((c.Target != 0)&&(z.2 != 0)))=true
  ·rw[c1];simp only[show ((true==false):Bool)=false from rfl,Bool.false_and,a79,d6y,Bool.true_or,if_true];refine⟨_,rfl,.inr ⟨λq=>?_,rfl⟩⟩;obtain⟨q1,q2,q3,q4,q5⟩:=q;simp only[Bool.or_eq_true,Bool.and_eq_true,decide_eq_true_eq,beq_iff_eq,bne_iff_ne,ne_eq] at c1;rcases c1 with ((c1 | c1) | c1) | c1
   ·omega
   ·omega
   ·have:=q3 c1.1;rw[this] at c1;exact absurd c1.2 (by decide)
   ·exact c1.2 (z2.2 (q4 c1.1))
  ·have c1:((((decide (c.Call<(-1)))||(decide (c.Call > 5)))||((c.Target==0)&&c.Intact))||((c.Target != 0)&&(z.2 != 0)))=false:=by simpa using c1
   have c1' : -1≤c.Call∧c.Call≤5∧(c.Target=0→c.Intact=false)∧(c.Target≠0→∃p,V4 x.S c.Target p):=by
    simp only[Bool.or_eq_false_iff,Bool.and_eq_false_iff,decide_eq_false_iff_not,beq_eq_false_iff_ne,ne_eq,bne_eq_false_iff_eq] at c1;refine⟨by omega,by omega,λq=>c1.1.2.resolve_left (λq2=>q2 q),λq=>z2.1 (c1.2.resolve_left q)⟩
   rw[c1];simp only[beq_self_eq_true,Bool.true_and,Bool.false_or];cases hin:c.Intact
   ·simp only[show ((false==true):Bool)=false from rfl,a79,d6y,Bool.false_and,Bool.false_eq_true,if_false];rw[l5];exact⟨_,rfl,.inl ⟨⟨c1'.1,c1'.2.1,λ_=>hin,c1'.2.2.2,λq=>by rw[hin] at q;cases q⟩,rfl⟩⟩
   ·simp only[beq_self_eq_true,U7,Bool.true_and];rw[a6H hR hb,d6y];by_cases c2:c.Target∈lv x.S
    ·rw[decide_eq_true c2];simp only[Bool.not_true,beq_self_eq_true,U7,Bool.false_or];rw[show a2B (hO x).Q i=some (wts x.Q i) from c3k hq,d6y];cases hwt:wts x.Q i
     ·rw[if_neg (by decide),l5]
      exact⟨_,rfl,.inl ⟨⟨c1'.1,c1'.2.1,c1'.2.2.1,c1'.2.2.2,λ_=>⟨c2,hwt⟩⟩,rfl⟩⟩
     ·rw[if_pos rfl];refine⟨_,rfl,.inr ⟨λq=>?_,rfl⟩⟩;have:=(q.2.2.2.2 hin).2;rw[hwt] at this;cases this
    ·rw[decide_eq_false c2];simp only[Bool.not_false,show ((true==false):Bool)=false from rfl,a79,d6y,Bool.true_or,if_true];exact⟨_,rfl,.inr ⟨λq=>c2 (q.2.2.2.2 hin).1,rfl⟩⟩
 ·simp only[true_iff];intro i hi;have:=hall i hi;rwa [F7 hi] at this
 ·simp only[Bool.false_eq_true,false_iff];intro q;refine hno λi hi=>?_;rw[F7 hi];exact q i hi
omit hR in
theorem c6B (l:List g5) (hl:l.length≤1000) (h:Int):a6W (l.map wcR) h=some (nmg l h:Int):=by
 unfold a6W;simp only[jn];rw[List.length_map,b2i l (λ(b:Int) c=>if ((h != 0)&&(c.Target==h))=true then b+1 else b) id (λk b=>0≤b∧b≤k) (by omega) (by omega) (λk hk b hI=>?_) (λb _=>by simp),d6y]
 ·congr 1;have:∀(l:List g5) (n:Int),l.foldl (λ(b:Int) c=>if ((h != 0)&&(c.Target==h))=true then b+1 else b) n=n+(nmg l h:Int):=λl=>by
   induction l with
   | nil=>intro n;simp[nmg]
   | cons c l ih=>
    intro n;rw[List.foldl_cons,ih];unfold nmg;rw[List.countP_cons];split <;> simp_all <;> omega
  rw[id,this];omega
 ·have hk':k<(l.map wcR).length:=by simpa using hk
  simp only[Int.ofNat_lt,hk,decide_true,if_true,o9 hk',d6y,List.getElem_map,wcR];by_cases c:((h != 0)&&(l[k].Target==h))=true
  ·rw[if_pos c,if_pos (by rw[Bool.and_comm];exact c),C6 (by omega) (by omega),l5]
   exact⟨rfl,by omega⟩
  ·rw[if_neg c,if_neg (by rw[Bool.and_comm];exact c),l5]
   exact⟨rfl,by omega⟩
omit hR in
theorem d2c {s:a7} {i:Nat} (hi:i<s.S.a8.length):ix (sO s).a8 (i:Int)=some ⟨(ce s i).State,(ce s i).Gen,⟨(ce s i).Val.Serial,(ce s i).Val.Strong,(ce s i).Val.Weak,(ce s i).Val.Prog,(ce s i).Val.Started,(ce s i).Val.Fields⟩⟩:=c6i hi
theorem d0n(hl:x.a8.length≤1000):∃b,a88 (hO x)=some b∧(b=true↔Wk x):=by
 have hlen:(hO x).S.a8.length=x.S.S.a8.length:=by simp[hO,sO]
 have h24:=hR.len;have l9:=hR.l9;unfold a88;simp only[jn];rw[hlen];refine b5P x.S.S.a8.length (λi=>Th (ce x.S i)→(ce x.S i).Val.Weak=(nmg x.a8 (1+(i:Int)+32*(ce x.S i).Gen):Int)∧((ce x.S i).State=2→1≤(ce x.S i).Val.Weak∧(ce x.S i).Val.Fields = []∧(ce x.S i).Val.Strong=0)) (by omega) (λi hi=>?_) (by simp) (λhall=>⟨true,rfl,by simp only[true_iff];exact λi hi=>hall i hi⟩) (λhno=>⟨false,rfl,by simp only[Bool.false_eq_true,false_iff];exact λq=>hno λi hi=>q i hi⟩)
 have hc:=hR.cell i hi;simp only[Int.ofNat_lt,hi,decide_true,if_true];rw[show (hO x).S=sO x.S from rfl,d2c hi,d6y];dsimp only;by_cases ht:Th (ce x.S i)
 ·rw[if_neg (by unfold Th at ht;simp only[Bool.and_eq_true,bne_iff_ne,ne_eq];omega)]
  unfold b0m;rw[a49,if_pos ⟨by omega,by omega,hc.2.2.1,by omega⟩,d6y,d6y,show (hO x).a8=x.a8.map wcR from rfl,c6B x.a8 hl,d6y]
  by_cases g:(ce x.S i).Val.Weak=(nmg x.a8 (1+(i:Int)+32*(ce x.S i).Gen):Int)∧((ce x.S i).State=2→1≤(ce x.S i).Val.Weak∧(ce x.S i).Val.Fields = []∧(ce x.S i).Val.Strong=0)
  ·rw[if_neg,l5];·exact⟨_,rfl,.inl ⟨λ_=>g,rfl⟩⟩
   ·obtain⟨g1,g2⟩:=g;simp only[Bool.or_eq_true,Bool.and_eq_true,bne_iff_ne,ne_eq,beq_iff_eq,decide_eq_true_eq,not_or,not_and,Decidable.not_not];refine⟨g1,λq=>?_⟩;obtain⟨a,b,c⟩:=g2 q;rw[b];exact⟨⟨by omega,by simp⟩,c⟩
  ·rw[if_pos];·exact⟨_,rfl,.inr ⟨λq=>g (q ht),rfl⟩⟩
   ·simp only[Bool.or_eq_true,Bool.and_eq_true,bne_iff_ne,ne_eq,beq_iff_eq,decide_eq_true_eq];by_cases g1:(ce x.S i).Val.Weak=(nmg x.a8 (1+(i:Int)+32*(ce x.S i).Gen):Int)
    ·right;refine Classical.byContradiction λq=>g ⟨g1,λq2=>?_⟩;have q:¬(((ce x.S i).Val.Weak<1∨((ce x.S i).Val.Fields.length:Int) > 0)∨¬(ce x.S i).Val.Strong=0):=λq3=>q ⟨q2,q3⟩;refine⟨by omega,List.eq_nil_of_length_eq_zero (by omega),by omega⟩
    ·exact .inl g1
 ·rw[if_pos (by unfold Th at ht;simp only[Bool.and_eq_true,bne_iff_ne,ne_eq];omega),l5]
  exact⟨_,rfl,.inl ⟨λq=>absurd q ht,rfl⟩⟩
omit hR in
theorem c1v (l:List Int) (hl:l.length≤1000):lp (S:=Int × (List Int)) (E:=(List Int)) (λ((s17,s18):Int × (List Int))=>
   if (decide (s17<(l.length:Int))) then
     (ix l s17).bind λv25=>
     if (v25 != 0) then
      (app 8 s18 [v25]).bind λv26=>
      some (.inl (u5 (s17+1),v26))
     else
     some (.inl (u5 (s17+1),s18))
   else
   some (.inr s18)) (0,[])=some (nz l):=by
 rw[F9 l (λb x=>if (x != 0)=true then b ++ [x] else b) id (λk b=>b.length≤k) (by omega) (by simp) (λk hk b hI=>?_) (λb _=>by simp)]
 ·rw[foldl_filter];rfl
 ·simp only[Int.ofNat_lt,hk,decide_true,if_true,o9 hk,d6y];rw[l5];by_cases c:(l[k] != 0)=true
  ·rw[if_pos c,if_pos c,A2 (by omega) (by simp;omega),d6y]
   exact⟨rfl,by simp;omega⟩
  ·rw[if_neg c,if_neg c];exact⟨rfl,by omega⟩
omit hR in
theorem c3b (hl:x.Roots.length≤1000) (hq:x.Q.L.length≤1000):(otr x).length≤2000:=by
 unfold otr b3j;rw[List.length_append,List.length_map];have:=c1p x.Roots;have:(x.Q.L.filter (·.Kind==1)).length≤x.Q.L.length:=List.length_filter_le ..
 omega
omit hR in
theorem c9F (hl:x.Roots.length≤1000) (hq:x.Q.L.length≤1000):a84 (hO x)=some (otr x):=by
 unfold a84;simp only[jn];rw[show (hO x).Roots=x.Roots from rfl,show lp _ _=_ from c1v x.Roots hl,d6y,show a8h (hO x).Q=some (b3j x.Q) from d2O hq,d6y];have:=c3b hl hq;unfold otr at this ⊢;rw[List.length_append] at this;rw[A2 (by omega) (by omega)]
 rfl
omit hR in
theorem b9o:b84 x.S x.T (otr x)↔a1l x []:=by
 constructor
 ·intro h k hk hlt;have:=h k hk hlt;unfold rst inr at this;rw[if_pos hk] at this;rw[P9];unfold nms;omega
 ·intro h k hk hlt;have:=h k hk hlt;rw[P9] at this;unfold nms at this;unfold rst inr;rw[if_pos hk];omega
end
theorem b9A(x:Hp)(hB:HB x)(hc:x.S.S.a8.length≤1000)(hr:x.Roots.length≤1000)(hl:x.a8.length≤1000)(ht:x.T.length≤1000)(hq:x.Q.L.length≤1000):∃b,a5Y (hO x)=some b∧(b=true↔M2 x):=by
 unfold a5Y;obtain⟨b1,e1,h1⟩:=c7Y (sO x.S) (by rw[C0];exact hc)
 obtain⟨b2,e2,h2⟩:=c4G x.T ht;rw[show (hO x).S=sO x.S from rfl,e1,d6y,show (hO x).T=x.T.map J3 from rfl,e2];have hno:∀ {P:Prop},¬P→(false=true↔P):=λq=>by simp[q]
 cases b1
 ·refine⟨false,by simp[u4],hno λq=>?_⟩
  have:=h1.2 (s7.2 q.sh.sr);cases this
 ·have hR:=s7.1 (h1.1 rfl);cases b2
  ·refine⟨false,by simp[u4],hno λq=>?_⟩
   have:=h2.2 q.sh.hr;cases this
  ·have hT:=h2.1 rfl;simp only[Bool.not_true,beq_self_eq_true,U7,d6y,Bool.or_self,Bool.false_or];by_cases hlen:x.Roots.length=6∧x.a8.length=6
   ·rw[if_neg (by simp[hO];omega)]
    obtain⟨b3,e3,h3⟩:=d0e hR hq hB.qb;rw[e3,d6y];cases b3
    ·refine⟨false,by simp[u4],hno λq=>?_⟩
     have:=h3.2 ⟨q.sh.tk,q.sh.td,q.sh.cap,q.sh.q30⟩;cases this
    ·obtain⟨t1,t2,t3,t4⟩:=h3.1 rfl;obtain⟨b4,e4,h4⟩:=c9o hR hT hB hr;simp only[beq_self_eq_true,U7,Bool.true_and];rw[e4,d6y];cases b4
     ·refine⟨false,by simp[u4],hno λq=>?_⟩
      have:=h4.2 ⟨q.sh.rt,q.sh.fl,q.sh.pr⟩;cases this
     ·obtain⟨n1,n2,n3⟩:=h4.1 rfl;obtain⟨b5,e5,h5⟩:=c8Q hR hl hq hB.cb;simp only[beq_self_eq_true,U7,Bool.true_and];rw[e5,d6y];cases b5
      ·refine⟨false,by simp[u4],hno λq=>?_⟩
       have:=h5.2 q.sh.cl;cases this
      ·have c1:=h5.1 rfl;obtain⟨b6,e6,h6⟩:=d0n hR hl;simp only[beq_self_eq_true,U7,Bool.true_and];rw[e6,d6y];cases b6
       ·refine⟨false,by simp[u4],hno λq=>?_⟩
        have:=h6.2 q.wk;cases this
       ·have w1:=h6.1 rfl;simp only[beq_self_eq_true,U7,Bool.true_and];rw[c9F hr hq,d6y,c39 (s7.2 hR) hT hB.sb (by have:=c3b hr hq;omega),d6y]
        refine⟨_,rfl,?_⟩;rw[decide_eq_true_iff,b9o];exact⟨λq=>⟨⟨hR,hT,hlen.1,hlen.2,t3,t4,t1,t2,n1,n2,n3,c1⟩,w1,q⟩,λq=>q.fair⟩
   ·rw[if_pos (by simp[hO];omega)]
    exact⟨false,rfl,hno λq=>hlen ⟨q.sh.r6,q.sh.c6⟩⟩
end Go.Sh
namespace Go.Sh
section
variable{x:Hp}(hx:M2 x)(hB:HB x)
include hx hB
end
end Go.Sh
namespace Go.Sh
def SL(x:Hp):Prop:=∀k∈lv x.S,(ob x.S k).Strong≤9223372036854775807
theorem SB.sl{x:Hp}(hR:SR x.S)(h:SB x.S):SL x:=λk hk=>c4P hR h k hk
theorem c58{x:Hp}(hx:M2 x)(hS:SL x):HB x:=by
 have hR:=hx.sh.sr;have bd:∀v,v=0∨v∈lv x.S→v≤9223372036854775807:=λv q=>by
  rcases q with q | q
  ·omega
  ·have:=H4 hR q;omega
 refine⟨d4S.2 λi hi=>?_,d0B.2 λi hi v hv=>?_,λv hv=>bd v (hx.sh.rt v hv),λc hc=>?_,λp hp=>?_,λt ht=>?_⟩
 ·by_cases t:Th (ce x.S i)
  ·rcases t with t | t
   ·have q:At x.S (1+(i:Int)+32*(ce x.S i).Gen) i:=⟨hi,t,rfl⟩;have:=hS _ ((a28 hR).2 ⟨i,q⟩);rwa [O3 hR q] at this
   ·have:=((hx.wk i hi (.inr t)).2 t).2.2;omega
  ·have:=(hR.no i hi t).2.1;simp only[oo] at this;omega
 ·by_cases t:Th (ce x.S i)
  ·rcases t with t | t
   ·have q:At x.S (1+(i:Int)+32*(ce x.S i).Gen) i:=⟨hi,t,rfl⟩;have hm:=(a28 hR).2 ⟨i,q⟩;exact bd v (hx.sh.fl _ hm v (by rw[O3 hR q];exact hv))
   ·rw[((hx.wk i hi (.inr t)).2 t).2.1] at hv;cases hv
  ·have:=(hR.no i hi t).2.2.2.2.2;simp only[oo] at this;rw[List.eq_nil_of_length_eq_zero this] at hv;cases hv
 ·obtain⟨i,hi,rfl⟩:=List.getElem_of_mem hc;by_cases e:x.a8[i].Target=0
  ·omega
  ·obtain⟨p,hp⟩:=(hx.sh.cl i hi).2.2.2.1 e;have:=hp.rng hR;omega
 ·obtain⟨i,hi,rfl⟩:=List.getElem_of_mem hp;have e:pt x.T i=x.T[i]:=by
   unfold pt;rw[List.getD_eq_getElem?_getD,List.getElem?_eq_getElem hi];rfl
  by_cases s1:(pt x.T i).State=1
  ·obtain⟨a,b⟩:=hx.sh.pr (pt x.T i).Key (pt x.T i).Val ⟨i,⟨hi,s1,rfl⟩,rfl⟩;rw[e] at a b;exact⟨bd _ (.inr a),bd _ (.inr b)⟩
  ·obtain⟨a,b⟩:=(hx.sh.hr.st i hi).2 s1;rw[e] at a b;omega
 ·obtain⟨_,_,q | q⟩:=hx.sh.tk t ht;·exact bd _ (.inr q.2.1)
  ·omega
theorem d4T{s:a7}(hR:SR s):Sm s:=by
 refine⟨by have:=hR.len;omega,λi hi=>?_⟩
 by_cases t:Th (ce s i)
 ·have:=(hR.ok i hi t).fl;rw[E5 hi] at this;omega
 ·have:=(hR.no i hi t).2.2.2.2.2;simp only[oo] at this;rw[E5 hi] at this;omega
theorem c9b(c:Int):U4 c≤12:=by unfold U4;split <;> (try split) <;> omega
theorem c8W{c:Int}(h:c≤9223372036854775807):a5G c≤9223372036854775807:=by unfold a5G;split <;> (try split) <;> omega
theorem SL.of{x y:Hp}(h:SL x)(hl:lv y.S=lv x.S)(hs:∀k∈lv x.S,(ob y.S k).Strong=(ob x.S k).Strong):SL y:=λk hk=>by
 rw[hl] at hk;rw[hs k hk];exact h k hk
theorem SL.st{x:Hp}(h:SL x)(hR:SR x.S)(v:Int){f:Int→Int}(hf:∀c,0≤c→0≤f c)(hb:∀c,c≤9223372036854775807→f c≤9223372036854775807):SL (stO x v f):=λk hk=>by
 rw[(G2 hR v hf).lv] at hk;rw[b2L hR v hf hk];split;·exact hb _ (h k hk)
 ·exact h k hk
theorem SL.C5{x:Hp}(h:SL x)(hR:SR x.S)(v:Int):SL (C5 x v):=h.st hR v (λc=>D8) λc _=>by have:=c9b c;omega
theorem SL.rls{x:Hp}(h:SL x)(hR:SR x.S)(v:Int):SL (Q3 x v):=h.st hR v (λc=>N9) λc hc=>c8W hc
theorem c1N{x:Hp}(hR:SR x.S)(v:Int):SR (Q3 x v).S:=(G2 hR v λc=>N9).sr
theorem a4x{x:Hp}(hR:SR x.S)(h:SL x)(r:Nat)(v:Int):SL (G1 x r v):=by
 unfold G1;exact SL.rls (x:=wR (C5 x v) (x.Roots.set r v)) (h.C5 hR v) (a3w hR v) _
theorem c4a{x:Hp}(hR:SR x.S)(hS:SL x){h:Int}(hh:h∈lv x.S)(k:Nat)(v:Int):SL (a09 x h k v):=by
 have kin:=G2 hR v (f:=U4) λc=>D8;have hR1:SR (C5 x v).S:=kin.sr;have hl1:h∈lv (C5 x v).S:=by rw[show lv (C5 x v).S=lv x.S from kin.lv];exact hh
 have hof:(ob (C5 x v).S h).Fields=(ob x.S h).Fields:=by
  obtain⟨m,e⟩:=kin.ob h (by have:=H4 hR hh;omega)
  show (ob (stO x v U4).S h).Fields=_;rw[e]
 have ok:=J4 hR1 hl1;have ho:OkO (C5 x v).S (flg (ob (C5 x v).S h) ((ob x.S h).Fields.set k v)):=⟨ok.s1,ok.s2,ok.st,ok.wk,ok.p1,ok.p2,by have:=ok.fl;rw[hof] at this;simpa using this⟩
 have sr2:=a0Q (o:=flg (ob (C5 x v).S h) ((ob x.S h).Fields.set k v)) hR1 hl1 rfl ho;unfold a09;refine SL.rls (x:=wS (C5 x v) (seO (C5 x v).S h (flg (ob (C5 x v).S h) ((ob x.S h).Fields.set k v)))) ?_ sr2 _;refine (hS.C5 hR v).of (a3x hR1 hl1 rfl ho) λj hj=>?_;dsimp only;rw[a2H (o:=flg (ob (C5 x v).S h) ((ob x.S h).Fields.set k v)) hR1 hl1 rfl ho (by have:=H4 hR1 hj;omega)]
 split;·rename_i e;rw[e]
 ·rfl
theorem c6V{x:Hp}(hR:SR x.S)(hS:SL x)(v:Int)(t:Tb)(old:Int):SL (a5S x v t old):=by
 unfold a5S;exact SL.rls (x:=wT (C5 x v) t) (hS.C5 hR v) (a3w hR v) _
theorem d2l{x:Hp}(hR:SR x.S)(hS:SL x)(h:Int){d:Int}(hd:V4 x.S h (D5 h)→0≤(ce x.S (D5 h)).Val.Weak+d):SL (mkd x h d):=by
 unfold mkd;split
 ·rename_i q;exact hS.of (a6K hR q.1 q.2.1 (hd q)).lv λk hk=>a6L hR q.1 q.2.1 (hd q) hk
 ·exact hS
theorem c3L{x:Hp}(hR:SR x.S)(hS:SL x)(h:Int)(hd:V4 x.S h (D5 h)→1≤(ce x.S (D5 h)).Val.Weak):SL (a8C x h):=by
 unfold a8C;split
 ·rename_i q;have hd:=hd q;have kn:=a6K (d:=-1) hR q.1 q.2.1 (by omega)
  have s1:SL (wS x (mkA x.S (D5 h) (-1))):=hS.of kn.lv λk hk=>a6L hR q.1 q.2.1 (by omega) hk
  split
  ·rename_i c;have hi1:D5 h<(mkA x.S (D5 h) (-1)).S.a8.length:=by rw[kn.len];exact q.1
   have hce:ce (mkA x.S (D5 h) (-1)) (D5 h)=⟨(ce x.S (D5 h)).State,(ce x.S (D5 h)).Gen,wkg (ce x.S (D5 h)).Val ((ce x.S (D5 h)).Val.Weak + -1)⟩:=by
    rw[a3t hR q.1 q.2.1,if_pos rfl]
   have h2:(ce (mkA x.S (D5 h) (-1)) (D5 h)).State=2:=by rw[hce];exact c.1
   exact s1.of (b7C kn.sr hi1 h2) λk hk=>by
    dsimp only;rw[b7D kn.sr hi1 h2 hk]
  ·exact s1
 ·exact hS
theorem c7G{x:Hp}(hx:M2 x)(hS:SL x){n:Nat}(hn:n<6)(h call:Int):SL (a2m x n h call):=by
 have hR:=hx.sh.sr;have hnl:n<x.a8.length:=by have:=hx.sh.c6;omega
 have ok:∀k i,V4 x.S k i→0≤(ce x.S i).Val.Weak:=λk i q=>(hR.ok i q.1 q.2.1).wk;have tw:∀i,V4 x.S (tgt x n) i→1≤(ce x.S i).Val.Weak:=λi q=>by
  have htg:tgt x n=x.a8[n].Target:=by
   unfold tgt;rw[List.getD_eq_getElem?_getD,List.getElem?_eq_getElem hnl];rfl
  have r:=q.rng hR;have p:=b1h hnl (by rw[←htg];omega)
  rw[←htg,q.2.2] at p;have:=(hx.wk i q.1 q.2.1).1;omega
 unfold a2m;have s1:SL (mkd (wC x (x.a8.set n (wcl h call))) h 1):=d2l (x:=wC x (x.a8.set n (wcl h call))) hR hS h λq=>by
  have:=ok _ _ q;dsimp only;omega
 by_cases q:V4 x.S h (D5 h)
 ·have e:mkd (wC x (x.a8.set n (wcl h call))) h 1=wS (wC x (x.a8.set n (wcl h call))) (mkA x.S (D5 h) 1):=by
   unfold mkd;rw[if_pos q]
  have hd:=ok _ _ q;have kn:=a6K (d:=1) hR q.1 q.2.1 (by omega)
  rw[e] at s1 ⊢;refine c3L kn.sr s1 _ λq2=>?_;dsimp only at q2 ⊢;have q3:=(kn.ad _ _).1 q2;have:=tw _ q3;rw[a3t hR q.1 q.2.1];split
  ·rename_i e2;rw[e2] at this;show 1≤(ce x.S (D5 h)).Val.Weak+1;omega
  ·exact this
 ·have e:mkd (wC x (x.a8.set n (wcl h call))) h 1=wC x (x.a8.set n (wcl h call)):=by
   unfold mkd;rw[if_neg q]
  rw[e] at s1 ⊢;exact c3L (x:=wC x (x.a8.set n (wcl h call))) hR s1 _ λq2=>tw _ q2
section
variable{x:Hp}(hx:M2 x)(hS:SL x)
include hx hS
end
end Go.Sh
namespace Go.Sh
end Go.Sh
namespace Go.Sh
end Go.Sh
namespace Go.Sh
def b85(x:Hp):Prop:=Sm x.S∧x.Roots.length≤20∧x.a8.length≤20∧x.T.length≤20∧x.Q.L.length≤60
instance(x:Hp):Decidable (b85 x):=by unfold b85;infer_instance
theorem HpS.d4e{x:Hp}(h:HpS x):b85 x:=by
 have h1:=h.r6;have h2:=h.c6;have h3:=h.hr.l8;have h4:=h.q30;exact⟨d4T h.sr,by omega,by omega,by omega,by omega⟩
theorem c1M{x:Hp}(hx:M2 x)(hS:SL x):a5Y (hO x)=some true:=by
 obtain⟨f,f2,f3,f4,f5⟩:=hx.sh.d4e;obtain⟨b,h1,h2⟩:=b9A x (c58 hx hS) (by have:=f.1;omega) (by omega) (by omega) (by omega) (by omega)
 rw[h1,h2.2 hx]
end Go.Sh
namespace Go.Sh
def c4j:Hp:=⟨⟨⟨[],0⟩,0⟩,[],[],[],⟨[],0⟩⟩
theorem b5p(x:Hp)(h:Int)(f:Int→Int):(stO x h f).Roots=x.Roots∧(stO x h f).a8=x.a8∧(stO x h f).T=x.T∧(stO x h f).Q=x.Q:=by
 unfold stO;split <;> exact⟨rfl,rfl,rfl,rfl⟩
theorem a4w(x:Hp)(r:Nat)(h:Int):(G1 x r h).Roots=x.Roots.set r h∧(G1 x r h).a8=x.a8∧(G1 x r h).T=x.T∧(G1 x r h).Q=x.Q:=by
 obtain⟨a,b,c,d⟩:=b5p (wR (C5 x h) (x.Roots.set r h)) (x.Roots.getD r 0) a5G;obtain⟨a',b',c',d'⟩:=b5p x h U4;exact⟨a,b.trans b',c.trans c',d.trans d'⟩
section
variable{x:Hp}(hB:HB x)
include hB
end
end Go.Sh
namespace Go.Sh
abbrev ded(o:m8):m8:=⟨o.Serial,0,o.Weak,o.Prog,o.Started,[]⟩
def gnC(s:a7)(i:Nat):b8:=
 if (ce s i).Val.Weak=0 then (if (ce s i).Gen=s.S.Last then ⟨3,(ce s i).Gen,z0⟩ else ⟨0,(ce s i).Gen+1,z0⟩) else ⟨2,(ce s i).Gen,ded (ce s i).Val⟩
def gnA(s:a7)(d:Int):a7:=G9 s (D5 d) (gnC s (D5 d))
def gnL(s:a7)(ds:List Int):a7:=ds.foldl gnA s
theorem d1M(s:a7)(i:Nat):(gnC s i).State≠1:=by
 unfold gnC;split;·split <;> simp
 ·simp
theorem c1y{s:a7}(hR:SR s){a b:Int}(ha:a∈lv s)(hb:b∈lv s)(h:a≠b):D5 a≠D5 b:=λe=>by
 have h1:=A1 hR ha;have h2:=A1 hR hb;rw[e] at h1;exact h (h1.2.2.trans h2.2.2.symm)
section
variable{s:a7}(hR:SR s){d:Int}(hd:d∈lv s)
include hR hd
theorem c1h:SR (gnA s d):=by
 have q:=A1 hR hd;have hc:=hR.cell _ q.1;have ho:=hR.ok _ q.1 (.inl q.2.1);have no:b5J (oo z0):=⟨rfl,rfl,rfl,rfl,rfl,rfl⟩;unfold gnA gnC;split
 ·split;·exact hR.G9 q.1 ⟨by simp,by simp,hc.2.2.1,hc.2.2.2⟩ (λ_=>no) (λq=>absurd q (by unfold Th;simp))
  ·refine hR.G9 q.1 ⟨by simp,by simp,?_,?_⟩ (λ_=>no) (λq=>absurd q (by unfold Th;simp))
   ·show 0≤(ce s (D5 d)).Gen+1;omega
   ·show (ce s (D5 d)).Gen+1≤s.S.Last;omega
 ·exact hR.G9 q.1 ⟨by simp,by simp,hc.2.2.1,hc.2.2.2⟩ (λq=>absurd (.inr rfl) q) (λ_=>⟨⟨ho.s1,ho.s2,Int.le_refl _,ho.wk,ho.p1,ho.p2,Nat.zero_le _⟩,.inl q.2.1,rfl⟩)
theorem c55(j:Nat):ce (gnA s d) j=if j=D5 d then gnC s (D5 d) else ce s j:=K6 (A1 hR hd).1 _ j
theorem d1K:lv (gnA s d)=(lv s).filter λh=>decide (h≠d):=by
 have hS:=c1h hR hd;unfold gnA at hS ⊢;have hc:=d1M s (D5 d);rw[c22 hR (A1 hR hd).1 hc hS];refine List.filter_congr λh hh=>decide_eq_decide.2 ⟨λq e=>q (by rw[e]),λq=>c1y hR hh hd q⟩
theorem d1L{k:Int}(hk:k∈lv s)(hne:k≠d):ob (gnA s d) k=ob s k:=by
 have hS:=c1h hR hd;unfold gnA at hS ⊢;exact c29 hR (A1 hR hd).1 hS hk (c1y hR hk hd hne)
end
structure Gn (s s':a7) (ds:List Int):Prop where
 sr:SR s'
 len:s'.S.a8.length=s.S.a8.length
 last:s'.S.Last=s.S.Last
 ser:s'.Serial=s.Serial
 lv:lv s'=(lv s).filter λh=>decide (h∉ds)
 ob:∀k∈Sh.lv s,k∉ds→ob s' k=ob s k
 ce:∀j,ce s' j=if j∈ds.map D5 then gnC s j else ce s j
theorem a1Q:∀(ds:List Int) {s:a7} (hR:SR s),ds.Nodup→(∀d∈ds,d∈lv s)→Gn s (gnL s ds) ds
 | [],s,hR,_,_=>⟨hR,rfl,rfl,rfl,(List.filter_eq_self.2 (λa _=>by simp)).symm,λ_ _ _=>rfl,λj=>by simp[gnL]⟩
 | d::ds,s,hR,hn,hm=>by
  rw[List.nodup_cons] at hn;have hd:=hm d (List.mem_cons_self ..);have hlv:=d1K hR hd;have hm':∀e∈ds,e∈lv (gnA s d):=λe he=>by
   rw[hlv,List.mem_filter,decide_eq_true_iff];exact⟨hm e (List.mem_cons_of_mem _ he),λq=>hn.1 (q▸he)⟩
  have ih:=a1Q ds (c1h hR hd) hn.2 hm';refine⟨ih.sr,ih.len.trans (X4 ..),ih.last,ih.ser,?_,λk hk hne=>?_,λj=>?_⟩
  ·show lv (gnL (gnA s d) ds)=_;rw[ih.lv,hlv,List.filter_filter];refine List.filter_congr λh hh=>?_;rw[Bool.eq_iff_iff];simp only[Bool.and_eq_true,decide_eq_true_iff,List.mem_cons,not_or];exact⟨λq=>⟨q.2,q.1⟩,λq=>⟨q.2,q.1⟩⟩
  ·show ob (gnL (gnA s d) ds) k=_;rw[List.mem_cons,not_or] at hne;rw[ih.ob k (by rw[hlv,List.mem_filter,decide_eq_true_iff];exact⟨hk,hne.1⟩) hne.2,d1L hR hd hk hne.1]
  ·show ce (gnL (gnA s d) ds) j=_;have hg:∀e∈ds,D5 e≠D5 d:=λe he=>c1y hR (hm e (List.mem_cons_of_mem _ he)) hd λq=>hn.1 (q▸he);rw[ih.ce];by_cases h1:j∈ds.map D5
   ·obtain⟨e,he,rfl⟩:=List.mem_map.1 h1;rw[if_pos h1,if_pos (by rw[List.map_cons];exact List.mem_cons_of_mem _ h1)]
    unfold gnC;rw[c55 hR hd,if_neg (hg e he)];rfl
   ·rw[if_neg h1,c55 hR hd,List.map_cons];by_cases h2:j=D5 d
    ·subst h2;rw[if_pos rfl,if_pos (List.mem_cons_self ..)]
    ·rw[if_neg h2,if_neg];rw[List.mem_cons];exact λq=>q.elim h2 h1
theorem b62{α:Type}(p:α→Bool)(f:α→Nat):∀l:List α,(l.map f).sum=((l.filter p).map f).sum+((l.filter λx => !p x).map f).sum
 | []=>rfl
 | x::l=>by
  rw[List.map_cons,List.sum_cons,b62 p f l,List.filter_cons,List.filter_cons];cases p x <;> simp <;> omega
theorem c0v(f:Int→List Int)(y:Int):∀l:List Int,W5 (l.flatMap f) y=(l.map λx=>W5 (f x) y).sum
 | []=>P9 y
 | x::l=>by rw[List.flatMap_cons,K3,c0v f y l,List.map_cons,List.sum_cons]
theorem Gn.inn{s s':a7}{ds:List Int}(hR:SR s)(hn:ds.Nodup)(hm:∀d∈ds,d∈Sh.lv s)(g:Gn s s' ds)(y:Int):inn s' y+W5 (ds.flatMap (outs s)) y=inn s y:=by
 unfold Sh.inn;rw[g.lv,b62 (λh=>decide (h∉ds)) (λx=>W5 (outs s x) y) (Sh.lv s),c0v];have h1:((Sh.lv s).filter λh=>decide (h∉ds)).map (λx=>W5 (outs s' x) y)=((Sh.lv s).filter λh=>decide (h∉ds)).map λx=>W5 (outs s x) y:=List.map_congr_left λx hx=>by
  rw[List.mem_filter,decide_eq_true_iff] at hx;unfold Sh.outs;rw[g.ob x hx.1 hx.2]
 have h2:((Sh.lv s).filter λx => !decide (x∉ds)).Perm ds:=by
  rw[List.perm_ext_iff_of_nodup ((b1e (s7.2 hR)).filter _) hn];intro a;rw[List.mem_filter];simp only[decide_not,Bool.not_not,decide_eq_true_iff];exact⟨λq=>q.2,λq=>⟨hm a q,q⟩⟩
 rw[h1,(h2.map λx=>W5 (outs s x) y).sum_nat]
theorem b9P{L:List k8}(hd:L.Pairwise λa b=>¬(a.Kind=b.Kind∧a.At=b.At))(k:Int):((L.filter (·.Kind==k)).map (·.At)).Nodup:=by
 unfold List.Nodup;rw[List.pairwise_map];refine (hd.filter _).imp_of_mem λ{a b} ha hb h e=>?_;rw[List.mem_filter,beq_iff_eq] at ha hb;exact h ⟨ha.2.trans hb.2.symm,e⟩
theorem b5r{L:List k8}{m:List Int}(hd:L.Pairwise λa b=>¬(a.Kind=b.Kind∧a.At=b.At))(h:∀t∈L,(t.Kind=1∧t.At∈m)∨(t.Kind=2∧0≤t.At∧t.At≤5)):L.length≤m.length+6:=by
 have h1:L.length=(L.filter (·.Kind==1)).length+(L.filter (·.Kind==2)).length:=by
  rw[b0P (λt:k8=>t.Kind==1) L];congr 2;refine List.filter_congr λt ht=>?_;rcases h t ht with q | q
  ·simp[q.1]
  ·simp[q.1]
 have h2:=a4n (b9P hd 1) (m:=m) λa ha=>by
  obtain⟨t,ht,rfl⟩:=List.mem_map.1 ha;rw[List.mem_filter,beq_iff_eq] at ht;rcases h t ht.1 with q | q
  ·exact q.2
  ·omega
 have h3:=a4n (b9P hd 2) (m:=[0,1,2,3,4,5]) λa ha=>by
  obtain⟨t,ht,rfl⟩:=List.mem_map.1 ha;rw[List.mem_filter,beq_iff_eq] at ht;rcases h t ht.1 with q | q
  ·omega
  ·simp only[List.mem_cons,List.not_mem_nil,or_false];omega
 rw[List.length_map] at h2 h3;simp only[List.length_cons,List.length_nil] at h3;omega
theorem a5i{q:TQ}{w:Int}:wts q w=true↔∃t∈q.L,t.Kind=2∧t.At=w:=by
 unfold wts;rw[List.any_eq_true];simp
theorem b1g{q:TQ}{h:Int}:h∈b3j q↔∃t∈q.L,t.Kind=1∧t.At=h:=by
 unfold b3j;rw[List.mem_map];simp only[List.mem_filter,beq_iff_eq];exact⟨λ⟨t,⟨a,b⟩,c⟩=>⟨t,a,b,c⟩,λ⟨t,a,b,c⟩=>⟨t,⟨a,b⟩,c⟩⟩
abbrev cz:g5:=⟨0,false,0⟩
def a3H(ds:List Int)(c:g5):Bool:=c.Intact&&c.Target != 0&&decide (c.Target∈ds)
def a7Q(ds:List Int)(c:g5):g5:=if a3H ds c then ⟨c.Target,false,c.Call⟩ else c
def clr(l:List g5)(ds:List Int):List g5:=l.map (a7Q ds)
def cls(l:List g5)(ds:List Int):List Nat:=(List.range l.length).filter λw=>a3H ds (l.getD w cz)&&decide (0≤(l.getD w cz).Call)
def clt(l:List g5)(ds:List Int):List k8:=(cls l ds).map λ(w:Nat)=>⟨2,(w:Int),(l.getD w cz).Call⟩
theorem b7h(ds:List Int)(c:g5):(a7Q ds c).Target=c.Target∧(a7Q ds c).Call=c.Call∧((a7Q ds c).Intact=true↔c.Intact=true∧a3H ds c=false):=by
 unfold a7Q;cases h:a3H ds c
 ·rw[if_neg (by simp)]
  simp
 ·rw[if_pos rfl];simp
theorem c9p(l:List g5)(ds:List Int)(h:Int):nmg (clr l ds) h=nmg l h:=by
 unfold nmg clr;rw[List.countP_map];congr 1;funext c
 simp only[Function.comp_apply,(b7h ds c).1]
theorem a3K{l:List g5}{ds:List Int}{t:k8}:t∈clt l ds↔∃w,∃hw:w<l.length,t=⟨2,(w:Int),l[w].Call⟩∧a3H ds l[w]=true∧0≤l[w].Call:=by
 unfold clt cls;rw[List.mem_map];constructor
 ·rintro⟨w,hw,rfl⟩;rw[List.mem_filter,List.mem_range] at hw;obtain⟨h1,h2⟩:=hw;have e:l.getD w cz=l[w]:=by rw[List.getD_eq_getElem?_getD,List.getElem?_eq_getElem h1];rfl
  rw[e] at h2 ⊢;rw[Bool.and_eq_true,decide_eq_true_iff] at h2;exact⟨w,h1,rfl,h2.1,h2.2⟩
 ·rintro⟨w,hw,rfl,h2,h3⟩;have e:l.getD w cz=l[w]:=by rw[List.getD_eq_getElem?_getD,List.getElem?_eq_getElem hw];rfl
  refine⟨w,?_,by rw[e]⟩
  rw[List.mem_filter,List.mem_range,e,Bool.and_eq_true,decide_eq_true_iff];exact⟨hw,h2,h3⟩
theorem b6p(l:List g5)(ds:List Int):(clt l ds).Pairwise λa b=>¬(a.Kind=b.Kind∧a.At=b.At):=by
 unfold clt cls;rw[List.pairwise_map];refine (List.Pairwise.filter _ (List.nodup_range (n:=l.length))).imp λ{a b} h=>?_;rintro⟨_,e⟩;dsimp only at e;omega
end Go.Sh
namespace Go.Sh
def a4G(x:Hp)(ds:List Int)(t:Tb):Hp:=⟨gnL x.S ds,x.Roots,clr x.a8 ds,t,⟨x.Q.L++clt x.a8 ds,x.Q.Cap⟩⟩
theorem b4D(q:TQ)(l:List k8)(c:Int)(h:∀t∈l,t.Kind≠1):b3j ⟨q.L++l,c⟩=b3j q:=by
 unfold b3j;dsimp only;rw[List.filter_append];have:l.filter (λt=>t.Kind==1) = []:=by
  rw[List.filter_eq_nil_iff];intro t ht;simpa using h t ht
 rw[this,List.append_nil]
theorem c30{x:Hp}(hx:M2 x){ds:List Int}(hn:ds.Nodup)(hm:∀d∈ds,d∈lv x.S)
  (ho:∀d∈ds,d∉otr x)(hf:∀h∈lv x.S,h∉ds→∀v∈(ob x.S h).Fields,v∉ds)(hp:∀k v,Has x.T k v→k∉ds→v∉ds)
  {t:Tb}{vals:List Int}(ht:HR t)(h1:∀k v,Has t k v↔k∉ds∧Has x.T k v)(h2:∀y,own t y+W5 vals y=own x.T y) :
  HpS (a4G x ds t)∧Wk (a4G x ds t)∧a1l (a4G x ds t) (ds.flatMap (outs x.S)++vals):=by
 have hS:=hx.sh;have hR:=hS.sr;have g:=a1Q ds hR hn hm;have hlv:∀h,h∈lv (gnL x.S ds)↔h∈lv x.S∧h∉ds:=λh=>by rw[g.lv,List.mem_filter,decide_eq_true_iff]
 have hlen:(lv x.S).length≤24:=F3 (s7.2 hR);have hcl:∀w (hw:w<x.a8.length),a3H ds x.a8[w]=true→x.a8[w].Intact=true:=λw hw q=>by
  unfold a3H at q;rw[Bool.and_eq_true,Bool.and_eq_true] at q;exact q.1.1
 have htd:(x.Q.L++clt x.a8 ds).Pairwise λa b=>¬(a.Kind=b.Kind∧a.At=b.At):=by
  rw[List.pairwise_append];refine⟨hS.td,b6p ..,λa ha b hb q=>?_⟩;obtain⟨w,hw,rfl,hh,_⟩:=a3K.1 hb;have:=((hS.cl w hw).2.2.2.2 (hcl w hw hh)).2;rw[Bool.eq_false_iff] at this;exact this (a5i.2 ⟨a,ha,q.1,q.2⟩)
 have htk:∀t∈x.Q.L++clt x.a8 ds,0≤t.Prog∧t.Prog≤5∧((t.Kind=1∧t.At∈lv (gnL x.S ds)∧(ob (gnL x.S ds) t.At).Started=true)∨(t.Kind=2∧0≤t.At∧t.At≤5)):=λt htt=>by
  rcases List.mem_append.1 htt with q | q
  ·obtain⟨a,b,c⟩:=hS.tk t q;refine⟨a,b,?_⟩;rcases c with ⟨c1,c2,c3⟩ | c
   ·have hnd:t.At∉ds:=λhd=>ho _ hd (List.mem_append.2 (.inr (b1g.2 ⟨t,q,c1,rfl⟩)));exact .inl ⟨c1,(hlv _).2 ⟨c2,hnd⟩,by rw[g.ob _ c2 hnd];exact c3⟩
   ·exact .inr c
  ·obtain⟨w,hw,rfl,hh,hc⟩:=a3K.1 q;have c6:=hS.c6;have:=(hS.cl w hw).2.1;exact⟨hc,this,.inr ⟨rfl,by dsimp only;omega,by dsimp only;omega⟩⟩
 have hq30:(x.Q.L++clt x.a8 ds).length≤30:=by
  have:=b5r (m:=lv x.S) htd λt htt=>by
   rcases (htk t htt).2.2 with q | q
   ·exact .inl ⟨q.1,((hlv _).1 q.2.1).1⟩
   ·exact .inr q
  omega
 have hwts:∀i:Nat,wts x.Q i=false→(∀hi:i<x.a8.length,a3H ds x.a8[i]=false)→wts ⟨x.Q.L++clt x.a8 ds,x.Q.Cap⟩ i=false:=λi q1 q2=>by
  rw[Bool.eq_false_iff] at q1 ⊢;intro q;obtain⟨t,ht,a,b⟩:=a5i.1 q;rcases List.mem_append.1 ht with c | c
  ·exact q1 (a5i.2 ⟨t,c,a,b⟩)
  ·obtain⟨w,hw,rfl,hh,_⟩:=a3K.1 c;dsimp only at b;have:w=i:=by omega
   subst this;rw[q2 hw] at hh;cases hh
 refine⟨⟨g.sr,ht,hS.r6,?_,hS.cap,hq30,htk,htd,λh hh=>?_,λh hh v hv=>?_,λk v hkv=>?_,λi hi=>?_⟩,λi hi hti=>?_,λh hh hlt=>?_⟩
 ·unfold a4G clr;rw[List.length_map];exact hS.c6
 ·rcases hS.rt h hh with q | q
  ·exact .inl q
  ·have h0:h≠0:=λe=>a9w hR (e▸q);exact .inr ((hlv h).2 ⟨q,λhd=>ho h hd (List.mem_append.2 (.inl (a6O.2 ⟨hh,h0⟩)))⟩)
 ·obtain⟨a,b⟩:=(hlv h).1 hh;have hv':v∈(ob x.S h).Fields:=by
   have e:=g.ob h a b;unfold a4G at hv;rwa [e] at hv
  rcases hS.fl h a v hv' with q | q
  ·exact .inl q
  ·exact .inr ((hlv v).2 ⟨q,hf h a b v hv'⟩)
 ·obtain⟨a,b⟩:=(h1 k v).1 hkv;obtain⟨c,d⟩:=hS.pr k v b;exact⟨(hlv k).2 ⟨c,a⟩,(hlv v).2 ⟨d,hp k v b a⟩⟩
 ·have hi':i<x.a8.length:=by
   unfold a4G clr at hi;simpa using hi
  have e:(a4G x ds t).a8[i]=a7Q ds x.a8[i]:=List.getElem_map _;obtain⟨a1,a2,a3,a4,a5⟩:=hS.cl i hi';obtain⟨b1,b2,b3⟩:=b7h ds x.a8[i];rw[e,b1,b2];refine⟨a1,a2,λq=>?_,λq=>?_,λq=>?_⟩
  ·rw[Bool.eq_false_iff];intro q2;rw[a3 q] at b3;exact absurd (b3.1 q2).1 (by decide)
  ·obtain⟨p,hp1,hp2,hp3⟩:=a4 q;refine⟨p,by show p<(gnL x.S ds).S.a8.length;rw[g.len];exact hp1,?_⟩
   show Th (ce (gnL x.S ds) p)∧_=1+(p:Int)+32*(ce (gnL x.S ds) p).Gen;rw[g.ce];split
   ·have hw:=(hx.wk p hp1 hp2).1;have:=b1h hi' q;rw[hp3] at this;unfold gnC;rw[if_neg (by omega)]
    exact⟨.inr rfl,hp3⟩
   ·exact⟨hp2,hp3⟩
  ·obtain⟨c1,c2⟩:=b3.1 q;obtain⟨d1,d2⟩:=a5 c1;have h0:x.a8[i].Target≠0:=λe=>a9w hR (e▸d1);refine⟨(hlv _).2 ⟨d1,λhd=>?_⟩,hwts i d2 λ_=>c2⟩;have:a3H ds x.a8[i]=true:=by
    unfold a3H;simp[c1,h0,hd]
   rw[this] at c2;cases c2
 ·have hi':i<x.S.S.a8.length:=by
   have:=g.len;have hi:i<(gnL x.S ds).S.a8.length:=hi;omega
  show (ce (gnL x.S ds) i).Val.Weak=(nmg (clr x.a8 ds) (1+(i:Int)+32*(ce (gnL x.S ds) i).Gen):Int)∧((ce (gnL x.S ds) i).State=2→_);have hti':Th (ce (gnL x.S ds) i):=hti;show _∧((ce (gnL x.S ds) i).State=2→1≤(ce (gnL x.S ds) i).Val.Weak∧(ce (gnL x.S ds) i).Val.Fields = []∧(ce (gnL x.S ds) i).Val.Strong=0);rw[c9p];rw[g.ce] at hti' ⊢;split
  ·rename_i q;rw[if_pos q] at hti';obtain⟨d,hd,rfl⟩:=List.mem_map.1 q;have hp:=A1 hR (hm d hd);have hw:=(hx.wk _ hi' (.inl hp.2.1)).1;unfold gnC at hti' ⊢;split at hti'
   ·exfalso;unfold Th at hti';split at hti' <;> simp at hti'
   ·rename_i q2;rw[if_neg q2];have:=(hR.ok _ hi' (.inl hp.2.1)).wk;exact⟨hw,λ_=>⟨by dsimp only;omega,rfl,rfl⟩⟩
  ·rename_i q;rw[if_neg q] at hti';exact hx.wk i hi' hti'
 ·obtain⟨a,b⟩:=(hlv h).1 hh;have e:=g.ob h a b;have e':ob (a4G x ds t).S h=ob x.S h:=e;rw[e'] at hlt ⊢;have hf:=hx.fair h a hlt;rw[P9] at hf;rw[hf];have i1:=g.inn hR hn hm h;have i2:=h2 h;have i3:b3j ⟨x.Q.L++clt x.a8 ds,x.Q.Cap⟩=b3j x.Q:=b4D _ _ _ λt ht=>by
   obtain⟨w,_,rfl,_⟩:=a3K.1 ht;simp
  unfold nms otr a4G;dsimp only;rw[i3,K3 (ds.flatMap (outs x.S)),K3];omega
theorem b5d:∀(l:List Int) {x:Hp},HpS x→Wk x→a1l x l→M2 (l.foldl Q3 x)
 | [],x,h1,h2,h3=>⟨h1,h2,h3⟩
 | v::l,x,h1,h2,h3=>b5d l (h1.st v λc=>N9) (h2.st h1.sr v λc=>N9) (b1D h1.sr h3)
abbrev srt(o:m8):m8:=⟨o.Serial,o.Strong,o.Weak,o.Prog,true,o.Fields⟩
abbrev qtk(x:Hp)(h:Int):k8:=⟨1,h,(ob x.S h).Prog⟩
noncomputable def quH(x:Hp)(h:Int):Hp:=C5 ⟨seO x.S h (srt (ob x.S h)),x.Roots,x.a8,x.T,⟨x.Q.L ++ [qtk x h],x.Q.Cap⟩⟩ h
theorem b2u{x:Hp}(hx:M2 x){h:Int}(hh:h∈lv x.S)(hp:0≤(ob x.S h).Prog)(hs:(ob x.S h).Started=false):M2 (quH x h):=by
 have hS:=hx.sh;have hR:=hS.sr;have oko:=J4 hR hh;have ho:OkO x.S (srt (ob x.S h)):=⟨oko.s1,oko.s2,oko.st,oko.wk,oko.p1,oko.p2,oko.fl⟩;have r1:=a0Q (o:=srt (ob x.S h)) hR hh rfl ho;have l1:=a3x (o:=srt (ob x.S h)) hR hh rfl ho;have o1:∀j,j∈lv x.S→ob (seO x.S h (srt (ob x.S h))) j=if j=h then srt (ob x.S h) else ob x.S j:=λj hj=>by
  have:=H4 hR hj;exact a2H (o:=srt (ob x.S h)) hR hh rfl ho (by omega)
 have hlen:(lv x.S).length≤24:=F3 (s7.2 hR);have s1:HpS (wS x (seO x.S h (srt (ob x.S h)))):=hS.of r1 l1 (λk i q=>(c1V (o:=srt (ob x.S h)) hR hh rfl ho).2 q) (λk hk q=>by
  rw[o1 k hk];split;·rfl
  ·exact q) λk hk v hv=>by
  rw[o1 k hk] at hv;split at hv;·rename_i e;subst e;exact hS.fl k hk v hv
  ·exact hS.fl k hk v hv
 have w1:Wk (wS x (seO x.S h (srt (ob x.S h)))):=λi hi ht=>by
  have J3:=A1 hR hh;have hc:=b8B (o:=srt (ob x.S h)) hR hh rfl ho i;dsimp only at hi ht ⊢;rw[hc] at ht ⊢;have hi':i<x.S.S.a8.length:=by unfold seO at hi;rwa [M5] at hi
  split at ht
  ·rename_i e;subst e;rw[if_pos rfl];dsimp only;have:=hx.wk _ hi' (.inl J3.2.1);rw[O3 hR J3];exact⟨this.1,λq=>absurd q (by rw[J3.2.1];decide)⟩
  ·rename_i e;rw[if_neg e];exact hx.wk i hi' ht
 have htd:(x.Q.L ++ [qtk x h]).Pairwise λa b=>¬(a.Kind=b.Kind∧a.At=b.At):=by
  rw[List.pairwise_append];refine⟨hS.td,by simp,λa ha b hb q=>?_⟩
  rw[List.mem_singleton] at hb;subst hb;dsimp only at q;rcases (hS.tk a ha).2.2 with c | c
  ·rw[q.2,hs] at c;exact absurd c.2.2 (by decide)
  ·omega
 have htk:∀t∈x.Q.L ++ [qtk x h],0≤t.Prog∧t.Prog≤5∧((t.Kind=1∧t.At∈lv (seO x.S h (srt (ob x.S h)))∧(ob (seO x.S h (srt (ob x.S h))) t.At).Started=true)∨(t.Kind=2∧0≤t.At∧t.At≤5)):=λt ht=>by
  rcases List.mem_append.1 ht with q | q
  ·exact s1.tk t q
  ·rw[List.mem_singleton] at q;subst q;refine⟨hp,oko.p2,.inl ⟨rfl,by rw[l1];exact hh,?_⟩⟩
   dsimp only;rw[o1 h hh,if_pos rfl]
 have hq30:(x.Q.L ++ [qtk x h]).length≤30:=by
  have:=b5r (m:=lv x.S) htd λt ht=>by
   rcases (htk t ht).2.2 with q | q
   ·exact .inl ⟨q.1,by rw[←l1];exact q.2.1⟩
   ·exact .inr q
  omega
 have s2:HpS ⟨seO x.S h (srt (ob x.S h)),x.Roots,x.a8,x.T,⟨x.Q.L ++ [qtk x h],x.Q.Cap⟩⟩:=by
  refine⟨s1.sr,s1.hr,s1.r6,s1.c6,s1.cap,hq30,htk,htd,s1.rt,s1.fl,s1.pr,λi hi=>?_⟩;obtain⟨a,b,c,d,e⟩:=s1.cl i hi;refine⟨a,b,c,d,λq=>⟨(e q).1,?_⟩⟩;have:=(e q).2;rw[Bool.eq_false_iff] at this ⊢;intro q2;obtain⟨t,ht,k1,k2⟩:=a5i.1 q2;rcases List.mem_append.1 ht with q3 | q3
  ·exact this (a5i.2 ⟨t,q3,k1,k2⟩)
  ·rw[List.mem_singleton] at q3;subst q3;dsimp only at k1;omega
 have w2:Wk ⟨seO x.S h (srt (ob x.S h)),x.Roots,x.a8,x.T,⟨x.Q.L ++ [qtk x h],x.Q.Cap⟩⟩:=w1;refine⟨s2.st h λc=>D8,w2.st s2.sr h λc=>D8,λk hk hlt=>?_⟩;have hk':k∈lv x.S:=by
  have:lv (quH x h).S=lv x.S:=(G2 s2.sr h λc=>D8).lv.trans l1;rw[←this];exact hk
 have hst:(ob (quH x h).S k).Strong=if k=h then U4 (ob x.S k).Strong else (ob x.S k).Strong:=by
  have:=b2L (x:=⟨seO x.S h (srt (ob x.S h)),x.Roots,x.a8,x.T,⟨x.Q.L ++ [qtk x h],x.Q.Cap⟩⟩) s2.sr h (f:=U4) (λc=>D8) (k:=k) (by rw[←l1] at hk';exact hk')
  refine Eq.trans this ?_;dsimp only;rw[o1 k hk'];by_cases e:k=h
  ·subst e;rw[if_pos rfl,if_pos rfl,if_pos rfl]
  ·rw[if_neg e,if_neg e,if_neg e]
 have hnm:nms (quH x h) k=nms x k+if k=h then 1 else 0:=by
  have:=b3V (x:=⟨seO x.S h (srt (ob x.S h)),x.Roots,x.a8,x.T,⟨x.Q.L ++ [qtk x h],x.Q.Cap⟩⟩) s2.sr h (f:=U4) (λc=>D8) k;refine Eq.trans this ?_;have hi:=c2T (o:=srt (ob x.S h)) hR hh rfl ho k;dsimp only at hi;have h0:k≠0:=λe=>a9w hR (e▸hk');unfold nms otr b3j;dsimp only;rw[List.filter_append,List.map_append,K3,K3,K3];have:W5 (List.map (·.At) (List.filter (λt:k8=>t.Kind==1) [qtk x h])) k=if k=h then 1 else 0:=by
   show W5 [h] k=_;rw[G4,P9];by_cases e:k=h
   ·rw[if_pos ⟨e.symm,h0⟩,if_pos e]
   ·rw[if_neg (λq=>e q.1.symm),if_neg e]
  rw[this];omega
 rw[hst] at hlt ⊢;rw[hnm,P9];have hpos:=(J4 hR hk').st;by_cases e:k=h
 ·rw[if_pos e] at hlt ⊢;rw[if_pos e];have:=hx.fair k hk' (by unfold U4 at hlt;split at hlt <;> omega)
  rw[P9] at this;unfold U4 at hlt ⊢;split at hlt;·omega
  ·rename_i q;rw[if_neg q,if_neg (by omega)]
   omega
 ·rw[if_neg e] at hlt ⊢;rw[if_neg e];have:=hx.fair k hk' hlt;rw[P9] at this;exact this
end Go.Sh
namespace Go.Sh
noncomputable def zr(x:Hp):List Int:=(lv x.S).filter λh=>(ob x.S h).Strong==0
theorem a1k{x:Hp}{h:Int}:h∈zr x↔h∈lv x.S∧(ob x.S h).Strong=0:=by
 unfold zr;rw[List.mem_filter,beq_iff_eq]
theorem b80{x:Hp}(hx:M2 x){z:Int}(hz:z∈zr x):nms x z=0:=by
 obtain⟨a,b⟩:=a1k.1 hz;have:=hx.fair z a (by omega)
 rw[P9] at this;omega
theorem c0w{l:List Int}{h:Int}(h0:h≠0)(e:W5 l h=0):h∉l:=λq=>by
 have:=a2a.2 ⟨h0,q⟩;omega
theorem c6k{α:Type}(f:α→Nat):∀ {l:List α} {a:α},a∈l→f a≤(l.map f).sum
 | b::l,a,h=>by
  rw[List.map_cons,List.sum_cons];rcases List.mem_cons.1 h with e | e
  ·subst e;omega
  ·have:=c6k f e;omega
theorem b7I{s:a7}{a y:Int}(ha:a∈lv s):W5 (outs s a) y≤inn s y:=c6k (λx=>W5 (outs s x) y) ha
theorem b7U{t:Tb}{k v:Int}(h:Has t k v)(h0:v≠0):0<own t v:=List.countP_pos_iff.2 ⟨⟨k,v⟩,a05.2 h,by simp[h0]⟩
def wot(t:Tb)(ks:List Int):Tb × List Int:=(X5 t ks).getD (t,[])
theorem a4E{t:Tb}(hT:HR t)(ks:List Int)(hks:ks.length≤1000):X5 t ks=some (wot t ks)∧HR (wot t ks).1∧(wot t ks).2.length≤ks.length∧a5c (t.map J3) ks=some ((wot t ks).1.map J3,(wot t ks).2) ∧
  (∀k v,Has (wot t ks).1 k v↔k∉ks∧Has t k v)∧∀y,own (wot t ks).1 y+W5 (wot t ks).2 y=own t y:=by
 obtain⟨a,had,h1,h2,h3,h4,h5,h6,h7,h8,h9⟩:=c0G hT ks hks;have:wot t ks=(a,had):=by unfold wot;rw[h1];rfl
 rw[this];exact⟨h1,h2,h4,h5,h6,h9⟩
noncomputable def buH(x:Hp)(ds:List Int):Hp:=(ds.flatMap (outs x.S)++(wot x.T ds).2).foldl Q3 (a4G x ds (wot x.T ds).1)
theorem a4u:∀(l:List Int) {x:Hp},SR x.S→Kin x.S (l.foldl Q3 x).S∧l.foldl Q3 x=wS x (l.foldl Q3 x).S
 | [],x,h=>⟨Kin.refl h,rfl⟩
 | v::l,x,h=>by
  have k1:=G2 h v (f:=a5G) λc=>N9;obtain⟨k2,e⟩:=a4u l (x:=Q3 x v) k1.sr;refine⟨k1.trans k2,?_⟩;show l.foldl Q3 (Q3 x v)=wS x (l.foldl Q3 (Q3 x v)).S;rw[e,d2Z x v]
theorem b6m{x:Hp}(hx:M2 x){ds:List Int}(hn:ds.Nodup)(hm:∀d∈ds,d∈lv x.S)
  (ho:∀d∈ds,d∉otr x)(hf:∀h∈lv x.S,h∉ds→∀v∈(ob x.S h).Fields,v∉ds)(hp:∀k v,Has x.T k v→k∉ds→v∉ds):M2 (buH x ds):=by
 have hl:ds.length≤24:=Nat.le_trans (a4n hn hm) (F3 (s7.2 hx.sh.sr));obtain⟨_,w1,_,_,w2,w3⟩:=a4E hx.sh.hr ds (by omega)
 obtain⟨a,b,c⟩:=c30 hx hn hm ho hf hp w1 w2 w3;exact b5d _ a b c
theorem c0W{x:Hp}(hR:SR x.S){ds:List Int}(hn:ds.Nodup)(hm:∀d∈ds,d∈lv x.S):lv (buH x ds).S=(lv x.S).filter λh=>decide (h∉ds):=by
 have g:=a1Q ds hR hn hm;exact (a4u (ds.flatMap (outs x.S)++(wot x.T ds).2) (x:=a4G x ds (wot x.T ds).1) g.sr).1.lv.trans g.lv
theorem c0X{x:Hp}(hR:SR x.S){ds:List Int}(hn:ds.Nodup)(hm:∀d∈ds,d∈lv x.S){k:Int}(hk:k∈lv x.S)(hd:k∉ds):∃n,ob (buH x ds).S k=stg (ob x.S k) n:=by
 have g:=a1Q ds hR hn hm;have hr:=H4 hR hk;obtain⟨n,e⟩:=(a4u (ds.flatMap (outs x.S)++(wot x.T ds).2) (x:=a4G x ds (wot x.T ds).1) g.sr).1.ob k (by omega)
 refine⟨n,?_⟩;have e':ob (buH x ds).S k=_:=e;have g':ob (a4G x ds (wot x.T ds).1).S k=ob x.S k:=g.ob k hk hd;rw[e',g']
theorem b0F{x:Hp}(hR:SR x.S){ds:List Int}(hn:ds.Nodup)(hm:∀d∈ds,d∈lv x.S):(buH x ds).Roots=x.Roots∧(buH x ds).a8=clr x.a8 ds∧(buH x ds).T=(wot x.T ds).1∧(buH x ds).Q=⟨x.Q.L++clt x.a8 ds,x.Q.Cap⟩:=by
 have g:=a1Q ds hR hn hm;have e:=(a4u (ds.flatMap (outs x.S)++(wot x.T ds).2) (x:=a4G x ds (wot x.T ds).1) g.sr).2;have e':buH x ds=wS (a4G x ds (wot x.T ds).1) (buH x ds).S:=e;rw[e'];exact⟨rfl,rfl,rfl,rfl⟩
theorem b5D{x:Hp}(hx:M2 x){z:Int}(hz:z∈zr x):M2 (buH x [z]):=by
 obtain⟨a,b⟩:=a1k.1 hz;have h0:z≠0:=λe=>a9w hx.sh.sr (e▸a);have hn:=b80 hx hz;unfold nms at hn;refine b6m hx (by simp) (by simpa using a) (λd hd=>?_) (λh hh hne v hv q=>?_) (λk v hkv _ q=>?_)
 ·rw[List.mem_singleton] at hd;subst hd;exact c0w h0 (by omega)
 ·rw[List.mem_singleton] at q;subst q;have:=b7I (y:=v) hh;have h1:=a2a.2 ⟨h0,show v∈outs x.S h from a6O.2 ⟨hv,h0⟩⟩;omega
 ·rw[List.mem_singleton] at q;subst q;have:=b7U hkv h0;omega
def due(o:m8):Bool:=decide (0≤o.Prog) && !o.Started
noncomputable def stp(x:Hp):Hp:=match zr x with
 | []=>x
 | z::_=>if due (ob x.S z) then quH x z else buH x [z]
noncomputable def stN:Nat→Hp→Hp
 | 0,x=>x
 | n+1,x=>stN n (stp x)
theorem a19(n:Nat)(x:Hp):stN (n+1) x=stp (stN n x):=by
 induction n generalizing x with
 | zero=>rfl
 | succ n ih=>exact ih (stp x)
theorem a9k{x:Hp}(h:zr x = []):stp x=x:=by unfold stp;rw[h]
theorem a4A{x:Hp}{z:Int}{l:List Int}(h:zr x=z::l):stp x=if due (ob x.S z) then quH x z else buH x [z]:=by unfold stp;rw[h]
theorem c4O{x:Hp}(hx:M2 x):M2 (stp x):=by
 cases h:zr x with
 | nil=>rw[a9k h];exact hx
 | cons z l=>
  have hz:z∈zr x:=by rw[h];exact List.mem_cons_self ..
  rw[a4A h];split
  ·rename_i q;unfold due at q;rw[Bool.and_eq_true,decide_eq_true_iff,Bool.not_eq_true'] at q;exact b2u hx (a1k.1 hz).1 q.1 q.2
  ·exact b5D hx hz
theorem a0F{x:Hp}(hx:M2 x)(n:Nat):M2 (stN n x):=by
 induction n with
 | zero=>exact hx
 | succ n ih=>rw[a19];exact c4O ih
section
variable{x:Hp}(hR:SR x.S){h:Int}(hh:h∈lv x.S)
include hR hh
theorem a6T:Kin (seO x.S h (srt (ob x.S h))) (quH x h).S∧(quH x h).Roots=x.Roots∧(quH x h).a8=x.a8∧(quH x h).T=x.T∧(quH x h).Q=⟨x.Q.L ++ [qtk x h],x.Q.Cap⟩:=by
 have oko:=J4 hR hh;have r1:=a0Q (o:=srt (ob x.S h)) hR hh rfl ⟨oko.s1,oko.s2,oko.st,oko.wk,oko.p1,oko.p2,oko.fl⟩;refine⟨G2 (x:=⟨seO x.S h (srt (ob x.S h)),x.Roots,x.a8,x.T,⟨x.Q.L ++ [qtk x h],x.Q.Cap⟩⟩) r1 h λc=>D8,?_⟩;have e:quH x h=wS ⟨seO x.S h (srt (ob x.S h)),x.Roots,x.a8,x.T,⟨x.Q.L ++ [qtk x h],x.Q.Cap⟩⟩ (quH x h).S:=b2F _ h;rw[e];exact⟨rfl,rfl,rfl,rfl⟩
theorem b70:lv (quH x h).S=lv x.S:=by
 have oko:=J4 hR hh;exact (a6T hR hh).1.lv.trans (a3x (o:=srt (ob x.S h)) hR hh rfl ⟨oko.s1,oko.s2,oko.st,oko.wk,oko.p1,oko.p2,oko.fl⟩)
theorem b4Y{k:Int}(hk:k∈lv x.S):∃n,ob (quH x h).S k=stg (if k=h then srt (ob x.S h) else ob x.S k) n:=by
 have oko:=J4 hR hh;have hr:=H4 hR hk;obtain⟨n,e⟩:=(a6T hR hh).1.ob k (by omega)
 refine⟨n,?_⟩;rw[e,a2H (o:=srt (ob x.S h)) hR hh rfl ⟨oko.s1,oko.s2,oko.st,oko.wk,oko.p1,oko.p2,oko.fl⟩ (by omega)]
end
noncomputable def mu(x:Hp):Nat:=(lv x.S).length+((lv x.S).filter λh => !(ob x.S h).Started).length
theorem d4u{x:Hp}(hR:SR x.S):mu x≤48:=by
 have h1:(lv x.S).length≤24:=F3 (s7.2 hR);have h2:((lv x.S).filter λh => !(ob x.S h).Started).length≤(lv x.S).length:=List.length_filter_le ..;unfold mu;omega
theorem d3n{x:Hp}(hx:M2 x)(h:zr x ≠ []):mu (stp x)<mu x:=by
 cases hz:zr x with
 | nil=>exact absurd hz h
 | cons z l=>
  have hzm:z∈zr x:=by rw[hz];exact List.mem_cons_self ..
  have hzl:=(a1k.1 hzm).1;have hR:=hx.sh.sr;rw[a4A hz];split
  ·rename_i q;unfold due at q;rw[Bool.and_eq_true,decide_eq_true_iff,Bool.not_eq_true'] at q;unfold mu;rw[b70 hR hzl];have:=filter_lt (p:=λh => !(ob (quH x z).S h).Started) (q:=λh => !(ob x.S h).Started) (l:=lv x.S) (λk hk hp=>by
    obtain⟨n,e⟩:=b4Y hR hzl hk;rw[e] at hp;split at hp;·exact absurd hp (by simp)
    ·exact hp) z hzl (by rw[q.2];rfl) (by
    obtain⟨n,e⟩:=b4Y hR hzl hzl;rw[e,if_pos rfl];rfl)
   omega
  ·unfold mu;have hn:([z]:List Int).Nodup:=by simp
   have hm:∀d ∈ [z],d∈lv x.S:=by simpa using hzl
   rw[c0W hR hn hm,List.filter_filter];have h1:((lv x.S).filter λh=>decide (h ∉ [z])).length<((lv x.S).filter λ_=>true).length:=filter_lt (λ_ _ _=>rfl) z hzl rfl (by simp)
   rw[List.filter_eq_self.2 (λ_ _=>rfl)] at h1;have h2:((lv x.S).filter λa=>(!(ob (buH x [z]).S a).Started)&&decide (a ∉ [z])).length≤((lv x.S).filter λh => !(ob x.S h).Started).length:=by
    rw[←List.countP_eq_length_filter,←List.countP_eq_length_filter];refine List.countP_mono_left λa ha hp=>?_;rw[Bool.and_eq_true,decide_eq_true_iff] at hp;obtain⟨n,e⟩:=c0X hR hn hm ha hp.2;rw[e] at hp;exact hp.1
   omega
noncomputable def a1C(x:Hp):Hp:=stN 100 x
theorem b2I{x:Hp}(hx:M2 x):∃n,n≤48∧zr (stN n x) = []∧(∀j,j<n→zr (stN j x) ≠ [])∧a1C x=stN n x:=by
 have key:∀m,(∃n,n≤m∧zr (stN n x) = [])∨mu (stN m x)+m≤mu x:=by
  intro m;induction m with
  | zero=>exact .inr (Nat.le_refl _)
  | succ m ih=>
   rcases ih with ⟨n,h1,h2⟩ | ih;·exact .inl ⟨n,by omega,h2⟩
   ·by_cases q:zr (stN m x) = []
    ·exact .inl ⟨m,by omega,q⟩
    ·have:=d3n (a0F hx m) q;rw[←a19] at this;exact .inr (by omega)
 have h48:=d4u hx.sh.sr;have hex:∃n,n≤48∧zr (stN n x) = []:=by
  rcases key 49 with ⟨n,h1,h2⟩ | h
  ·rcases Nat.lt_or_ge n 49 with q | q
   ·exact⟨n,by omega,h2⟩
   ·rcases key 48 with h | h
    ·exact h
    ·have:mu (stN 48 x)=0:=by omega
     refine⟨48,Nat.le_refl _,?_⟩;have hl:(lv (stN 48 x).S).length=0:=by unfold mu at this;omega
     unfold zr;rw[List.eq_nil_of_length_eq_zero hl];rfl
  ·omega
 obtain⟨n,⟨hn,hz⟩,hmin⟩:=W0 hex;refine⟨n,hn,hz,λj hj q=>?_,?_⟩
 ·have:=hmin j ⟨by omega,q⟩
  omega
 ·have:∀k,stN (n+k) x=stN n x:=λk=>by
   induction k with
   | zero=>rfl
   | succ k ih=>rw[show n+(k+1)=(n+k)+1 by omega,a19,ih,a9k hz]
  have h100:=this (100-n);rw[show n+(100-n)=100 by omega] at h100
  exact h100
theorem a2I{x:Hp}(hx:M2 x):M2 (a1C x):=a0F hx 100
theorem b6Z{x:Hp}(hx:M2 x):zr (a1C x) = []:=by
 obtain⟨n,_,h,_,e⟩:=b2I hx;rw[e];exact h
theorem c0n{x:Hp}(h:zr x = []):a1C x=x:=by
 have:∀n,stN n x=x:=λn=>by
  induction n with
  | zero=>rfl
  | succ n ih=>rw[a19,ih,a9k h]
 exact this 100
end Go.Sh
namespace Go.Sh
section
variable{x:Hp}(hR:SR x.S)
include hR
theorem a1X{h:Int}(hh:h∈lv x.S):h≤9223372036854775807:=by have:=H4 hR hh;omega
theorem b2g{h:Int}(hh:h∈lv x.S):y4 x.S h=some (ob x.S h,0):=by
 obtain⟨e,h1,h2⟩:=Q1 (s7.2 hR) (a1X hR hh);rw[h1,h2.2 hh]
theorem b0X{h:Int}(hh:h∈lv x.S):F1 (sO x.S) h=some (oo (ob x.S h),0):=by
 have:=hR.len;rw[a4h x.S (by omega) (a1X hR hh),b2g hR hh]
 rfl
theorem zero_eq:a1y x=some (zr x):=by
 have h24:(lv x.S).length≤24:=F3 (s7.2 hR);unfold a1y;simp only[jn];rw[a1W (s7.2 hR),d6y];rw[F9 (lv x.S) (λb h=>if (ob x.S h).Strong==0 then b ++ [h] else b) id (λk b=>b.length≤k) (by omega) (Nat.le_refl _) (λk hk b hb=>?_) (λb hb=>by simp)]
 ·rw[foldl_filter];rfl
 ·simp only[Int.ofNat_lt,hk,decide_true,if_true,o9 hk,d6y,b2g hR (List.getElem_mem hk)];by_cases c:((ob x.S (lv x.S)[k]).Strong==0)=true
  ·rw[if_pos c,if_pos c,A2 (by omega) (by simp;omega),d6y,l5]
   exact⟨rfl,by simp;omega⟩
  ·rw[if_neg c,if_neg c,l5];exact⟨rfl,by omega⟩
theorem c2a:a5Z (hO x)=some (zr x):=by
 have h24:(lv x.S).length≤24:=F3 (s7.2 hR);unfold a5Z;simp only[jn];rw[show (hO x).S=sO x.S from rfl,a5r (s7.2 hR),d6y];rw[F9 (lv x.S) (λb h=>if (ob x.S h).Strong==0 then b ++ [h] else b) id (λk b=>b.length≤k) (by omega) (Nat.le_refl _) (λk hk b hb=>?_) (λb hb=>by simp)]
 ·rw[foldl_filter];rfl
 ·simp only[Int.ofNat_lt,hk,decide_true,if_true,o9 hk,d6y,b0X hR (List.getElem_mem hk)];by_cases c:((ob x.S (lv x.S)[k]).Strong==0)=true
  ·rw[show ((oo (ob x.S (lv x.S)[k])).Strong==0)=true from c,if_pos rfl,if_pos c,A2 (by omega) (by simp;omega),d6y,l5]
   exact⟨rfl,by simp;omega⟩
  ·rw[if_neg (show ¬((oo (ob x.S (lv x.S)[k])).Strong==0)=true from c),if_neg c,l5];exact⟨rfl,by omega⟩
theorem c4J:a5d (hO x)=some (decide (zr x = [])):=by
 unfold a5d;rw[c2a hR,d6y];congr 1;cases zr x <;> simp
 omega
end
noncomputable def quD(x:Hp)(h:Int):Hp:=if h∈lv x.S∧due (ob x.S h)=true then quH x h else x
theorem b8F{s:a7}(hR:SR s){h:Int}(hl:h∈lv s):OkO s (srt (ob s h)):=by
 have oko:=J4 hR hl;exact⟨oko.s1,oko.s2,oko.st,oko.wk,oko.p1,oko.p2,oko.fl⟩
theorem c3f(o:m8):L8 o=some (due o):=by
 unfold L8 due;congr 1
section
variable{x:Hp}(hx:M2 x)(hS:SL x){h:Int}(hh:h≤9223372036854775807)
include hx hS hh
theorem b4Z(hl:h∈lv x.S)(hd:due (ob x.S h)=true):x.Q.L.length<30:=by
 have hb:0≤(ob x.S h).Prog∧(ob x.S h).Started=false:=by
  unfold due at hd;rw[Bool.and_eq_true,decide_eq_true_iff,Bool.not_eq_true'] at hd;exact hd
 have:=(b2u hx hl hb.1 hb.2).sh.q30;rw[(a6T hx.sh.sr hl).2.2.2.2] at this;simp at this;omega
theorem b6Q:S0 x h=some (quD x h):=by
 have hR:=hx.sh.sr;have cap:=hx.sh.cap;obtain⟨e,h1,h2⟩:=Q1 (s7.2 hR) hh;unfold S0 quD;rw[h1,d6y];by_cases hl:h∈lv x.S
 ·have e0:e=0:=h2.2 hl;subst e0;have e1:(((0:Int) != 0)==false)=true:=rfl;simp only[e1,U7,c3f,d6y];cases hd:due (ob x.S h);·rw[if_pos (by simp),if_neg (by simp)]
  ·rw[if_neg (by simp),if_pos ⟨hl,rfl⟩]
   have hr:=b4Z hx hS hh hl hd;have hok:=b8F hR hl;have l1:=a3x (o:=srt (ob x.S h)) hR hl rfl hok;have r1:=a0Q (o:=srt (ob x.S h)) hR hl rfl hok;rw[b1H (o:=srt (ob x.S h)) hR hl rfl hok,d6y,d0W _ (by omega),d6y]
   have et:tad x.Q ⟨1,h,(ob x.S h).Prog⟩=(⟨x.Q.L ++ [qtk x h],x.Q.Cap⟩,0):=by
    unfold tad;rw[if_neg (by omega)]
   rw[et];dsimp only;rw[a54 r1 hh (λk hk=>?_),d6y];·rfl
   ·dsimp only at hk ⊢;rw[l1] at hk;rw[a2H (o:=srt (ob x.S h)) hR hl rfl hok (a1X hR hk)];split;·exact hS h hl
    ·exact hS k hk
 ·have e0:e≠0:=λq=>hl (h2.1 q);have e1:(e != 0)=true:=by simpa using e0
  rw[e1];simp only[show ((true==false)=true)=False by simp,u4,if_false,d6y,Bool.true_or,if_true]
  rw[if_neg (λq=>hl q.1)]
theorem c5J:a89 (hO x) h=some (decide (h∈lv x.S)&&due (ob x.S h)):=by
 have hR:=hx.sh.sr;have hlen:=hR.len;obtain⟨e,h1,h2⟩:=Q1 (s7.2 hR) hh;unfold a89;rw[show (hO x).S=sO x.S from rfl,a4h x.S (by omega) hh,h1,Option.map_some,d6y,a6H hR hh,d6y]
 unfold due oo;rw[Bool.and_assoc]
theorem b90:a4r (hO x) h=some (hO (quD x h)):=by
 have hR:=hx.sh.sr;have cap:=hx.sh.cap;unfold a4r quD;rw[c5J hx hS hh,d6y];by_cases hl:h∈lv x.S
 ·rw[decide_eq_true hl,Bool.true_and];cases hd:due (ob x.S h);·rw[if_pos (by simp),if_neg (by simp)]
  ·rw[if_neg (by simp),if_pos ⟨hl,rfl⟩]
   have hr:=b4Z hx hS hh hl hd;have hok:=b8F hR hl;have l1:=a3x (o:=srt (ob x.S h)) hR hl rfl hok;have r1:=a0Q (o:=srt (ob x.S h)) hR hl rfl hok;rw[show (hO x).S=sO x.S from rfl,b0X hR hl,d6y];have es:O2 (sO x.S) h (oo (srt (ob x.S h)))=some (sO (seO x.S h (srt (ob x.S h))),0):=b1I hR hl rfl hok;have es':O2 (sO x.S) h ⟨(oo (ob x.S h)).Serial,(oo (ob x.S h)).Strong,(oo (ob x.S h)).Weak,(oo (ob x.S h)).Prog,true,(oo (ob x.S h)).Fields⟩=some (sO (seO x.S h (srt (ob x.S h))),0):=es;rw[es',d6y];have ea:a6X (hO x).Q ⟨1,h,(oo (ob x.S h)).Prog⟩=some (tqR ⟨x.Q.L ++ [qtk x h],x.Q.Cap⟩,0):=by
    have:=d0T (q:=x.Q) (qtk x h) (by omega)
    have et:tad x.Q (qtk x h)=(⟨x.Q.L ++ [qtk x h],x.Q.Cap⟩,0):=by
     unfold tad;rw[if_neg (by omega)]
    rw[et] at this;exact this
   rw[ea,d6y];have er:=a8q (x:=⟨seO x.S h (srt (ob x.S h)),x.Roots,x.a8,x.T,⟨x.Q.L ++ [qtk x h],x.Q.Cap⟩⟩) r1 hh (λk hk=>by
    dsimp only at hk ⊢;rw[l1] at hk;rw[a2H (o:=srt (ob x.S h)) hR hl rfl hok (a1X hR hk)];split;·exact hS h hl
    ·exact hS k hk)
   have er':a1h ⟨sO (seO x.S h (srt (ob x.S h))),(hO x).Roots,(hO x).a8,(hO x).T,tqR ⟨x.Q.L ++ [qtk x h],x.Q.Cap⟩⟩ h=_:=er;dsimp only;rw[er',d6y];rfl
 ·rw[decide_eq_false hl,Bool.false_and];rw[if_pos (by simp),if_neg (λq=>hl q.1)]
end
noncomputable def lvo(x:Hp)(l:List Int):List Int:=l.foldl (λb h=>if h∈lv x.S∧h∉b then b ++ [h] else b) []
theorem b9K{x:Hp}{z:Int}(hz:z∈lv x.S):lvo x [z] = [z]:=by
 unfold lvo;simp[hz]
section
variable{x:Hp}(hR:SR x.S)
include hR
theorem b1c(l:List Int)(hl:l.length≤1000)(hb:∀h∈l,h≤9223372036854775807):V0 x l=some (lvo x l):=by
 unfold V0;simp only[jn];have key:=F9 (f:=λ((s20,s21,s22):Int × (List (Int × Bool)) × (List Int))=>
   if (decide (s20<(l.length:Int))) then
     (ix l s20).bind λv32=>
     (y4 x.S v32).bind λv33=>
     if ((v33.2==0)==true) then
      if (!((B5 s21 v32).getD (false:Bool))) then
       (app 8 s22 [v32]).bind λv34=>
       some (Sum.inl (u5 (s20+1),(r8 s21 v32 true),v34))
      else
      some (.inl (u5 (s20+1),s21,s22))
     else
     some (.inl (u5 (s20+1),s21,s22))
   else
   some (.inr s22)) l (λ(b:List (Int × Bool) × List Int) h=>if h∈lv x.S∧h∉b.2 then (r8 b.1 h true,b.2 ++ [h]) else b) (λb=>b.2) (λk b=>b.2.length≤k∧∀d,(B5 b.1 d).getD false=decide (d∈b.2)) (b0:=([],[])) (by omega) ⟨Nat.le_refl _,λd=>by simp[B5]⟩ (λk hk b hb2=>?_) (λb hb2=>by simp)
 ·rw[key,d6y];congr 1;have:∀(l:List Int) (m:List (Int × Bool)) (b:List Int),(l.foldl (λ(b:List (Int × Bool) × List Int) h=>if h∈lv x.S∧h∉b.2 then (r8 b.1 h true,b.2 ++ [h]) else b) (m,b)).2=l.foldl (λb h=>if h∈lv x.S∧h∉b then b ++ [h] else b) b:=λl=>by
   induction l with
   | nil=>intro m b;rfl
   | cons h l ih=>
    intro m b;rw[List.foldl_cons,List.foldl_cons];by_cases c:h∈lv x.S∧h∉b
    ·rw[if_pos c,if_pos c,ih]
    ·rw[if_neg c,if_neg c,ih]
  exact this l [] []
 ·obtain⟨hb1,hb3⟩:=hb2;obtain⟨e,h1,h2⟩:=Q1 (s7.2 hR) (hb _ (List.getElem_mem hk));simp only[Int.ofNat_lt,hk,decide_true,if_true,o9 hk,d6y,h1,hb3];by_cases hl:l[k]∈lv x.S
  ·have e0:e=0:=h2.2 hl;subst e0;by_cases hm:l[k]∈b.2
   ·rw[if_pos (by rfl),if_neg (by simp[hm]),if_neg (λq=>q.2 hm),l5]
    exact⟨rfl,by omega,hb3⟩
   ·rw[if_pos (by rfl),if_pos (by simp[hm]),if_pos ⟨hl,hm⟩,A2 (by omega) (by simp;omega),d6y,l5]
    refine⟨rfl,by simp;omega,λd=>?_⟩
    rw[a8S];by_cases q:d=l[k]
    ·rw[if_pos q];simp[q]
    ·rw[if_neg q,hb3];simp[q]
  ·have e0:e≠0:=λq=>hl (h2.1 q);rw[if_neg (by simp[e0]),if_neg (λq=>hl q.1),l5]
   exact⟨rfl,by omega,hb3⟩
theorem c5K(l:List Int)(hl:l.length≤1000)(hb:∀h∈l,h≤9223372036854775807):b1z (hO x) l=some (lvo x l):=by
 unfold b1z;simp only[jn];rw[F9 l (λb h=>if h∈lv x.S∧h∉b then b ++ [h] else b) id (λk b=>b.length≤k) (by omega) (Nat.le_refl _) (λk hk b hb2=>?_) (λb hb=>by simp)]
 ·rfl
 ·simp only[Int.ofNat_lt,hk,decide_true,if_true,o9 hk,d6y,a6H hR (hb _ (List.getElem_mem hk))];by_cases hl:l[k]∈lv x.S
  ·have h0:l[k]≠0:=λe=>a9w hR (e▸hl);rw[decide_eq_true hl];simp only[beq_self_eq_true,U7,b0Z b _ (by omega:b.length≤1000000),d6y,Bool.true_and]
   by_cases hm:l[k]∈b
   ·rw[if_neg (by simp[hm,h0]),if_neg (λq=>q.2 hm),l5]
    exact⟨rfl,by omega⟩
   ·rw[if_pos (by simp[hm]),if_pos ⟨hl,hm⟩,A2 (by omega) (by simp;omega),d6y,l5]
    exact⟨rfl,by simp;omega⟩
  ·rw[decide_eq_false hl];simp only[show ((false==true)=true)=False by simp,u4,if_false,d6y,Bool.false_and]
   rw[if_neg (by simp),if_neg (λq=>hl q.1),l5]
   exact⟨rfl,by omega⟩
end
end Go.Sh
namespace Go.Sh
theorem b4z{α β:Type}(p:α→Bool)(f:α→β):∀(xs:List α) (acc:List β),xs.foldl (λb x=>if p x then b ++ [f x] else b) acc=acc++(xs.filter p).map f
 | [],acc=>by simp
 | x::xs,acc=>by
  rw[List.foldl_cons,b4z p f xs];by_cases h:p x=true
  ·simp[h]
  ·simp[h]
theorem a04{α:Type}{l:List α}{i:Nat}(h:i<l.length)(d:α):l.getD i d=l[i]:=by
 rw[List.getD_eq_getElem?_getD,List.getElem?_eq_getElem h];rfl
theorem c31(c:g5)(ds:List Int)(hl:ds.length≤1000):a0H c ds=some (a3H ds c):=by
 unfold a0H a3H;rw[contains_eq _ _ (by omega)]
 cases (c.Intact&&c.Target != 0);·rfl
 ·simp[u4]
def pks(l:List g5)(ds:List Int):List Nat:=(List.range l.length).filter λw=>a3H ds (l.getD w cz)
theorem d2D{l:List g5}{ds:List Int}{w:Nat}(h:w∈pks l ds):w<l.length:=by
 unfold pks at h;rw[List.mem_filter,List.mem_range] at h;exact h.1
theorem c9J(l:List g5)(ds:List Int):(pks l ds).length≤l.length:=by
 unfold pks;exact Nat.le_trans (List.length_filter_le ..) (by simp)
theorem d2E(l:List g5)(ds:List Int):(pks l ds).Nodup:=List.Pairwise.filter _ List.nodup_range
theorem c8S(l:List g5)(ds:List Int):cls l ds=(pks l ds).filter λw=>decide (0≤(l.getD w cz).Call):=by
 unfold cls pks;rw[List.filter_filter];refine List.filter_congr λw _=>?_;rw[Bool.and_comm]
def a6G(l:List Nat):List Int:=l.map λ(n:Nat)=>(n:Int)
theorem b7J{l:List Nat}{k:Nat}(h:k<l.length):ix (a6G l) (k:Int)=some ((l[k]:Nat):Int):=by
 unfold a6G;rw[a0y,o9 h];rfl
theorem a5N(l:List Nat):(a6G l).length=l.length:=List.length_map ..
theorem c4w(l:List g5)(ds:List Int)(hl:l.length≤1000)(hd:ds.length≤1000):J7 l ds=some (a6G (pks l ds)):=by
 unfold J7;simp only[jn];have hr:(List.range l.length).length=l.length:=by simp
 have key:=F9 (List.range l.length) (λ(b:List Int) (w:Nat)=>if a3H ds (l.getD w cz) then b ++ [(w:Int)] else b) id (λk b=>b.length≤k) (b0:=[]) (f:=λ((s17,s18):Int × (List Int))=>
   if (decide (s17<(l.length:Int))) then
     (ix l s17).bind λv26=>
     (a0H v26 ds).bind λv27=>
     if v27 then
      (app 8 s18 [s17]).bind λv28=>
      some (Sum.inl (u5 (s17+1),v28))
     else
     some (.inl (u5 (s17+1),s18))
   else
   some (.inr s18)) (by omega) (Nat.le_refl _) (λk hk b hb=>?_) (λb hb=>by simp)
 ·rw[key,b4z];rfl
 ·rw[hr] at hk;simp only[Int.ofNat_lt,hk,decide_true,if_true,o9 hk,d6y,c31 _ _ hd,List.getElem_range,a04 hk];by_cases c:a3H ds l[k]=true
  ·rw[if_pos c,if_pos c,A2 (by omega) (by simp;omega),d6y,l5]
   exact⟨rfl,by simp;omega⟩
  ·rw[if_neg c,if_neg c,l5];exact⟨rfl,by omega⟩
theorem c34(l:List g5)(hl:l.length≤1000):a0p l=some l:=by
 unfold a0p;rw[a7u (by omega) (by omega),d6y]
 unfold cpy;rw[if_pos (by simp),d6y]
 simp
def b0H(l:List g5)(K:List Nat):List g5:=(List.range l.length).map λi=>if i∈K then ⟨(l.getD i cz).Target,false,(l.getD i cz).Call⟩ else l.getD i cz
theorem a5E(l:List g5)(K:List Nat):(b0H l K).length=l.length:=by simp[b0H]
theorem b0I{l:List g5}{K:List Nat}{i:Nat}(h:i<(b0H l K).length):(b0H l K)[i]=if i∈K then ⟨(l.getD i cz).Target,false,(l.getD i cz).Call⟩ else l.getD i cz:=by simp[b0H]
theorem c5y(l:List g5):b0H l []=l:=by
 refine List.ext_getElem (a5E ..) λi h1 h2=>?_;rw[b0I,if_neg (by simp),a04 h2]
theorem c33{l:List g5}{K:List Nat}{w:Nat}(hw:w<l.length):b0H l (K ++ [w])=(b0H l K).set w ⟨(l.getD w cz).Target,false,(l.getD w cz).Call⟩:=by
 refine List.ext_getElem (by rw[List.length_set,a5E,a5E]) λi h1 h2=>?_
 rw[b0I,List.getElem_set];by_cases e:w=i
 ·subst e;rw[if_pos rfl,if_pos (by simp)]
 ·rw[if_neg e,b0I];by_cases q:i∈K
  ·rw[if_pos (List.mem_append_left _ q),if_pos q]
  ·rw[if_neg,if_neg q];rw[List.mem_append,List.mem_singleton];exact λq2=>q2.elim q λq3=>e q3.symm
theorem c5x(l:List g5)(ds:List Int):b0H l (pks l ds)=clr l ds:=by
 refine List.ext_getElem (by rw[a5E];simp[clr]) λi h1 h2=>?_
 have hi:i<l.length:=by rw[a5E] at h1;exact h1
 have ec:(clr l ds)[i]=a7Q ds l[i]:=List.getElem_map _;rw[b0I,ec,a04 hi];unfold a7Q;by_cases c:a3H ds l[i]=true
 ·rw[if_pos c,if_pos];unfold pks;rw[List.mem_filter,List.mem_range,a04 hi];exact⟨hi,c⟩
 ·rw[if_neg c,if_neg];unfold pks;rw[List.mem_filter,List.mem_range,a04 hi];exact λq=>c q.2
theorem M6{α:Type}{l:List α}{k:Nat}(h:k<l.length):l.take (k+1)=l.take k ++ [l[k]]:=List.take_succ_eq_append_getElem h
theorem c5w(l:List g5)(ds:List Int)(hl:l.length≤1000)(hd:ds.length≤1000):a4D l ds=some (clr l ds,a6G (cls l ds)):=by
 unfold a4D;rw[c4w l ds hl hd,d6y,c34 l hl,d6y];simp only[jn,a5N];have hp:=c9J l ds;refine M4 (pks l ds).length (λk (b:List g5 × List Int)=>b.1=b0H l ((pks l ds).take k)∧b.2=a6G (((pks l ds).take k).filter λw=>decide (0≤(l.getD w cz).Call))) (by omega) ⟨by simp[c5y],by simp[a6G]⟩ ?_ ?_
 ·rintro k ⟨b1,b2⟩ hk ⟨rfl,rfl⟩;left;have hw:=d2D (List.getElem_mem hk);have hnm:(pks l ds)[k]∉(pks l ds).take k:=λq=>by
   have hn:=d2E l ds;rw[←List.take_append_drop k (pks l ds),List.nodup_append] at hn;exact hn.2.2 _ q (pks l ds)[k] (by rw[List.drop_eq_getElem_cons hk];exact List.mem_cons_self ..) rfl
  have h1:(pks l ds)[k]<(b0H l ((pks l ds).take k)).length:=by rw[a5E];exact hw
  have e1:ix (b0H l ((pks l ds).take k)) (((pks l ds)[k]:Nat):Int)=some (l.getD (pks l ds)[k] cz):=by rw[o9 h1,b0I,if_neg hnm]
  have h2:(pks l ds)[k]<((b0H l ((pks l ds).take k)).set (pks l ds)[k] ⟨(l.getD (pks l ds)[k] cz).Target,false,(l.getD (pks l ds)[k] cz).Call⟩).length:=by rw[List.length_set];exact h1
  have e2:ix ((b0H l ((pks l ds).take k)).set (pks l ds)[k] ⟨(l.getD (pks l ds)[k] cz).Target,false,(l.getD (pks l ds)[k] cz).Call⟩) (((pks l ds)[k]:Nat):Int)=some ⟨(l.getD (pks l ds)[k] cz).Target,false,(l.getD (pks l ds)[k] cz).Call⟩:=by rw[o9 h2,List.getElem_set_self]
  dsimp only;simp only[Int.ofNat_lt,hk,decide_true,if_true,b7J hk,d6y,e1,Int.toNat_natCast,e2];have hle:(a6G (((pks l ds).take k).filter λw=>decide (0≤(l.getD w cz).Call))).length≤1000:=by
   rw[a5N];exact Nat.le_trans (List.length_filter_le ..) (by simp;omega)
  rw[M6 hk,c33 hw,List.filter_append];by_cases c:0≤(l.getD (pks l ds)[k] cz).Call
  ·rw[if_pos (decide_eq_true c),A2 (by omega) (by simp only[List.length_cons,List.length_nil];omega),d6y,l5]
   refine⟨_,rfl,rfl,?_⟩;rw[List.filter_cons,if_pos (decide_eq_true c)];simp[a6G]
  ·rw[if_neg (λq=>c (of_decide_eq_true q)),l5];refine⟨_,rfl,rfl,?_⟩;rw[List.filter_cons,if_neg (λq=>c (of_decide_eq_true q))];simp[a6G]
 ·rintro⟨b1,b2⟩ ⟨rfl,rfl⟩;refine⟨_,if_neg (by simp),?_⟩
  dsimp only;rw[List.take_length,c5x,←c8S]
theorem d4h(c:g5)(ds:List Int)(hd:ds.length≤1000):((u4 ((wcR c).Intact==true) 0 (a1t ds (wcR c).Target)).bind λv=>some ((wcR c).Intact&&decide (v > 0)))=some (a3H ds c):=by
 unfold a3H wcR;dsimp only;cases hI:c.Intact;·rfl
 ·simp only[beq_self_eq_true,U7];rw[a7c _ _ (by omega),d6y]
  congr 1;rw[Bool.true_and,Bool.true_and,Bool.eq_iff_iff];simp only[decide_eq_true_iff,Bool.and_eq_true,bne_iff_ne];have:=a2a (l:=ds) (h:=c.Target);constructor
  ·intro q;exact this.1 (by omega)
  ·intro q;have:=this.2 q;omega
theorem c8R(l:List g5)(ds:List Int)(hl:l.length≤1000)(hd:ds.length≤1000):b2x (l.map wcR) ds=some ((clr l ds).map wcR,a6G (cls l ds)):=by
 unfold b2x;simp only[jn,List.length_map];refine M4 l.length (λk (b:List u9 × List Int)=>b.1=((clr l ds).take k).map wcR∧b.2=a6G ((List.range k).filter λw=>a3H ds (l.getD w cz)&&decide (0≤(l.getD w cz).Call))) (by omega) ⟨by simp,by simp[a6G]⟩ ?_ ?_
 ·rintro k ⟨b1,b2⟩ hk ⟨rfl,rfl⟩;left;have hk2:k<(clr l ds).length:=by simp[clr];exact hk
  have e1:ix (l.map wcR) (k:Int)=some (wcR l[k]):=by rw[a0y,o9 hk];rfl
  have hle:(a6G ((List.range k).filter λw=>a3H ds (l.getD w cz)&&decide (0≤(l.getD w cz).Call))).length≤1000:=by
   rw[a5N];exact Nat.le_trans (List.length_filter_le ..) (by simp;omega)
  dsimp only;simp only[Int.ofNat_lt,hk,decide_true,if_true,e1,d6y];obtain⟨v,hv,hv2⟩:=a9F (d4h l[k] ds hd);rw[hv,d6y];have hv2:=Option.some.inj hv2;rw[hv2,M6 hk2,List.map_append,List.range_succ,List.filter_append];have ec:(clr l ds)[k]=a7Q ds l[k]:=List.getElem_map _;have lc:(List.map wcR (List.take k (clr l ds))).length≤1000:=by simp[clr];omega
  rw[ec];unfold a7Q;by_cases c:a3H ds l[k]=true
  ·rw[if_pos c,if_pos c];by_cases c2:0≤l[k].Call
   ·rw[if_pos (by simpa[wcR] using c2),A2 (by omega) (by simp only[List.length_cons,List.length_nil];omega),d6y,A2 (by omega) (by simp only[List.length_cons,List.length_nil];omega),d6y,l5]
    refine⟨_,rfl,rfl,?_⟩;simp only[List.filter_cons,List.filter_nil,a04 hk,c,c2,decide_true,Bool.and_self,if_true];simp[a6G]
   ·rw[if_neg (by simpa[wcR] using c2),A2 (by omega) (by simp only[List.length_cons,List.length_nil];omega),d6y,l5]
    refine⟨_,rfl,rfl,?_⟩;simp only[List.filter_cons,List.filter_nil,a04 hk,c,c2,decide_false,Bool.and_false,Bool.false_eq_true,if_false,List.append_nil]
  ·rw[if_neg c,if_neg c,A2 (by omega) (by simp only[List.length_cons,List.length_nil];omega),d6y,l5]
   refine⟨_,rfl,rfl,?_⟩;have c:a3H ds l[k]=false:=by simpa using c
   simp only[List.filter_cons,List.filter_nil,a04 hk,c,Bool.false_and,Bool.false_eq_true,if_false,List.append_nil]
 ·rintro⟨b1,b2⟩ ⟨rfl,rfl⟩;refine⟨_,if_neg (by simp),?_⟩
  dsimp only;rw[List.take_of_length_le (by simp[clr])]
  rfl
end Go.Sh
namespace Go.Sh
def clH(x:Hp)(ds:List Int):Hp:=⟨x.S,x.Roots,clr x.a8 ds,x.T,⟨x.Q.L++clt x.a8 ds,x.Q.Cap⟩⟩
theorem a2P(l:List g5)(ds:List Int):(clt l ds).length=(cls l ds).length:=List.length_map ..
theorem c5z{l:List g5}{ds:List Int}{w:Nat}(h:w∈cls l ds):w<l.length:=by
 unfold cls at h;rw[List.mem_filter,List.mem_range] at h;exact h.1
theorem c5A{l:List g5}{ds:List Int}{k:Nat}(h:k<(clt l ds).length):(clt l ds)[k]=⟨2,(((cls l ds)[k]'(by rw[←a2P];exact h):Nat):Int),(l.getD ((cls l ds)[k]'(by rw[←a2P];exact h)) cz).Call⟩:=List.getElem_map _
theorem b9i{l:List g5}{ds:List Int}{w:Nat}(h:w<l.length):ix (clr l ds) (w:Int)=some (a7Q ds l[w]):=by
 unfold clr;rw[a0y,o9 h];rfl
section
variable{x:Hp}{ds:List Int}(hc:x.a8.length≤6)(hd:ds.length≤1000)(hq:(x.Q.L++clt x.a8 ds).length≤30)(hcap:x.Q.Cap=30)
include hc hd hq hcap
theorem b6k{k:Nat}(hk:k<(clt x.a8 ds).length):tad ⟨x.Q.L++(clt x.a8 ds).take k,x.Q.Cap⟩ (clt x.a8 ds)[k]=(⟨x.Q.L++(clt x.a8 ds).take (k+1),x.Q.Cap⟩,0):=by
 rw[List.length_append] at hq;unfold tad;rw[if_neg (by dsimp only;rw[List.length_append,List.length_take,hcap];omega),M6 hk,List.append_assoc]
theorem c00:a17 x ds=some (clH x ds):=by
 unfold a17;rw[c5w _ _ (by omega) hd,d6y]
 dsimp only;simp only[jn,a5N];have hq2:=hq;rw[List.length_append] at hq2;refine M4 (cls x.a8 ds).length (λk (q:TQ)=>q=⟨x.Q.L++(clt x.a8 ds).take k,x.Q.Cap⟩) (by rw[←a2P];omega) (by simp) ?_ ?_
 ·rintro k q hk rfl;left;have hw:=c5z (List.getElem_mem hk);have hk2:k<(clt x.a8 ds).length:=by rw[a2P];exact hk
  simp only[Int.ofNat_lt,hk,decide_true,if_true,b7J hk,d6y,b9i hw];have et:(⟨2,(((cls x.a8 ds)[k]:Nat):Int),(a7Q ds x.a8[(cls x.a8 ds)[k]]).Call⟩:k8)=(clt x.a8 ds)[k]:=by
   rw[c5A,(b7h ds _).2.1,a04 hw]
  rw[et,d0W _ (by dsimp only;rw[List.length_append,List.length_take];omega),b6k hc hd hq hcap hk2,d6y,l5 (by rw[←a2P] at hk;omega)]
  exact⟨_,rfl,rfl⟩
 ·rintro q rfl;refine⟨_,if_neg (by simp),?_⟩
  rw[←a2P,List.take_length];rfl
theorem d1m{K:y7→Option g8}:((lp (S:=Int × y7) (E:=y7) (λ((s68,s69):Int × y7)=>
   if (decide (s68<((a6G (cls x.a8 ds)).length:Int))) then
    (ix (a6G (cls x.a8 ds)) s68).bind λv72=>
    (ix ((clr x.a8 ds).map wcR) v72).bind λv73=>
    (a6X s69 (⟨2,v72,v73.Call⟩:w7)).bind λv74=>
    some (.inl (u5 (s68+1),v74.1))
   else
   some (.inr s69)) (0,tqR x.Q)).bind K)=K (tqR (clH x ds).Q):=by
 have hq2:=hq;rw[List.length_append] at hq2;have key:=a2w (f:=λ((s68,s69):Int × y7)=>
   if (decide (s68<((a6G (cls x.a8 ds)).length:Int))) then
    (ix (a6G (cls x.a8 ds)) s68).bind λv72=>
    (ix ((clr x.a8 ds).map wcR) v72).bind λv73=>
    (a6X s69 (⟨2,v72,v73.Call⟩:w7)).bind λv74=>
    some (Sum.inl (u5 (s68+1),v74.1))
   else
   some (.inr s69)) (t0:=tqR x.Q) (cls x.a8 ds).length (λk (q:y7)=>q=tqR ⟨x.Q.L++(clt x.a8 ds).take k,x.Q.Cap⟩) (λq=>q=tqR (clH x ds).Q) (by rw[←a2P];omega) (by simp) ?_ ?_
 ·obtain⟨e,h1,h2⟩:=key;rw[h1,d6y,h2]
 ·rintro k q hk rfl;left;have hw:=c5z (List.getElem_mem hk);have hk2:k<(clt x.a8 ds).length:=by rw[a2P];exact hk
  have ei:ix ((clr x.a8 ds).map wcR) (((cls x.a8 ds)[k]:Nat):Int)=some (wcR (a7Q ds x.a8[(cls x.a8 ds)[k]])):=by rw[a0y,b9i hw];rfl
  simp only[a5N,Int.ofNat_lt,hk,decide_true,if_true,b7J hk,d6y,ei];have et:(⟨2,(((cls x.a8 ds)[k]:Nat):Int),(wcR (a7Q ds x.a8[(cls x.a8 ds)[k]])).Call⟩:w7)=tkR (clt x.a8 ds)[k]:=by
   rw[c5A,a04 hw];show (⟨2,_,(a7Q ds x.a8[(cls x.a8 ds)[k]]).Call⟩:w7)=_;rw[(b7h ds _).2.1];rfl
  rw[et,d0T _ (by dsimp only;rw[List.length_append,List.length_take];omega),b6k hc hd hq hcap hk2,d6y,l5 (by rw[←a2P] at hk;omega)]
  exact⟨_,rfl,rfl⟩
 ·rintro q rfl;refine⟨_,if_neg (by rw[a5N];simp),?_⟩
  rw[←a2P,List.take_length];rfl
end
theorem b2H(s:a7)(i:Nat)(c d:b8):G9 (G9 s i c) i d=G9 s i d:=by
 unfold G9;dsimp only;rw[List.set_set]
section
variable{s:a7}(hR:SR s){d:Int}(hd:d∈lv s)
include hR hd
def k1(s:a7)(d:Int):a7:=G9 s (D5 d) ⟨1,(ce s (D5 d)).Gen,ded (ob s d)⟩
def k2(s:a7)(d:Int):a7:=G9 s (D5 d) ⟨2,(ce s (D5 d)).Gen,ded (ob s d)⟩
theorem b7n:OkO s (ded (ob s d)):=by
 have ho:=J4 hR hd;exact⟨ho.s1,ho.s2,Int.le_refl _,ho.wk,ho.p1,ho.p2,Nat.zero_le _⟩
theorem c1l:seO s d (ded (ob s d))=k1 s d:=by
 have q:=A1 hR hd;unfold seO a10 k1 G9;rw[q.2.1]
theorem d0H:At (k1 s d) d (D5 d):=by
 have q:=A1 hR hd;refine⟨by unfold k1;rw[X4];exact q.1,?_,?_⟩
 ·unfold k1;rw[K6 q.1,if_pos rfl]
 ·unfold k1;rw[K6 q.1,if_pos rfl];exact q.2.2
theorem d0I:SR (k1 s d):=by rw[←c1l hR hd];exact a0Q (o:=ded (ob s d)) hR hd rfl (b7n hR hd)
theorem d0L:SR (k2 s d):=by
 have q:=A1 hR hd;have hc:=hR.cell _ q.1;unfold k2;refine hR.G9 q.1 ⟨by simp,by simp,hc.2.2.1,hc.2.2.2⟩ (λq=>absurd (.inr rfl) q) (λ_=>⟨b7n hR hd,.inl q.2.1,?_⟩)
 show (ob s d).Serial=_;rw[O3 hR q]
theorem d0J:V4 (k2 s d) d (D5 d):=by
 have q:=A1 hR hd;refine⟨by unfold k2;rw[X4];exact q.1,?_,?_⟩
 ·unfold k2;rw[K6 q.1,if_pos rfl];exact .inr rfl
 ·unfold k2;rw[K6 q.1,if_pos rfl];exact q.2.2
theorem c9e:T4 (k1 s d).S d=some ((k2 s d).S,0):=by
 have q:=A1 hR hd;have hR1:=d0I hR hd;have q1:=d0H hR hd;have hr:=H4 hR hd;have hlen:=hR1.len;have hH:Hnd d:=((b0b hR1).2 q1.d).2.1;have hsl:(d-1) % 32=(D5 d:Nat):=((b0b hR1).2 q1.d).2.2.1;have hg:(d-1) / 32=(ce s (D5 d)).Gen:=by
  have:=q.2.2;have h24:=hR.len;have:=q.1;omega
 unfold T4 E0;rw[a4R hR1 q1.d,d6y,if_neg (by simp),b9E q1.1,d6y,q1.2.1,if_neg (by simp),d6y,if_neg (by simp),a4j (by omega),d6y,if_pos hH,hsl,a5q (by omega),d6y,if_pos hH,hg,a6i rfl q1.1 hlen,d6y]
 have e:(ce (k1 s d) (D5 d)).Val=ded (ob s d):=by unfold k1;rw[K6 q.1,if_pos rfl]
 rw[e];congr 2;show (G9 (k1 s d) (D5 d) _).S=(k2 s d).S;unfold k1 k2;rw[b2H]
theorem d0D(hw:(ob s d).Weak=0):gvA (k2 s d) (D5 d)=gnA s d:=by
 have q:=A1 hR hd;have e:ce (k2 s d) (D5 d)=⟨2,(ce s (D5 d)).Gen,ded (ob s d)⟩:=by unfold k2;rw[K6 q.1,if_pos rfl]
 unfold gvA gnA gnC;rw[e];rw[O3 hR q] at hw;rw[if_pos hw];unfold k2;rw[b2H];rfl
theorem d0K(hw:(ob s d).Weak≠0):k2 s d=gnA s d:=by
 have q:=A1 hR hd;unfold k2 gnA gnC;rw[O3 hR q] at hw ⊢;rw[if_neg hw]
end
theorem c4n{x:Hp}(hR:SR x.S){d:Int}(hd:d∈lv x.S):Y3 x d=some (wS x (gnA x.S d)):=by
 unfold Y3;rw[b2g hR hd,d6y];have e1:K2 x.S d (⟨(ob x.S d).Serial,0,(ob x.S d).Weak,(ob x.S d).Prog,(ob x.S d).Started,[]⟩:m8)=some (k1 x.S d,0):=by
  rw[←c1l hR hd];exact b1H (o:=ded (ob x.S d)) hR hd rfl (b7n hR hd)
 rw[e1,d6y,c9e hR hd,d6y];by_cases hw:(ob x.S d).Weak=0
 ·rw[if_pos (by simpa using hw),c2P (d0L hR hd) (d0J hR hd),d6y,d0D hR hd hw]
  rfl
 ·rw[if_neg (by simpa using hw)]
  show some (wS x (k2 x.S d))=_;rw[d0K hR hd hw]
theorem d2d{s:a7}(hR:SR s){d:Int}(hd:d∈lv s):b42 (sO (k1 s d)) d=some (sO (k2 s d)):=by
 have q:=A1 hR hd;have hR1:=d0I hR hd;have q1:=d0H hR hd;have hlen:=hR1.len;have hr:=H4 hR hd;have hi:=q1.1;have hi2:D5 d<(sO (k1 s d)).a8.length:=by rw[C0];exact hi
 have J3:D5 d<(pl (sO (k1 s d))).a8.length:=by rw[a1e];exact hi2
 have hlen2:(sO (k1 s d)).a8.length≤24:=by rw[C0];exact hlen
 unfold b42 b93 b1m;rw[a2Y _ (by omega),d6y,a99 (k1 s d) (by omega),a4R hR1 q1.d,d6y,if_neg (by simp),b9W hi2,d6y]
 have hst:(plc (D5 d) (sO (k1 s d)).a8[D5 d]).State=1:=by
  have:=q1.2.1;rw[E5 hi] at this;simpa[plc,sO,cO] using this
 have hgen:(plc (D5 d) (sO (k1 s d)).a8[D5 d]).Gen=(ce s (D5 d)).Gen:=by
  have:(ce (k1 s d) (D5 d)).Gen=(ce s (D5 d)).Gen:=by unfold k1;rw[K6 q.1,if_pos rfl]
  rw[E5 hi] at this;simpa[plc,sO,cO] using this
 rw[hst,if_neg (by simp),d6y,if_neg (by simp),d6y]
 dsimp only;rw[b9W hi2,d6y];have w3:∀c:B8,a0Y (pl (sO (k1 s d))) ((D5 d:Nat):Int) c=some ⟨(pl (sO (k1 s d))).a8.set (D5 d) c,(pl (sO (k1 s d))).Last⟩:=λc=>by
  unfold a0Y;rw[M3 (by omega) (by rw[a1e];omega),d6y,o9 J3,d6y,Int.toNat_natCast]
 rw[w3,d6y,d6y,b5u _ _ (by omega) (by simp[a1e]),d6y,hgen]
 unfold k2;rw[←b2H s (D5 d) ⟨1,(ce s (D5 d)).Gen,ded (ob s d)⟩,c3B];show some _=some (⟨(sO (k1 s d)).a8.set (D5 d) _,_,_⟩:m9);congr 1;congr 1;refine List.ext_getElem (by simp) λk h1 h2=>?_
 have hk:k<(k1 s d).S.a8.length:=by simpa[C0] using h1
 have hk2:k<(sO (k1 s d)).a8.length:=by rw[C0];exact hk
 have hk3:k<(pl (sO (k1 s d))).a8.length:=by rw[a1e];exact hk2
 simp only[List.getElem_map,List.getElem_range,List.getElem_set];rw[a5J J3,a04 hk2,a04 hk3];by_cases e:k=D5 d
 ·subst e;rw[if_pos rfl,if_pos rfl];have e2:(sO (k1 s d)).a8[D5 d].Val=oo (ded (ob s d)):=by
   have:(ce (k1 s d) (D5 d)).Val=ded (ob s d):=by unfold k1;rw[K6 q.1,if_pos rfl]
   rw[←this,E5 hi];simp[sO,cO]
  rw[e2];rfl
 ·rw[if_neg e,if_neg (Ne.symm e)];simp[sO,pl,plc,cO]
theorem d1N{x:Hp}(hR:SR x.S){d:Int}(hd:d∈lv x.S):a8k (hO x) d=some (hO (wS x (gnA x.S d))):=by
 unfold a8k;rw[show (hO x).S=sO x.S from rfl,b0X hR hd,d6y];have e1:O2 (sO x.S) d (⟨(oo (ob x.S d)).Serial,0,(oo (ob x.S d)).Weak,(oo (ob x.S d)).Prog,(oo (ob x.S d)).Started,[]⟩:D9)=some (sO (k1 x.S d),0):=by
  rw[←c1l hR hd];exact b1I (o:=ded (ob x.S d)) hR hd rfl (b7n hR hd)
 rw[e1,d6y,d2d hR hd,d6y];by_cases hw:(ob x.S d).Weak=0
 ·rw[if_pos (by simpa[oo] using hw),c54 (d0L hR hd) (d0J hR hd),d6y,d0D hR hd hw]
  rfl
 ·rw[if_neg (by simpa[oo] using hw)]
  show some (hO (wS x (k2 x.S d)))=_;rw[d0K hR hd hw]
end Go.Sh
namespace Go.Sh
theorem c3u:∀(l:List Int) {x:Hp},SR x.S→SR (l.foldl Q3 x).S
 | [],x,h=>h
 | v::l,x,h=>c3u l (x:=Q3 x v) (c1N h v)
theorem b8t:∀(l:List Int) {x:Hp},SR x.S→SL x→SL (l.foldl Q3 x)
 | [],x,_,h=>h
 | v::l,x,hR,h=>b8t l (x:=Q3 x v) (c1N hR v) (h.rls hR v)
theorem c4A(l:List Int){k:Nat}(hk:k<l.length)(x:Hp):(l.take (k+1)).foldl Q3 x=Q3 ((l.take k).foldl Q3 x) l[k]:=by
 rw[M6 hk,List.foldl_append];rfl
theorem b8q{y:Hp}(hR:SR y.S)(l:List Int)(hl:l.length≤1000000)(hb:∀v∈l,v≤9223372036854775807){K:Hp→Option Hp}:((lp (S:=Int × b7) (E:=b7) (λ((s35,s36):Int × b7)=>
     if (decide (s35<(l.length:Int))) then
      (ix l s35).bind λv39=>
      (C9 s36 v39).bind λv40=>
      some (.inl (u5 (s35+1),v40))
     else
     some (.inr s36)) (0,y)).bind K)=K (l.foldl Q3 y):=by
 have key:=F9 l Q3 id (λk z=>SR z.S) (b0:=y) (f:=λ((s35,s36):Int × b7)=>
     if (decide (s35<(l.length:Int))) then
      (ix l s35).bind λv39=>
      (C9 s36 v39).bind λv40=>
      some (Sum.inl (u5 (s35+1),v40))
     else
     some (.inr s36)) (by omega) hR (λk hk z hz=>?_) (λz hz=>by simp)
 ·rw[key,d6y];rfl
 ·simp only[Int.ofNat_lt,hk,decide_true,if_true,o9 hk,d6y,a2F hz (hb _ (List.getElem_mem hk))];rw[l5];exact⟨rfl,c1N hz _⟩
theorem b5a{y:Hp}(hR:SR y.S)(l:List Int)(hl:l.length≤1000000)(hb:∀v∈l,v≤9223372036854775807){K:g8→Option g8}:((lp (S:=Int × g8) (E:=g8) (λ((s45,s46):Int × g8)=>
      if (decide (s45<(l.length:Int))) then
       (ix l s45).bind λv49=>
       (F5 s46 v49).bind λv50=>
       some (.inl (u5 (s45+1),v50))
      else
      some (.inr s46)) (0,hO y)).bind K)=K (hO (l.foldl Q3 y)):=by
 have key:=a2w (f:=λ((s45,s46):Int × g8)=>
      if (decide (s45<(l.length:Int))) then
       (ix l s45).bind λv49=>
       (F5 s46 v49).bind λv50=>
       some (Sum.inl (u5 (s45+1),v50))
      else
      some (.inr s46)) (t0:=hO y) l.length (λk z=>z=hO ((l.take k).foldl Q3 y)) (λz=>z=hO (l.foldl Q3 y)) (by omega) rfl ?_ ?_
 ·obtain⟨e,h1,h2⟩:=key;rw[h1,d6y,h2]
 ·rintro k z hk rfl;left;have hz:=c3u (l.take k) hR;simp only[Int.ofNat_lt,hk,decide_true,if_true,o9 hk,d6y,a32 hz (hb _ (List.getElem_mem hk))];rw[l5,←c4A l hk];exact⟨_,rfl,rfl⟩
 ·rintro z rfl;exact⟨_,if_neg (by simp),by rw[List.take_length]⟩
theorem b9w(s:a7)(ds:List Int){k:Nat}(hk:k<ds.length):gnL s (ds.take (k+1))=gnA (gnL s (ds.take k)) ds[k]:=by
 unfold gnL;rw[M6 hk,List.foldl_append];rfl
section
variable{y:Hp}(hR:SR y.S){ds:List Int}(hn:ds.Nodup)(hm:∀d∈ds,d∈lv y.S)
include hR hn hm
theorem b4I{k:Nat}(hk:k<ds.length):SR (gnL y.S (ds.take k))∧ds[k]∈lv (gnL y.S (ds.take k)):=by
 have g:=a1Q (ds.take k) hR ((List.take_sublist k ds).nodup hn) λd hd=>hm d (List.mem_of_mem_take hd);refine⟨g.sr,?_⟩;rw[g.lv,List.mem_filter,decide_eq_true_iff];refine⟨hm _ (List.getElem_mem hk),λq=>?_⟩;rw[←List.take_append_drop k ds,List.nodup_append] at hn;exact hn.2.2 _ q ds[k] (by rw[List.drop_eq_getElem_cons hk];exact List.mem_cons_self ..) rfl
theorem c4m(hl:ds.length≤1000){K:Hp→Option Hp}:((lp (S:=Int × b7) (E:=b7) (λ((s42,s43):Int × b7)=>
    if (decide (s42<(ds.length:Int))) then
     (ix ds s42).bind λv46=>
     (Y3 s43 v46).bind λv47=>
     some (.inl (u5 (s42+1),v47))
    else
    some (.inr s43)) (0,y)).bind K)=K (wS y (gnL y.S ds)):=by
 have key:=a2w (f:=λ((s42,s43):Int × b7)=>
    if (decide (s42<(ds.length:Int))) then
     (ix ds s42).bind λv46=>
     (Y3 s43 v46).bind λv47=>
     some (Sum.inl (u5 (s42+1),v47))
    else
    some (.inr s43)) (t0:=y) ds.length (λk z=>z=wS y (gnL y.S (ds.take k))) (λz=>z=wS y (gnL y.S ds)) (by omega) rfl ?_ ?_
 ·obtain⟨e,h1,h2⟩:=key;rw[h1,d6y,h2]
 ·rintro k z hk rfl;left;obtain⟨h1,h2⟩:=b4I hR hn hm hk;simp only[Int.ofNat_lt,hk,decide_true,if_true,o9 hk,d6y,c4n (x:=wS y (gnL y.S (ds.take k))) h1 h2];rw[l5,b9w _ _ hk];exact⟨_,rfl,rfl⟩
 ·rintro z rfl;exact⟨_,if_neg (by simp),by rw[List.take_length]⟩
theorem b9H(hl:ds.length≤1000){K:g8→Option g8}:((lp (S:=Int × g8) (E:=g8) (λ((s52,s53):Int × g8)=>
     if (decide (s52<(ds.length:Int))) then
      (ix ds s52).bind λv56=>
      (a8k s53 v56).bind λv57=>
      some (.inl (u5 (s52+1),v57))
     else
     some (.inr s53)) (0,hO y)).bind K)=K (hO (wS y (gnL y.S ds))):=by
 have key:=a2w (f:=λ((s52,s53):Int × g8)=>
     if (decide (s52<(ds.length:Int))) then
      (ix ds s52).bind λv56=>
      (a8k s53 v56).bind λv57=>
      some (Sum.inl (u5 (s52+1),v57))
     else
     some (.inr s53)) (t0:=hO y) ds.length (λk z=>z=hO (wS y (gnL y.S (ds.take k)))) (λz=>z=hO (wS y (gnL y.S ds))) (by omega) rfl ?_ ?_
 ·obtain⟨e,h1,h2⟩:=key;rw[h1,d6y,h2]
 ·rintro k z hk rfl;left;obtain⟨h1,h2⟩:=b4I hR hn hm hk;simp only[Int.ofNat_lt,hk,decide_true,if_true,o9 hk,d6y,d1N (x:=wS y (gnL y.S (ds.take k))) h1 h2];rw[l5,b9w _ _ hk];exact⟨_,rfl,rfl⟩
 ·rintro z rfl;exact⟨_,if_neg (by simp),by rw[List.take_length]⟩
end
section
variable{x:Hp}(hx:M2 x){ds:List Int}(hn:ds.Nodup)(hm:∀d∈ds,d∈lv x.S)
include hx hn hm
theorem b7p:ds.length≤24:=Nat.le_trans (a4n hn hm) (F3 (s7.2 hx.sh.sr))
theorem b7v{d:Int}(hd:d∈lv x.S):(ob x.S d).Fields.length≤4:=(J4 hx.sh.sr hd).fl
theorem b7R{d:Int}(hd:d∈lv x.S):(outs x.S d).length≤4:=Nat.le_trans (c1p _) (b7v hx hn hm hd)
theorem a8P:∀(l:List Int),(∀d∈l,d∈lv x.S)→(l.flatMap (outs x.S)).length≤4*l.length
 | [],_=>by simp
 | d::l,h=>by
  rw[List.flatMap_cons,List.length_append,List.length_cons];have:=a8P l λe he=>h e (List.mem_cons_of_mem _ he);have:=b7R hx hn hm (h d (List.mem_cons_self ..));omega
theorem c3d:∀v∈ds.flatMap (outs x.S)++(wot x.T ds).2,v≤9223372036854775807:=λv hv=>by
 rcases List.mem_append.1 hv with q | q
 ·obtain⟨d,hd,q⟩:=List.mem_flatMap.1 q;obtain⟨q,_⟩:=a6O.1 q;rcases hx.sh.fl d (hm d hd) v q with e | e
  ·omega
  ·exact a1X hx.sh.sr e
 ·by_cases h0:v=0
  ·omega
  ·have hl:=b7p hx hn hm;have h3:=(a4E hx.sh.hr ds (by omega)).2.2.2.2.2 v
   have h4:=a2a.2 ⟨h0,q⟩;have h5:0<own x.T v:=by omega
   obtain⟨p,hp,hq⟩:=List.countP_pos_iff.1 h5;have hq:(v != 0&&p.Val==v)=true:=hq;rw[Bool.and_eq_true,beq_iff_eq] at hq;have:=(hx.sh.pr _ _ (a05.1 hp)).2;rw[hq.2] at this;exact a1X hx.sh.sr this
theorem b9T:(ds.flatMap (outs x.S)++(wot x.T ds).2).length≤200:=by
 have hl:=b7p hx hn hm;have h1:=a8P hx hn hm ds hm;have h2:=(a4E hx.sh.hr ds (by omega)).2.2.1
 rw[List.length_append];omega
theorem c2C(hq:(x.Q.L++clt x.a8 ds).length≤30){l:List Int}(h1:V0 x l=some ds):a0l x l=some (buH x ds):=by
 have hl:=b7p hx hn hm;have hR:=hx.sh.sr;obtain⟨w1,w2,w3,w4,w5,w6⟩:=a4E hx.sh.hr ds (by omega)
 have ol:=b9T hx hn hm;have fl:=a8P hx hn hm ds hm;unfold a0l;rw[h1,d6y,c00 (by have:=hx.sh.c6;omega) (by omega) hq hx.sh.cap,d6y]
 simp only[jn];have key:=F9 ds (λb d=>b++outs x.S d) id (λk b=>b.length≤4*k) (b0:=[]) (f:=λ((s49,s50):Int × (List Int))=>
   if (decide (s49<(ds.length:Int))) then
    (ix ds s49).bind λv53=>
    (y4 (clH x ds).S v53).bind λv54=>
    (a34 v54.1.Fields).bind λv55=>
    (app 8 s50 v55).bind λv56=>
    some (Sum.inl (u5 (s49+1),v56))
   else
   some (.inr s50)) (by omega) (by simp) (λk hk b hb=>?_) (λb hb=>by simp)
 ·rw[key,d6y,a2s,List.nil_append];dsimp only[id];rw[show (clH x ds).T=x.T from rfl,w1,d6y];have ol2:=ol;rw[List.length_append] at ol2;rw[A2 (by omega) (by omega),d6y]
  have k1:=c4m (y:=⟨(clH x ds).S,(clH x ds).Roots,(clH x ds).a8,(wot x.T ds).1,(clH x ds).Q⟩) hR hn hm (by omega) (K:=λe=>(lp (S:=Int × b7) (E:=b7) (λ((s35,s36):Int × b7)=>
     if (decide (s35<((ds.flatMap (outs x.S)++(wot x.T ds).2).length:Int))) then
      (ix (ds.flatMap (outs x.S)++(wot x.T ds).2) s35).bind λv39=>
      (C9 s36 v39).bind λv40=>
      some (.inl (u5 (s35+1),v40))
     else
     some (.inr s36)) (0,e)).bind λe34=>some e34)
  refine Eq.trans k1 ?_;have g:=a1Q ds hR hn hm;have k2:=b8q (y:=wS (⟨(clH x ds).S,(clH x ds).Roots,(clH x ds).a8,(wot x.T ds).1,(clH x ds).Q⟩:Hp) (gnL x.S ds)) g.sr _ (by omega) (c3d hx hn hm) (K:=λe34=>some e34)
  refine Eq.trans k2 ?_;rfl
 ·have hd:=hm _ (List.getElem_mem hk);have f4:=b7v hx hn hm hd;have o4:=b7R hx hn hm hd;simp only[Int.ofNat_lt,hk,decide_true,if_true,o9 hk,d6y,show (clH x ds).S=x.S from rfl,b2g hR hd,b9O _ (by omega:(ob x.S ds[k]).Fields.length≤1000000)]
  have e:nz (ob x.S ds[k]).Fields=outs x.S ds[k]:=rfl;rw[e,A2 (by omega) (by omega),d6y,l5]
  exact⟨rfl,by rw[List.length_append];omega⟩
theorem b6n(hq:(x.Q.L++clt x.a8 ds).length≤30){l:List Int}(h1:b1z (hO x) l=some ds):a8j (hO x) l=some (hO (buH x ds)):=by
 have hl:=b7p hx hn hm;have hR:=hx.sh.sr;obtain⟨w1,w2,w3,w4,w5,w6⟩:=a4E hx.sh.hr ds (by omega)
 have ol:=b9T hx hn hm;have fl:=a8P hx hn hm ds hm;have c6:=hx.sh.c6;unfold a8j;rw[h1,d6y,show (hO x).a8=x.a8.map wcR from rfl,c8R _ _ (by omega) (by omega),d6y]
 simp only[jn];rw[show (hO x).Q=tqR x.Q from rfl,d1m (by omega) (by omega) hq hx.sh.cap]
 have key:=F9 ds (λb d=>b++outs x.S d) id (λk b=>b.length≤4*k) (b0:=[]) (f:=λ((s59,s60):Int × (List Int))=>
    if (decide (s59<(ds.length:Int))) then
     (ix ds s59).bind λv63=>
     (F1 (hO x).S v63).bind λv64=>
     (a2A v64.1.Fields).bind λv65=>
     (app 8 s60 v65).bind λv66=>
     some (Sum.inl (u5 (s59+1),v66))
    else
    some (.inr s60)) (by omega) (by simp) (λk hk b hb=>?_) (λb hb=>by simp)
 ·rw[key,d6y,a2s,List.nil_append];dsimp only[id];rw[show (hO x).T=x.T.map J3 from rfl,w4,d6y];dsimp only;have ol2:=ol;rw[List.length_append] at ol2;rw[A2 (by omega) (by omega),d6y]
  have k1:=b9H (y:=⟨(clH x ds).S,(clH x ds).Roots,(clH x ds).a8,(wot x.T ds).1,(clH x ds).Q⟩) hR hn hm (by omega) (K:=λe=>(lp (S:=Int × g8) (E:=g8) (λ((s45,s46):Int × g8)=>
      if (decide (s45<((ds.flatMap (outs x.S)++(wot x.T ds).2).length:Int))) then
       (ix (ds.flatMap (outs x.S)++(wot x.T ds).2) s45).bind λv49=>
       (F5 s46 v49).bind λv50=>
       some (.inl (u5 (s45+1),v50))
      else
      some (.inr s46)) (0,e)).bind λe44=>some e44)
  refine Eq.trans k1 ?_;have g:=a1Q ds hR hn hm;have k2:=b5a (y:=wS (⟨(clH x ds).S,(clH x ds).Roots,(clH x ds).a8,(wot x.T ds).1,(clH x ds).Q⟩:Hp) (gnL x.S ds)) g.sr _ (by omega) (c3d hx hn hm) (K:=λe44=>some e44)
  refine Eq.trans k2 ?_;rfl
 ·have hd:=hm _ (List.getElem_mem hk);have f4:=b7v hx hn hm hd;have o4:=b7R hx hn hm hd;simp only[Int.ofNat_lt,hk,decide_true,if_true,o9 hk,d6y,show (hO x).S=sO x.S from rfl,b0X hR hd];have e:a2A (oo (ob x.S ds[k])).Fields=some (outs x.S ds[k]):=b4P _ (by show (ob x.S ds[k]).Fields.length≤_;omega)
  rw[e,d6y,A2 (by omega) (by omega),d6y,l5]
  exact⟨rfl,by rw[List.length_append];omega⟩
end
end Go.Sh
namespace Go.Sh
theorem c8O{x:Hp}(hR:SR x.S)(hS:SL x){ds:List Int}(hn:ds.Nodup)(hm:∀d∈ds,d∈lv x.S)(t:Tb):SL (a4G x ds t):=λk hk=>by
 have g:=a1Q ds hR hn hm;have hk:k∈lv (gnL x.S ds):=hk;rw[g.lv,List.mem_filter,decide_eq_true_iff] at hk;have e:ob (a4G x ds t).S k=ob x.S k:=g.ob k hk.1 hk.2;rw[e];exact hS k hk.1
theorem c5r{x:Hp}(hR:SR x.S)(hS:SL x){ds:List Int}(hn:ds.Nodup)(hm:∀d∈ds,d∈lv x.S):SL (buH x ds):=
 b8t _ (x:=a4G x ds (wot x.T ds).1) (a1Q ds hR hn hm).sr (c8O hR hS hn hm _)
theorem c65{x:Hp}(hR:SR x.S)(hS:SL x){h:Int}(hh:h∈lv x.S):SL (quH x h):=by
 have hok:=b8F hR hh;have r1:=a0Q (o:=srt (ob x.S h)) hR hh rfl hok;refine SL.C5 (x:=⟨seO x.S h (srt (ob x.S h)),x.Roots,x.a8,x.T,⟨x.Q.L ++ [qtk x h],x.Q.Cap⟩⟩) (λk hk=>?_) r1 h;dsimp only at hk ⊢;rw[a3x (o:=srt (ob x.S h)) hR hh rfl hok] at hk;rw[a2H (o:=srt (ob x.S h)) hR hh rfl hok (a1X hR hk)];split;·exact hS h hh
 ·exact hS k hk
theorem d3o{x:Hp}(hx:M2 x)(hS:SL x):SL (stp x):=by
 cases h:zr x with
 | nil=>rw[a9k h];exact hS
 | cons z l=>
  have hz:=(a1k.1 (show z∈zr x by rw[h];exact List.mem_cons_self ..)).1
  rw[a4A h];split;·exact c65 hx.sh.sr hS hz
  ·exact c5r hx.sh.sr hS (by simp) (by simpa using hz)
theorem b8G{x:Hp}(hx:M2 x)(hS:SL x)(n:Nat):SL (stN n x):=by
 induction n with
 | zero=>exact hS
 | succ n ih=>rw[a19];exact d3o (a0F hx n) ih
theorem c3F{x:Hp}(hx:M2 x)(hS:SL x):SL (a1C x):=b8G hx hS 100
section
variable{x:Hp}(hx:M2 x)(hS:SL x)
include hx hS
theorem b64{z:Int}(hz:z∈zr x):(x.Q.L++clt x.a8 [z]).length≤30:=by
 have h1:=(b5D hx hz).sh.q30;have hzl:=(a1k.1 hz).1;rw[(b0F hx.sh.sr (ds:=[z]) (by simp) (by simpa using hzl)).2.2.2] at h1
 exact h1
theorem c4D(h:zr x = []):((a1y x).bind λv4=>
  if ((v4.length:Int)==0) then
   some (Sum.inr x)
  else
  (ix v4 0).bind λv5=>
  (y4 x.S v5).bind λv6=>
  (L8 v6.1).bind λv7=>
  if v7 then
   (S0 x v5).bind λv8=>
   some (.inl v8)
  else
  (cut v4 0 1).bind λv9=>
  (a0l x v9).bind λv10=>
  some (Sum.inl (α:=Hp) (β:=Hp) v10))=some (.inr x):=by
 rw[zero_eq hx.sh.sr,d6y,h];rfl
theorem d3U(z:Int)(l:List Int):cut (z::l) 0 1=some [z]:=by
 unfold cut;rw[if_pos (by simp;omega)]
 simp
theorem c1Q(h:zr x ≠ []):((a1y x).bind λv4=>
  if ((v4.length:Int)==0) then
   some (Sum.inr x)
  else
  (ix v4 0).bind λv5=>
  (y4 x.S v5).bind λv6=>
  (L8 v6.1).bind λv7=>
  if v7 then
   (S0 x v5).bind λv8=>
   some (.inl v8)
  else
  (cut v4 0 1).bind λv9=>
  (a0l x v9).bind λv10=>
  some (Sum.inl (α:=Hp) (β:=Hp) v10))=some (.inl (stp x)):=by
 cases hz:zr x with
 | nil=>exact absurd hz h
 | cons z l=>
  have hzm:z∈zr x:=by rw[hz];exact List.mem_cons_self ..
  have hzl:=(a1k.1 hzm).1;have hR:=hx.sh.sr;rw[zero_eq hR,d6y,hz,if_neg (by simp;omega),show ix (z::l) 0=some z from rfl,d6y,b2g hR hzl,d6y,c3f,d6y,a4A hz]
  by_cases hd:due (ob x.S z)=true
  ·rw[if_pos hd,if_pos hd,b6Q hx hS (a1X hR hzl),d6y];unfold quD;rw[if_pos ⟨hzl,hd⟩]
  ·rw[if_neg hd,if_neg hd,d3U hx hS,d6y,c2C hx (ds:=[z]) (by simp) (by simpa using hzl) (b64 hx hS hzm) (by rw[b1c hR [z] (by simp) (by simpa using a1X hR hzl),b9K hzl]),d6y]
theorem a33:O5 x=some (a1C x):=by
 obtain⟨n,hn,h1,h2,h3⟩:=b2I hx;unfold O5;refine a1V (λj=>stN j x) rfl n (λ_=>True) (by omega) trivial (λk hk _=>.inl ⟨?_,trivial⟩) (λ_=>⟨stN n x,?_,by rw[h3]⟩)
 ·have:=c1Q (a0F hx k) (b8G hx hS k) (h2 k hk);rw[←a19] at this;exact this
 ·exact c4D (a0F hx n) (b8G hx hS n) h1
theorem c9W{k:Nat}(hk:k<100)(h:zr x ≠ []){E:Type}{e:E}:((a5Z (hO x)).bind λv35=>
     if ((v35.length:Int)==0) then
      some (Sum.inr e)
     else
     (ix v35 0).bind λv36=>
     (a89 (hO x) v36).bind λv37=>
     if v37 then
      (a4r (hO x) v36).bind λv38=>
      some (.inl (u5 ((k:Int)+1),v38))
     else
     (cut v35 0 1).bind λv39=>
     (a8j (hO x) v39).bind λv40=>
     some (Sum.inl (u5 ((k:Int)+1),v40)))=some (.inl (((k+1:Nat):Int),hO (stp x))):=by
 cases hz:zr x with
 | nil=>exact absurd hz h
 | cons z l=>
  have hzm:z∈zr x:=by rw[hz];exact List.mem_cons_self ..
  have hzl:=(a1k.1 hzm).1;have hR:=hx.sh.sr;rw[c2a hR,d6y,hz,if_neg (by simp;omega),show ix (z::l) 0=some z from rfl,d6y,c5J hx hS (a1X hR hzl),d6y,decide_eq_true hzl,Bool.true_and,a4A hz,l5]
  by_cases hd:due (ob x.S z)=true
  ·rw[if_pos hd,if_pos hd,b90 hx hS (a1X hR hzl),d6y];unfold quD;rw[if_pos ⟨hzl,hd⟩]
  ·rw[if_neg hd,if_neg hd,d3U hx hS,d6y,b6n hx (ds:=[z]) (by simp) (by simpa using hzl) (b64 hx hS hzm) (by rw[c5K hR [z] (by simp) (by simpa using a1X hR hzl),b9K hzl]),d6y]
theorem a6a:P4 (hO x)=some (hO (a1C x)):=by
 obtain⟨n,hn,h1,h2,h3⟩:=b2I hx;unfold P4;simp only[jn];refine a1V (λj=>((j:Int),hO (stN j x))) (by rfl) n (λ_=>True) (by omega) trivial (λk hk _=>.inl ⟨?_,trivial⟩) (λ_=>⟨.inl (hO (stN n x)),?_,by rw[h3]⟩)
 ·dsimp only;rw[if_pos (by simp;omega)]
  have:=c9W (a0F hx k) (b8G hx hS k) (k:=k) (by omega) (h2 k hk) (e:=(Sum.inl (hO (stN k x)):g8 ⊕ g8))
  rw[←a19] at this;exact this
 ·dsimp only;rw[if_pos (by simp;omega),c2a (a0F hx n).sh.sr,d6y,h1]
  rfl
end
end Go.Sh
namespace Go.Sh
def M1(n l m e:Int):Int:=if n<l∨n > m then e else 0
def a0I(a b c:Int):Int:=if a≠0 then a else if b≠0 then b else c
def B3(k a b c:Int):Int:=
 if k=1 then a0I (M1 a 0 5 6) (M1 b 0 4 1) (M1 c (-1) 5 13)
 else if k=2∨k=9∨k=10 then a0I (M1 a 0 5 6) (M1 b 0 5 6) 0
 else if k=3 then M1 a 0 5 6
 else if k=4 then a0I (M1 a 0 5 6) (M1 b 0 5 6) (M1 c 0 3 5)
 else if k=5 then a0I (M1 a 0 5 6) (M1 b 0 3 5) (M1 c (-1) 5 6)
 else if k=6 then a0I (M1 a 0 5 7) (M1 b (-1) 5 6) (M1 c (-1) 5 13)
 else if k=7 then a0I (M1 a 0 5 6) (M1 b 0 5 7) 0
 else if k=8 then a0I (M1 a 0 5 6) (M1 b (-1) 5 6) 0
 else if k=11 then 0
 else if k=12 then M1 a 0 200 12
 else 14
def b8o:j5:=⟨some 233,0,5,6⟩
def c9R:j5:=⟨some 234,0,5,6⟩
def d4v:j5:=⟨some 234,-1,5,6⟩
def d4B:j5:=⟨some 236,-1,5,13⟩
def b2T:List (Int × List j5):=[(1,[b8o,⟨some 234,0,4,1⟩,d4B]),(2,[b8o,c9R]),(3,[b8o]),(4,[b8o,c9R,⟨some 236,0,3,5⟩]),
 (5,[b8o,⟨some 234,0,3,5⟩,⟨some 236,-1,5,6⟩]),(6,[⟨some 233,0,5,7⟩,d4v,d4B]),(7,[b8o,⟨some 234,0,5,7⟩]),(8,[b8o,d4v]),(9,[b8o,c9R]),(10,[b8o,c9R]),(11,[]),(12,[⟨some 233,0,200,12⟩])]
theorem c01:a6t=some b2T:=by kernel_rfl
def a3e(o:g9)(d:j5):Int:=if d.part=some 233 then o.A else if d.part=some 234 then o.B else o.C
def a9E(o:g9)(d:j5):Bool:=decide (a3e o d<d.least)||decide (a3e o d > d.most)
def b0T(o:g9):List j5→Int ⊕ Unit
 | []=>.inr ()
 | d::ds=>if a9E o d then .inl d.e else b0T o ds
theorem b9t(o:g9)(d:j5)(ds:List j5):b0T o (d::ds)=if a9E o d then .inl d.e else b0T o ds:=rfl
def c2d(d:j5):Prop:=d.part=some 233∨d.part=some 234∨d.part=some 236
theorem d2H(o:g9){d:j5}(h:c2d d):b0V d.part o=some (a3e o d):=by
 unfold a3e;rcases h with h | h | h
 ·rw[h];rfl
 ·rw[h];rfl
 ·rw[h];rfl
theorem d2h(o:g9)(ds:List j5)(hl:ds.length≤10)(hp:∀d∈ds,c2d d):lp (S:=Int) (E:=Int ⊕ Unit) (λ(s11:Int)=>
   if (decide (s11<(ds.length:Int))) then
    (ix ds s11).bind λv13=>
    (b0V v13.part o).bind λv14=>
    if ((decide (v14<v13.least))||(decide (v14 > v13.most))) then
     some (.inr (.inl v13.e))
    else
    some (.inl (u5 (s11+1)))
   else
   some (.inr (.inr ()))) 0=some (b0T o ds):=by
 refine a3R (b6G ds.length (λk=>b0T o ds=b0T o (ds.drop k)) (λe=>e=b0T o ds) (by omega) rfl (λk hk hP=>?_) (λhP=>?_))
 ·rw[if_pos (by simpa using hk),o9 hk,d6y,d2H o (hp _ (List.getElem_mem hk)),d6y]
  rw[List.drop_eq_getElem_cons hk,b9t] at hP;by_cases c:a9E o ds[k]=true
  ·rw[if_pos (show ((decide (a3e o ds[k]<ds[k].least))||(decide (a3e o ds[k] > ds[k].most)))=true from c)];rw[if_pos c] at hP;exact .inr ⟨_,rfl,hP.symm⟩
  ·rw[if_neg (show ¬((decide (a3e o ds[k]<ds[k].least))||(decide (a3e o ds[k] > ds[k].most)))=true from c),l5];rw[if_neg c] at hP;exact .inl ⟨rfl,hP⟩
 ·rw[List.drop_length] at hP;exact⟨_,if_neg (by simp),hP.symm⟩
theorem c8X:∀p∈b2T,p.2.length≤10∧∀d∈p.2,c2d d:=by
 have:b2T.all (λp=>decide (p.2.length≤10)&&p.2.all λd=>(d.part==some 233)||(d.part==some 234)||(d.part==some 236))=true:=by kernel_rfl
 intro p hp;have:=List.all_eq_true.1 this p hp;rw[Bool.and_eq_true,decide_eq_true_iff,List.all_eq_true] at this;refine⟨this.1,λd hd=>?_⟩;have:=this.2 d hd;simp only[Bool.or_eq_true,beq_iff_eq] at this;unfold c2d;rcases this with (h | h) | h
 ·exact .inl h
 ·exact .inr (.inl h)
 ·exact .inr (.inr h)
theorem c23{m:List (Int × List j5)}{k:Int}{v:List j5}(h:B5 m k=some v):(k,v)∈m:=by
 induction m with
 | nil=>cases h
 | cons p m ih=>
  unfold B5 at h;split at h
  ·rename_i c;have:k=p.1:=by simpa using c
   cases h;subst this;exact List.mem_cons_self ..
  ·exact List.mem_cons_of_mem _ (ih h)
def b1S(o:g9)(ds:List j5):Int:=match b0T o ds with
 | .inl e=>e
 | .inr _=>0
theorem d0l(o:g9):b1S o []=0:=rfl
theorem b1T(o:g9)(d:j5)(ds:List j5):b1S o (d::ds)=if a9E o d then d.e else b1S o ds:=by
 unfold b1S;rw[b9t];cases a9E o d <;> rfl
theorem b7H(o:g9)(d:j5):M1 (a3e o d) d.least d.most d.e=if a9E o d then d.e else 0:=by
 unfold M1 a9E;by_cases h:a3e o d<d.least∨a3e o d > d.most
 ·rw[if_pos h,if_pos (by simpa using h)]
 ·rw[if_neg h,if_neg (by simpa using h)]
theorem d0j(o:g9)(d:j5):b1S o [d]=M1 (a3e o d) d.least d.most d.e:=by rw[b1T,d0l,b7H]
theorem c7F(o:g9)(d e:j5)(h1:d.e≠0):b1S o [d,e]=a0I (M1 (a3e o d) d.least d.most d.e) (M1 (a3e o e) e.least e.most e.e) 0:=by
 rw[b1T,d0j,b7H o d];unfold a0I;cases a9E o d
 ·simp only[Bool.false_eq_true,if_false,ne_eq,not_true_eq_false];split;·rfl
  ·rename_i h;simpa using h
 ·simp[h1]
theorem d0k(o:g9)(d e f:j5)(h1:d.e≠0)(h2:e.e≠0):b1S o [d,e,f]=a0I (M1 (a3e o d) d.least d.most d.e) (M1 (a3e o e) e.least e.most e.e) (M1 (a3e o f) f.least f.most f.e):=by
 rw[b1T,b1T,d0j,b7H o d,b7H o e];unfold a0I;cases a9E o d <;> cases a9E o e <;> simp[h1,h2]
theorem c6j(o:g9):(match B5 b2T o.Kind with
  | none=>14
  | some ds=>b1S o ds)=B3 o.Kind o.A o.B o.C:=by
 obtain⟨k,a,b,c⟩:=o;dsimp only;by_cases h:1≤k∧k≤12
 ·have:k=1∨k=2∨k=3∨k=4∨k=5∨k=6∨k=7∨k=8∨k=9∨k=10∨k=11∨k=12:=by omega
  rcases this with rfl | rfl | rfl | rfl | rfl | rfl | rfl | rfl | rfl | rfl | rfl | rfl
  ·exact d0k _ _ _ _ (by decide) (by decide)
  ·exact c7F _ _ _ (by decide)
  ·exact d0j _ _
  ·exact d0k _ _ _ _ (by decide) (by decide)
  ·exact d0k _ _ _ _ (by decide) (by decide)
  ·exact d0k _ _ _ _ (by decide) (by decide)
  ·exact c7F _ _ _ (by decide)
  ·exact c7F _ _ _ (by decide)
  ·exact c7F _ _ _ (by decide)
  ·exact c7F _ _ _ (by decide)
  ·rfl
  ·exact d0j _ _
 ·have e:B5 b2T k=none:=by
   cases hm:B5 b2T k with
   | none=>rfl
   | some v=>
    have:=c23 hm;simp only[b2T,List.mem_cons,Prod.mk.injEq,List.not_mem_nil,or_false] at this;omega
  rw[e];unfold B3;repeat rw[if_neg (by omega)]
theorem a7P(o:g9):R4 o=some (B3 o.Kind o.A o.B o.C):=by
 rw[←c6j];unfold R4;rw[c01,d6y];cases h:B5 b2T o.Kind with
 | none=>rfl
 | some ds=>
  obtain⟨h1,h2⟩:=c8X _ (c23 h);rw[if_neg (by simp)]
  simp only[jn,Option.getD_some];rw[d2h o ds h1 h2,d6y];unfold b1S;cases b0T o ds <;> rfl
theorem c9a(n l m e:Int):a1i n l m e=some (M1 n l m e):=by
 unfold a1i M1;by_cases h:n<l∨n > m
 ·rw[if_pos h,if_pos (by simpa using h)]
 ·rw[if_neg h,if_neg (by simpa using h)]
theorem c51(a b c:Int):a0C a b c=some (a0I a b c):=by
 unfold a0C a0I;by_cases h:a=0
 ·by_cases g:b=0
  ·rw[if_neg (by simpa using h),if_neg (by simpa using g),if_neg (by simpa using h),if_neg (by simpa using g)]
  ·rw[if_neg (by simpa using h),if_pos (by simpa using g),if_neg (by simpa using h),if_pos (by simpa using g)]
 ·rw[if_pos (by simpa using h),if_pos (by simpa using h)]
theorem a4T(o:J5):a1v o=some (B3 o.Kind o.A o.B o.C):=by
 unfold a1v B3;simp only[c9a,c51,d6y,jn];by_cases h:1≤o.Kind∧o.Kind≤12
 ·have:o.Kind=1∨o.Kind=2∨o.Kind=3∨o.Kind=4∨o.Kind=5∨o.Kind=6∨o.Kind=7∨o.Kind=8∨o.Kind=9∨o.Kind=10∨o.Kind=11∨o.Kind=12:=by omega
  rcases this with h | h | h | h | h | h | h | h | h | h | h | h <;> rw[h] <;> rfl
 ·have n:∀j:Int,1≤j→j≤12→(o.Kind==j)=false:=λj h1 h2=>by
   rw[beq_eq_false_iff_ne];omega
  simp only[n 1 (by omega) (by omega),n 2 (by omega) (by omega),n 3 (by omega) (by omega),n 4 (by omega) (by omega),n 5 (by omega) (by omega),n 6 (by omega) (by omega),n 7 (by omega) (by omega),n 8 (by omega) (by omega),n 9 (by omega) (by omega),n 10 (by omega) (by omega),n 11 (by omega) (by omega),n 12 (by omega) (by omega),Bool.false_eq_true,if_false]
  repeat rw[if_neg (by omega)]
end Go.Sh
namespace Go.Sh
end Go.Sh
namespace Go.Sh
end Go.Sh
namespace Go.Sh
end Go.Sh
namespace Go.Sh
def ooI(o:D9):m8:=⟨o.Serial,o.Strong,o.Weak,o.Prog,o.Started,o.Fields⟩
def sOI(s:m9):a7:=⟨⟨s.a8.map λc=>⟨c.State,c.Gen,ooI c.Val⟩,s.Last⟩,s.Serial⟩
def hOI(x:g8):Hp:=⟨sOI x.S,x.Roots,x.a8.map λc=>⟨c.Target,c.Intact,c.Call⟩,x.T.map λp=>⟨p.State,p.Key,p.Val⟩,⟨x.Q.L.map λt=>⟨t.Kind,t.At,t.Prog⟩,x.Q.Cap⟩⟩
theorem d1R(x:Hp):hOI (hO x)=x:=by
 obtain⟨⟨⟨cs,l⟩,n⟩,r,w,t,⟨q,c⟩⟩:=x;unfold hOI hO sOI sO tqR;dsimp only;have a1:(cs.map cO).map (λc=>(⟨c.State,c.Gen,ooI c.Val⟩:b8))=cs:=by
  rw[List.map_map];refine Eq.trans (List.map_congr_left λa _=>?_) (List.map_id cs);rfl
 have a2:(w.map wcR).map (λc=>(⟨c.Target,c.Intact,c.Call⟩:g5))=w:=by
  rw[List.map_map];refine Eq.trans (List.map_congr_left λa _=>?_) (List.map_id w);rfl
 have a3:(t.map J3).map (λp=>(⟨p.State,p.Key,p.Val⟩:c4))=t:=by
  rw[List.map_map];refine Eq.trans (List.map_congr_left λa _=>?_) (List.map_id t);rfl
 have a4:(q.map tkR).map (λt=>(⟨t.Kind,t.At,t.Prog⟩:k8))=q:=by
  rw[List.map_map];refine Eq.trans (List.map_congr_left λa _=>?_) (List.map_id q);rfl
 rw[a1,a2,a3,a4]
theorem c3w{x:Hp}(hx:M2 x){ds:List Int}:(x.Q.L++clt x.a8 ds).length≤30:=by
 have hS:=hx.sh;have c6:=hS.c6;have h24:(lv x.S).length≤24:=F3 (s7.2 hS.sr);have htd:(x.Q.L++clt x.a8 ds).Pairwise λa b=>¬(a.Kind=b.Kind∧a.At=b.At):=by
  rw[List.pairwise_append];refine⟨hS.td,b6p ..,λa ha b hb q=>?_⟩;obtain⟨w,hw,rfl,hh,_⟩:=a3K.1 hb;have hi:x.a8[w].Intact=true:=by
   unfold a3H at hh;rw[Bool.and_eq_true,Bool.and_eq_true] at hh;exact hh.1.1
  have:=((hS.cl w hw).2.2.2.2 hi).2;rw[Bool.eq_false_iff] at this;exact this (a5i.2 ⟨a,ha,q.1,q.2⟩)
 have:=b5r (m:=lv x.S) htd λt ht=>by
  rcases List.mem_append.1 ht with q | q
  ·rcases (hS.tk t q).2.2 with c | c
   ·exact .inl ⟨c.1,c.2.1⟩
   ·exact .inr c
  ·obtain⟨w,hw,rfl,_,_⟩:=a3K.1 q;exact .inr ⟨rfl,by dsimp only;omega,by dsimp only;omega⟩
 omega
section
variable{x:Hp}(hB:HB x)
include hB
end
end Go.Sh
namespace Go.Sh
structure Stl (x y:Hp):Prop where
 lv:∀h∈lv y.S,h∈lv x.S
 ser:y.S.Serial=x.S.Serial
 len:y.S.S.a8.length=x.S.S.a8.length
 ob:∀h∈Sh.lv y.S,(ob y.S h).Serial=(ob x.S h).Serial∧(Sh.ob y.S h).Prog=(Sh.ob x.S h).Prog∧(Sh.ob y.S h).Fields=(Sh.ob x.S h).Fields∧((Sh.ob x.S h).Started=true→(Sh.ob y.S h).Started=true)
 rt:y.Roots=x.Roots
 cn:y.a8.length=x.a8.length
 cl:∀i (h:i<y.a8.length) (h':i<x.a8.length),y.a8[i]=⟨x.a8[i].Target,x.a8[i].Intact&&decide (x.a8[i].Target∈Sh.lv y.S),x.a8[i].Call⟩
 q:∃l,y.Q=⟨x.Q.L++l,x.Q.Cap⟩∧(∀t∈l,t.Kind=1→t.At∈Sh.lv x.S∧(Sh.ob x.S t.At).Started=false)∧∀h∈Sh.lv y.S,(Sh.ob y.S h).Started=true→(Sh.ob x.S h).Started=false→∃t∈l,t.Kind=1∧t.At=h
 rc:∀h,a0S x.S x.T (otr x) h→a0S y.S y.T (otr y) h
 has:∀k v,Has y.T k v→Has x.T k v
theorem Stl.refl{x:Hp}(hx:HpS x):Stl x x:=by
 refine⟨λ_ h=>h,rfl,rfl,λh _=>⟨rfl,rfl,rfl,id⟩,rfl,rfl,λi h h'=>?_,⟨[],by simp,by simp,λh _ a b=>?_⟩,λ_ h=>h,λ_ _ h=>h⟩
 ·have:=(hx.cl i h).2.2.2.2;cases hI:x.a8[i].Intact;·rw[Bool.false_and,←hI]
  ·rw[decide_eq_true (this hI).1,Bool.and_self,←hI]
 ·rw[a] at b;cases b
theorem Stl.trans{x y z:Hp}(a:Stl x y)(b:Stl y z):Stl x z:=by
 obtain⟨l1,q1,q2,q3⟩:=a.q;obtain⟨l2,r1,r2,r3⟩:=b.q;refine⟨λh hh=>a.lv h (b.lv h hh),b.ser.trans a.ser,b.len.trans a.len,λh hh=>?_,b.rt.trans a.rt,b.cn.trans a.cn,λi h h'=>?_,⟨l1++l2,?_,λt ht hk=>?_,λh hh s1 s2=>?_⟩,λh hh=>b.rc h (a.rc h hh),λk v hh=>a.has k v (b.has k v hh)⟩
 ·obtain⟨b1,b2,b3,b4⟩:=b.ob h hh;obtain⟨a1,a2,a3,a4⟩:=a.ob h (b.lv h hh);exact⟨b1.trans a1,b2.trans a2,b3.trans a3,λq=>b4 (a4 q)⟩
 ·have hy:i<y.a8.length:=by rw[a.cn];exact h'
  rw[b.cl i h hy,a.cl i hy h'];dsimp only;congr 1;rw[Bool.and_assoc];congr 1;by_cases q:x.a8[i].Target∈Sh.lv z.S
  ·rw[decide_eq_true q,decide_eq_true (b.lv _ q)];rfl
  ·rw[decide_eq_false q,Bool.and_false]
 ·rw[r1,q1,List.append_assoc]
 ·rcases List.mem_append.1 ht with q | q
  ·exact q2 t q hk
  ·obtain⟨e1,e2⟩:=r2 t q hk;refine⟨a.lv _ e1,?_⟩;cases hs:(Sh.ob x.S t.At).Started;·rfl
   ·rw[(a.ob _ e1).2.2.2 hs] at e2;cases e2
 ·cases hs:(Sh.ob y.S h).Started
  ·obtain⟨t,ht,e⟩:=r3 h hh s1 hs;exact⟨t,List.mem_append_right _ ht,e⟩
  ·obtain⟨t,ht,e⟩:=q3 h (b.lv h hh) hs s2;exact⟨t,List.mem_append_left _ ht,e⟩
theorem c3C(s:a7)(h:Int)(o:m8):(seO s h o).S.a8.length=s.S.a8.length:=M5 ..
theorem c9O{x:Hp}(hx:M2 x){z:Int}(hz:z∈lv x.S)(hs:(ob x.S z).Started=false):Stl x (quH x z):=by
 have hR:=hx.sh.sr;obtain⟨k,e1,e2,e3,e4⟩:=a6T hR hz;have l1:=b70 hR hz;have hob:∀h∈lv x.S,(ob (quH x z).S h).Serial=(ob x.S h).Serial∧(ob (quH x z).S h).Prog=(ob x.S h).Prog∧(ob (quH x z).S h).Fields=(ob x.S h).Fields∧((ob (quH x z).S h).Started=true↔(ob x.S h).Started=true∨h=z):=λh hh=>by
  obtain⟨n,e⟩:=b4Y hR hz hh;rw[e];by_cases q:h=z
  ·subst q;rw[if_pos rfl];exact⟨rfl,rfl,rfl,by simp⟩
  ·rw[if_neg q];exact⟨rfl,rfl,rfl,by simp[q]⟩
 have hot:∀h∈otr x,h∈otr (quH x z):=λh hh=>by
  unfold otr at hh ⊢;rw[e1,e4];rcases List.mem_append.1 hh with q | q
  ·exact List.mem_append_left _ q
  ·refine List.mem_append_right _ ?_;obtain⟨t,ht,a,b⟩:=b1g.1 q;exact b1g.2 ⟨t,List.mem_append_left _ ht,a,b⟩
 have rf:=Stl.refl hx.sh;refine⟨λh hh=>by rw[l1] at hh;exact hh,k.ser,k.len.trans (c3C ..),λh hh=>?_,e1,by rw[e2],λi h h'=>?_,⟨[qtk x z],by rw[e4],λt ht hk=>?_,λh hh s1 s2=>?_⟩,λh hh=>?_,λk v hh=>by rw[e3] at hh;exact hh⟩
 ·rw[l1] at hh;obtain⟨a,b,c,d⟩:=hob h hh;exact⟨a,b,c,λq=>d.2 (.inl q)⟩
 ·have e5:(quH x z).a8[i]=x.a8[i]:=by simp only[e2]
  rw[e5,l1];exact rf.cl i h' h'
 ·rw[List.mem_singleton] at ht;subst ht;exact⟨hz,hs⟩
 ·rw[l1] at hh;rcases (hob h hh).2.2.2.1 s1 with q | q
  ·rw[q] at s2;cases s2
  ·exact⟨qtk x z,List.mem_singleton_self _,rfl,q.symm⟩
 ·induction hh with
  | base h1 h2=>exact .base (hot _ h1) (by rw[l1];exact h2)
  | step h0 h1 h2 ih=>
   refine .step ih ?_ (by rw[l1];exact h2)
   unfold outs at h1 ⊢;rw[(hob _ h0.live).2.2.1];exact h1
  | pair h1 h0 h2 ih=>exact .pair (by rw[e3];exact h1) ih (by rw[l1];exact h2)
theorem c8P{x:Hp}(hx:M2 x){z:Int}(hz:z∈zr x):Stl x (buH x [z]):=by
 have hR:=hx.sh.sr;have hzl:=(a1k.1 hz).1;have h0:z≠0:=λe=>a9w hR (e▸hzl);have hfree:=b80 hx hz;have hn:([z]:List Int).Nodup:=by simp
 have hm:∀d ∈ [z],d∈lv x.S:=by simpa using hzl
 have g:=a1Q [z] hR hn hm;have k:=(a4u ([z].flatMap (outs x.S)++(wot x.T [z]).2) (x:=a4G x [z] (wot x.T [z]).1) g.sr).1;obtain⟨e1,e2,e3,e4⟩:=b0F hR hn hm;obtain⟨_,w2,_,_,w5,w6⟩:=a4E hx.sh.hr [z] (by simp)
 have l1:∀h,h∈lv (buH x [z]).S↔h∈lv x.S∧h≠z:=λh=>by
  rw[c0W hR hn hm,List.mem_filter,decide_eq_true_iff,List.mem_singleton]
 have hob:∀h∈lv (buH x [z]).S,(ob (buH x [z]).S h).Serial=(ob x.S h).Serial∧(ob (buH x [z]).S h).Prog=(ob x.S h).Prog∧(ob (buH x [z]).S h).Fields=(ob x.S h).Fields∧(ob (buH x [z]).S h).Started=(ob x.S h).Started:=λh hh=>by
  obtain⟨a,b⟩:=(l1 h).1 hh;obtain⟨n,e⟩:=c0X hR hn hm a (by simpa using b)
  rw[e];exact⟨rfl,rfl,rfl,rfl⟩
 refine⟨λh hh=>((l1 h).1 hh).1,k.ser.trans g.ser,k.len.trans g.len,λh hh=>?_,e1,by rw[e2];simp[clr],λi h h'=>?_,⟨clt x.a8 [z],by rw[e4],λt ht hk=>?_,λh hh s1 s2=>?_⟩,λh hh=>?_,λk v hh=>?_⟩
 ·obtain⟨a,b,c,d⟩:=hob h hh;exact⟨a,b,c,λq=>d.trans q⟩
 ·have e5:(buH x [z]).a8[i]=a7Q [z] x.a8[i]:=by
   simp only[e2];exact List.getElem_map _
  rw[e5];have hc:=(hx.sh.cl i h').2.2.2.2;unfold a7Q a3H;cases hI:x.a8[i].Intact;·rw[if_neg (by simp),Bool.false_and,←hI]
  ·have ht:=(hc hI).1;have ht0:x.a8[i].Target≠0:=λe=>a9w hR (e▸ht);by_cases q:x.a8[i].Target=z
   ·rw[if_pos (by simp[q,h0]),decide_eq_false (λr=>((l1 _).1 r).2 q)]
    rfl
   ·rw[if_neg (by simp[q]),decide_eq_true ((l1 _).2 ⟨ht,q⟩),Bool.and_self,←hI]
 ·obtain⟨w,hw,rfl,_,_⟩:=a3K.1 ht;simp at hk
 ·rw[(hob h hh).2.2.2,s2] at s1;cases s1
 ·unfold nms at hfree;have key:a0S (buH x [z]).S (buH x [z]).T (otr (buH x [z])) h∧h≠z:=by
   induction hh with
   | base h1 h2=>
    rename_i a;have hne:a≠z:=λe=>by
     subst e;exact c0w h0 (by omega:W5 (otr x) a=0) h1
    refine⟨.base ?_ ((l1 _).2 ⟨h2,hne⟩),hne⟩;unfold otr at h1 ⊢;rw[e1,e4,b4D _ _ _ λt ht=>by
     obtain⟨w,_,rfl,_⟩:=a3K.1 ht;simp]
    exact h1
   | step q0 q1 q2 ih=>
    rename_i a b;have hne:b≠z:=λe=>by
     subst e;have:=b7I (y:=b) q0.live;have h1:=a2a.2 ⟨h0,q1⟩;omega
    refine⟨.step ih.1 ?_ ((l1 _).2 ⟨q2,hne⟩),hne⟩;unfold outs at q1 ⊢;rw[(hob _ ((l1 _).2 ⟨q0.live,ih.2⟩)).2.2.1];exact q1
   | pair q1 q0 q2 ih=>
    rename_i a b;have hne:b≠z:=λe=>by
     subst e;have:=b7U q1 h0;omega
    exact⟨.pair (by rw[e3];exact (w5 _ _).2 ⟨by simpa using ih.2,q1⟩) ih.1 ((l1 _).2 ⟨q2,hne⟩),hne⟩
  exact key.1
 ·rw[e3] at hh;exact ((w5 _ _).1 hh).2
theorem c99{x:Hp}(hx:M2 x):Stl x (stp x):=by
 cases h:zr x with
 | nil=>rw[a9k h];exact Stl.refl hx.sh
 | cons z l=>
  have hz:z∈zr x:=by rw[h];exact List.mem_cons_self ..
  rw[a4A h];split
  ·rename_i q;unfold due at q;rw[Bool.and_eq_true,decide_eq_true_iff,Bool.not_eq_true'] at q;exact c9O hx (a1k.1 hz).1 q.2
  ·exact c8P hx hz
theorem c98{x:Hp}(hx:M2 x)(n:Nat):Stl x (stN n x):=by
 induction n with
 | zero=>exact Stl.refl hx.sh
 | succ n ih=>rw[a19];exact ih.trans (c99 (a0F hx n))
theorem a8w{x:Hp}(hx:M2 x):Stl x (a1C x):=c98 hx 100
end Go.Sh
namespace Go.Sh
section
variable{x:Hp}(hB:HB x)
include hB
end
end Go.Sh
namespace Go.Sh
end Go.Sh
namespace Go.Sh
end Go.Sh
namespace Go.Sh
end Go.Sh
namespace Go.Sh
structure Ks (s s':a7):Prop where
 sr:SR s'
 ser:s'.Serial=s.Serial
 lv:lv s'=lv s
 ob:∀h∈Sh.lv s,(ob s' h).Serial=(ob s h).Serial
theorem Ks.refl{s:a7}(hR:SR s):Ks s s:=⟨hR,rfl,rfl,λ_ _=>rfl⟩
theorem Ks.trans{a b c:a7}(h:Ks a b)(q:Ks b c):Ks a c:=⟨q.sr,q.ser.trans h.ser,q.lv.trans h.lv,λk hk=>(q.ob k (by rw[h.lv];exact hk)).trans (h.ob k hk)⟩
theorem Kin.ks{s s':a7}(hR:SR s)(k:Kin s s'):Ks s s':=⟨k.sr,k.ser,k.lv,λh hh=>by
 obtain⟨n,e⟩:=k.ob h (by have:=H4 hR hh;omega)
 rw[e]⟩
theorem Kn.ks{s s':a7}(k:Kn s s')(e:s'.Serial=s.Serial):Ks s s':=⟨k.sr,e,k.lv,λh hh=>by
 obtain⟨n,m,e⟩:=k.ob h hh;rw[e]⟩
theorem d3f{s:a7}(hR:SR s){h:Int}(hh:h∈lv s){o:m8}(hs:o.Serial=(ob s h).Serial)(ho:OkO s o):Ks s (seO s h o):=⟨a0Q hR hh hs ho,rfl,a3x hR hh hs ho,λk hk=>by
 rw[a2H hR hh hs ho (by have:=H4 hR hk;omega)]
 split;·rename_i e;subst e;exact hs
 ·rfl⟩
theorem b8y{x:Hp}(hR:SR x.S)(h:Int):Ks x.S (C5 x h).S:=(G2 hR h λc=>D8).ks hR
theorem b8u{x:Hp}(hR:SR x.S)(h:Int):Ks x.S (Q3 x h).S:=(G2 hR h λc=>N9).ks hR
theorem b5f(x:Hp)(h:Int):(Q3 x h).Roots=x.Roots∧(Q3 x h).a8=x.a8∧(Q3 x h).T=x.T∧(Q3 x h).Q=x.Q:=b5p x h a5G
theorem a01{x:Hp}(hR:SR x.S)(r:Nat)(h:Int):Ks x.S (G1 x r h).S:=
 (b8y hR h).trans (b8u (x:=wR (C5 x h) (x.Roots.set r h)) (a3w hR h) _)
theorem b6r{x:Hp}(hR:SR x.S){h:Int}(hh:h∈lv x.S){n:Nat}(hn:n<(ob x.S h).Fields.length)(v:Int):Ks x.S (a09 x h n v).S:=by
 have k1:=b8y hR v;have hh1:h∈lv (C5 x v).S:=by rw[k1.lv];exact hh
 have hof:(ob (C5 x v).S h).Fields=(ob x.S h).Fields:=by
  obtain⟨n,e⟩:=(G2 hR v (f:=U4) λc=>D8).ob h (by have:=H4 hR hh;omega)
  show (ob (stO x v U4).S h).Fields=_;rw[e]
 have ho:OkO (C5 x v).S (flg (ob (C5 x v).S h) ((ob x.S h).Fields.set n v)):=by
  have:=J4 k1.sr hh1;refine⟨this.s1,this.s2,this.st,this.wk,this.p1,this.p2,?_⟩;have h4:=this.fl;rw[hof] at h4;simpa using h4
 have k2:=d3f (o:=flg (ob (C5 x v).S h) ((ob x.S h).Fields.set n v)) k1.sr hh1 rfl ho;exact (k1.trans k2).trans (b8u (x:=wS (C5 x v) (seO (C5 x v).S h (flg (ob (C5 x v).S h) ((ob x.S h).Fields.set n v)))) k2.sr _)
theorem a7U(x:Hp)(h:Int)(n:Nat)(v:Int):(a09 x h n v).Roots=x.Roots∧(a09 x h n v).a8=x.a8∧(a09 x h n v).T=x.T∧(a09 x h n v).Q=x.Q:=by
 obtain⟨a,b,c,d⟩:=b5f (wS (C5 x v) (seO (C5 x v).S h (flg (ob (C5 x v).S h) ((ob x.S h).Fields.set n v)))) ((ob x.S h).Fields.getD n 0);obtain⟨a',b',c',d'⟩:=a57 x v;exact⟨a.trans a',b.trans b',c.trans c',d.trans d'⟩
theorem b9U{x:Hp}(hR:SR x.S)(v:Int)(t:Tb)(old:Int):Ks x.S (a5S x v t old).S:=
 (b8y hR v).trans (b8u (x:=wT (C5 x v) t) (a3w hR v) old)
theorem b0i(x:Hp)(v:Int)(t:Tb)(old:Int):(a5S x v t old).Roots=x.Roots∧(a5S x v t old).a8=x.a8∧(a5S x v t old).T=t∧(a5S x v t old).Q=x.Q:=by
 obtain⟨a,b,c,d⟩:=b5f (wT (C5 x v) t) old;obtain⟨a',b',c',d'⟩:=a57 x v;exact⟨a.trans a',b.trans b',c,d.trans d'⟩
end Go.Sh
namespace Go.Sh
theorem d1P{s:a7}(hR:SR s){i:Nat}(hi:i<s.S.a8.length)(h2:(ce s i).State=2):Ks s (gvA s i):=⟨b7E hR hi,rfl,b7C hR hi h2,λh hh=>by rw[b7D hR hi h2 hh]⟩
theorem d2k{x:Hp}(hR:SR x.S)(h:Int){d:Int}(hd:V4 x.S h (D5 h)→0≤(ce x.S (D5 h)).Val.Weak+d):Ks x.S (mkd x h d).S:=by
 unfold mkd;split
 ·rename_i q;exact (a6K hR q.1 q.2.1 (hd q)).ks rfl
 ·exact Ks.refl hR
theorem c6x(x:Hp)(h d:Int):(mkd x h d).Roots=x.Roots∧(mkd x h d).a8=x.a8∧(mkd x h d).T=x.T∧(mkd x h d).Q=x.Q:=by
 unfold mkd;split <;> exact⟨rfl,rfl,rfl,rfl⟩
theorem c4Q(x:Hp)(h:Int):(a8C x h).Roots=x.Roots∧(a8C x h).a8=x.a8∧(a8C x h).T=x.T∧(a8C x h).Q=x.Q:=by
 unfold a8C;split;·split <;> exact⟨rfl,rfl,rfl,rfl⟩
 ·exact⟨rfl,rfl,rfl,rfl⟩
theorem c3K{x:Hp}(hR:SR x.S)(h:Int)(hd:V4 x.S h (D5 h)→1≤(ce x.S (D5 h)).Val.Weak):Ks x.S (a8C x h).S:=by
 unfold a8C;split
 ·rename_i q;have hd:=hd q;have kn:=a6K (d:=-1) hR q.1 q.2.1 (by omega)
  split
  ·rename_i c;have hi1:D5 h<(mkA x.S (D5 h) (-1)).S.a8.length:=by rw[kn.len];exact q.1
   have hce:ce (mkA x.S (D5 h) (-1)) (D5 h)=⟨(ce x.S (D5 h)).State,(ce x.S (D5 h)).Gen,wkg (ce x.S (D5 h)).Val ((ce x.S (D5 h)).Val.Weak + -1)⟩:=by
    rw[a3t hR q.1 q.2.1,if_pos rfl]
   have h2:(ce (mkA x.S (D5 h) (-1)) (D5 h)).State=2:=by rw[hce];exact c.1
   exact (kn.ks rfl).trans (d1P kn.sr hi1 h2)
  ·exact kn.ks rfl
 ·exact Ks.refl hR
theorem c0B{x:Hp}(hx:M2 x){n:Nat}(hn:n<6)(h call:Int):Ks x.S (a2m x n h call).S:=by
 have hR:=hx.sh.sr;have hnl:n<x.a8.length:=by have:=hx.sh.c6;omega
 have ok:∀k i,V4 x.S k i→0≤(ce x.S i).Val.Weak:=λk i q=>(hR.ok i q.1 q.2.1).wk;have tw:∀i,V4 x.S (tgt x n) i→1≤(ce x.S i).Val.Weak:=λi q=>by
  have htg:tgt x n=x.a8[n].Target:=by
   unfold tgt;rw[List.getD_eq_getElem?_getD,List.getElem?_eq_getElem hnl];rfl
  have r:=q.rng hR;have p:=b1h hnl (by rw[←htg];omega)
  rw[←htg,q.2.2] at p;have:=(hx.wk i q.1 q.2.1).1;omega
 unfold a2m;have s1:Ks x.S (mkd (wC x (x.a8.set n (wcl h call))) h 1).S:=d2k (x:=wC x (x.a8.set n (wcl h call))) hR h λq=>by
  have:=ok _ _ q;dsimp only;omega
 by_cases q:V4 x.S h (D5 h)
 ·have e:mkd (wC x (x.a8.set n (wcl h call))) h 1=wS (wC x (x.a8.set n (wcl h call))) (mkA x.S (D5 h) 1):=by
   unfold mkd;rw[if_pos q]
  have hd:=ok _ _ q;have kn:=a6K (d:=1) hR q.1 q.2.1 (by omega)
  rw[e] at s1 ⊢;refine s1.trans (c3K (x:=wS (wC x (x.a8.set n (wcl h call))) (mkA x.S (D5 h) 1)) kn.sr _ λq2=>?_);dsimp only at q2 ⊢;have q3:=(kn.ad _ _).1 q2;have:=tw _ q3;rw[a3t hR q.1 q.2.1];split
  ·rename_i e2;rw[e2] at this;show 1≤(ce x.S (D5 h)).Val.Weak+1;omega
  ·exact this
 ·have e:mkd (wC x (x.a8.set n (wcl h call))) h 1=wC x (x.a8.set n (wcl h call)):=by
   unfold mkd;rw[if_neg q]
  rw[e] at s1 ⊢;exact s1.trans (c3K (x:=wC x (x.a8.set n (wcl h call))) hR _ λq2=>tw _ q2)
theorem b5y(x:Hp)(n:Nat)(h call:Int):(a2m x n h call).Roots=x.Roots∧(a2m x n h call).a8=x.a8.set n (wcl h call)∧(a2m x n h call).T=x.T∧(a2m x n h call).Q=x.Q:=by
 obtain⟨a,b,c,d⟩:=c4Q (mkd (wC x (x.a8.set n (wcl h call))) h 1) (tgt x n);obtain⟨a',b',c',d'⟩:=c6x (wC x (x.a8.set n (wcl h call))) h 1;exact⟨a.trans a',b.trans b',c.trans c',d.trans d'⟩
end Go.Sh
namespace Go.Sh
abbrev nwo(s:a7)(n:Nat)(p:Int):m8:=⟨s.Serial+1,0,0,p,false,List.replicate n 0⟩
def mkS(s:a7)(i n:Nat)(p:Int):a7:=⟨⟨s.S.a8.set i ⟨1,(ce s i).Gen,nwo s n p⟩,s.S.Last⟩,s.Serial+1⟩
section
variable{s:a7}(hR:SR s){i:Nat}(hi:i<s.S.a8.length)(h0:(ce s i).State=0){n:Nat}(hn:n≤4){p:Int}(hp : -1≤p∧p≤5)
include hR hi h0 hn hp
theorem a5u:(mkS s i n p).S.a8.length=s.S.a8.length:=by simp[mkS]
theorem a7t(j:Nat):ce (mkS s i n p) j=if j=i then ⟨1,(ce s i).Gen,nwo s n p⟩ else ce s j:=a5J hi _ _ j
theorem b9N:SR (mkS s i n p):=by
 have hser:=hR.ser;have hc:=hR.cell i hi;have hnt:¬Th (ce s i):=λh=>by
  rcases h with h | h <;> omega
 refine⟨by rw[a5u hR hi h0 hn hp];exact hR.len,hR.l0,hR.l9,by show 0≤s.Serial+1;omega,λj hj=>?_,λj hj ht=>?_,λj hj ht=>?_,λj k hj hk a b e=>?_⟩
 ·rw[a5u hR hi h0 hn hp] at hj;rw[a7t hR hi h0 hn hp];split;·exact⟨show (0:Int)≤1 by decide,show (1:Int)≤3 by decide,hc.2.2.1,hc.2.2.2⟩
  ·exact hR.cell j hj
 ·rw[a5u hR hi h0 hn hp] at hj;rw[a7t hR hi h0 hn hp] at ht ⊢;split at ht;·exact absurd (.inl rfl) ht
  ·rename_i e;rw[if_neg e];exact hR.no j hj ht
 ·rw[a5u hR hi h0 hn hp] at hj;rw[a7t hR hi h0 hn hp] at ht ⊢;split at ht
  ·rename_i e;rw[if_pos e];exact⟨by show 1≤s.Serial+1;omega,Int.le_refl _,Int.le_refl 0,Int.le_refl 0,hp.1,hp.2,by simpa using hn⟩
  ·rename_i e;rw[if_neg e];have:=hR.ok j hj ht;exact⟨this.s1,by show _≤s.Serial+1;have:=this.s2;omega,this.st,this.wk,this.p1,this.p2,this.fl⟩
 ·rw[a5u hR hi h0 hn hp] at hj hk;rw[a7t hR hi h0 hn hp] at a e;rw[a7t hR hi h0 hn hp] at b e;have old:∀m,m<s.S.a8.length→Th (ce s m)→(ce s m).Val.Serial≠s.Serial+1:=λm hm t q=>by
   have:=(hR.ok m hm t).s2;omega
  by_cases ej:j=i <;> by_cases ek:k=i
  ·rw[ej,ek]
  ·rw[if_neg ek] at b e;rw[if_pos ej] at e;exact absurd e.symm (old k hk b)
  ·rw[if_neg ej] at a e;rw[if_pos ek] at e;exact absurd e (old j hj a)
  ·rw[if_neg ej] at a e;rw[if_neg ek] at b e;exact hR.dif j k hj hk a b e
theorem c1n{k:Int}{j:Nat}(q:V4 s k j):j≠i:=λe=>by
 subst e;rcases q.2.1 with h | h <;> omega
theorem d2j{k:Int}{j:Nat}:V4 (mkS s i n p) k j↔V4 s k j∨(j=i∧k=hdl s i):=by
 unfold V4;rw[a5u hR hi h0 hn hp,a7t hR hi h0 hn hp];by_cases e:j=i
 ·rw[if_pos e];subst e;constructor
  ·rintro⟨a,b,c⟩;exact .inr ⟨rfl,c⟩
  ·rintro (⟨a,b,c⟩ | ⟨_,c⟩);·exact absurd rfl (c1n hR hi h0 hn hp ⟨a,b,c⟩)
   ·exact⟨hi,.inl rfl,c⟩
 ·rw[if_neg e];constructor;·exact .inl
  ·rintro (h | ⟨h,_⟩);·exact h
   ·exact absurd h e
theorem c24:lv (mkS s i n p)=lv s ++ [hdl s i]:=by
 have e:=c1m (s:=s) (s7.2 hR) hi (by rw[←E5 hi];exact h0) (nwo s n p) rfl (a1W (s7.2 hR))
 unfold mkS;rw[show (ce s i).Gen=s.S.a8[i].Gen by rw[E5 hi]]
 have e2:hdl s i=1+(i:Int)+32*s.S.a8[i].Gen:=by unfold hdl;rw[E5 hi]
 rw[e2];have:=a1W (s7.2 (by have:=b9N hR hi h0 hn hp;unfold mkS at this;rw[show (ce s i).Gen=s.S.a8[i].Gen by rw[E5 hi]] at this;exact this))
 rw[e] at this;exact (Option.some.inj this).symm
theorem c6v:hdl s i∉lv s:=λh=>by
 obtain⟨j,q⟩:=(a28 hR).1 h;have:i=j:=by
  have a:=q.2.2;have b:=q.1;unfold hdl at a;have:=hR.len;omega
 subst this;have:=q.2.1;omega
theorem b6K{k:Int}(hk:k∈lv s):ob (mkS s i n p) k=ob s k:=by
 obtain⟨j,q⟩:=(a28 hR).1 hk;have hj:=c1n hR hi h0 hn hp q.d;have q2:At (mkS s i n p) k j:=by
  refine⟨by rw[a5u hR hi h0 hn hp];exact q.1,?_,?_⟩ <;> rw[a7t hR hi h0 hn hp,if_neg hj]
  ·exact q.2.1
  ·exact q.2.2
 rw[O3 (b9N hR hi h0 hn hp) q2,O3 hR q,a7t hR hi h0 hn hp,if_neg hj]
theorem b2n:ob (mkS s i n p) (hdl s i)=nwo s n p:=by
 have q2:At (mkS s i n p) (hdl s i) i:=by
  refine⟨by rw[a5u hR hi h0 hn hp];exact hi,?_,?_⟩ <;> rw[a7t hR hi h0 hn hp,if_pos rfl]
  rfl
 rw[O3 (b9N hR hi h0 hn hp) q2,a7t hR hi h0 hn hp,if_pos rfl]
end
theorem c3I{l:List Int}{h:Int}(e:h∉l):W5 l h=0:=Nat.eq_zero_of_not_pos λq=>e (a2a.1 q).2
theorem c6w{x:Hp}(hx:M2 x){i:Nat}(hi:i<x.S.S.a8.length)(h0:(ce x.S i).State=0){n:Nat}(hn:n≤4){p:Int}(hp : -1≤p∧p≤5):M2 (wS x (mkS x.S i n p)):=by
 have hR:=hx.sh.sr;have hS:=b9N hR hi h0 hn hp;have hl:=c24 hR hi h0 hn hp;have hnew:=c6v hR hi h0 hn hp;have mem:∀ {k},k∈lv x.S→k∈lv (mkS x.S i n p):=λhk=>by rw[hl];exact List.mem_append_left _ hk
 have mem0:∀ {k},k=0∨k∈lv x.S→k=0∨k∈lv (mkS x.S i n p):=λhk=>hk.imp id mem;have hpos:=b3F hR hi;have split:∀ {k},k∈lv (mkS x.S i n p)→k∈lv x.S∨k=hdl x.S i:=λhk=>by
  rw[hl] at hk;rcases List.mem_append.1 hk with q | q
  ·exact .inl q
  ·exact .inr (List.mem_singleton.1 q)
 have rep:∀v∈List.replicate n (0:Int),v=0:=λv hv=>(List.mem_replicate.1 hv).2;have ntgt:∀j (hj:j<x.a8.length),x.a8[j].Target≠hdl x.S i:=λj hj e=>by
  obtain⟨q,hq⟩:=(hx.sh.cl j hj).2.2.2.1 (by rw[e];omega)
  rw[e] at hq;have:q=i:=by
   have a:=hq.2.2;have b:=hq.1;unfold hdl at a;have:=hR.len;omega
  exact c1n hR hi h0 hn hp hq this
 refine⟨⟨hS,hx.sh.hr,hx.sh.r6,hx.sh.c6,hx.sh.cap,hx.sh.q30,λt ht=>?_,hx.sh.td,λh hh=>mem0 (hx.sh.rt h hh),λh hh v hv=>?_,λk v hk=>?_,λj hj=>?_⟩,λj hj ht=>?_,λh hh hs=>?_⟩
 ·obtain⟨a,b,c⟩:=hx.sh.tk t ht;refine⟨a,b,c.imp (λ⟨d,e,f⟩=>⟨d,mem e,?_⟩) id⟩;show (ob (mkS x.S i n p) t.At).Started=true;rw[b6K hR hi h0 hn hp e];exact f
 ·rcases split hh with q | q
  ·have hv':v∈(ob (mkS x.S i n p) h).Fields:=hv;rw[b6K hR hi h0 hn hp q] at hv';exact mem0 (hx.sh.fl h q v hv')
  ·subst q;have hv':v∈(ob (mkS x.S i n p) (hdl x.S i)).Fields:=hv;rw[b2n hR hi h0 hn hp] at hv';exact .inl (rep v hv')
 ·obtain⟨a,b⟩:=hx.sh.pr k v hk;exact⟨mem a,mem b⟩
 ·obtain⟨a,b,c,d,e⟩:=hx.sh.cl j hj;refine⟨a,b,c,λq=>?_,λq=>⟨mem (e q).1,(e q).2⟩⟩;obtain⟨m,hm⟩:=d q;exact⟨m,(d2j hR hi h0 hn hp).2 (.inl hm)⟩
 ·have hj':j<x.S.S.a8.length:=by have:j<(mkS x.S i n p).S.a8.length:=hj;rwa [a5u hR hi h0 hn hp] at this
  show (ce (mkS x.S i n p) j).Val.Weak=(nmg x.a8 (1+(j:Int)+32*(ce (mkS x.S i n p) j).Gen):Int)∧_;have ht':Th (ce (mkS x.S i n p) j):=ht;rw[a7t hR hi h0 hn hp] at ht' ⊢;by_cases e:j=i
  ·subst e;rw[if_pos rfl];refine⟨?_,λq=>absurd (show (1:Int)=2 from q) (by decide)⟩
   show (0:Int)=(nmg x.a8 (hdl x.S j):Int);have:nmg x.a8 (hdl x.S j)=0:=by
    unfold nmg;rw[List.countP_eq_zero];intro c hc;obtain⟨m,hm,rfl⟩:=List.getElem_of_mem hc;have:=ntgt m hm;simp[this]
   rw[this];rfl
  ·rw[if_neg e] at ht' ⊢;exact hx.wk j hj' ht'
 ·have hinn:∀y,inn (mkS x.S i n p) y=inn x.S y:=λy=>by
   unfold inn;rw[hl,List.map_append,List.sum_append];have e1:(lv x.S).map (λk=>W5 (outs (mkS x.S i n p) k) y)=(lv x.S).map λk=>W5 (outs x.S k) y:=List.map_congr_left λk hk=>by
    unfold outs;rw[b6K hR hi h0 hn hp hk]
   rw[e1];have e2:outs (mkS x.S i n p) (hdl x.S i) = []:=by
    refine List.eq_nil_iff_forall_not_mem.2 λv hv=>?_;have h1:=a6O.1 hv;rw[b2n hR hi h0 hn hp] at h1;exact h1.2 (rep v h1.1)
   simp[e2,P9]
  have hnm:∀y,nms (wS x (mkS x.S i n p)) y=nms x y:=λy=>by
   unfold nms;show inn (mkS x.S i n p) y+own x.T y+W5 (otr x) y=_;rw[hinn]
  rw[hnm];have hs':(ob (mkS x.S i n p) h).Strong<12:=hs;show (ob (mkS x.S i n p) h).Strong=_;rcases split hh with q | q
  ·rw[b6K hR hi h0 hn hp q] at hs' ⊢;exact hx.fair h q hs'
  ·subst q;rw[b2n hR hi h0 hn hp];have h1:nms x (hdl x.S i)=0:=by
    unfold nms;have a1:inn x.S (hdl x.S i)=0:=by
     unfold inn;have:=b8J (λk=>W5 (outs x.S k) (hdl x.S i)) 0 (lv x.S) λk hk=>Nat.le_of_eq<|c3I λq=>by
      have q2:=a6O.1 q;rcases hx.sh.fl k hk _ q2.1 with e | e
      ·exact q2.2 e
      ·exact hnew e
     omega
    have a2:own x.T (hdl x.S i)=0:=by
     unfold own;rw[List.countP_eq_zero];intro c hc;have:=(hx.sh.pr _ _ (a05.1 hc)).2;have hne:c.Val≠hdl x.S i:=λe=>hnew (e▸this);simp[hne]
    have a3:W5 (otr x) (hdl x.S i)=0:=c3I λq=>by
     unfold otr at q;rcases List.mem_append.1 q with q | q
     ·have q2:=a6O.1 q;rcases hx.sh.rt _ q2.1 with e | e
      ·exact q2.2 e
      ·exact hnew e
     ·obtain⟨t,ht,k1,k2⟩:=b1g.1 q;rcases (hx.sh.tk t ht).2.2 with ⟨_,b,_⟩ | ⟨b,_⟩;·exact hnew (k2▸b)
      ·omega
    omega
   rw[h1,P9];rfl
end Go.Sh
namespace Go.Sh
structure Ev (x y:Hp):Prop where
 lv:∀h∈lv y.S,(h∈Sh.lv x.S∧(ob y.S h).Serial=(ob x.S h).Serial)∨(h∉Sh.lv x.S∧(ob y.S h).Serial=x.S.Serial+1)
 s1:x.S.Serial≤y.S.Serial
 s2:y.S.Serial≤x.S.Serial+1
theorem Ev.refl(x:Hp):Ev x x:=⟨λh hh=>.inl ⟨hh,rfl⟩,by omega,by omega⟩
theorem Ks.ev{x y:Hp}(k:Ks x.S y.S):Ev x y:=⟨λh hh=>by
 rw[k.lv] at hh;exact .inl ⟨hh,k.ob h hh⟩,by rw[k.ser];omega,by rw[k.ser];omega⟩
theorem Ev.ks{x y z:Hp}(e:Ev x y)(k:Ks y.S z.S):Ev x z:=⟨λh hh=>by
 rw[k.lv] at hh;rw[k.ob h hh];exact e.lv h hh,by rw[k.ser];exact e.s1,by rw[k.ser];exact e.s2⟩
theorem Ev.stl{x y z:Hp}(e:Ev x y)(s:Stl y z):Ev x z:=⟨λh hh=>by
 rw[(s.ob h hh).1];exact e.lv h (s.lv h hh),by rw[s.ser];exact e.s1,by rw[s.ser];exact e.s2⟩
theorem d4q{x:Hp}(hx:M2 x){i:Nat}(hi:i<x.S.S.a8.length)(h0:(ce x.S i).State=0){n:Nat}(hn:n≤4){p:Int}(hp : -1≤p∧p≤5):Ev x (wS x (mkS x.S i n p)):=⟨λh hh=>by
 have hR:=hx.sh.sr;have hh':h∈lv (mkS x.S i n p):=hh;show (_∧(ob (mkS x.S i n p) h).Serial=_)∨_∧(ob (mkS x.S i n p) h).Serial=_;rw[c24 hR hi h0 hn hp] at hh';rcases List.mem_append.1 hh' with q | q
 ·exact .inl ⟨q,by rw[b6K hR hi h0 hn hp q]⟩
 ·rw[List.mem_singleton.1 q];exact .inr ⟨c6v hR hi h0 hn hp,by rw[b2n hR hi h0 hn hp]⟩,by show _≤x.S.Serial+1;omega,Int.le_refl _⟩
def Cw(x y:Hp)(w:Int):Prop:=∀i:Nat,(i:Int)≠w→(y.a8.getD i cz).Target=(x.a8.getD i cz).Target∧((y.a8.getD i cz).Intact=true→(x.a8.getD i cz).Intact=true)
theorem Cw.refl(x:Hp)(w:Int):Cw x x w:=λi _=>⟨rfl,id⟩
theorem Cw.same{x y:Hp}(h:y.a8=x.a8)(w:Int):Cw x y w:=λi _=>by rw[h];exact⟨rfl,id⟩
theorem Cw.trans{x y z:Hp}{w:Int}(a:Cw x y w)(b:Cw y z w):Cw x z w:=λi hi=>⟨(b i hi).1.trans (a i hi).1,λq=>(a i hi).2 ((b i hi).2 q)⟩
theorem Stl.cw{x y:Hp}(s:Stl x y)(w:Int):Cw x y w:=λi _=>by
 by_cases h:i<x.a8.length
 ·have h':i<y.a8.length:=by rw[s.cn];exact h
  rw[F7 h,F7 h',s.cl i h' h];exact⟨rfl,λq=>(Bool.and_eq_true _ _▸q).1⟩
 ·have h':¬i<y.a8.length:=by rw[s.cn];exact h
  rw[List.getD_eq_getElem?_getD,List.getD_eq_getElem?_getD,List.getElem?_eq_none (by omega),List.getElem?_eq_none (by omega)]
  exact⟨rfl,id⟩
theorem Cw.set{x y:Hp}{w:Nat}{c:g5}(h:y.a8=x.a8.set w c):Cw x y w:=λi hi=>by
 rw[h,List.getD_eq_getElem?_getD,List.getD_eq_getElem?_getD,List.getElem?_set_ne (by omega)]
 exact⟨rfl,id⟩
end Go.Sh
namespace Go.Sh
def Fst(s:a7)(i:Nat):Prop:=i<s.S.a8.length∧(ce s i).State=0∧∀j,j<i→(ce s j).State≠0
theorem d4n{s:a7}(hR:SR s)(hb:s.Serial<9223372036854775807)(a p:Int) :
  (¬(0≤a∧a≤4)∧T0 s a p=some (s,0,1)) ∨
  ((0≤a∧a≤4)∧¬(-1≤p∧p≤5)∧T0 s a p=some (s,0,13)) ∨
  ((0≤a∧a≤4)∧(-1≤p∧p≤5)∧(∀i,i<s.S.a8.length→(ce s i).State≠0)∧T0 s a p=some (s,0,4)) ∨
  ((0≤a∧a≤4)∧(-1≤p∧p≤5)∧∃i,Fst s i∧T0 s a p=some (mkS s i a.toNat p,hdl s i,0)):=by
 have hs':=hR.ser;have hR':=s7.2 hR;unfold T0 b8Q;by_cases ha:0≤a∧a≤4
 ·right;obtain⟨ha1,ha2⟩:=ha;obtain⟨n,rfl⟩:∃n:Nat,a=n:=⟨a.toNat,by omega⟩
  rw[if_neg (by simp;omega),a7u (by omega) (by omega)]
  simp only[d6y];by_cases hp : -1≤p∧p≤5
  ·right;unfold Q9;simp only[d6y];have e1:(decide (p ≥ -1)&&decide (p<6))=true:=by simp;omega
   rw[e1];have hl:SlO s.S:=⟨a16 hR',hR'.l0,hR'.l9,λi hi=>b8w hR' i hi⟩;rcases b8L hl ⟨s.Serial+1,0,0,p,false,List.replicate n 0⟩ with ⟨i,hi,h0,hf,e⟩ | ⟨hf,e⟩
   ·right;refine⟨⟨ha1,ha2⟩,hp,i,⟨hi,by rw[E5 hi];exact h0,λj hj=>by rw[E5 (by omega)];exact hf j hj⟩,?_⟩
    simp only[bne_self_eq_false,Bool.false_eq_true,if_false,Bool.not_true];rw[show u5 (s.Serial+1)=s.Serial+1 from C6 (by omega) (by omega),e]
    unfold mkS hdl;rw[E5 hi];simp
   ·left;refine⟨⟨ha1,ha2⟩,hp,λi hi=>by rw[E5 hi];exact hf i hi,?_⟩
    simp only[bne_self_eq_false,Bool.false_eq_true,if_false,Bool.not_true];rw[show u5 (s.Serial+1)=s.Serial+1 from C6 (by omega) (by omega),e]
    simp
  ·left;refine⟨⟨ha1,ha2⟩,hp,?_⟩;unfold Q9;simp only[d6y];have e1:(decide (p ≥ -1)&&decide (p<6))=false:=by rw[Bool.eq_false_iff];simp;omega
   rw[e1];simp
 ·left;refine⟨ha,?_⟩;rw[if_pos (by simp;omega)]
  simp
end Go.Sh
namespace Go.Sh
def sd(x:Hp)(r:Int):Int:=if r<0 then 0 else x.Roots.getD r.toNat 0
def asd(x:Hp)(r:Int):Int × Int:=if sd x r=0 then (0,2) else (sd x r,0)
def ser(x:Hp)(h:Int):Int:=(ob x.S h).Serial
theorem in0{n l m e:Int}(he:e≠0)(h:M1 n l m e=0):l≤n∧n≤m:=by
 unfold M1 at h;split at h;·exact absurd h he
 ·omega
theorem c1b{a b c:Int}(h:a0I a b c=0):a=0∧b=0∧c=0:=by
 unfold a0I at h;split at h;·contradiction
 ·split at h;·contradiction
  ·omega
theorem c2W{k a b c:Int}(h:B3 k a b c=0):1≤k∧k≤12:=by
 refine Decidable.byContradiction λq=>?_;have:B3 k a b c=14:=by
  unfold B3;repeat rw[if_neg (by omega)]
 omega
theorem d5u{a b c:Int}(h:B3 1 a b c=0):(0≤a∧a≤5)∧(0≤b∧b≤4) ∧ -1≤c∧c≤5:=by
 obtain⟨h1,h2,h3⟩:=c1b (show a0I (M1 a 0 5 6) (M1 b 0 4 1) (M1 c (-1) 5 13)=0 from h);exact⟨in0 (by decide) h1,in0 (by decide) h2,in0 (by decide) h3⟩
theorem d1t{a b c:Int}(h:B3 2 a b c=0):(0≤a∧a≤5)∧(0≤b∧b≤5):=by
 obtain⟨h1,h2,_⟩:=c1b (show a0I (M1 a 0 5 6) (M1 b 0 5 6) 0=0 from h);exact⟨in0 (by decide) h1,in0 (by decide) h2⟩
theorem d5v{a b c:Int}(h:B3 3 a b c=0):0≤a∧a≤5:=in0 (by decide) (show M1 a 0 5 6=0 from h)
theorem d5w{a b c:Int}(h:B3 4 a b c=0):(0≤a∧a≤5)∧(0≤b∧b≤5)∧0≤c∧c≤3:=by
 obtain⟨h1,h2,h3⟩:=c1b (show a0I (M1 a 0 5 6) (M1 b 0 5 6) (M1 c 0 3 5)=0 from h);exact⟨in0 (by decide) h1,in0 (by decide) h2,in0 (by decide) h3⟩
theorem d5x{a b c:Int}(h:B3 5 a b c=0):(0≤a∧a≤5)∧(0≤b∧b≤3) ∧ -1≤c∧c≤5:=by
 obtain⟨h1,h2,h3⟩:=c1b (show a0I (M1 a 0 5 6) (M1 b 0 3 5) (M1 c (-1) 5 6)=0 from h);exact⟨in0 (by decide) h1,in0 (by decide) h2,in0 (by decide) h3⟩
theorem d5y{a b c:Int}(h:B3 6 a b c=0):(0≤a∧a≤5)∧(-1≤b∧b≤5) ∧ -1≤c∧c≤5:=by
 obtain⟨h1,h2,h3⟩:=c1b (show a0I (M1 a 0 5 7) (M1 b (-1) 5 6) (M1 c (-1) 5 13)=0 from h);exact⟨in0 (by decide) h1,in0 (by decide) h2,in0 (by decide) h3⟩
theorem d5z{a b c:Int}(h:B3 7 a b c=0):(0≤a∧a≤5)∧(0≤b∧b≤5):=by
 obtain⟨h1,h2,_⟩:=c1b (show a0I (M1 a 0 5 6) (M1 b 0 5 7) 0=0 from h);exact⟨in0 (by decide) h1,in0 (by decide) h2⟩
theorem d5A{a b c:Int}(h:B3 8 a b c=0):(0≤a∧a≤5)∧(-1≤b∧b≤5):=by
 obtain⟨h1,h2,_⟩:=c1b (show a0I (M1 a 0 5 6) (M1 b (-1) 5 6) 0=0 from h);exact⟨in0 (by decide) h1,in0 (by decide) h2⟩
theorem d5B{a b c:Int}(h:B3 9 a b c=0):(0≤a∧a≤5)∧(0≤b∧b≤5):=d1t (show B3 2 a b c=0 from h)
theorem d3Q{a b c:Int}(h:B3 10 a b c=0):(0≤a∧a≤5)∧(0≤b∧b≤5):=d1t (show B3 2 a b c=0 from h)
section
variable{x:Hp}(hx:HpS x)
include hx
theorem b25{r:Int}(h:0≤r∧r≤5):ix x.Roots r=some (sd x r):=by
 have:=hx.r6;obtain⟨n,rfl⟩:∃n:Nat,r=n:=⟨r.toNat,by omega⟩
 have hn:n<x.Roots.length:=by omega
 rw[o9 hn];unfold sd;rw[if_neg (by omega),Int.toNat_natCast,List.getD_eq_getElem?_getD,List.getElem?_eq_getElem hn]
 rfl
theorem b5l{r:Int}(h:¬(0≤r∧r≤5)):sd x r=0:=by
 have:=hx.r6;unfold sd;split;·rfl
 ·rw[List.getD_eq_getElem?_getD,List.getElem?_eq_none (by omega)]
  rfl
theorem b26(r:Int):sd x r=0∨sd x r∈lv x.S:=by
 by_cases h:0≤r∧r≤5
 ·have e:=b25 hx h;unfold ix at e;rw[if_pos h.1] at e;exact hx.rt _ (List.mem_of_getElem? e)
 ·exact .inl (b5l hx h)
theorem b27(r:Int):sd x r≤9223372036854775807:=by
 rcases b26 hx r with h | h
 ·omega
 ·have:=H4 hx.sr h;omega
theorem a63(r:Int):L0 x r=some (sd x r):=by
 have h6:=hx.r6;unfold L0;by_cases h:0≤r∧r≤5
 ·rw[if_neg (by simp;omega),b25 hx h]
  rfl
 ·rw[if_pos (by simp;omega),b5l hx h]
theorem c7o{r:Int}(h:r≤5):a51 (hO x) r=some (sd x r):=by
 unfold a51;by_cases q:r<0
 ·rw[if_pos (by simpa using q),b5l hx (by omega)]
 ·rw[if_neg (by simpa using q),show (hO x).Roots=x.Roots from rfl,b25 hx (by omega)]
  rfl
theorem a5Q(r:Int):L7 x r=some (asd x r):=by
 unfold L7 asd;rw[a63 hx,d6y];by_cases h:sd x r=0
 ·rw[if_pos (by simpa using h),if_pos h]
 ·rw[if_neg (by simpa using h),if_neg h]
theorem b0E{r:Int}(h:0≤r∧r≤5):Y2 (hO x) r=some (asd x r):=by
 unfold Y2 asd;rw[show (hO x).Roots=x.Roots from rfl,b25 hx h,d6y];by_cases h:sd x r=0
 ·rw[if_pos (by simpa using h),if_pos h]
 ·rw[if_neg (by simpa using h),if_neg h]
theorem c7s{h:Int}(hh:h≤9223372036854775807):a0h x h=some (ser x h):=by
 obtain⟨e,h1,_⟩:=Q1 (s7.2 hx.sr) hh;unfold a0h;rw[h1];rfl
theorem c7r{h:Int}(hh:h≤9223372036854775807):a2D (hO x) h=some (ser x h):=by
 obtain⟨e,h1,_⟩:=Q1 (s7.2 hx.sr) hh;unfold a2D;rw[show (hO x).S=sO x.S from rfl,a4h x.S (by have:=hx.sr.len;omega) hh,h1]
 rfl
theorem c2B(r:Int):a1d x r=some (ser x (sd x r)):=by
 unfold a1d;rw[a63 hx,d6y,c7s hx (b27 hx r)];rfl
theorem c3D:ser x 0=0:=by
 unfold ser;rw[a9Q (s7.2 hx.sr) (by omega) (a9w hx.sr)]
theorem d3O(r:Int):b2y (hO x) r=some (ser x (sd x r)):=by
 unfold b2y;by_cases h:0≤r∧r≤5
 ·rw[if_neg (by simp;omega),show (hO x).Roots=x.Roots from rfl,b25 hx h,d6y,c7r hx (b27 hx r)]
  rfl
 ·rw[if_pos (by simp;omega),b5l hx h,c3D hx]
end
theorem d3h{x z:Hp}(hx:HpS x)(k:Ks x.S z.S){h:Int}(hh:h=0∨h∈lv x.S):ser z h=ser x h:=by
 rcases hh with e | e
 ·subst e;unfold ser;rw[a9Q (s7.2 hx.sr) (by omega) (a9w hx.sr),a9Q (s7.2 k.sr) (by omega) (a9w k.sr)]
 ·exact k.ob h e
theorem c90{x z:Hp}(h:z.Roots=x.Roots)(r:Int):sd z r=sd x r:=by unfold sd;rw[h]
noncomputable def doR(x:Hp)(o:g9)(v:Hp × Int):Option (Hp × Int × Int):=
 if (v.2 != 0) then some (x,0,v.2) else (O5 v.1).bind λv5=>(U5 v.1 v5 o).bind λv6=>some (v5,v6,0)
theorem a9K{x:Hp}{o:g9}{n:Option Nat}(hc:B3 o.Kind o.A o.B o.C=0)(hk:∃l,a2W=some l∧B5 l o.Kind=some n):x4 x o=(b3E n ⟨x,o⟩).bind (doR x o):=by
 obtain⟨l,h1,h2⟩:=hk;unfold x4;rw[a7P,hc,d6y,if_neg (by simp),h1,d6y,h2,if_neg (by simp)]
 rfl
theorem c5H{x:Hp}{o:g9}(hc:B3 o.Kind o.A o.B o.C≠0):x4 x o=some (x,0,B3 o.Kind o.A o.B o.C)∧D4 (hO x) ⟨o.Kind,o.A,o.B,o.C⟩=some (hO x,0,B3 o.Kind o.A o.B o.C):=by
 constructor
 ·unfold x4;rw[a7P,d6y,if_pos (by simpa using hc)]
 ·unfold D4;rw[a4T,d6y,if_pos (by simpa using hc)]
section
variable{x:Hp}{a b c:Int}
theorem d5D(hc:B3 1 a b c=0):x4 x ⟨1,a,b,c⟩=(T2 ⟨x,⟨1,a,b,c⟩⟩).bind (doR x ⟨1,a,b,c⟩):=a9K (o:=⟨1,a,b,c⟩) (n:=some 151) hc ⟨_,rfl,rfl⟩
theorem d5E(hc:B3 2 a b c=0):x4 x ⟨2,a,b,c⟩=(I2 ⟨x,⟨2,a,b,c⟩⟩).bind (doR x ⟨2,a,b,c⟩):=a9K (o:=⟨2,a,b,c⟩) (n:=some 152) hc ⟨_,rfl,rfl⟩
theorem d5F(hc:B3 3 a b c=0):x4 x ⟨3,a,b,c⟩=(Z5 ⟨x,⟨3,a,b,c⟩⟩).bind (doR x ⟨3,a,b,c⟩):=a9K (o:=⟨3,a,b,c⟩) (n:=some 153) hc ⟨_,rfl,rfl⟩
theorem d5G(hc:B3 4 a b c=0):x4 x ⟨4,a,b,c⟩=(Z6 ⟨x,⟨4,a,b,c⟩⟩).bind (doR x ⟨4,a,b,c⟩):=a9K (o:=⟨4,a,b,c⟩) (n:=some 154) hc ⟨_,rfl,rfl⟩
theorem d5H(hc:B3 5 a b c=0):x4 x ⟨5,a,b,c⟩=(W3 ⟨x,⟨5,a,b,c⟩⟩).bind (doR x ⟨5,a,b,c⟩):=a9K (o:=⟨5,a,b,c⟩) (n:=some 155) hc ⟨_,rfl,rfl⟩
theorem d5I(hc:B3 6 a b c=0):x4 x ⟨6,a,b,c⟩=(T3 ⟨x,⟨6,a,b,c⟩⟩).bind (doR x ⟨6,a,b,c⟩):=a9K (o:=⟨6,a,b,c⟩) (n:=some 156) hc ⟨_,rfl,rfl⟩
theorem d5J(hc:B3 7 a b c=0):x4 x ⟨7,a,b,c⟩=(W9 ⟨x,⟨7,a,b,c⟩⟩).bind (doR x ⟨7,a,b,c⟩):=a9K (o:=⟨7,a,b,c⟩) (n:=some 157) hc ⟨_,rfl,rfl⟩
theorem d5K(hc:B3 8 a b c=0):x4 x ⟨8,a,b,c⟩=(Z7 ⟨x,⟨8,a,b,c⟩⟩).bind (doR x ⟨8,a,b,c⟩):=a9K (o:=⟨8,a,b,c⟩) (n:=some 158) hc ⟨_,rfl,rfl⟩
theorem d5L(hc:B3 9 a b c=0):x4 x ⟨9,a,b,c⟩=(a0z ⟨x,⟨9,a,b,c⟩⟩).bind (doR x ⟨9,a,b,c⟩):=a9K (o:=⟨9,a,b,c⟩) (n:=some 159) hc ⟨_,rfl,rfl⟩
theorem d3X(hc:B3 10 a b c=0):x4 x ⟨10,a,b,c⟩=(P0 ⟨x,⟨10,a,b,c⟩⟩).bind (doR x ⟨10,a,b,c⟩):=a9K (o:=⟨10,a,b,c⟩) (n:=some 160) hc ⟨_,rfl,rfl⟩
theorem b7o{k:Int}(hk:k=11∨k=12)(hc:B3 k a b c=0):x4 x ⟨k,a,b,c⟩=some (x,0,14)∧D4 (hO x) ⟨k,a,b,c⟩=some (hO x,0,14):=by
 constructor
 ·unfold x4;rw[a7P,hc,d6y,if_neg (by simp)]
  rcases hk with rfl | rfl <;> rfl
 ·unfold D4 Y1;rw[a4T,hc,d6y,if_neg (by simp)]
  rcases hk with rfl | rfl <;> rfl
variable{y:g8}
def rT(y:g8)(a:Int)(v:Int × Int):Option (g8 × Int × Int):=
 if (v.2 != 0) then some (y,0,v.2) else (X0 y a v.1).bind λv15=>(P4 v15.1).bind λv16=>(b2y v16 a).bind λv17=>some (v16,v17,0)
def rO(y:g8)(v:g8 × Int × Int):Option (g8 × Int × Int):=
 if (v.2.2 != 0) then some (y,0,v.2.2) else (P4 v.1).bind λv8=>(a2D y v.2.1).bind λv9=>some (v8,v9,0)
theorem c3q{k:Int}(hk:k=2∨k=3∨k=4∨k=7∨k=9)(hc:B3 k a b c=0):D4 y ⟨k,a,b,c⟩=(a2E y ⟨k,a,b,c⟩).bind (rT y a):=by
 unfold D4 Y1;rw[a4T,hc,d6y,if_neg (by simp)]
 rcases hk with rfl | rfl | rfl | rfl | rfl <;> rfl
theorem c3p{k:Int}(hk:k=5∨k=6∨k=8)(hc:B3 k a b c=0):D4 y ⟨k,a,b,c⟩=(a1w y ⟨k,a,b,c⟩).bind (rO y):=by
 unfold D4 Y1;rw[a4T,hc,d6y,if_neg (by simp)]
 rcases hk with rfl | rfl | rfl <;> rfl
theorem d4O(hc:B3 1 a b c=0):D4 y ⟨1,a,b,c⟩=(a3h y.S b c).bind λv10=>if (v10.2.2 != 0) then some (y,0,v10.2.2) else (X0 ⟨v10.1,y.Roots,y.a8,y.T,y.Q⟩ a v10.2.1).bind λv11=>(P4 v11.1).bind λv12=>(b2y v12 a).bind λv13=>some (v12,v13,0):=by
 unfold D4 Y1;rw[a4T,hc,d6y,if_neg (by simp)]
 rfl
theorem d2W(hc:B3 10 a b c=0):D4 y ⟨10,a,b,c⟩=(ix y.Roots a).bind λv3=>(ix y.Roots b).bind λv4=>if (v3==v4) then some (y,1,0) else some (y,0,0):=by
 unfold D4 Y1;rw[a4T,hc,d6y,if_neg (by simp)]
 rfl
end
end Go.Sh
namespace Go.Sh
section
variable{s:a7}(hR:SR s){i:Nat}(hi:i<s.S.a8.length)
include hR hi
theorem d3t(st g:Int):a1g (sO s) ⟨(pl (sO s)).a8.set i ⟨st,g,0⟩,(pl (sO s)).Last⟩=some ⟨(sO s).a8.set i ⟨st,g,oo (ce s i).Val⟩,s.S.Last,s.Serial⟩:=by
 have hlen:=hR.len;have J3:i<(pl (sO s)).a8.length:=by rw[a1e,C0];exact hi
 rw[b5u _ _ (by rw[C0];omega) (by simp[a1e])]
 congr 1;congr 1;refine List.ext_getElem (by simp) λk h1 h2=>?_
 have hk:k<s.S.a8.length:=by simpa[C0] using h1
 have hk2:k<(sO s).a8.length:=by rw[C0];exact hk
 have hk3:k<(pl (sO s)).a8.length:=by rw[a1e];exact hk2
 simp only[List.getElem_map,List.getElem_range,List.getElem_set];have e1:(sO s).a8.getD k ⟨0,0,oo z0⟩=cO (ce s k):=by
  rw[List.getD_eq_getElem?_getD,List.getElem?_eq_getElem hk2,E5 hk];simp[sO]
 have e2:((pl (sO s)).a8.set i ⟨st,g,0⟩).getD k ⟨0,0,0⟩=if k=i then ⟨st,g,0⟩ else plc k (cO (ce s k)):=by
  rw[a5J J3];split;·rfl
  ·rw[List.getD_eq_getElem?_getD,List.getElem?_eq_getElem hk3,E5 hk];simp[pl,sO]
 rw[e1,e2];by_cases e:k=i
 ·subst e;rw[if_pos rfl,if_pos rfl];rfl
 ·rw[if_neg e,if_neg (Ne.symm e)];rw[E5 hk];simp[sO,plc,cO]
theorem d3u(st g:Int)(o:D9):a3i ⟨(sO s).a8.set i ⟨st,g,oo (ce s i).Val⟩,s.S.Last,s.Serial⟩ (i:Int) o=some ⟨(sO s).a8.set i ⟨st,g,o⟩,s.S.Last,s.Serial⟩:=by
 have hlen:=hR.len;unfold a3i;have hi2:i<((sO s).a8.set i ⟨st,g,oo (ce s i).Val⟩).length:=by simp[C0];exact hi
 rw[M3 (by omega) (by simp[C0];omega),d6y,o9 hi2,d6y]
 simp[List.set_set]
theorem c60:∃h:i<(pl (sO s)).a8.length,(pl (sO s)).a8[i]=⟨(ce s i).State,(ce s i).Gen,(i:Int)⟩:=by
 have J3:i<(pl (sO s)).a8.length:=by rw[a1e,C0];exact hi
 refine⟨J3,?_⟩;rw[E5 hi];simp[pl,sO,plc,cO]
end
theorem d3q{s:a7}(hR:SR s):(∀i,i<s.S.a8.length→(ce s i).State≠0)→a8c (pl (sO s)) 0=some (pl (sO s),0,4):=λhf=>by
 have hlen:=hR.len;have el:(pl (sO s)).a8.length=s.S.a8.length:=by rw[a1e,C0]
 unfold a8c;simp only[jn];refine R6 (pl (sO s)).a8.length (λk=>True) (by omega) trivial (λk hk _=>?_) (λhP=>⟨.inr (),by simp,rfl⟩)
 refine .inl ⟨?_,trivial⟩;obtain⟨h1,h2⟩:=c60 hR (show k<s.S.a8.length by omega)
 have:=hf k (by omega)
 simp only[Int.ofNat_lt,hk,decide_true,if_true,o9 hk,d6y];rw[h2,if_neg (by simpa using this),l5]
theorem d0b{s:a7}(hR:SR s){i:Nat}(hF:Fst s i):a8c (pl (sO s)) 0=some (⟨(pl (sO s)).a8.set i ⟨1,(ce s i).Gen,0⟩,(pl (sO s)).Last⟩,hdl s i,0):=by
 have hlen:=hR.len;have el:(pl (sO s)).a8.length=s.S.a8.length:=by rw[a1e,C0]
 obtain⟨hi,h0,hmin⟩:=hF;have hc:=hR.cell i hi;have l9:=hR.l9;unfold a8c;simp only[jn];refine R6 (pl (sO s)).a8.length (λk=>k≤i) (by omega) (by omega) (λk hk hP=>?_) (λhP=>by omega)
 obtain⟨h1,h2⟩:=c60 hR (show k<s.S.a8.length by omega)
 rcases Nat.lt_or_ge k i with g | g
 ·refine .inl ⟨?_,g⟩;have:=hmin k g;simp only[Int.ofNat_lt,hk,decide_true,if_true,o9 hk,d6y];rw[h2,if_neg (by simpa using this),l5]
 ·have:k=i:=by omega
  subst this;refine .inr ⟨.inl _,?_,rfl⟩;simp only[Int.ofNat_lt,hk,decide_true,if_true,o9 hk,d6y];rw[h2,if_pos (by simpa using h0)]
  have w3:∀c:B8,a0Y (pl (sO s)) (k:Int) c=some ⟨(pl (sO s)).a8.set k c,(pl (sO s)).Last⟩:=λc=>by
   unfold a0Y;rw[M3 (by omega) (by omega),d6y,o9 hk,d6y,Int.toNat_natCast]
  rw[w3,d6y,a49,if_pos (by dsimp only;omega),d6y]
  rfl
theorem d4o{s:a7}(hR:SR s)(hb:s.Serial<9223372036854775807)(a p:Int) :
  (∃e,e≠0∧T0 s a p=some (s,0,e)∧a3h (sO s) a p=some (sO s,0,e)) ∨
  ((0≤a∧a≤4)∧(-1≤p∧p≤5)∧∃i,Fst s i∧T0 s a p=some (mkS s i a.toNat p,hdl s i,0)∧a3h (sO s) a p=some (sO (mkS s i a.toNat p),hdl s i,0)):=by
 have hser:=hR.ser;have hlen:=hR.len;have r1:∀n:Nat,n≤4→b3Q (n:Int)=some (List.replicate n 0,0):=λn hn=>by
  unfold b3Q;rw[if_neg (by simp;omega),a7u (by omega) (by omega)]
  rfl
 rcases d4n hR hb a p with ⟨h1,e⟩ | ⟨h1,h2,e⟩ | ⟨h1,h2,h3,e⟩ | ⟨h1,h2,i,h3,e⟩
 ·refine .inl ⟨1,by decide,e,?_⟩
  unfold a3h b3Q;rw[if_pos (by simp;omega)]
  rfl
 ·refine .inl ⟨13,by decide,e,?_⟩
  obtain⟨n,rfl⟩:∃n:Nat,a=n:=⟨a.toNat,by omega⟩
  unfold a3h;rw[r1 n (by omega),d6y,if_neg (by simp),if_pos (by simp;omega)]
 ·refine .inl ⟨4,by decide,e,?_⟩
  obtain⟨n,rfl⟩:∃n:Nat,a=n:=⟨a.toNat,by omega⟩
  unfold a3h;rw[r1 n (by omega),d6y,if_neg (by simp),if_neg (by simp;omega),a2Y _ (by rw[C0];omega),d6y,d3q hR h3,d6y,if_pos (by simp)]
 ·refine .inr ⟨h1,h2,i,h3,e,?_⟩;obtain⟨n,rfl⟩:∃n:Nat,a=n:=⟨a.toNat,by omega⟩
  have hi:=h3.1;have hc:=hR.cell i hi;have l9:=hR.l9;unfold a3h;rw[r1 n (by omega),d6y,if_neg (by simp),if_neg (by simp;omega),a2Y _ (by rw[C0];omega),d6y,d0b hR h3,d6y,if_neg (by simp),d3t hR hi,d6y,a8b,if_pos (by unfold Hnd hdl;dsimp only;omega),d6y,
   show (hdl s i-1) % 32=(i:Int) by unfold hdl;omega,d3u hR hi,d6y,C6 (by show _≤s.Serial+1;omega) (by show s.Serial+1≤_;omega)]
  unfold mkS;rw[Int.toNat_natCast];simp only[sO,List.map_set];rfl
end Go.Sh
