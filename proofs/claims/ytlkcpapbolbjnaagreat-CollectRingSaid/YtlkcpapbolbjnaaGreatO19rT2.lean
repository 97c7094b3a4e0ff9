/-
 More of the theory.
-/
import Derived.Test.YtlkcpapbolbjnaaGreatO19rT
set_option linter.unusedVariables false
set_option linter.unusedSimpArgs false
set_option linter.unusedSectionVars false
namespace Go.Sh
instance(s:a7)(h:Int)(i:Nat):Decidable (S0 s h i):=by unfold S0;infer_instance
abbrev wkg(o:k9)(n:Int):k9:=⟨o.Serial,o.Strong,n,o.Prog,o.Started,o.Fields⟩
def mkA(s:a7)(i:Nat)(d:Int):a7:=a1b s i (wkg (ce s i).Val ((ce s i).Val.Weak+d))
def gvA(s:a7)(i:Nat):a7:=E5 s i (if (ce s i).Gen=s.S.Last then ⟨3,(ce s i).Gen,z0⟩ else ⟨0,(ce s i).Gen+1,z0⟩)
def hdl(s:a7)(i:Nat):Int:=1+(i:Int)+32*(ce s i).Gen
theorem b80{s:a7}{i:Nat}(hi:i<s.S.a8.length)(ht:Th (ce s i)):S0 s (hdl s i) i:=⟨hi,ht,rfl⟩
theorem b1U{s:a7}(hR:SR s){i:Nat}(hi:i<s.S.a8.length):1≤hdl s i:=by
 have:=hR.cell i hi
 unfold hdl
 omega
section
variable{s:a7}(hR:SR s){i:Nat}(hi:i<s.S.a8.length)(ht:Th (ce s i))
include hR hi ht
theorem b5w{d:Int}(hd:0≤(ce s i).Val.Weak+d):SR (mkA s i d):=by
 have:=hR.ok i hi ht
 exact hR.put hi ht rfl ⟨this.s1,this.s2,this.st,hd,this.p1,this.p2,this.fl⟩
theorem a3v(d:Int)(j:Nat):ce (mkA s i d) j=if j=i then ⟨(ce s i).State,(ce s i).Gen,wkg (ce s i).Val ((ce s i).Val.Weak+d)⟩ else ce s j:=a5o hi _ j
theorem a5G{d:Int}(hd:0≤(ce s i).Val.Weak+d):Kn s (mkA s i d):=by
 have hS:=b5w hR hi ht hd
 refine⟨hS,K7 ..,c2g hR hi rfl hS,λk j=>b1P hi _,λk hk=>?_⟩
 have q:=u7 hR hk
 rw[Q3 hS ((b2h hi _).2 q),Q3 hR q,a3v hR hi ht]
 split
 ·rename_i e
  rw[e]
  exact⟨_,_,rfl⟩
 ·exact⟨_,_,rfl⟩
theorem a5H{d:Int}(hd:0≤(ce s i).Val.Weak+d){k:Int}(hk:k∈lv s):(ob (mkA s i d) k).Strong=(ob s k).Strong:=by
 have hS:=b5w hR hi ht hd
 have q:=u7 hR hk
 rw[Q3 hS ((b2h hi _).2 q),Q3 hR q,a3v hR hi ht]
 split
 ·rename_i e
  rw[e]
 ·rfl
omit ht in
theorem b5j:SR (gvA s i):=by
 have hc:=hR.cell i hi
 have no:b2e (oo z0):=⟨rfl,rfl,rfl,rfl,rfl,rfl⟩
 unfold gvA
 split
 ·exact hR.E5 hi ⟨by simp,by simp,hc.2.2.1,hc.2.2.2⟩ (λ_=>no) (λq=>absurd q (by unfold Th;simp))
 ·refine hR.E5 hi ⟨by simp,by simp,?_,?_⟩ (λ_=>no) (λq=>absurd q (by unfold Th;simp))
  ·show 0≤(ce s i).Gen+1;omega
  ·show (ce s i).Gen+1≤s.S.Last;omega
omit hR ht in
theorem b5g:∃c,(c.State=0∨c.State=3)∧gvA s i=E5 s i c∧∀j,ce (gvA s i) j=if j=i then c else ce s j:=by
 unfold gvA
 split
 ·exact⟨_,.inr rfl,rfl,λj=>I7 hi _ j⟩
 ·exact⟨_,.inl rfl,rfl,λj=>I7 hi _ j⟩
omit ht in
theorem b5h (h2:(ce s i).State=2):lv (gvA s i)=lv s:=by
 obtain⟨c,c1,c2,_⟩:=b5g (s:=s) hi
 have hS:=b5j hR hi
 rw[c2] at hS ⊢
 rw[b9n hR hi (by omega) hS,List.filter_eq_self]
 intro h hh
 rw[decide_eq_true_iff]
 intro e
 have:=(u7 hR hh).2.1
 rw[e] at this
 omega
omit ht in
theorem b5i (h2:(ce s i).State=2) {k:Int} (hk:k∈lv s):ob (gvA s i) k=ob s k:=by
 obtain⟨c,c1,c2,_⟩:=b5g (s:=s) hi
 have hS:=b5j hR hi
 rw[c2] at hS ⊢
 refine b9t hR hi hS hk λe=>?_
 have:=(u7 hR hk).2.1
 rw[e] at this
 omega
omit ht in
theorem c6t {k:Int} {j:Nat}:S0 (gvA s i) k j↔S0 s k j∧j≠i:=by
 obtain⟨c,c1,c2,c3⟩:=b5g (s:=s) hi
 by_cases e:j=i
 ·subst e
  constructor
  ·rintro⟨_,h,_⟩
   rw[c3,if_pos rfl] at h
   unfold Th at h
   omega
  ·rintro⟨_,h⟩
   exact absurd rfl h
 ·rw[c2,c1i hi c e]
  simp[e]
theorem c33(h2:(ce s i).State=2)(y:Int):inn (gvA s i) y=inn s y:=by
 unfold inn
 rw[b5h hR hi h2]
 congr 1
 refine List.map_congr_left λx hx=>?_
 unfold outs
 rw[b5i hR hi h2 hx]
end
def mkd(x:Hp)(h:Int)(d:Int):Hp:=if S0 x.S h (A2 h) then wS x (mkA x.S (A2 h) d) else x
def a84(x:Hp)(h:Int):Hp:=
 if S0 x.S h (A2 h) then
  (if (ce x.S (A2 h)).State=2∧(ce x.S (A2 h)).Val.Weak=1 then wS x (gvA (mkA x.S (A2 h) (-1)) (A2 h)) else wS x (mkA x.S (A2 h) (-1)))
 else x
abbrev wcl(h call:Int):c4:=⟨h,h != 0,call⟩
def tgt(x:Hp)(w:Nat):Int:=(x.a8.getD w ⟨0,false,0⟩).Target
def a3K(x:Hp)(w:Nat)(h call:Int):Hp:=a84 (mkd (wC x (x.a8.set w (wcl h call))) h 1) (tgt x w)
theorem c4q{l:List c4}{w:Nat}(hw:w<l.length)(c:c4){k:Int}(hk:k≠0):nmg (l.set w c) k+(if l[w].Target=k then 1 else 0)=nmg l k+if c.Target=k then 1 else 0:=by
 unfold nmg
 rw[List.countP_set hw]
 have e:∀d:c4,(((k != 0)&&(d.Target==k))=true)=(d.Target=k):=λd=>by simp[hk]
 simp only[e]
 have:(if l[w].Target=k then 1 else 0)≤l.countP λc=>(k != 0)&&(c.Target==k):=by
  split
  ·rename_i q
   exact List.countP_pos_iff.2 ⟨l[w],List.getElem_mem hw,by simp[q,hk]⟩
  ·exact Nat.zero_le _
 omega
theorem a9O{l:List c4}{i:Nat}(hi:i<l.length)(h0:l[i].Target≠0):0<nmg l l[i].Target:=List.countP_pos_iff.2 ⟨l[i],List.getElem_mem hi,by simp[h0]⟩
theorem b7B{x:Hp}(hx:O0 x){w:Nat}(hw:w<6){h call:Int}(hh:h=0∨h∈lv x.S)(hc : -1≤call∧call≤5)(hq:wts x.Q w=false):O0 (a3K x w h call):=by
 have hR:=hx.sh.sr
 have hwl:w<x.a8.length:=by rw[hx.sh.c6];exact hw
 have htg:tgt x w=x.a8[w].Target:=by
  unfold tgt
  rw[List.getD_eq_getElem?_getD,List.getElem?_eq_getElem hwl]
  rfl
 have s1:HpS (wC x (x.a8.set w (wcl h call))):=by
  have:=hx.sh
  refine⟨this.sr,this.hr,this.r6,by simpa using this.c6,this.cap,this.q30,this.tk,this.td,this.rt,this.fl,this.pr,λi hi=>?_⟩
  dsimp only at hi ⊢
  rw[List.getElem_set]
  rw[List.length_set] at hi
  split
  ·rename_i e
   subst e
   dsimp only
   refine⟨hc.1,hc.2,λq=>by simp[q],λq=>?_,λq=>?_⟩
   ·exact⟨_,(u7 hR (hh.resolve_left q)).d⟩
   ·have q:h≠0:=by simpa using q
    exact⟨hh.resolve_left q,hq⟩
  ·exact this.cl i hi
 have k2:∃s2,mkd (wC x (x.a8.set w (wcl h call))) h 1=wS (wC x (x.a8.set w (wcl h call))) s2∧Kn x.S s2∧(∀k∈lv x.S,(ob s2 k).Strong=(ob x.S k).Strong) ∧
   ∀i,i<x.S.S.a8.length→(ce s2 i).State=(ce x.S i).State∧(ce s2 i).Gen=(ce x.S i).Gen∧(ce s2 i).Val.Fields=(ce x.S i).Val.Fields∧(ce s2 i).Val.Strong=(ce x.S i).Val.Strong∧(Th (ce x.S i)→(ce s2 i).Val.Weak=(ce x.S i).Val.Weak+if h=hdl x.S i then 1 else 0):=by
  unfold mkd
  rcases hh with h0 | hh
  ·have hno:¬S0 x.S h (A2 h):=λq=>by have:=q.rng hR;omega
   rw[if_neg hno]
   refine⟨x.S,rfl,(Kin.refl hR).kn hR,λ_ _=>rfl,λi hi=>⟨rfl,rfl,rfl,rfl,λht=>?_⟩⟩
   have:=b1U hR hi
   rw[if_neg (by omega)]
   omega
  ·have hp:=u7 hR hh
   have hwk:=(hR.ok _ hp.1 (.inl hp.2.1)).wk
   rw[if_pos hp.d]
   refine⟨_,rfl,a5G hR hp.1 (.inl hp.2.1) (by omega),λk hk=>a5H hR hp.1 (.inl hp.2.1) (by omega) hk,λi hi=>?_⟩
   rw[a3v hR hp.1 (.inl hp.2.1)]
   split
   ·rename_i e
    subst e
    refine⟨rfl,rfl,rfl,rfl,λ_=>?_⟩
    rw[if_pos (show h=hdl x.S (A2 h) from hp.2.2)]
   ·rename_i e
    refine⟨rfl,rfl,rfl,rfl,λht=>?_⟩
    rw[if_neg]
    ·omega
    ·intro q
     exact e (S0.one hR (q▸b80 hi ht) hp.d)
 obtain⟨s2,e2,kn2,st2,ce2⟩:=k2
 have hR2:=kn2.sr
 have len2:=kn2.len
 have hS2:HpS (wS (wC x (x.a8.set w (wcl h call))) s2):=s1.kn kn2
 have hdl2:∀i,i<x.S.S.a8.length→hdl s2 i=hdl x.S i:=λi hi=>by unfold hdl;rw[(ce2 i hi).2.1]
 have th2:∀i,i<x.S.S.a8.length→(Th (ce s2 i)↔Th (ce x.S i)):=λi hi=>by unfold Th;rw[(ce2 i hi).1]
 have wk2:∀i,i<x.S.S.a8.length→Th (ce x.S i)→(ce s2 i).Val.Weak=(nmg (x.a8.set w (wcl h call)) (hdl x.S i):Int)+if tgt x w=hdl x.S i then 1 else 0:=λi hi ht=>by
  have h0:hdl x.S i≠0:=by have:=b1U hR hi;omega
  have:=c4q hwl (wcl h call) h0
  rw[(ce2 i hi).2.2.2.2 ht,(hx.wk i hi ht).1,htg]
  dsimp only at this
  unfold hdl at this ⊢
  by_cases a:h=1+(i:Int)+32*(ce x.S i).Gen <;> by_cases b:x.a8[w].Target=1+(i:Int)+32*(ce x.S i).Gen
  ·rw[if_pos a,if_pos b] at *;omega
  ·rw[if_pos a,if_neg b] at *;omega
  ·rw[if_neg a,if_pos b] at *;omega
  ·rw[if_neg a,if_neg b] at *;omega
 have dd2:∀i,i<x.S.S.a8.length→(ce s2 i).State=2→(ce s2 i).Val.Fields = []∧(ce s2 i).Val.Strong=0:=λi hi q=>by
  obtain⟨a,_,b,c,_⟩:=ce2 i hi
  rw[a] at q
  rw[b,c]
  exact ((hx.wk i hi (.inr q)).2 q).2
 have nms2:∀k,nms (wS (wC x (x.a8.set w (wcl h call))) s2) k=nms x k:=λk=>by
  unfold nms otr
  dsimp only
  rw[kn2.inn]
 have fair2:a3j (wS (wC x (x.a8.set w (wcl h call))) s2) []:=hx.fair.mv kn2.lv st2 λk _=>by rw[nms2]
 unfold a3K
 rw[e2]
 unfold a84
 dsimp only
 by_cases hold:tgt x w=0
 ·have hno:¬S0 s2 (tgt x w) (A2 (tgt x w)):=λq=>by have:=q.rng hR2;omega
  rw[if_neg hno]
  refine⟨hS2,λi hi ht=>?_,fair2⟩
  dsimp only at hi ht ⊢
  rw[len2] at hi
  have ht':=(th2 i hi).1 ht
  have h0:=b1U hR hi
  have hw2:=wk2 i hi ht'
  rw[if_neg (by omega)] at hw2
  rw[show (1+(i:Int)+32*(ce s2 i).Gen)=hdl x.S i from hdl2 i hi]
  refine⟨by omega,λq=>⟨?_,dd2 i hi q⟩⟩
  have q':(ce x.S i).State=2:=by rw[←(ce2 i hi).1];exact q
  have:=((hx.wk i hi ht').2 q').1
  rw[(ce2 i hi).2.2.2.2 ht']
  split <;> omega
 ·obtain⟨p,hp⟩:∃p,S0 x.S (tgt x w) p:=by
   rw[htg] at hold ⊢
   exact (hx.sh.cl w hwl).2.2.2.1 hold
  have hpp:=hp.A2 hR
  have hp2:S0 s2 (tgt x w) p:=(kn2.ad _ _).2 hp
  have hth:tgt x w=hdl x.S p:=hp.2.2
  rw[hpp,if_pos hp2]
  have hpl2:=hp2.1
  have hw2:=wk2 p hp.1 hp.2.1
  rw[if_pos hth] at hw2
  have hd:0≤(ce s2 p).Val.Weak+(-1):=by omega
  have kn3:=a5G hR2 hpl2 hp2.2.1 hd
  have hR3:=kn3.sr
  have ce3:=a3v hR2 hpl2 hp2.2.1 (-1)
  have hS3:HpS (wS (wC x (x.a8.set w (wcl h call))) (mkA s2 p (-1))):=hS2.kn kn3
  have fair3:a3j (wS (wC x (x.a8.set w (wcl h call))) (mkA s2 p (-1))) []:=fair2.mv kn3.lv (λk hk=>a5H hR2 hpl2 hp2.2.1 hd hk) λk _=>by
   unfold nms otr
   dsimp only
   rw[kn3.inn]
  have wk3:∀i,i<x.S.S.a8.length→Th (ce x.S i)→(ce (mkA s2 p (-1)) i).Val.Weak=(nmg (x.a8.set w (wcl h call)) (hdl x.S i):Int):=λi hi ht=>by
   rw[ce3]
   by_cases e:i=p
   ·subst e
    rw[if_pos rfl]
    dsimp only
    omega
   ·rw[if_neg e,wk2 i hi ht,if_neg]
    ·omega
    ·intro q
     exact e (S0.one hR (q▸b80 hi ht) hp)
  have cs3:∀i,(ce (mkA s2 p (-1)) i).State=(ce s2 i).State∧(ce (mkA s2 p (-1)) i).Gen=(ce s2 i).Gen∧(ce (mkA s2 p (-1)) i).Val.Fields=(ce s2 i).Val.Fields∧(ce (mkA s2 p (-1)) i).Val.Strong=(ce s2 i).Val.Strong:=λi=>by
   rw[ce3]
   split
   ·rename_i e
    subst e
    exact⟨rfl,rfl,rfl,rfl⟩
   ·exact⟨rfl,rfl,rfl,rfl⟩
  by_cases hg:(ce s2 p).State=2∧(ce s2 p).Val.Weak=1
  ·-- the slot is given back
   rw[if_pos hg]
   have hpl3:p<(mkA s2 p (-1)).S.a8.length:=by rw[kn3.len];exact hpl2
   have h23:(ce (mkA s2 p (-1)) p).State=2:=by rw[(cs3 p).1];exact hg.1
   have hn0:nmg (x.a8.set w (wcl h call)) (tgt x w)=0:=by rw[hth];omega
   have hlv:=b5h hR3 hpl3 h23
   have hob:=λk hk=>b5i (k:=k) hR3 hpl3 h23 hk
   obtain⟨c,c1,c2,c3⟩:=b5g (s:=mkA s2 p (-1)) hpl3
   refine⟨⟨b5j hR3 hpl3,hS3.hr,hS3.r6,hS3.c6,hS3.cap,hS3.q30,λt htt=>?_,hS3.td,λv hv=>?_,λv hv u hu=>?_,λk v hkv=>?_,λi hi=>?_⟩,λi hi ht=>?_,?_⟩
   ·obtain⟨a,b,d⟩:=hS3.tk t htt
    refine⟨a,b,?_⟩
    dsimp only at d ⊢
    rw[hlv]
    rcases d with ⟨d1,d2,d3⟩ | d
    ·exact .inl ⟨d1,d2,by rw[hob _ d2];exact d3⟩
    ·exact .inr d
   ·dsimp only
    rw[hlv]
    exact hS3.rt v hv
   ·dsimp only at hv hu ⊢
    rw[hlv] at hv ⊢
    rw[hob _ hv] at hu
    exact hS3.fl v hv u hu
   ·dsimp only
    rw[hlv]
    exact hS3.pr k v hkv
   ·obtain⟨a1,a2,a3,a4,a5⟩:=hS3.cl i hi
    refine⟨a1,a2,a3,λq=>?_,λq=>?_⟩
    ·obtain⟨j,hj⟩:=a4 q
     refine⟨j,(c6t hR3 hpl3).2 ⟨hj,λe=>?_⟩⟩
     subst e
     have e1:=(kn2.ad _ _).1 ((kn3.ad _ _).1 hj)
     have e2:(x.a8.set w (wcl h call))[i].Target=tgt x w:=e1.2.2.trans hp.2.2.symm
     have:=a9O hi q
     dsimp only at this
     rw[e2] at this
     omega
    ·dsimp only
     rw[hlv]
     exact a5 q
   ·dsimp only at hi ht ⊢
    rw[show (gvA (mkA s2 p (-1)) p).S.a8.length=x.S.S.a8.length by rw[c2,X7,kn3.len,len2]] at hi
    rw[c3] at ht ⊢
    split at ht
    ·unfold Th at ht;omega
    ·rename_i e
     rw[if_neg e]
     have ht':Th (ce x.S i):=(th2 i hi).1 (by unfold Th at ht ⊢;rw[(cs3 i).1] at ht;exact ht)
     have:=wk3 i hi ht'
     rw[show (1+(i:Int)+32*(ce (mkA s2 p (-1)) i).Gen)=hdl x.S i by rw[(cs3 i).2.1];exact hdl2 i hi]
     refine⟨this,λq=>?_⟩
     rw[(cs3 i).1] at q
     rw[(cs3 i).2.2.1,(cs3 i).2.2.2,ce3,if_neg e]
     refine⟨?_,dd2 i hi q⟩
     have q':(ce x.S i).State=2:=by rw[←(ce2 i hi).1];exact q
     have:=((hx.wk i hi ht').2 q').1
     rw[(ce2 i hi).2.2.2.2 ht']
     split <;> omega
   ·refine fair3.mv hlv (λk hk=>by rw[hob k hk]) λk _=>?_
    unfold nms otr
    dsimp only
    rw[c33 hR3 hpl3 (.inr h23) h23]
  ·rw[if_neg hg]
   refine⟨hS3,λi hi ht=>?_,fair3⟩
   dsimp only at hi ht ⊢
   rw[kn3.len,len2] at hi
   have ht':Th (ce x.S i):=(th2 i hi).1 (by unfold Th at ht ⊢;rw[(cs3 i).1] at ht;exact ht)
   have:=wk3 i hi ht'
   rw[show (1+(i:Int)+32*(ce (mkA s2 p (-1)) i).Gen)=hdl x.S i by rw[(cs3 i).2.1];exact hdl2 i hi]
   refine⟨this,λq=>?_⟩
   rw[(cs3 i).1] at q
   rw[(cs3 i).2.2.1,(cs3 i).2.2.2]
   refine⟨?_,dd2 i hi q⟩
   rw[ce3]
   split
   ·rename_i e
    subst e
    dsimp only
    have:(ce s2 i).Val.Weak≠1:=λq2=>hg ⟨q,q2⟩
    omega
   ·have q':(ce x.S i).State=2:=by rw[←(ce2 i hi).1];exact q
    have:=((hx.wk i hi ht').2 q').1
    rw[(ce2 i hi).2.2.2.2 ht']
    split <;> omega
end Go.Sh
namespace Go.Sh
def wcR(c:c4):E2:=⟨c.Target,c.Intact,c.Call⟩
def hO(x:Hp):g5:=⟨sO x.S,x.Roots,x.a8.map wcR,x.T.map J3,tqR x.Q⟩
structure HB (x:Hp):Prop where
 sb:SB x.S
 fb:FB x.S
 rb:LB x.Roots
 cb:∀c∈x.a8,c.Target≤9223372036854775807
 tb:TB x.T
 qb:∀t∈x.Q.L,t.At≤9223372036854775807
theorem c2e{β:Type}{b:Nat}{f:Int × List β→Option ((Int × List β) ⊕ List β)}(n:Nat)(g:Nat→β)(hb:0<b)(h:n*b≤140737488355328)
  (hs:∀(k:Nat) acc,k<n→f ((k:Int),acc)=(app b acc [g k]).bind λv=>some (.inl (p6 ((k:Int)+1),v)))(he:∀acc,f ((n:Int),acc)=some (.inr acc)):lp f (0,[])=some ((List.range n).map g):=by
 have hl:n*1≤n*b:=Nat.mul_le_mul_left _ hb
 refine a52 (a06 n (λk l=>l=(List.range k).map g) (λe=>e=(List.range n).map g) (by omega) (by simp) ?_ ?_)
 ·rintro k l hk rfl
  have h3:(k+1)*b≤n*b:=Nat.mul_le_mul_right _ hk
  refine .inl ⟨(List.range (k+1)).map g,?_,rfl⟩
  rw[hs k _ hk,u4 hb (by simp;omega),d1e,k7,List.range_succ,List.map_append]
  rfl
 ·rintro l rfl
  exact⟨_,he _,rfl⟩
theorem c3l{s:a7}(hR:SR s){h:Int}(hh:h∈lv s):seO s h (ob s h)=s:=by
 have q:=u7 hR hh
 unfold seO a1b
 rw[Q3 hR q]
 have e:s.S.a8.set (A2 h) ⟨(ce s (A2 h)).State,(ce s (A2 h)).Gen,(ce s (A2 h)).Val⟩=s.S.a8:=by
  rw[show (⟨(ce s (A2 h)).State,(ce s (A2 h)).Gen,(ce s (A2 h)).Val⟩:b7)=ce s (A2 h) from rfl,C2 q.1]
  exact List.set_getElem_self q.1
 rw[e]
section
variable{x:Hp}(hR:SR x.S)
include hR
theorem a9E{h:Int}(hh:h≤9223372036854775807):W5 x h=some (decide (h∈lv x.S)):=by
 unfold W5
 obtain⟨e,h1,h2⟩:=N2 (o6.2 hR) hh
 rw[h1,d1e]
 congr 1
 rw[Bool.eq_iff_iff,beq_iff_eq,decide_eq_true_iff,h2]
theorem b1X{h:Int}(hh:h≤9223372036854775807):Z3 (hO x) h=some (decide (h∈lv x.S)):=by
 unfold Z3
 obtain⟨e,h1,h2⟩:=N2 (o6.2 hR) hh
 rw[show (hO x).S=sO x.S from rfl,a4F x.S (by have:=hR.len;omega) hh,h1,Option.map_some,d1e]
 congr 1
 rw[Bool.eq_iff_iff,beq_iff_eq,decide_eq_true_iff,h2]
theorem a1M{h:Int}(hh:h≤9223372036854775807):F1 x h=some (decide (h=0∨h∈lv x.S)):=by
 unfold F1
 by_cases q:h=0
 ·subst q
  simp[p8]
 ·have e:(h==0)=false:=by simpa using q
  rw[e]
  simp only[beq_self_eq_true,X0,Bool.false_or]
  rw[a9E hR hh,d1e]
  simp[q]
theorem b1Y{h:Int}(hh:h≤9223372036854775807):a0P (hO x) h=some (decide (h=0∨h∈lv x.S)):=by
 unfold a0P
 by_cases q:h=0
 ·subst q
  simp[p8]
 ·have e:(h==0)=false:=by simpa using q
  rw[e]
  simp only[beq_self_eq_true,X0,Bool.false_or]
  rw[b1X hR hh,d1e]
  simp[q]
theorem c6z{c:Int}(hc:c≤9223372036854775807):a7s c=some (W7 c):=by
 unfold a7s a3l B7 W7
 simp only[d1e]
 by_cases q:12≤c
 ·rw[if_pos (by simpa using q),if_pos q,d1e]
 ·rw[if_neg (by simpa using q),if_neg q,d1e]
  by_cases q2:c<0
  ·rw[if_pos (show 0 > c from q2),if_pos q2]
   rfl
  ·rw[if_neg (show ¬0 > c from q2),if_neg q2,C9 (by omega) (by omega)]
theorem b6K{c:Int}(hc:c≤9223372036854775807):b12 c=some (W7 c):=by
 unfold b12 a1O W7
 simp only[d1e]
 by_cases q:12≤c
 ·rw[if_pos (by simpa using q),if_pos q]
 ·rw[if_neg (by simpa using q),if_neg q]
  by_cases q2:c<0
  ·rw[if_pos (by simpa using q2),if_pos q2]
  ·rw[if_neg (by simpa using q2),if_neg q2,C9 (by omega) (by omega)]
omit hR in
theorem c2R {s:a7} (hR:SR s) {h:Int} (hh:h∈lv s) {n:Int} (hn:0≤n):H4 s h (stg (ob s h) n)=some (seO s h (stg (ob s h) n),0):=by
 have:=I1 hR hh
 exact a97 (o:=stg (ob s h) n) hR hh rfl ⟨this.s1,this.s2,hn,this.wk,this.p1,this.p2,this.fl⟩
omit hR in
theorem a98 {s:a7} (hR:SR s) {h:Int} (hh:h∈lv s) {o:k9} (hs:o.Serial=(ob s h).Serial) (ho:OkO s o):K2 (sO s) h (oo o)=some (sO (seO s h o),0):=by
 have:=I2 hR hh
 rw[c3m s hR.len (by omega) o,a97 hR hh hs ho]
 rfl
theorem a7M{h:Int}(hh:h≤9223372036854775807)(hB:∀k∈lv x.S,(ob x.S k).Strong≤9223372036854775807):W3 x h=some (C0 x h):=by
 unfold W3 P2 C0 stO
 obtain⟨e,h1,h2⟩:=N2 (o6.2 hR) hh
 rw[h1,d1e]
 by_cases q:h∈lv x.S
 ·have e0:=h2.2 q
  subst e0
  rw[if_pos q,c6z hR (hB h q)]
  simp only[beq_self_eq_true,if_true,d1e]
  have:=c2R hR q (D2 (I1 hR q).st)
  rw[this]
  rfl
 ·have:(e==0)=false:=by simpa using λc=>q (h2.1 c)
  rw[this,if_neg q]
  rfl
theorem a90{h:Int}(hh:h≤9223372036854775807)(hB:∀k∈lv x.S,(ob x.S k).Strong≤9223372036854775807):a0G (hO x) h=some (hO (C0 x h)):=by
 unfold a0G a5P C0 stO
 obtain⟨e,h1,h2⟩:=N2 (o6.2 hR) hh
 have hg:C7 (hO x).S h=some (oo (ob x.S h),e):=by
  rw[show (hO x).S=sO x.S from rfl,a4F x.S (by have:=hR.len;omega) hh,h1]
  rfl
 rw[hg,d1e]
 by_cases q:h∈lv x.S
 ·have e0:=h2.2 q
  subst e0
  have hs:b12 (oo (ob x.S h),(0:Int)).1.Strong=some (W7 (ob x.S h).Strong):=b6K hR (hB h q)
  rw[if_pos q,hs,d1e]
  simp only[d1e,bne_self_eq_false,Bool.false_eq_true,if_false]
  have ok:=I1 hR q
  have:=a98 (o:=stg (ob x.S h) (W7 (ob x.S h).Strong)) hR q rfl ⟨ok.s1,ok.s2,D2 ok.st,ok.wk,ok.p1,ok.p2,ok.fl⟩
  rw[show K2 (hO x).S h ⟨(oo (ob x.S h)).Serial,W7 (ob x.S h).Strong,(oo (ob x.S h)).Weak,(oo (ob x.S h)).Prog,(oo (ob x.S h)).Started,(oo (ob x.S h)).Fields⟩=_ from this]
  rfl
 ·have he:(e != 0)=true:=by simpa using λc=>q (h2.1 c)
  have hb:(oo (ob x.S h)).Strong≤9223372036854775807:=by
   rw[a8u (o6.2 hR) hh q];decide
  rw[b6K hR hb,d1e,d1e]
  simp only[he,if_true]
  rw[if_neg q]
  rfl
omit hR in
theorem c57 (c:Int) (h1 : -1000000≤c):a00 c=some (a5q c):=by
 unfold a00 b0r a1C B7 a5q
 simp only[d1e]
 by_cases q:12≤c
 ·rw[if_pos (by simpa using q),if_pos q]
  rfl
 ·rw[if_neg (by simpa using q),if_neg q]
  by_cases q2:c<1
  ·rw[if_pos (by simpa using q2),if_pos q2]
   rfl
  ·rw[if_neg (by simpa using q2),if_neg q2,C9 (by omega) (by omega)]
   rfl
theorem a5T{h:Int}(hh:h≤9223372036854775807):C5 x h=some (N7 x h):=by
 unfold C5 J0 N7 stO
 obtain⟨e,h1,h2⟩:=N2 (o6.2 hR) hh
 rw[h1,d1e]
 by_cases q:h∈lv x.S
 ·have e0:=h2.2 q
  subst e0
  have ok:=I1 hR q
  rw[if_pos q,c57 _ (by have:=ok.st;dsimp only;omega)]
  simp only[beq_self_eq_true,if_true,d1e]
  have:=c2R hR q (V1 ok.st)
  rw[this]
  rfl
 ·have:(e==0)=false:=by simpa using λc=>q (h2.1 c)
  rw[this,if_neg q]
  rfl
theorem a7K{h:Int}(hh:h≤9223372036854775807):E4 (hO x) h=some (hO (N7 x h)):=by
 unfold E4 a5P N7 stO
 obtain⟨e,h1,h2⟩:=N2 (o6.2 hR) hh
 have hg:C7 (hO x).S h=some (oo (ob x.S h),e):=by
  rw[show (hO x).S=sO x.S from rfl,a4F x.S (by have:=hR.len;omega) hh,h1]
  rfl
 rw[hg,d1e]
 by_cases q:h∈lv x.S
 ·have e0:=h2.2 q
  subst e0
  have ok:=I1 hR q
  have put:∀n,0≤n→K2 (hO x).S h ⟨(oo (ob x.S h)).Serial,n,(oo (ob x.S h)).Weak,(oo (ob x.S h)).Prog,(oo (ob x.S h)).Started,(oo (ob x.S h)).Fields⟩=some (sO (seO x.S h (stg (ob x.S h) n)),0):=λn hn=>
   a98 (o:=stg (ob x.S h) n) hR q rfl ⟨ok.s1,ok.s2,hn,ok.wk,ok.p1,ok.p2,ok.fl⟩
  have hs:(oo (ob x.S h)).Strong=(ob x.S h).Strong:=rfl
  rw[if_pos q]
  unfold b5M a1O a5q
  simp only[d1e,hs]
  by_cases q1:12≤(ob x.S h).Strong
  ·rw[if_pos (by simpa using q1),if_pos q1]
   simp only[d1e,bne_self_eq_false,Bool.false_eq_true,if_false]
   rw[put 12 (by decide)]
   rfl
  ·rw[if_neg (by simpa using q1),if_neg q1]
   by_cases q2:(ob x.S h).Strong<1
   ·rw[if_pos (by simpa using q2),if_pos q2]
    simp only[d1e,show ((11:Int) != 0)=true from rfl,if_true]
    rw[show stg (ob x.S h) (ob x.S h).Strong=ob x.S h from rfl,c3l hR q]
   ·rw[if_neg (by simpa using q2),if_neg q2,C9 (by omega) (by have:=ok.st;omega)]
    simp only[d1e,bne_self_eq_false,Bool.false_eq_true,if_false]
    rw[put _ (by omega)]
    rfl
 ·have he:(e != 0)=true:=by simpa using λc=>q (h2.1 c)
  rw[if_neg q,a8u (o6.2 hR) hh q]
  unfold b5M a1O
  simp only[d1e]
  rfl
end
theorem c01{x:Hp}(hR:SR x.S)(hB:SB x.S):∀k∈lv x.S,(ob x.S k).Strong≤9223372036854775807:=λk hk=>(b05 (o6.2 hR) hB hk).2
end Go.Sh
namespace Go.Sh
theorem a92(x:Hp)(h:Int):(C0 x h).Roots=x.Roots∧(C0 x h).a8=x.a8∧(C0 x h).T=x.T∧(C0 x h).Q=x.Q:=by
 rw[b3e]
 exact⟨rfl,rfl,rfl,rfl⟩
theorem a7d{x:Hp}(hR:SR x.S)(h:Int):SR (C0 x h).S:=(G7 hR h λc=>D2).sr
section
variable{x:Hp}(hx:O0 x)(hS:∀k∈lv x.S,(ob x.S k).Strong≤9223372036854775807)
include hx hS
theorem a9J{h:Int}(hh:h=0∨h∈lv x.S):h≤9223372036854775807:=by
 rcases hh with q | q
 ·omega
 ·have:=I2 hx.sh.sr q;omega
theorem c4W(k:Int){h:Int}(hh:h≤9223372036854775807):a7A x k h=some (if k<0∨5<k then (x,6) else if h=0∨h∈lv x.S then (Q4 x k.toNat h,0) else (x,3)):=by
 have hR:=hx.sh.sr
 have r6:=hx.sh.r6
 unfold a7A
 by_cases hk:k<0∨5<k
 ·rw[if_pos hk,if_pos (by rw[r6];simp;omega)]
 ·rw[if_neg hk,if_neg (by rw[r6];simp;omega),a1M hR hh,d1e]
  by_cases hn:h=0∨h∈lv x.S
  ·rw[if_pos hn,decide_eq_true hn,if_neg (by simp)]
   obtain⟨n,rfl⟩:∃n:Nat,k=n:=⟨k.toNat,by omega⟩
   have hn6:n<6:=by omega
   have hnl:n<x.Roots.length:=by omega
   have old:x.Roots[n]≤9223372036854775807:=a9J hx hS (hx.sh.rt _ (List.getElem_mem hnl))
   have e1:=a92 x h
   have hn2:n<(C0 x h).Roots.length:=by rw[e1.1];exact hnl
   rw[n0 hnl,d1e]
   unfold G6 R2 E6
   rw[a7M hR hh hS,d1e]
   dsimp only
   rw[J8 (by omega) (by rw[e1.1];omega),d1e,n0 hn2,d1e,d1e]
   have hrel:=a5T (x:=wR (C0 x h) (x.Roots.set n h)) (a7d hR h) old
   rw[Int.toNat_natCast,e1.1,show C5 ⟨(C0 x h).S,x.Roots.set n h,(C0 x h).a8,(C0 x h).T,(C0 x h).Q⟩ x.Roots[n]=_ from hrel]
   unfold Q4
   rw[List.getD_eq_getElem?_getD,List.getElem?_eq_getElem hnl]
   rfl
  ·rw[if_neg hn,decide_eq_false hn,if_pos (by simp)]
theorem c3b(k:Int){h:Int}(hh:h≤9223372036854775807):a1f (hO x) k h=some (if k<0∨5<k then (hO x,6) else if h=0∨h∈lv x.S then (hO (Q4 x k.toNat h),0) else (hO x,3)):=by
 have hR:=hx.sh.sr
 have r6:=hx.sh.r6
 unfold a1f
 by_cases hk:k<0∨5<k
 ·rw[if_pos hk,if_pos (by simp;omega)]
 ·rw[if_neg hk,if_neg (by simp;omega),b1Y hR hh,d1e]
  by_cases hn:h=0∨h∈lv x.S
  ·rw[if_pos hn,decide_eq_true hn,if_neg (by simp)]
   obtain⟨n,rfl⟩:∃n:Nat,k=n:=⟨k.toNat,by omega⟩
   have hnl:n<x.Roots.length:=by omega
   have hnl':n<(hO x).Roots.length:=hnl
   have old:x.Roots[n]≤9223372036854775807:=a9J hx hS (hx.sh.rt _ (List.getElem_mem hnl))
   have e1:=a92 x h
   have r6':(hO x).Roots.length=6:=r6
   rw[n0 hnl',d1e,a90 hR hh hS,d1e,J8 (by omega) (by rw[r6'];omega),d1e,n0 hnl',d1e]
   have hrel:=a7K (x:=wR (C0 x h) (x.Roots.set n h)) (a7d hR h) old
   rw[Int.toNat_natCast]
   rw[show E4 ⟨(hO (C0 x h)).S,(hO x).Roots.set n h,(hO (C0 x h)).a8,(hO (C0 x h)).T,(hO (C0 x h)).Q⟩ (hO x).Roots[n]=_ from hrel]
   unfold Q4
   rw[List.getD_eq_getElem?_getD,List.getElem?_eq_getElem hnl]
   rfl
  ·rw[if_neg hn,decide_eq_false hn,if_pos (by simp)]
omit hx hS in
theorem c7R {l:List Int} {n:Nat} (hn:n<l.length):b07 l n=some (l[n],0)∧b2Y l n=some (l[n],0):=by
 constructor
 ·unfold b07 a6b
  rw[d1e,if_neg (by simp;omega),n0 hn,d1e]
 ·unfold b2Y
  rw[if_neg (by simp;omega),n0 hn,d1e]
omit hx hS in
theorem c5l {l:List Int} {k:Int} (hk:¬(0≤k∧k<l.length)):b07 l k=some (0,5)∧b2Y l k=some (0,5):=by
 constructor
 ·unfold b07 a6b
  rw[d1e,if_pos (by simp;omega)]
 ·unfold b2Y
  rw[if_pos (by simp;omega)]
theorem b1e(h k:Int)(hh:h≤9223372036854775807):(∃e,e≠0∧Y2 x.S h k=some (0,e)∧a3f (sO x.S) h k=some (0,e)) ∨
  (h∈lv x.S∧∃n:Nat,k=n∧∃hn:n<(ob x.S h).Fields.length,Y2 x.S h k=some ((ob x.S h).Fields[n],0)∧a3f (sO x.S) h k=some ((ob x.S h).Fields[n],0)):=by
 have hR:=hx.sh.sr
 obtain⟨e,h1,h2⟩:=N2 (o6.2 hR) hh
 have hg:C7 (sO x.S) h=some (oo (ob x.S h),e):=by
  rw[a4F x.S (by have:=hR.len;omega) hh,h1]
  rfl
 unfold Y2 a3f
 rw[h1,d1e,hg,d1e]
 by_cases q:h∈lv x.S
 ·have:=h2.2 q
  subst this
  rw[if_neg (by simp),if_neg (by simp),show (oo (ob x.S h),(0:Int)).1.Fields=(ob x.S h).Fields from rfl]
  by_cases hk:0≤k∧k<(ob x.S h).Fields.length
  ·right
   obtain⟨n,rfl⟩:∃n:Nat,k=n:=⟨k.toNat,by omega⟩
   have hn:n<(ob x.S h).Fields.length:=by omega
   refine⟨q,n,rfl,hn,?_,?_⟩
   ·rw[(c7R hn).1]
    rfl
   ·rw[(c7R hn).2]
    rfl
  ·left
   refine⟨5,by decide,?_,?_⟩
   ·rw[(c5l hk).1]
    rfl
   ·rw[(c5l hk).2]
    rfl
 ·left
  have he:(e != 0)=true:=by simpa using λc=>q (h2.1 c)
  refine⟨e,by simpa using he,?_,?_⟩
  ·simp only[he,if_true]
  ·simp only[he,if_true]
theorem c2Q{s:a7}(hR:SR s){h:Int}(hh:h∈lv s){n:Nat}(hn:n<(ob s h).Fields.length)(v:Int) :
  a7R s h n v=some (seO s h (flg (ob s h) ((ob s h).Fields.set n v)),0)∧b5N (sO s) h n v=some (sO (seO s h (flg (ob s h) ((ob s h).Fields.set n v))),0):=by
 have ok:=I1 hR hh
 have hf:=ok.fl
 have hle:=I2 hR hh
 have ho:OkO s (flg (ob s h) ((ob s h).Fields.set n v)):=⟨ok.s1,ok.s2,ok.st,ok.wk,ok.p1,ok.p2,by simpa using hf⟩
 have h1:=a97 (o:=flg (ob s h) ((ob s h).Fields.set n v)) hR hh rfl ho
 have h2:=a98 (o:=flg (ob s h) ((ob s h).Fields.set n v)) hR hh rfl ho
 constructor
 ·unfold a7R
  rw[a6T (o6.2 hR) hh,d1e,if_neg (by simp)]
  unfold b3v a6b
  dsimp only
  rw[d1e,if_neg (by simp;omega),b2G (by omega) (by omega),d1e]
  have e:cpy (List.replicate (ob s h).Fields.length (0:Int)) (ob s h).Fields=some (ob s h).Fields:=by
   unfold cpy
   rw[if_pos (by simp)]
   simp
  rw[e,d1e,n0 hn,d1e,d1e,if_neg (by simp),Int.toNat_natCast]
  dsimp only
  rw[show H4 s h ⟨(ob s h).Serial,(ob s h).Strong,(ob s h).Weak,(ob s h).Prog,(ob s h).Started,(ob s h).Fields.set n v⟩=_ from h1]
  rfl
 ·unfold b5N
  rw[a4F s (by have:=hR.len;omega) (by omega),a6T (o6.2 hR) hh,Option.map_some,d1e,if_neg (by simp)]
  unfold b7c
  have hn':n<(oo (ob s h)).Fields.length:=hn
  have hf':(oo (ob s h)).Fields.length≤4:=hf
  dsimp only
  rw[if_neg (by simp;omega),J8 (by omega) (by omega),d1e,n0 hn',d1e,d1e,if_neg (by simp),Int.toNat_natCast]
  dsimp only
  rw[show K2 (sO s) h ⟨(oo (ob s h)).Serial,(oo (ob s h)).Strong,(oo (ob s h)).Weak,(oo (ob s h)).Prog,(oo (ob s h)).Started,(oo (ob s h)).Fields.set n v⟩=_ from h2]
  rfl
theorem c1Q(h k v:Int)(hh:h≤9223372036854775807)(hv:v≤9223372036854775807) :
  (∃e,e≠0∧a1I x h k v=some (x,e)∧a4Y (hO x) h k v=some (hO x,e)) ∨
  (h∈lv x.S∧(v=0∨v∈lv x.S)∧∃n:Nat,k=n∧n<(ob x.S h).Fields.length∧a1I x h k v=some (a1E x h n v,0)∧a4Y (hO x) h k v=some (hO (a1E x h n v),0)):=by
 have hR:=hx.sh.sr
 unfold a1I a4Y
 rcases b1e hx hS h k hh with ⟨e,he,f1,f2⟩ | ⟨hl,n,rfl,hn,f1,f2⟩
 ·left
  have he':(e != 0)=true:=by simpa using he
  refine⟨e,he,?_,?_⟩
  ·rw[f1,d1e,if_pos he']
  ·rw[show (hO x).S=sO x.S from rfl,f2,d1e,if_pos he']
 ·rw[f1,d1e,if_neg (by simp),show (hO x).S=sO x.S from rfl,f2,d1e,if_neg (by simp),a1M hR hv,d1e,b1Y hR hv,d1e]
  by_cases hn2:v=0∨v∈lv x.S
  ·right
   refine⟨hl,hn2,n,rfl,hn,?_⟩
   rw[decide_eq_true hn2,if_neg (by simp),if_neg (by simp)]
   have kin:=G7 hR v (f:=W7) λc=>D2
   have hR1:SR (C0 x v).S:=kin.sr
   have hl1:h∈lv (C0 x v).S:=by rw[show lv (C0 x v).S=lv x.S from kin.lv];exact hl
   have hof:(ob (C0 x v).S h).Fields=(ob x.S h).Fields:=by
    obtain⟨m,e⟩:=kin.ob h hh
    show (ob (stO x v W7).S h).Fields=_
    rw[e]
   have hn1:n<(ob (C0 x v).S h).Fields.length:=by rw[hof];exact hn
   have old:(ob x.S h).Fields[n]≤9223372036854775807:=a9J hx hS (hx.sh.fl h hl _ (List.getElem_mem hn))
   have ok:=I1 hR1 hl1
   have sr2:SR (seO (C0 x v).S h (flg (ob (C0 x v).S h) ((ob (C0 x v).S h).Fields.set n v))):=a1k (o:=flg (ob (C0 x v).S h) ((ob (C0 x v).S h).Fields.set n v)) hR1 hl1 rfl ⟨ok.s1,ok.s2,ok.st,ok.wk,ok.p1,ok.p2,by simpa using ok.fl⟩
   obtain⟨p1,p2⟩:=c2Q hx hS hR1 hl1 hn1 v
   have hd:(ob x.S h).Fields.getD n 0=(ob x.S h).Fields[n]:=by
    rw[List.getD_eq_getElem?_getD,List.getElem?_eq_getElem hn]
    rfl
   constructor
   ·unfold F6 a0b
    rw[a7M hR hv hS,d1e]
    dsimp only
    rw[p1,d1e,d1e]
    have hrel:=a5T (x:=wS (C0 x v) (seO (C0 x v).S h (flg (ob (C0 x v).S h) ((ob (C0 x v).S h).Fields.set n v)))) sr2 old
    rw[show C5 ⟨seO (C0 x v).S h (flg (ob (C0 x v).S h) ((ob (C0 x v).S h).Fields.set n v)),(C0 x v).Roots,(C0 x v).a8,(C0 x v).T,(C0 x v).Q⟩ (ob x.S h).Fields[n]=_ from hrel]
    unfold a1E
    rw[hd,hof]
    rfl
   ·rw[a90 hR hv hS,d1e,show (hO (C0 x v)).S=sO (C0 x v).S from rfl,p2,d1e]
    have hrel:=a7K (x:=wS (C0 x v) (seO (C0 x v).S h (flg (ob (C0 x v).S h) ((ob (C0 x v).S h).Fields.set n v)))) sr2 old
    dsimp only
    rw[show E4 ⟨sO (seO (C0 x v).S h (flg (ob (C0 x v).S h) ((ob (C0 x v).S h).Fields.set n v))),(hO (C0 x v)).Roots,(hO (C0 x v)).a8,(hO (C0 x v)).T,(hO (C0 x v)).Q⟩ (ob x.S h).Fields[n]=_ from hrel]
    unfold a1E
    rw[hd,hof]
    rfl
  ·left
   refine⟨3,by decide,?_,?_⟩
   ·rw[decide_eq_false hn2,if_pos (by simp)]
   ·rw[decide_eq_false hn2,if_pos (by simp)]
theorem c4K(k v:Int)(hk:k≤9223372036854775807)(hv:v≤9223372036854775807) :
  (∃e,e≠0∧a3c x k v=some (x,e)∧a67 (hO x) k v=some (hO x,e)) ∨
  (k∈lv x.S∧(v=0∨v∈lv x.S)∧∃r,T3 x.T k v=some r∧r.2.2=0∧a3c x k v=some (a6X x v r.1 r.2.1,0)∧a67 (hO x) k v=some (hO (a6X x v r.1 r.2.1),0)):=by
 have hR:=hx.sh.sr
 unfold a3c a67
 by_cases k0:k=0
 ·left
  subst k0
  exact⟨2,by decide,by simp,by simp⟩
 ·rw[if_neg (by simpa using k0),if_neg (by simpa using k0),a1M hR hk,d1e,b1X hR hk,d1e,a1M hR hv,b1Y hR hv]
  have hkk:(k=0∨k∈lv x.S)↔k∈lv x.S:=by simp[k0]
  by_cases hl:k∈lv x.S∧(v=0∨v∈lv x.S)
  ·obtain⟨hl,hn⟩:=hl
   rw[decide_eq_true (hkk.2 hl),decide_eq_true hl,decide_eq_true hn]
   simp only[Bool.not_true,beq_self_eq_true,X0,d1e,Bool.or_self,Bool.false_eq_true,if_false]
   obtain⟨r,r1,r2,r3,r4,r5⟩:=c0U hx.sh.hr k v
   rw[r1,d1e,show (hO x).T=x.T.map J3 from rfl,r4,d1e]
   by_cases h0:r.2.2=0
   ·right
    refine⟨hl,hn,r,rfl,h0,?_⟩
    have e1:(r.2.2 != 0)=false:=by simpa using h0
    have old:r.2.1≤9223372036854775807:=by
     rcases r5 with ⟨_,rfl⟩ | ⟨_,_,⟨i,hi,rfl⟩ | ⟨_,rfl⟩⟩ | ⟨_,_,⟨i,hi,rfl⟩ | ⟨d,_,_,_,_,rfl⟩ | ⟨_,_,rfl⟩⟩
     ·simp
     ·exact a9J hx hS (.inr (hx.sh.pr k _ ⟨i,hi,rfl⟩).2)
     ·simp
     ·exact a9J hx hS (.inr (hx.sh.pr k _ ⟨i,hi,rfl⟩).2)
     ·simp
     ·simp
    constructor
    ·rw[e1]
     simp only[Bool.false_eq_true,if_false]
     unfold G5 R1
     rw[a7M hR hv hS,d1e,d1e]
     dsimp only
     have hrel:=a5T (x:=wT (C0 x v) r.1) (a7d hR v) old
     rw[show C5 ⟨(C0 x v).S,(C0 x v).Roots,(C0 x v).a8,r.1,(C0 x v).Q⟩ r.2.1=_ from hrel]
     rfl
    ·dsimp only
     rw[e1]
     simp only[Bool.false_eq_true,if_false]
     rw[a90 hR hv hS,d1e]
     have hrel:=a7K (x:=wT (C0 x v) r.1) (a7d hR v) old
     rw[show E4 ⟨(hO (C0 x v)).S,(hO (C0 x v)).Roots,(hO (C0 x v)).a8,r.1.map J3,(hO (C0 x v)).Q⟩ r.2.1=_ from hrel]
     rfl
   ·left
    have e1:(r.2.2 != 0)=true:=by simpa using h0
    refine⟨r.2.2,h0,by rw[if_pos e1],by dsimp only;rw[if_pos e1]⟩
  ·left
   refine⟨3,by decide,?_,?_⟩
   ·by_cases hl2:k∈lv x.S
    ·have:¬(v=0∨v∈lv x.S):=λq=>hl ⟨hl2,q⟩
     rw[decide_eq_true (hkk.2 hl2),decide_eq_false this]
     rfl
    ·rw[decide_eq_false λq=>hl2 (hkk.1 q)]
     rfl
   ·by_cases hl2:k∈lv x.S
    ·have:¬(v=0∨v∈lv x.S):=λq=>hl ⟨hl2,q⟩
     rw[decide_eq_true hl2,decide_eq_false this]
     rfl
    ·rw[decide_eq_false hl2]
     rfl
end
theorem b9a{s:a7}(hR:SR s){h:Int}{i:Nat}(q:S0 s h i):J4 s.S h=some ((gvA s i).S,0):=by
 have hi:=q.1
 have hc:=hR.cell i hi
 have l9:=hR.l9
 unfold J4 gvA
 rw[a3T hR q,d1e,if_neg (by simp),b4l hi,d1e]
 by_cases g:(ce s i).Gen=s.S.Last
 ·rw[if_pos (by simpa using g),if_pos g,a5h rfl hi hR.len]
  rfl
 ·rw[if_neg (by simpa using g),if_neg g,a5h rfl hi hR.len,C9 (by omega) (by omega)]
  rfl
theorem c5C{s:a7}{i:Nat}(hi:i<s.S.a8.length):ix (sO s).a8 (i:Int)=some (cO (ce s i)):=by
 rw[b9R,b4l hi]
 rfl
theorem b9S(s:a7)(i:Nat)(c:b7):sO (E5 s i c)=⟨(sO s).a8.set i (cO c),s.S.Last,s.Serial⟩:=by
 unfold sO E5
 rw[List.map_set]
theorem b3u(t:m8)(p:D1)(hl:t.a8.length≤1000)(hp:p.a8.length=t.a8.length):a0F t p=some ⟨(List.range t.a8.length).map λk=>⟨(p.a8.getD k ⟨0,0,0⟩).State,(p.a8.getD k ⟨0,0,0⟩).Gen,(t.a8.getD k ⟨0,0,oo z0⟩).Val⟩,t.Last,t.Serial⟩:=by
 unfold a0F
 simp only[jn]
 rw[c2e (b:=80) t.a8.length (λk=>⟨(p.a8.getD k ⟨0,0,0⟩).State,(p.a8.getD k ⟨0,0,0⟩).Gen,(t.a8.getD k ⟨0,0,oo z0⟩).Val⟩) (by omega) (by omega) (λk acc hk=>?_) (λacc=>by simp)]
 ·rfl
 ·have hk2:k<p.a8.length:=by omega
  simp only[Int.ofNat_lt,hk,decide_true,if_true,n0 hk,n0 hk2,d1e]
  rw[List.getD_eq_getElem?_getD,List.getElem?_eq_getElem hk2,List.getD_eq_getElem?_getD,List.getElem?_eq_getElem hk]
  rfl
theorem c1Y{s:a7}(hR:SR s){h:Int}{i:Nat}(q:S0 s h i):a9R (sO s) h=some (sO (gvA s i)):=by
 have hi:=q.1
 have hc:=hR.cell i hi
 have l9:=hR.l9
 have hlen:=hR.len
 have hr:=q.rng hR
 have hH:Hnd h:=((a8M hR).2 q).2.1
 have hsl:(h-1) % 32=i:=((a8M hR).2 q).2.2.1
 have J3:i<(pl (sO s)).a8.length:=by rw[a0E,z1];exact hi
 have key:∀st g,(st:Int)=st→a0F (sO s) ⟨(pl (sO s)).a8.set i ⟨st,g,0⟩,(pl (sO s)).Last⟩=some ⟨(sO s).a8.set i ⟨st,g,oo (ce s i).Val⟩,s.S.Last,s.Serial⟩:=λst g _=>by
  rw[b3u _ _ (by rw[z1];omega) (by simp[a0E])]
  congr 1
  congr 1
  refine List.ext_getElem (by simp) λk h1 h2=>?_
  have hk:k<s.S.a8.length:=by simpa[z1] using h1
  have hk2:k<(sO s).a8.length:=by rw[z1];exact hk
  have hk3:k<(pl (sO s)).a8.length:=by rw[a0E];exact hk2
  simp only[List.getElem_map,List.getElem_range,List.getElem_set]
  have e1:(sO s).a8.getD k ⟨0,0,oo z0⟩=cO (ce s k):=by
   rw[List.getD_eq_getElem?_getD,List.getElem?_eq_getElem hk2,C2 hk]
   simp[sO]
  have e2:((pl (sO s)).a8.set i ⟨st,g,0⟩).getD k ⟨0,0,0⟩=if k=i then ⟨st,g,0⟩ else plc k (cO (ce s k)):=by
   rw[a4G J3]
   split
   ·rfl
   ·rw[List.getD_eq_getElem?_getD,List.getElem?_eq_getElem hk3,C2 hk]
    simp[pl,sO]
  rw[e1,e2]
  by_cases e:k=i
  ·subst e
   rw[if_pos rfl,if_pos rfl]
   rfl
  ·rw[if_neg e,if_neg (Ne.symm e)]
   rw[C2 hk]
   simp[sO,plc,cO]
 have fin:∀st g,(a2n ⟨(sO s).a8.set i ⟨st,g,oo (ce s i).Val⟩,s.S.Last,s.Serial⟩ (i:Int) ⟨0,0,0,0,false,[]⟩)=some (sO (E5 s i ⟨st,g,z0⟩)):=λst g=>by
  unfold a2n
  have hi2:i<((sO s).a8.set i ⟨st,g,oo (ce s i).Val⟩).length:=by simp[z1];exact hi
  rw[J8 (by omega) (by simp[z1];omega),d1e,n0 hi2,d1e,b9S]
  simp[cO,oo,List.set_set]
 unfold a9R b7a gvA
 rw[a4e _ (by rw[z1];omega),d1e,b0x s (by omega),a3T hR q,d1e,if_neg (by simp)]
 rw[b62 (by rw[z1];exact hi),d1e]
 have hgen:(plc i ((sO s).a8[i]'(by rw[z1];exact hi))).Gen=(ce s i).Gen:=by
  rw[C2 hi]
  simp[plc,sO,cO]
 have hlast:(pl (sO s)).Last=s.S.Last:=rfl
 have w3:∀c:E1,a0o (pl (sO s)) (i:Int) c=some ⟨(pl (sO s)).a8.set i c,(pl (sO s)).Last⟩:=λc=>by
  unfold a0o
  rw[J8 (by omega) (by rw[a0E,z1];omega),d1e,n0 J3,d1e,Int.toNat_natCast]
 rw[hgen,hlast,a60,if_pos hH,hsl]
 by_cases g:(ce s i).Gen=s.S.Last
 ·rw[if_pos (by simp[g]),if_pos g,w3,d1e,d1e,if_neg (by simp),key _ _ rfl,d1e,d1e,fin]
  rfl
 ·rw[if_neg (by simp;omega),if_neg g,w3,d1e,d1e,if_neg (by simp),key _ _ rfl,d1e,d1e,C9 (by omega) (by omega),fin]
  rfl
section
variable{x:Hp}(hR:SR x.S)
include hR
theorem b4r{h d:Int}(hh:h≤9223372036854775807)(hw:S0 x.S h (A2 h) → -1000≤(ce x.S (A2 h)).Val.Weak+d∧(ce x.S (A2 h)).Val.Weak+d≤1000):a0N x h d=some (mkd x h d):=by
 unfold a0N mkd
 by_cases q:S0 x.S h (A2 h)
 ·have:=hw q
  rw[if_pos q,a3T hR q,d1e]
  simp only[beq_self_eq_true,if_true]
  rw[b4l q.1,d1e,C9 (by omega) (by omega),b50 hR q,d1e]
  rfl
 ·have hno:∀i,¬S0 x.S h i:=λi hi=>q (by rw[hi.A2 hR];exact hi)
  rw[if_neg q,a5m hR hh hno,d1e]
  have:((if h=0 then 2 else 3:Int)==0)=false:=by simpa using a2f h
  simp only[this,Bool.false_eq_true,if_false]
theorem b7z{h:Int}(hh:h≤9223372036854775807)(hw:S0 x.S h (A2 h)→1≤(ce x.S (A2 h)).Val.Weak∧(ce x.S (A2 h)).Val.Weak≤1000):a15 x h=some (a84 x h):=by
 unfold a15
 rw[b4r hR hh (λq=>by have:=hw q;omega),d1e]
 unfold mkd a84
 by_cases q:S0 x.S h (A2 h)
 ·have hw:=hw q
  rw[if_pos q,if_pos q]
  have sr1:=b5w hR q.1 q.2.1 (d:=-1) (by omega)
  have q1:S0 (mkA x.S (A2 h) (-1)) h (A2 h):=(b1P q.1 _).2 q
  dsimp only
  rw[a3T sr1 q1,d1e,if_neg (by simp),b4l q1.1,d1e,a3v hR q.1 q.2.1,if_pos rfl]
  dsimp only
  by_cases c:(ce x.S (A2 h)).State=2∧(ce x.S (A2 h)).Val.Weak=1
  ·rw[if_pos c,if_pos (by simp[c.1,c.2]),b9a sr1 q1,d1e]
   rfl
  ·rw[if_neg c,if_neg (by simp only[Bool.and_eq_true,beq_iff_eq];omega)]
 ·have hno:∀i,¬S0 x.S h i:=λi hi=>q (by rw[hi.A2 hR];exact hi)
  rw[if_neg q,if_neg q,a5m hR hh hno,d1e]
  have:((if h=0 then 2 else 3:Int) != 0)=true:=by simpa using a2f h
  simp only[this,if_true]
theorem c04{h:Int}(hh:h≤9223372036854775807)(hw:S0 x.S h (A2 h)→1≤(ce x.S (A2 h)).Val.Weak∧(ce x.S (A2 h)).Val.Weak≤1000):a0O (hO x) h=some (hO (a84 x h)):=by
 have hl:=hR.len
 unfold a0O
 rw[show (hO x).S=sO x.S from rfl,a4e _ (by rw[z1];omega),d1e,b0x x.S hh]
 unfold a84
 by_cases q:S0 x.S h (A2 h)
 ·have hw:=hw q
  have hr:=q.rng hR
  rw[if_pos q,a3T hR q,d1e,if_neg (by simp),c5C q.1,d1e]
  have sr1:=b5w hR q.1 q.2.1 (d:=-1) (by omega)
  have q1:S0 (mkA x.S (A2 h) (-1)) h (A2 h):=(b1P q.1 _).2 q
  have hs:K2 (sO x.S) h (oo (wkg (ce x.S (A2 h)).Val ((ce x.S (A2 h)).Val.Weak + -1)))=some (sO (mkA x.S (A2 h) (-1)),0):=by
   rw[c3m x.S hl hh,b50 hR q]
   rfl
  have hw64:p6 ((cO (ce x.S (A2 h))).Val.Weak-1)=(ce x.S (A2 h)).Val.Weak + -1:=by
   show p6 ((ce x.S (A2 h)).Val.Weak-1)=_
   rw[C9 (by omega) (by omega)]
   omega
  rw[hw64]
  rw[show K2 (sO x.S) h ⟨(cO (ce x.S (A2 h))).Val.Serial,(cO (ce x.S (A2 h))).Val.Strong,(ce x.S (A2 h)).Val.Weak + -1,(cO (ce x.S (A2 h))).Val.Prog,(cO (ce x.S (A2 h))).Val.Started,(cO (ce x.S (A2 h))).Val.Fields⟩=_ from hs,d1e,c5C q1.1,d1e,a3v hR q.1 q.2.1,if_pos rfl]
  by_cases c:(ce x.S (A2 h)).State=2∧(ce x.S (A2 h)).Val.Weak=1
  ·rw[if_pos c,if_pos (by simp[cO,c.1,c.2]),c1Y sr1 q1,d1e]
   rfl
  ·rw[if_neg c,if_neg (by simp only[cO,Bool.and_eq_true,beq_iff_eq,decide_eq_true_eq];omega)]
   rfl
 ·have hno:∀i,¬S0 x.S h i:=λi hi=>q (by rw[hi.A2 hR];exact hi)
  rw[if_neg q,a5m hR hh hno,d1e]
  have:((if h=0 then 2 else 3:Int) != 0)=true:=by simpa using a2f h
  simp only[this,if_true]
end
theorem c3y{l:List c4}(hl:l.length≤1000){n:Nat}(hn:n<l.length)(h call:Int):b0k l n h call=some (l.set n (wcl h call),l[n].Target,0):=by
 unfold b0k a5g Y4
 simp only[d1e]
 rw[if_neg (by simp;omega),b2G (by omega) (by omega),d1e]
 have e:cpy (List.replicate l.length (⟨0,false,0⟩:c4)) l=some l:=by
  unfold cpy
  rw[if_pos (by simp)]
  simp
 rw[e,d1e,d1e,n0 hn,d1e,d1e,Int.toNat_natCast]
theorem b8S{l:List c4}(hl:l.length≤1000){n:Nat}(hn:n<l.length)(h call:Int):b5O (l.map wcR) n h call=some ((l.set n (wcl h call)).map wcR,l[n].Target,0):=by
 unfold b5O
 have hn':n<(l.map wcR).length:=by simpa using hn
 rw[if_neg (by simp;omega),J8 (by omega) (by simp;omega),d1e,n0 hn',d1e,d1e,Int.toNat_natCast,List.map_set]
 simp[wcR]
theorem c2t(l:List c4)(h:Int):nmg l h≤l.length:=List.countP_le_length
theorem c5g{x:Hp}(hx:O0 x)(k h call:Int)(hh:h≤9223372036854775807)(hc : -1≤call∧call≤5) :
  (∃e,e≠0∧Z0 x k h call=some (x,e)∧a3A (hO x) k h call=some (hO x,e)) ∨
  ((h=0∨h∈lv x.S)∧∃n:Nat,k=n∧n<6∧wts x.Q n=false∧Z0 x k h call=some (a3K x n h call,0)∧a3A (hO x) k h call=some (hO (a3K x n h call),0)):=by
 have hR:=hx.sh.sr
 have c6:=hx.sh.c6
 have q30:=hx.sh.q30
 unfold Z0 a3A
 by_cases hk:k<0∨5<k
 ·left
  have e1:((decide (k<0))||(decide (k≥(x.a8.length:Int))))=true:=by rw[c6];simp;omega
  have e2:((decide (k<0))||(decide (k > 5)))=true:=by simp;omega
  refine⟨7,by decide,?_,?_⟩
  ·rw[e1];rfl
  ·rw[e2];rfl
 ·obtain⟨n,rfl⟩:∃n:Nat,k=n:=⟨k.toNat,by omega⟩
  have hn6:n<6:=by omega
  have e1:((decide ((n:Int)<0))||(decide ((n:Int)≥(x.a8.length:Int))))=false:=by rw[c6];simp;omega
  have e2:((decide ((n:Int)<0))||(decide ((n:Int) > 5)))=false:=by simp;omega
  rw[e1,e2]
  simp only[beq_self_eq_true,X0,Bool.false_or]
  have hwq:a3I x.Q n=some (wts x.Q n):=c48 (by omega)
  have hwr:a4X (hO x).Q n=some (wts x.Q n):=c4S (by omega)
  rw[hwq,d1e,hwr,d1e,a1M hR hh,d1e,b1Y hR hh,d1e]
  by_cases hw:wts x.Q n=true
  ·left
   rw[if_pos hw,if_pos hw]
   exact⟨7,by decide,rfl,rfl⟩
  ·have hw:wts x.Q n=false:=by simpa using hw
   rw[hw,if_neg (show ¬(false=true) by decide),if_neg (show ¬(false=true) by decide)]
   by_cases hl:h=0∨h∈lv x.S
   ·right
    refine⟨hl,n,rfl,hn6,hw,?_⟩
    have hnl:n<x.a8.length:=by omega
    rw[decide_eq_true hl,if_neg (by simp),if_neg (by simp),c3y (by omega) hnl,d1e,show (hO x).a8=x.a8.map wcR from rfl,b8S (by omega) hnl,d1e]
    have htg:tgt x n=x.a8[n].Target:=by
     unfold tgt
     rw[List.getD_eq_getElem?_getD,List.getElem?_eq_getElem hnl]
     rfl
    have wkb:∀i,i<x.S.S.a8.length→Th (ce x.S i)→0≤(ce x.S i).Val.Weak∧(ce x.S i).Val.Weak≤6:=λi hi ht=>by
     have:=(hx.wk i hi ht).1
     have:=c2t x.a8 (1+(i:Int)+32*(ce x.S i).Gen)
     omega
    have mk1:∃s2,mkd (wC x (x.a8.set n (wcl h call))) h 1=wS (wC x (x.a8.set n (wcl h call))) s2∧SR s2∧(∀k i,S0 s2 k i↔S0 x.S k i)∧(∀i,i<x.S.S.a8.length→Th (ce x.S i)→(ce x.S i).Val.Weak≤(ce s2 i).Val.Weak∧(ce s2 i).Val.Weak≤(ce x.S i).Val.Weak+1) ∧
      (h≠0→C7 (sO x.S) h=some (oo (ce x.S (A2 h)).Val,0)∧K2 (sO x.S) h (oo (wkg (ce x.S (A2 h)).Val ((ce x.S (A2 h)).Val.Weak+1)))=some (sO s2,0))∧(h=0→s2=x.S):=by
     unfold mkd
     by_cases h0:h=0
     ·have hno:¬S0 x.S h (A2 h):=λq=>by have:=q.rng hR;omega
      rw[if_neg hno]
      exact⟨x.S,rfl,hR,λ_ _=>Iff.rfl,λi _ _=>by omega,λq=>absurd h0 q,λ_=>rfl⟩
     ·have hll:=hl.resolve_left h0
      have hp:=u7 hR hll
      have hb:=wkb _ hp.1 (.inl hp.2.1)
      rw[if_pos hp.d]
      have kn:=a5G hR hp.1 (.inl hp.2.1) (d:=1) (by omega)
      refine⟨_,rfl,kn.sr,kn.ad,λi hi ht=>?_,λ_=>⟨?_,?_⟩,λq=>absurd q h0⟩
      ·rw[a3v hR hp.1 (.inl hp.2.1)]
       split
       ·rename_i e;subst e;dsimp only;omega
       ·omega
      ·rw[a4F x.S (by have:=hR.len;omega) hh,c55 hR hp]
       rfl
      ·rw[c3m x.S hR.len hh,b50 hR hp.d]
       rfl
    obtain⟨s2,m1,m2,m3,m4,m5,m6⟩:=mk1
    have hold:tgt x n≤9223372036854775807:=by
     by_cases q:tgt x n=0
     ·omega
     ·obtain⟨p,hp⟩:=(hx.sh.cl n hnl).2.2.2.1 (by rw[←htg];exact q)
      have:=hp.rng hR
      rw[htg];omega
    have hun:S0 s2 (tgt x n) (A2 (tgt x n))→1≤(ce s2 (A2 (tgt x n))).Val.Weak∧(ce s2 (A2 (tgt x n))).Val.Weak≤1000:=λq=>by
     have q':=(m3 _ _).1 q
     have r:=q'.rng hR
     have:=(hx.wk _ q'.1 q'.2.1).1
     have hp:0<nmg x.a8 x.a8[n].Target:=a9O hnl (by rw[←htg];omega)
     rw[←htg,q'.2.2] at hp
     have:=m4 _ q'.1 q'.2.1
     have:=wkb _ q'.1 q'.2.1
     omega
    have u1:=b7z (x:=wS (wC x (x.a8.set n (wcl h call))) s2) m2 hold hun
    have u2:=c04 (x:=wS (wC x (x.a8.set n (wcl h call))) s2) m2 hold hun
    have hwb:S0 x.S h (A2 h) → -1000≤(ce x.S (A2 h)).Val.Weak+1∧(ce x.S (A2 h)).Val.Weak+1≤1000:=λq=>by
     have:=wkb _ q.1 q.2.1
     omega
    have mm:=b4r (x:=wC x (x.a8.set n (wcl h call))) (d:=1) hR hh hwb
    constructor
    ·dsimp only
     rw[show a0N ⟨x.S,x.Roots,x.a8.set n (wcl h call),x.T,x.Q⟩ h 1=_ from mm,d1e,m1,←htg,u1,d1e]
     unfold a3K
     rw[m1]
    ·unfold a3K
     rw[m1]
     dsimp only
     by_cases h0:h=0
     ·rw[if_neg (by simpa using h0),←htg]
      rw[m6 h0] at u2 ⊢
      rw[show a0O ⟨(hO x).S,(hO x).Roots,(x.a8.set n (wcl h call)).map wcR,(hO x).T,(hO x).Q⟩ (tgt x n)=_ from u2,d1e]
     ·obtain⟨g1,g2⟩:=m5 h0
      have hp:=u7 hR (hl.resolve_left h0)
      have hb:=wkb _ hp.1 (.inl hp.2.1)
      rw[if_pos (by simpa using h0),show (hO x).S=sO x.S from rfl,g1,d1e]
      have e:p6 ((oo (ce x.S (A2 h)).Val).Weak+1)=(ce x.S (A2 h)).Val.Weak+1:=by
       show p6 ((ce x.S (A2 h)).Val.Weak+1)=_
       rw[C9 (by omega) (by omega)]
      dsimp only
      rw[e]
      rw[show K2 (sO x.S) h ⟨(oo (ce x.S (A2 h)).Val).Serial,(oo (ce x.S (A2 h)).Val).Strong,(ce x.S (A2 h)).Val.Weak+1,(oo (ce x.S (A2 h)).Val).Prog,(oo (ce x.S (A2 h)).Val).Started,(oo (ce x.S (A2 h)).Val).Fields⟩=_ from g2,d1e,←htg]
      dsimp only
      rw[show a0O ⟨sO s2,(hO x).Roots,(x.a8.set n (wcl h call)).map wcR,(hO x).T,(hO x).Q⟩ (tgt x n)=_ from u2,d1e]
   ·left
    rw[decide_eq_false hl]
    refine⟨3,by decide,?_,?_⟩ <;> rw[if_pos (by rfl)]
end Go.Sh
namespace Go.Sh
section
variable{x:Hp}(hx:O0 x)(hS:∀k∈lv x.S,(ob x.S k).Strong≤9223372036854775807)
include hx hS
end
end Go.Sh
namespace Go.Sh
abbrev tz:g7:=⟨0,0,0⟩
theorem b1T{α:Type}{l:List α}{i:Nat}(h:i<l.length)(d:α):l.getD i d=l[i]:=by
 rw[List.getD_eq_getElem?_getD,List.getElem?_eq_getElem h]
 rfl
theorem c3B{q:TQ}{w:Int}:wts q w=true↔∃t∈q.L,t.Kind=2∧t.At=w:=by
 unfold wts
 rw[List.any_eq_true]
 simp
def TkS(a b:g7):Prop:=a.Kind=b.Kind∧a.At=b.At
instance(a b:g7):Decidable (TkS a b):=by unfold TkS;infer_instance
section
variable{x:Hp}(hR:SR x.S)
include hR
omit hR in
theorem c0t (l:List c4) (hl:l.length≤1000) (h:Int):a2v l h=some (nmg l h:Int):=by
 unfold a2v L8 a2b
 simp only[jn,d1e]
 have key:∃e,lp (S:=Int × (List Int)) (E:=(List Int)) (λ((s17,s18):Int × (List Int))=>
   if (decide (s17<(l.length:Int))) then
     (ix l s17).bind λv26=>
     if ((h != 0)&&(v26.Target==h)) then
      (app 8 s18 [s17]).bind λv28=>
      some (.inl (p6 (s17+1),v28))
     else
     some (.inl (p6 (s17+1),s18))
   else
   some (.inr s18)) (0,[])=some e∧e.length=nmg l h:=by
  refine a06 l.length (λk (acc:List Int)=>acc.length=nmg (l.take k) h) (λ(e:List Int)=>e.length=nmg l h) (by omega) rfl (λk acc hk hP=>?_) (λacc hP=>⟨acc,by simp,by rwa [List.take_length] at hP⟩)
  left
  have hle:acc.length≤k:=by
   rw[hP]
   exact Nat.le_trans (c2t _ _) (by simp;omega)
  have hst:nmg (l.take (k+1)) h=nmg (l.take k) h+if ((h != 0)&&(l[k].Target==h))=true then 1 else 0:=by
   unfold nmg
   rw[List.take_succ_eq_append_getElem hk,List.countP_append,List.countP_cons,List.countP_nil]
   omega
  simp only[Int.ofNat_lt,hk,decide_true,if_true,n0 hk,d1e]
  rw[k7]
  by_cases c:((h != 0)&&(l[k].Target==h))=true
  ·rw[if_pos c,u4 (by omega) (by simp;omega),d1e]
   exact⟨_,rfl,by rw[hst,if_pos c];simp[hP]⟩
  ·rw[if_neg c]
   exact⟨_,rfl,by rw[hst,if_neg c];simpa using hP⟩
 obtain⟨e,e1,e2⟩:=key
 rw[show lp _ _=_ from e1,d1e,d1e,e2]
omit hR in
theorem b8n (l:List Int) (hl:l.length≤1000):lp (S:=Int × (List Int)) (E:=(List Int)) (λ((s17,s18):Int × (List Int))=>
   if (decide (s17<(l.length:Int))) then
     (ix l s17).bind λv25=>
     if (v25 != 0) then
      (app 8 s18 [v25]).bind λv26=>
      some (.inl (p6 (s17+1),v26))
     else
     some (.inl (p6 (s17+1),s18))
   else
   some (.inr s18)) (0,[])=some (nz l):=by
 rw[B8 l (λb x=>if (x != 0)=true then b ++ [x] else b) id (λk b=>b.length≤k) (by omega) (by simp) (λk hk b hI=>?_) (λb _=>by simp)]
 ·rw[foldl_filter]
  rfl
 ·simp only[Int.ofNat_lt,hk,decide_true,if_true,n0 hk,d1e]
  rw[k7]
  by_cases c:(l[k] != 0)=true
  ·rw[if_pos c,if_pos c,u4 (by omega) (by simp;omega),d1e]
   exact⟨rfl,by simp;omega⟩
  ·rw[if_neg c,if_neg c]
   exact⟨rfl,by omega⟩
omit hR in
theorem b9v (hl:x.Roots.length≤1000) (hq:x.Q.L.length≤1000):(otr x).length≤2000:=by
 unfold otr b2y
 rw[List.length_append,List.length_map]
 have:=b8j x.Roots
 have:(x.Q.L.filter (·.Kind==1)).length≤x.Q.L.length:=List.length_filter_le ..
 omega
omit hR in
theorem c2J (hl:x.Roots.length≤1000) (hq:x.Q.L.length≤1000):a5y x=some (otr x):=by
 unfold a5y
 simp only[jn]
 rw[show lp _ _=_ from b8n x.Roots hl,d1e,show a5c x.Q=some (b2y x.Q) from c7t hq,d1e]
 have:=b9v hl hq
 unfold otr at this ⊢
 rw[List.length_append] at this
 rw[u4 (by omega) (by omega)]
 rfl
omit hR in
theorem b6A:c1c x.S x.T (otr x)↔a3j x []:=by
 constructor
 ·intro h k hk hlt
  have:=h k hk hlt
  unfold rst inr at this
  rw[if_pos hk] at this
  rw[R6]
  unfold nms
  omega
 ·intro h k hk hlt
  have:=h k hk hlt
  rw[R6] at this
  unfold nms at this
  unfold rst inr
  rw[if_pos hk]
  omega
end
end Go.Sh
namespace Go.Sh
theorem c8m{K V:Type}[BEq K](hr:∀a:K,(a==a)=true)(he:∀a b:K,(a==b)=true→a=b)(m:List (K × V))(k:K)(v:V)(k':K):r8 (m9 m k v) k'=if k'==k then some v else r8 m k':=by
 induction m with
 | nil=>simp[m9,r8]
 | cons p m ih=>
  unfold m9
  by_cases h:(k==p.1)=true
  ·have:=he _ _ h
   subst this
   rw[if_pos h]
   unfold r8
   by_cases h':(k'==p.1)=true
   ·simp[h']
   ·simp[h']
  ·rw[if_neg h]
   unfold r8
   by_cases h':(k'==p.1)=true
   ·have:=he _ _ h'
    subst this
    have:(p.1==k)≠true:=λq=>by
     have:=he _ _ q
     subst this
     exact h (hr _)
    simp[h',this]
   ·simp only[h',ih]
    simp
theorem c02(a:g7):(a==a)=true:=by
 show ((a.Kind==a.Kind)&&((a.At==a.At)&&((a.Prog==a.Prog)&&true)))=true
 simp
section
variable{x:Hp}(hx:O0 x)(hB:HB x)
include hx hB
theorem b2J:W6 x=some true:=by
 have hR:=hx.sh.sr
 have r6:=hx.sh.r6
 have h24:=E8 (o6.2 hR)
 unfold W6 E6
 rw[J8 (by omega) (by omega),d1e]
 simp only[jn]
 rw[V2 (o6.2 hR),d1e]
 have key:∃e,lp (S:=Int × (List Int)) (E:=(List Int)) (λ((s16,s17):Int × (List Int))=>
   if (decide (s16<((lv x.S).length:Int))) then
    (ix (lv x.S) s16).bind λv20=>
    (o9 x.S v20).bind λv21=>
    (app 8 s17 v21.1.Fields).bind λv22=>
    some (.inl (p6 (s16+1),v22))
   else
   some (.inr s17)) (0,x.Roots)=some e∧(e.length≤200∧∀v∈e,v=0∨v∈lv x.S):=by
  refine a06 (lv x.S).length (λk (acc:List Int)=>acc.length≤6+4*k∧∀v∈acc,v=0∨v∈lv x.S) (λ(e:List Int)=>e.length≤200∧∀v∈e,v=0∨v∈lv x.S) (by omega) ⟨by omega,hx.sh.rt⟩ (λk acc hk hP=>?_) (λacc hP=>⟨acc,by simp,by omega,hP.2⟩)
  have hm:=List.getElem_mem hk
  have hf:=(I1 hR hm).fl
  left
  refine⟨acc++(ob x.S (lv x.S)[k]).Fields,?_,by rw[List.length_append];omega,λv hv=>?_⟩
  ·simp only[Int.ofNat_lt,hk,decide_true,if_true,n0 hk,d1e]
   rw[a6T (o6.2 hR) hm,d1e]
   dsimp only
   rw[u4 (by omega) (by omega),d1e,k7]
  ·rcases List.mem_append.1 hv with q | q
   ·exact hP.2 v q
   ·exact hx.sh.fl _ hm v q
 obtain⟨e,e1,e2⟩:=key
 rw[show lp _ _=_ from e1,d1e]
 have:C6 e x=some true:=by
  unfold C6 a1J
  simp only[jn]
  refine M0 e.length (λ_=>True) (by omega) trivial (λk hk _=>.inl ⟨?_,trivial⟩) (λ_=>⟨.inr (),by simp,rfl⟩)
  have hm:=e2.2 _ (List.getElem_mem hk)
  have hb:e[k]≤9223372036854775807:=by
   rcases hm with q | q
   ·omega
   ·have:=I2 hR q;omega
  simp only[Int.ofNat_lt,hk,decide_true,if_true,n0 hk,d1e]
  rw[a1M hR hb,d1e,d1e,decide_eq_true hm,if_neg (by simp),k7]
 rw[this]
 rfl
theorem b2R:a03 x=some true:=by
 have hR:=hx.sh.sr
 have h8:=a3x hx.sh.hr.l8
 unfold a03
 rw[b61 hx.sh.hr,d1e]
 have:z7 (prs x.T) x=some true:=by
  unfold z7 a1K
  simp only[jn]
  refine M0 (prs x.T).length (λ_=>True) (by omega) trivial (λk hk _=>.inl ⟨?_,trivial⟩) (λ_=>⟨.inr (),by simp,rfl⟩)
  have hp:=a18.1 (List.getElem_mem hk)
  have hb:=hB.tb.has hp
  have hl:=hx.sh.pr _ _ hp
  simp only[Int.ofNat_lt,hk,decide_true,if_true,n0 hk,d1e]
  rw[a9E hR hb.1,d1e,decide_eq_true hl.1]
  simp only[beq_self_eq_true,X0]
  rw[a9E hR hb.2,d1e,d1e,decide_eq_true hl.2,if_neg (by simp),k7]
 rw[this]
 rfl
theorem b34:a14 x=some true:=by
 have hR:=hx.sh.sr
 have q30:=hx.sh.q30
 have c6:=hx.sh.c6
 unfold a14
 simp only[jn]
 refine O1 x.Q.L.length (λk (m:List (g7 × Bool))=>∀t:g7,t.Prog=0→((r8 m t).getD false=true→∃j,j<k∧TkS (x.Q.L.getD j tz) t)) (by omega) (λt _ q=>by simp[r8] at q) (λk m hk hP=>.inl ?_) (λm hP=>⟨.inr m,by simp,rfl⟩)
 have hm:=List.getElem_mem hk
 obtain⟨t1,t2,t3⟩:=hx.sh.tk _ hm
 have hb:=hB.qb _ hm
 have hno:(r8 m (⟨x.Q.L[k].Kind,x.Q.L[k].At,0⟩:g7)).getD false=false:=by
  rw[Bool.eq_false_iff]
  intro q
  obtain⟨j,hj,hs⟩:=hP ⟨x.Q.L[k].Kind,x.Q.L[k].At,0⟩ rfl q
  have hj1:j<x.Q.L.length:=by omega
  rw[b1T hj1] at hs
  exact List.pairwise_iff_getElem.1 hx.sh.td j k hj1 hk hj hs
 have hfor:a05 x x.Q.L[k]=some true:=by
  unfold a05
  rcases t3 with ⟨a,b,c⟩ | ⟨a,b,c⟩
  ·rw[if_pos (by simpa using a),a6T (o6.2 hR) b,d1e,c]
   rfl
  ·rw[if_neg (by simp[a]),if_pos (by simpa using a)]
   obtain⟨n,hn⟩:∃n:Nat,x.Q.L[k].At=n:=⟨x.Q.L[k].At.toNat,by omega⟩
   have hnl:n<x.a8.length:=by omega
   have e1:((decide (x.Q.L[k].At≥0))&&(decide (x.Q.L[k].At<(x.a8.length:Int))))=true:=by simp;omega
   rw[e1]
   simp only[beq_self_eq_true,X0,Bool.true_and]
   rw[hn,n0 hnl,d1e]
   have:x.a8[n].Intact=false:=by
    rw[Bool.eq_false_iff]
    intro q
    have:=((hx.sh.cl n hnl).2.2.2.2 q).2
    rw[Bool.eq_false_iff] at this
    exact this (c3B.2 ⟨_,hm,a,hn⟩)
   rw[this]
   rfl
 refine⟨m9 m (⟨x.Q.L[k].Kind,x.Q.L[k].At,0⟩:g7) true,?_,λt ht q=>?_⟩
 ·simp only[Int.ofNat_lt,hk,decide_true,if_true,n0 hk,d1e]
  rw[hno,decide_eq_true (show x.Q.L[k].Prog≥0 from t1),decide_eq_true (show x.Q.L[k].Prog<6 by omega)]
  simp only[Bool.not_false,Bool.and_self,beq_self_eq_true,X0]
  rw[hfor,d1e,if_neg (by simp),k7]
 ·rw[c8m c02 g7.beq_eq] at q
  by_cases e:(t==(⟨x.Q.L[k].Kind,x.Q.L[k].At,0⟩:g7))=true
  ·have:=g7.beq_eq _ _ e
   refine⟨k,by omega,?_⟩
   rw[b1T hk,this]
   exact⟨rfl,rfl⟩
  ·rw[if_neg e] at q
   obtain⟨j,hj,hs⟩:=hP t ht q
   exact⟨j,by omega,hs⟩
theorem b3M:a12 x=some true:=by
 have hR:=hx.sh.sr
 have c6:=hx.sh.c6
 unfold a12
 have:A6 x.a8 x=some true:=by
  unfold A6 a2D
  simp only[jn]
  refine M0 x.a8.length (λ_=>True) (by omega) trivial (λk hk _=>.inl ⟨?_,trivial⟩) (λ_=>⟨.inr (),by simp,rfl⟩)
  obtain⟨a1,a2,a3,a4,a5⟩:=hx.sh.cl k hk
  have hb:=hB.cb _ (List.getElem_mem hk)
  simp only[Int.ofNat_lt,hk,decide_true,if_true,n0 hk,d1e]
  rw[if_neg (by simp;omega)]
  by_cases hin:x.a8[k].Intact=true
  ·rw[if_pos hin,a9E hR hb,d1e,d1e,decide_eq_true (a5 hin).1,if_neg (by simp),k7]
  ·rw[if_neg hin]
   by_cases h0:x.a8[k].Target=0
   ·have hno:∀i,¬S0 x.S x.a8[k].Target i:=λi q=>by have:=q.rng hR;omega
    rw[a5m hR hb hno,d1e,d1e,h0,if_neg (by simp),k7]
   ·obtain⟨p,hp⟩:=a4 h0
    rw[a3T hR hp,d1e,d1e,if_neg (by simp),k7]
 rw[this]
 rfl
theorem b3P:a13 x=some true:=by
 have hR:=hx.sh.sr
 have c6:=hx.sh.c6
 have h24:=hR.len
 have l9:=hR.l9
 unfold a13
 simp only[jn]
 refine M0 x.S.S.a8.length (λ_=>True) (by omega) trivial (λk hk _=>.inl ⟨?_,trivial⟩) (λ_=>⟨.inr (),by simp,rfl⟩)
 have hc:=hR.cell k hk
 simp only[Int.ofNat_lt,hk,decide_true,if_true]
 rw[b4l hk,d1e]
 by_cases ht:Th (ce x.S k)
 ·rw[if_neg (by unfold Th at ht;simp only[Bool.and_eq_true,bne_iff_ne,ne_eq];omega),a3o (by omega) (by omega) hc.2.2.1 (by omega),d1e,c0t x.a8 (by omega),d1e]
  obtain⟨g1,g2⟩:=hx.wk k hk ht
  rw[if_neg (by simpa using g1),if_neg,k7]
  simp only[Bool.or_eq_true,Bool.and_eq_true,bne_iff_ne,ne_eq,beq_iff_eq,decide_eq_true_eq,not_or,not_and,Decidable.not_not]
  intro q
  obtain⟨a,b,c⟩:=g2 q
  rw[b]
  exact⟨⟨by omega,by simp⟩,c⟩
 ·rw[if_pos (by unfold Th at ht;simp only[Bool.and_eq_true,bne_iff_ne,ne_eq];omega),k7]
open Classical in
theorem b1D:a5z x=some true:=by
 have hR:=hx.sh.sr
 have r6:=hx.sh.r6
 have q30:=hx.sh.q30
 unfold a5z
 have hsh:a04 x=some true:=by
  unfold a04
  have hsr:a2t x.S=some true:=by
   rw[b54 x.S (by have:=hR.len;omega)]
   congr 1
   rw[decide_eq_true_iff]
   exact o6.2 hR
  obtain⟨b,b1,b2⟩:=c0m x.T (by have:=hx.sh.hr.l8;omega)
  rw[show b0c=some ⟨[],30⟩ from rfl,d1e,hsr,d1e]
  simp only[beq_self_eq_true,X0,Bool.true_and]
  rw[b1,d1e,b2.2 hx.sh.hr,hx.sh.r6,hx.sh.c6,hx.sh.cap]
  have:decide ((x.Q.L.length:Int)≤30)=true:=by simp;omega
  rw[this]
  rfl
 rw[hsh,d1e,if_neg (by simp)]
 simp only[jn]
 have f1:Y7 (some 122) x=some true:=by
  unfold Y7
  rw[if_pos rfl]
  exact b2J hx hB
 have f2:Y7 (some 123) x=some true:=by
  unfold Y7
  rw[if_neg (by decide),if_pos rfl]
  exact b2R hx hB
 have f3:Y7 (some 124) x=some true:=by
  unfold Y7
  rw[if_neg (by decide),if_neg (by decide),if_pos rfl]
  exact b34 hx hB
 have f4:Y7 (some 125) x=some true:=by
  unfold Y7
  rw[if_neg (by decide),if_neg (by decide),if_neg (by decide),if_pos rfl]
  exact b3M hx hB
 have f5:Y7 (some 126) x=some true:=by
  unfold Y7
  rw[if_neg (by decide),if_neg (by decide),if_neg (by decide),if_neg (by decide),if_pos rfl]
  exact b3P hx hB
 refine M0 5 (λ_=>True) (by omega) trivial (λk hk _=>.inl ⟨?_,trivial⟩) (λ_=>⟨.inr (),by kernel_rfl,?_⟩)
 ·match k,hk with
  | 0,_=>
   refine (if_pos (by rfl)).trans ?_
   refine bnd (a:=some 122) (by kernel_rfl) ?_
   refine bnd f1 ?_
   kernel_rfl
  | 1,_=>
   refine (if_pos (by rfl)).trans ?_
   refine bnd (a:=some 123) (by kernel_rfl) ?_
   refine bnd f2 ?_
   kernel_rfl
  | 2,_=>
   refine (if_pos (by rfl)).trans ?_
   refine bnd (a:=some 124) (by kernel_rfl) ?_
   refine bnd f3 ?_
   kernel_rfl
  | 3,_=>
   refine (if_pos (by rfl)).trans ?_
   refine bnd (a:=some 125) (by kernel_rfl) ?_
   refine bnd f4 ?_
   kernel_rfl
  | 4,_=>
   refine (if_pos (by rfl)).trans ?_
   refine bnd (a:=some 126) (by kernel_rfl) ?_
   refine bnd f5 ?_
   kernel_rfl
 ·dsimp only
  rw[c2J (by omega) (by omega),d1e,c3Y (o6.2 hR) hx.sh.hr hB.sb (by have:=b9v (x:=x) (by omega) (by omega);omega),d1e,decide_eq_true (b6A.2 hx.fair)]
end
end Go.Sh
namespace Go.Sh
def SL(x:Hp):Prop:=∀k∈lv x.S,(ob x.S k).Strong≤9223372036854775807
theorem SB.sl{x:Hp}(hR:SR x.S)(h:SB x.S):SL x:=λk hk=>c01 hR h k hk
theorem c14{x:Hp}(hx:O0 x)(hS:SL x):HB x:=by
 have hR:=hx.sh.sr
 have bd:∀v,v=0∨v∈lv x.S→v≤9223372036854775807:=λv q=>by
  rcases q with q | q
  ·omega
  ·have:=I2 hR q;omega
 refine⟨c82.2 λi hi=>?_,c75.2 λi hi v hv=>?_,λv hv=>bd v (hx.sh.rt v hv),λc hc=>?_,λp hp=>?_,λt ht=>?_⟩
 ·by_cases t:Th (ce x.S i)
  ·rcases t with t | t
   ·have q:At x.S (1+(i:Int)+32*(ce x.S i).Gen) i:=⟨hi,t,rfl⟩
    have:=hS _ ((a4P hR).2 ⟨i,q⟩)
    rwa [Q3 hR q] at this
   ·have:=((hx.wk i hi (.inr t)).2 t).2.2
    omega
  ·have:=(hR.no i hi t).2.1
   simp only[oo] at this
   omega
 ·by_cases t:Th (ce x.S i)
  ·rcases t with t | t
   ·have q:At x.S (1+(i:Int)+32*(ce x.S i).Gen) i:=⟨hi,t,rfl⟩
    have hm:=(a4P hR).2 ⟨i,q⟩
    exact bd v (hx.sh.fl _ hm v (by rw[Q3 hR q];exact hv))
   ·rw[((hx.wk i hi (.inr t)).2 t).2.1] at hv
    cases hv
  ·have:=(hR.no i hi t).2.2.2.2.2
   simp only[oo] at this
   rw[List.eq_nil_of_length_eq_zero this] at hv
   cases hv
 ·obtain⟨i,hi,rfl⟩:=List.getElem_of_mem hc
  by_cases e:x.a8[i].Target=0
  ·omega
  ·obtain⟨p,hp⟩:=(hx.sh.cl i hi).2.2.2.1 e
   have:=hp.rng hR
   omega
 ·obtain⟨i,hi,rfl⟩:=List.getElem_of_mem hp
  have e:pt x.T i=x.T[i]:=by
   unfold pt
   rw[List.getD_eq_getElem?_getD,List.getElem?_eq_getElem hi]
   rfl
  by_cases s1:(pt x.T i).State=1
  ·obtain⟨a,b⟩:=hx.sh.pr (pt x.T i).Key (pt x.T i).Val ⟨i,⟨hi,s1,rfl⟩,rfl⟩
   rw[e] at a b
   exact⟨bd _ (.inr a),bd _ (.inr b)⟩
  ·obtain⟨a,b⟩:=(hx.sh.hr.st i hi).2 s1
   rw[e] at a b
   omega
 ·obtain⟨_,_,q | q⟩:=hx.sh.tk t ht
  ·exact bd _ (.inr q.2.1)
  ·omega
theorem c4b(c:Int):W7 c≤12:=by unfold W7;split <;> (try split) <;> omega
theorem c3V{c:Int}(h:c≤9223372036854775807):a5q c≤9223372036854775807:=by unfold a5q;split <;> (try split) <;> omega
theorem SL.of{x y:Hp}(h:SL x)(hl:lv y.S=lv x.S)(hs:∀k∈lv x.S,(ob y.S k).Strong=(ob x.S k).Strong):SL y:=λk hk=>by
 rw[hl] at hk
 rw[hs k hk]
 exact h k hk
theorem SL.st{x:Hp}(h:SL x)(hR:SR x.S)(v:Int){f:Int→Int}(hf:∀c,0≤c→0≤f c)(hb:∀c,c≤9223372036854775807→f c≤9223372036854775807):SL (stO x v f):=λk hk=>by
 rw[(G7 hR v hf).lv] at hk
 rw[b03 hR v hf hk]
 split
 ·exact hb _ (h k hk)
 ·exact h k hk
theorem SL.C0{x:Hp}(h:SL x)(hR:SR x.S)(v:Int):SL (C0 x v):=h.st hR v (λc=>D2) λc _=>by have:=c4b c;omega
theorem SL.rls{x:Hp}(h:SL x)(hR:SR x.S)(v:Int):SL (N7 x v):=h.st hR v (λc=>V1) λc hc=>c3V hc
theorem b8B{x:Hp}(hR:SR x.S)(v:Int):SR (N7 x v).S:=(G7 hR v λc=>V1).sr
theorem b3b{x:Hp}(hR:SR x.S)(h:SL x)(r:Nat)(v:Int):SL (Q4 x r v):=by
 unfold Q4
 exact SL.rls (x:=wR (C0 x v) (x.Roots.set r v)) (h.C0 hR v) (a7d hR v) _
theorem c0e{x:Hp}(hR:SR x.S)(hS:SL x){h:Int}(hh:h∈lv x.S)(k:Nat)(v:Int):SL (a1E x h k v):=by
 have kin:=G7 hR v (f:=W7) λc=>D2
 have hR1:SR (C0 x v).S:=kin.sr
 have hl1:h∈lv (C0 x v).S:=by rw[show lv (C0 x v).S=lv x.S from kin.lv];exact hh
 have hof:(ob (C0 x v).S h).Fields=(ob x.S h).Fields:=by
  obtain⟨m,e⟩:=kin.ob h (by have:=I2 hR hh;omega)
  show (ob (stO x v W7).S h).Fields=_
  rw[e]
 have ok:=I1 hR1 hl1
 have ho:OkO (C0 x v).S (flg (ob (C0 x v).S h) ((ob x.S h).Fields.set k v)):=⟨ok.s1,ok.s2,ok.st,ok.wk,ok.p1,ok.p2,by have:=ok.fl;rw[hof] at this;simpa using this⟩
 have sr2:=a1k (o:=flg (ob (C0 x v).S h) ((ob x.S h).Fields.set k v)) hR1 hl1 rfl ho
 unfold a1E
 refine SL.rls (x:=wS (C0 x v) (seO (C0 x v).S h (flg (ob (C0 x v).S h) ((ob x.S h).Fields.set k v)))) ?_ sr2 _
 refine (hS.C0 hR v).of (a2K hR1 hl1 rfl ho) λj hj=>?_
 dsimp only
 rw[a1T (o:=flg (ob (C0 x v).S h) ((ob x.S h).Fields.set k v)) hR1 hl1 rfl ho (by have:=I2 hR1 hj;omega)]
 split
 ·rename_i e;rw[e]
 ·rfl
theorem c2M{x:Hp}(hR:SR x.S)(hS:SL x)(v:Int)(t:Tb)(old:Int):SL (a6X x v t old):=by
 unfold a6X
 exact SL.rls (x:=wT (C0 x v) t) (hS.C0 hR v) (a7d hR v) _
theorem c6I{x:Hp}(hR:SR x.S)(hS:SL x)(h:Int){d:Int}(hd:S0 x.S h (A2 h)→0≤(ce x.S (A2 h)).Val.Weak+d):SL (mkd x h d):=by
 unfold mkd
 split
 ·rename_i q
  exact hS.of (a5G hR q.1 q.2.1 (hd q)).lv λk hk=>a5H hR q.1 q.2.1 (hd q) hk
 ·exact hS
theorem b9Z{x:Hp}(hR:SR x.S)(hS:SL x)(h:Int)(hd:S0 x.S h (A2 h)→1≤(ce x.S (A2 h)).Val.Weak):SL (a84 x h):=by
 unfold a84
 split
 ·rename_i q
  have hd:=hd q
  have kn:=a5G (d:=-1) hR q.1 q.2.1 (by omega)
  have s1:SL (wS x (mkA x.S (A2 h) (-1))):=hS.of kn.lv λk hk=>a5H hR q.1 q.2.1 (by omega) hk
  split
  ·rename_i c
   have hi1:A2 h<(mkA x.S (A2 h) (-1)).S.a8.length:=by rw[kn.len];exact q.1
   have hce:ce (mkA x.S (A2 h) (-1)) (A2 h)=⟨(ce x.S (A2 h)).State,(ce x.S (A2 h)).Gen,wkg (ce x.S (A2 h)).Val ((ce x.S (A2 h)).Val.Weak + -1)⟩:=by
    rw[a3v hR q.1 q.2.1,if_pos rfl]
   have h2:(ce (mkA x.S (A2 h) (-1)) (A2 h)).State=2:=by rw[hce];exact c.1
   exact s1.of (b5h kn.sr hi1 h2) λk hk=>by
    dsimp only
    rw[b5i kn.sr hi1 h2 hk]
  ·exact s1
 ·exact hS
theorem c3x{x:Hp}(hx:O0 x)(hS:SL x){n:Nat}(hn:n<6)(h call:Int):SL (a3K x n h call):=by
 have hR:=hx.sh.sr
 have hnl:n<x.a8.length:=by have:=hx.sh.c6;omega
 have ok:∀k i,S0 x.S k i→0≤(ce x.S i).Val.Weak:=λk i q=>(hR.ok i q.1 q.2.1).wk
 have tw:∀i,S0 x.S (tgt x n) i→1≤(ce x.S i).Val.Weak:=λi q=>by
  have htg:tgt x n=x.a8[n].Target:=by
   unfold tgt
   rw[List.getD_eq_getElem?_getD,List.getElem?_eq_getElem hnl]
   rfl
  have r:=q.rng hR
  have p:=a9O hnl (by rw[←htg];omega)
  rw[←htg,q.2.2] at p
  have:=(hx.wk i q.1 q.2.1).1
  omega
 unfold a3K
 have s1:SL (mkd (wC x (x.a8.set n (wcl h call))) h 1):=c6I (x:=wC x (x.a8.set n (wcl h call))) hR hS h λq=>by
  have:=ok _ _ q
  dsimp only
  omega
 by_cases q:S0 x.S h (A2 h)
 ·have e:mkd (wC x (x.a8.set n (wcl h call))) h 1=wS (wC x (x.a8.set n (wcl h call))) (mkA x.S (A2 h) 1):=by
   unfold mkd
   rw[if_pos q]
  have hd:=ok _ _ q
  have kn:=a5G (d:=1) hR q.1 q.2.1 (by omega)
  rw[e] at s1 ⊢
  refine b9Z kn.sr s1 _ λq2=>?_
  dsimp only at q2 ⊢
  have q3:=(kn.ad _ _).1 q2
  have:=tw _ q3
  rw[a3v hR q.1 q.2.1]
  split
  ·rename_i e2
   rw[e2] at this
   show 1≤(ce x.S (A2 h)).Val.Weak+1
   omega
  ·exact this
 ·have e:mkd (wC x (x.a8.set n (wcl h call))) h 1=wC x (x.a8.set n (wcl h call)):=by
   unfold mkd
   rw[if_neg q]
  rw[e] at s1 ⊢
  exact b9Z (x:=wC x (x.a8.set n (wcl h call))) hR s1 _ λq2=>tw _ q2
section
variable{x:Hp}(hx:O0 x)(hS:SL x)
include hx hS
end
end Go.Sh
namespace Go.Sh
end Go.Sh
namespace Go.Sh
end Go.Sh
namespace Go.Sh
def c5j(x:Hp):Prop:=Sm x.S∧x.Roots.length≤20∧x.a8.length≤20∧x.T.length≤20∧x.Q.L.length≤60
instance(x:Hp):Decidable (c5j x):=by unfold c5j;infer_instance
end Go.Sh
namespace Go.Sh
def c6y:Hp:=⟨⟨⟨[],0⟩,0⟩,[],[],[],⟨[],0⟩⟩
theorem b3n(x:Hp)(h:Int)(f:Int→Int):(stO x h f).Roots=x.Roots∧(stO x h f).a8=x.a8∧(stO x h f).T=x.T∧(stO x h f).Q=x.Q:=by
 unfold stO
 split <;> exact⟨rfl,rfl,rfl,rfl⟩
theorem a8Z(x:Hp)(r:Nat)(h:Int):(Q4 x r h).Roots=x.Roots.set r h∧(Q4 x r h).a8=x.a8∧(Q4 x r h).T=x.T∧(Q4 x r h).Q=x.Q:=by
 obtain⟨a,b,c,d⟩:=b3n (wR (C0 x h) (x.Roots.set r h)) (x.Roots.getD r 0) a5q
 obtain⟨a',b',c',d'⟩:=b3n x h W7
 exact⟨a,b.trans b',c.trans c',d.trans d'⟩
section
variable{x:Hp}(hB:HB x)
include hB
end
end Go.Sh
namespace Go.Sh
abbrev ded(o:k9):k9:=⟨o.Serial,0,o.Weak,o.Prog,o.Started,[]⟩
def gnC(s:a7)(i:Nat):b7:=
 if (ce s i).Val.Weak=0 then (if (ce s i).Gen=s.S.Last then ⟨3,(ce s i).Gen,z0⟩ else ⟨0,(ce s i).Gen+1,z0⟩) else ⟨2,(ce s i).Gen,ded (ce s i).Val⟩
def gnA(s:a7)(d:Int):a7:=E5 s (A2 d) (gnC s (A2 d))
def gnL(s:a7)(ds:List Int):a7:=ds.foldl gnA s
theorem c6r(s:a7)(i:Nat):(gnC s i).State≠1:=by
 unfold gnC
 split
 ·split <;> simp
 ·simp
theorem b8q{s:a7}(hR:SR s){a b:Int}(ha:a∈lv s)(hb:b∈lv s)(h:a≠b):A2 a≠A2 b:=λe=>by
 have h1:=u7 hR ha
 have h2:=u7 hR hb
 rw[e] at h1
 exact h (h1.2.2.trans h2.2.2.symm)
section
variable{s:a7}(hR:SR s){d:Int}(hd:d∈lv s)
include hR hd
theorem b8c:SR (gnA s d):=by
 have q:=u7 hR hd
 have hc:=hR.cell _ q.1
 have ho:=hR.ok _ q.1 (.inl q.2.1)
 have no:b2e (oo z0):=⟨rfl,rfl,rfl,rfl,rfl,rfl⟩
 unfold gnA gnC
 split
 ·split
  ·exact hR.E5 q.1 ⟨by simp,by simp,hc.2.2.1,hc.2.2.2⟩ (λ_=>no) (λq=>absurd q (by unfold Th;simp))
  ·refine hR.E5 q.1 ⟨by simp,by simp,?_,?_⟩ (λ_=>no) (λq=>absurd q (by unfold Th;simp))
   ·show 0≤(ce s (A2 d)).Gen+1;omega
   ·show (ce s (A2 d)).Gen+1≤s.S.Last;omega
 ·exact hR.E5 q.1 ⟨by simp,by simp,hc.2.2.1,hc.2.2.2⟩ (λq=>absurd (.inr rfl) q) (λ_=>⟨⟨ho.s1,ho.s2,Int.le_refl _,ho.wk,ho.p1,ho.p2,Nat.zero_le _⟩,.inl q.2.1,rfl⟩)
theorem c1Z(j:Nat):ce (gnA s d) j=if j=A2 d then gnC s (A2 d) else ce s j:=I7 (u7 hR hd).1 _ j
theorem c6p:lv (gnA s d)=(lv s).filter λh=>decide (h≠d):=by
 have hS:=b8c hR hd
 unfold gnA at hS ⊢
 have hc:=c6r s (A2 d)
 rw[b9n hR (u7 hR hd).1 hc hS]
 refine List.filter_congr λh hh=>decide_eq_decide.2 ⟨λq e=>q (by rw[e]),λq=>b8q hR hh hd q⟩
theorem c6q{k:Int}(hk:k∈lv s)(hne:k≠d):ob (gnA s d) k=ob s k:=by
 have hS:=b8c hR hd
 unfold gnA at hS ⊢
 exact b9t hR (u7 hR hd).1 hS hk (b8q hR hk hd hne)
end
structure Gn (s s':a7) (ds:List Int):Prop where
 sr:SR s'
 len:s'.S.a8.length=s.S.a8.length
 last:s'.S.Last=s.S.Last
 ser:s'.Serial=s.Serial
 lv:lv s'=(lv s).filter λh=>decide (h∉ds)
 ob:∀k∈Sh.lv s,k∉ds→ob s' k=ob s k
 ce:∀j,ce s' j=if j∈ds.map A2 then gnC s j else ce s j
theorem a1H:∀(ds:List Int) {s:a7} (hR:SR s),ds.Nodup→(∀d∈ds,d∈lv s)→Gn s (gnL s ds) ds
 | [],s,hR,_,_=>⟨hR,rfl,rfl,rfl,(List.filter_eq_self.2 (λa _=>by simp)).symm,λ_ _ _=>rfl,λj=>by simp[gnL]⟩
 | d::ds,s,hR,hn,hm=>by
  rw[List.nodup_cons] at hn
  have hd:=hm d (List.mem_cons_self ..)
  have hlv:=c6p hR hd
  have hm':∀e∈ds,e∈lv (gnA s d):=λe he=>by
   rw[hlv,List.mem_filter,decide_eq_true_iff]
   exact⟨hm e (List.mem_cons_of_mem _ he),λq=>hn.1 (q▸he)⟩
  have ih:=a1H ds (b8c hR hd) hn.2 hm'
  refine⟨ih.sr,ih.len.trans (X7 ..),ih.last,ih.ser,?_,λk hk hne=>?_,λj=>?_⟩
  ·show lv (gnL (gnA s d) ds)=_
   rw[ih.lv,hlv,List.filter_filter]
   refine List.filter_congr λh hh=>?_
   rw[Bool.eq_iff_iff]
   simp only[Bool.and_eq_true,decide_eq_true_iff,List.mem_cons,not_or]
   exact⟨λq=>⟨q.2,q.1⟩,λq=>⟨q.2,q.1⟩⟩
  ·show ob (gnL (gnA s d) ds) k=_
   rw[List.mem_cons,not_or] at hne
   rw[ih.ob k (by rw[hlv,List.mem_filter,decide_eq_true_iff];exact⟨hk,hne.1⟩) hne.2,c6q hR hd hk hne.1]
  ·show ce (gnL (gnA s d) ds) j=_
   have hg:∀e∈ds,A2 e≠A2 d:=λe he=>b8q hR (hm e (List.mem_cons_of_mem _ he)) hd λq=>hn.1 (q▸he)
   rw[ih.ce]
   by_cases h1:j∈ds.map A2
   ·obtain⟨e,he,rfl⟩:=List.mem_map.1 h1
    rw[if_pos h1,if_pos (by rw[List.map_cons];exact List.mem_cons_of_mem _ h1)]
    unfold gnC
    rw[c1Z hR hd,if_neg (hg e he)]
    rfl
   ·rw[if_neg h1,c1Z hR hd,List.map_cons]
    by_cases h2:j=A2 d
    ·subst h2
     rw[if_pos rfl,if_pos (List.mem_cons_self ..)]
    ·rw[if_neg h2,if_neg]
     rw[List.mem_cons]
     exact λq=>q.elim h2 h1
theorem b4M{α:Type}(p:α→Bool)(f:α→Nat):∀l:List α,(l.map f).sum=((l.filter p).map f).sum+((l.filter λx => !p x).map f).sum
 | []=>rfl
 | x::l=>by
  rw[List.map_cons,List.sum_cons,b4M p f l,List.filter_cons,List.filter_cons]
  cases p x <;> simp <;> omega
theorem b7x(f:Int→List Int)(y:Int):∀l:List Int,R4 (l.flatMap f) y=(l.map λx=>R4 (f x) y).sum
 | []=>R6 y
 | x::l=>by rw[List.flatMap_cons,R5,b7x f y l,List.map_cons,List.sum_cons]
theorem Gn.inn{s s':a7}{ds:List Int}(hR:SR s)(hn:ds.Nodup)(hm:∀d∈ds,d∈Sh.lv s)(g:Gn s s' ds)(y:Int):inn s' y+R4 (ds.flatMap (outs s)) y=inn s y:=by
 unfold Sh.inn
 rw[g.lv,b4M (λh=>decide (h∉ds)) (λx=>R4 (outs s x) y) (Sh.lv s),b7x]
 have h1:((Sh.lv s).filter λh=>decide (h∉ds)).map (λx=>R4 (outs s' x) y)=((Sh.lv s).filter λh=>decide (h∉ds)).map λx=>R4 (outs s x) y:=List.map_congr_left λx hx=>by
  rw[List.mem_filter,decide_eq_true_iff] at hx
  unfold Sh.outs
  rw[g.ob x hx.1 hx.2]
 have h2:((Sh.lv s).filter λx => !decide (x∉ds)).Perm ds:=by
  rw[List.perm_ext_iff_of_nodup ((a9K (o6.2 hR)).filter _) hn]
  intro a
  rw[List.mem_filter]
  simp only[decide_not,Bool.not_not,decide_eq_true_iff]
  exact⟨λq=>q.2,λq=>⟨hm a q,q⟩⟩
 rw[h1,(h2.map λx=>R4 (outs s x) y).sum_nat]
theorem b6U{L:List g7}(hd:L.Pairwise λa b=>¬(a.Kind=b.Kind∧a.At=b.At))(k:Int):((L.filter (·.Kind==k)).map (·.At)).Nodup:=by
 unfold List.Nodup
 rw[List.pairwise_map]
 refine (hd.filter _).imp_of_mem λ{a b} ha hb h e=>?_
 rw[List.mem_filter,beq_iff_eq] at ha hb
 exact h ⟨ha.2.trans hb.2.symm,e⟩
theorem b3r{L:List g7}{m:List Int}(hd:L.Pairwise λa b=>¬(a.Kind=b.Kind∧a.At=b.At))(h:∀t∈L,(t.Kind=1∧t.At∈m)∨(t.Kind=2∧0≤t.At∧t.At≤5)):L.length≤m.length+6:=by
 have h1:L.length=(L.filter (·.Kind==1)).length+(L.filter (·.Kind==2)).length:=by
  rw[a9k (λt:g7=>t.Kind==1) L]
  congr 2
  refine List.filter_congr λt ht=>?_
  rcases h t ht with q | q
  ·simp[q.1]
  ·simp[q.1]
 have h2:=a3w (b6U hd 1) (m:=m) λa ha=>by
  obtain⟨t,ht,rfl⟩:=List.mem_map.1 ha
  rw[List.mem_filter,beq_iff_eq] at ht
  rcases h t ht.1 with q | q
  ·exact q.2
  ·omega
 have h3:=a3w (b6U hd 2) (m:=[0,1,2,3,4,5]) λa ha=>by
  obtain⟨t,ht,rfl⟩:=List.mem_map.1 ha
  rw[List.mem_filter,beq_iff_eq] at ht
  rcases h t ht.1 with q | q
  ·omega
  ·simp only[List.mem_cons,List.not_mem_nil,or_false]
   omega
 rw[List.length_map] at h2 h3
 simp only[List.length_cons,List.length_nil] at h3
 omega
theorem a7Y{q:TQ}{w:Int}:wts q w=true↔∃t∈q.L,t.Kind=2∧t.At=w:=by
 unfold wts
 rw[List.any_eq_true]
 simp
theorem a9N{q:TQ}{h:Int}:h∈b2y q↔∃t∈q.L,t.Kind=1∧t.At=h:=by
 unfold b2y
 rw[List.mem_map]
 simp only[List.mem_filter,beq_iff_eq]
 exact⟨λ⟨t,⟨a,b⟩,c⟩=>⟨t,a,b,c⟩,λ⟨t,a,b,c⟩=>⟨t,⟨a,b⟩,c⟩⟩
abbrev cz:c4:=⟨0,false,0⟩
def a2U(ds:List Int)(c:c4):Bool:=c.Intact&&c.Target != 0&&decide (c.Target∈ds)
def a6D(ds:List Int)(c:c4):c4:=if a2U ds c then ⟨c.Target,false,c.Call⟩ else c
def clr(l:List c4)(ds:List Int):List c4:=l.map (a6D ds)
def cls(l:List c4)(ds:List Int):List Nat:=(List.range l.length).filter λw=>a2U ds (l.getD w cz)&&decide (0≤(l.getD w cz).Call)
def clt(l:List c4)(ds:List Int):List g7:=(cls l ds).map λ(w:Nat)=>⟨2,(w:Int),(l.getD w cz).Call⟩
theorem b4X(ds:List Int)(c:c4):(a6D ds c).Target=c.Target∧(a6D ds c).Call=c.Call∧((a6D ds c).Intact=true↔c.Intact=true∧a2U ds c=false):=by
 unfold a6D
 cases h:a2U ds c
 ·rw[if_neg (by simp)]
  simp
 ·rw[if_pos rfl]
  simp
theorem c4p(l:List c4)(ds:List Int)(h:Int):nmg (clr l ds) h=nmg l h:=by
 unfold nmg clr
 rw[List.countP_map]
 congr 1
 funext c
 simp only[Function.comp_apply,(b4X ds c).1]
theorem a2W{l:List c4}{ds:List Int}{t:g7}:t∈clt l ds↔∃w,∃hw:w<l.length,t=⟨2,(w:Int),l[w].Call⟩∧a2U ds l[w]=true∧0≤l[w].Call:=by
 unfold clt cls
 rw[List.mem_map]
 constructor
 ·rintro⟨w,hw,rfl⟩
  rw[List.mem_filter,List.mem_range] at hw
  obtain⟨h1,h2⟩:=hw
  have e:l.getD w cz=l[w]:=by rw[List.getD_eq_getElem?_getD,List.getElem?_eq_getElem h1];rfl
  rw[e] at h2 ⊢
  rw[Bool.and_eq_true,decide_eq_true_iff] at h2
  exact⟨w,h1,rfl,h2.1,h2.2⟩
 ·rintro⟨w,hw,rfl,h2,h3⟩
  have e:l.getD w cz=l[w]:=by rw[List.getD_eq_getElem?_getD,List.getElem?_eq_getElem hw];rfl
  refine⟨w,?_,by rw[e]⟩
  rw[List.mem_filter,List.mem_range,e,Bool.and_eq_true,decide_eq_true_iff]
  exact⟨hw,h2,h3⟩
theorem b4e(l:List c4)(ds:List Int):(clt l ds).Pairwise λa b=>¬(a.Kind=b.Kind∧a.At=b.At):=by
 unfold clt cls
 rw[List.pairwise_map]
 refine (List.Pairwise.filter _ (List.nodup_range (n:=l.length))).imp λ{a b} h=>?_
 rintro⟨_,e⟩
 dsimp only at e
 omega
end Go.Sh
namespace Go.Sh
def a4o(x:Hp)(ds:List Int)(t:Tb):Hp:=⟨gnL x.S ds,x.Roots,clr x.a8 ds,t,⟨x.Q.L++clt x.a8 ds,x.Q.Cap⟩⟩
theorem b2z(q:TQ)(l:List g7)(c:Int)(h:∀t∈l,t.Kind≠1):b2y ⟨q.L++l,c⟩=b2y q:=by
 unfold b2y
 dsimp only
 rw[List.filter_append]
 have:l.filter (λt=>t.Kind==1) = []:=by
  rw[List.filter_eq_nil_iff]
  intro t ht
  simpa using h t ht
 rw[this,List.append_nil]
theorem b95{x:Hp}(hx:O0 x){ds:List Int}(hn:ds.Nodup)(hm:∀d∈ds,d∈lv x.S)
  (ho:∀d∈ds,d∉otr x)(hf:∀h∈lv x.S,h∉ds→∀v∈(ob x.S h).Fields,v∉ds)(hp:∀k v,Has x.T k v→k∉ds→v∉ds)
  {t:Tb}{vals:List Int}(ht:HR t)(h1:∀k v,Has t k v↔k∉ds∧Has x.T k v)(h2:∀y,own t y+R4 vals y=own x.T y) :
  HpS (a4o x ds t)∧Wk (a4o x ds t)∧a3j (a4o x ds t) (ds.flatMap (outs x.S)++vals):=by
 have hS:=hx.sh
 have hR:=hS.sr
 have g:=a1H ds hR hn hm
 have hlv:∀h,h∈lv (gnL x.S ds)↔h∈lv x.S∧h∉ds:=λh=>by rw[g.lv,List.mem_filter,decide_eq_true_iff]
 have hlen:(lv x.S).length≤24:=E8 (o6.2 hR)
 have hcl:∀w (hw:w<x.a8.length),a2U ds x.a8[w]=true→x.a8[w].Intact=true:=λw hw q=>by
  unfold a2U at q
  rw[Bool.and_eq_true,Bool.and_eq_true] at q
  exact q.1.1
 have htd:(x.Q.L++clt x.a8 ds).Pairwise λa b=>¬(a.Kind=b.Kind∧a.At=b.At):=by
  rw[List.pairwise_append]
  refine⟨hS.td,b4e ..,λa ha b hb q=>?_⟩
  obtain⟨w,hw,rfl,hh,_⟩:=a2W.1 hb
  have:=((hS.cl w hw).2.2.2.2 (hcl w hw hh)).2
  rw[Bool.eq_false_iff] at this
  exact this (a7Y.2 ⟨a,ha,q.1,q.2⟩)
 have htk:∀t∈x.Q.L++clt x.a8 ds,0≤t.Prog∧t.Prog≤5∧((t.Kind=1∧t.At∈lv (gnL x.S ds)∧(ob (gnL x.S ds) t.At).Started=true)∨(t.Kind=2∧0≤t.At∧t.At≤5)):=λt htt=>by
  rcases List.mem_append.1 htt with q | q
  ·obtain⟨a,b,c⟩:=hS.tk t q
   refine⟨a,b,?_⟩
   rcases c with ⟨c1,c2,c3⟩ | c
   ·have hnd:t.At∉ds:=λhd=>ho _ hd (List.mem_append.2 (.inr (a9N.2 ⟨t,q,c1,rfl⟩)))
    exact .inl ⟨c1,(hlv _).2 ⟨c2,hnd⟩,by rw[g.ob _ c2 hnd];exact c3⟩
   ·exact .inr c
  ·obtain⟨w,hw,rfl,hh,hc⟩:=a2W.1 q
   have c6:=hS.c6
   have:=(hS.cl w hw).2.1
   exact⟨hc,this,.inr ⟨rfl,by dsimp only;omega,by dsimp only;omega⟩⟩
 have hq30:(x.Q.L++clt x.a8 ds).length≤30:=by
  have:=b3r (m:=lv x.S) htd λt htt=>by
   rcases (htk t htt).2.2 with q | q
   ·exact .inl ⟨q.1,((hlv _).1 q.2.1).1⟩
   ·exact .inr q
  omega
 have hwts:∀i:Nat,wts x.Q i=false→(∀hi:i<x.a8.length,a2U ds x.a8[i]=false)→wts ⟨x.Q.L++clt x.a8 ds,x.Q.Cap⟩ i=false:=λi q1 q2=>by
  rw[Bool.eq_false_iff] at q1 ⊢
  intro q
  obtain⟨t,ht,a,b⟩:=a7Y.1 q
  rcases List.mem_append.1 ht with c | c
  ·exact q1 (a7Y.2 ⟨t,c,a,b⟩)
  ·obtain⟨w,hw,rfl,hh,_⟩:=a2W.1 c
   dsimp only at b
   have:w=i:=by omega
   subst this
   rw[q2 hw] at hh
   cases hh
 refine⟨⟨g.sr,ht,hS.r6,?_,hS.cap,hq30,htk,htd,λh hh=>?_,λh hh v hv=>?_,λk v hkv=>?_,λi hi=>?_⟩,λi hi hti=>?_,λh hh hlt=>?_⟩
 ·unfold a4o clr
  rw[List.length_map]
  exact hS.c6
 ·rcases hS.rt h hh with q | q
  ·exact .inl q
  ·have h0:h≠0:=λe=>a73 hR (e▸q)
   exact .inr ((hlv h).2 ⟨q,λhd=>ho h hd (List.mem_append.2 (.inl (a5J.2 ⟨hh,h0⟩)))⟩)
 ·obtain⟨a,b⟩:=(hlv h).1 hh
  have hv':v∈(ob x.S h).Fields:=by
   have e:=g.ob h a b
   unfold a4o at hv
   rwa [e] at hv
  rcases hS.fl h a v hv' with q | q
  ·exact .inl q
  ·exact .inr ((hlv v).2 ⟨q,hf h a b v hv'⟩)
 ·obtain⟨a,b⟩:=(h1 k v).1 hkv
  obtain⟨c,d⟩:=hS.pr k v b
  exact⟨(hlv k).2 ⟨c,a⟩,(hlv v).2 ⟨d,hp k v b a⟩⟩
 ·have hi':i<x.a8.length:=by
   unfold a4o clr at hi
   simpa using hi
  have e:(a4o x ds t).a8[i]=a6D ds x.a8[i]:=List.getElem_map _
  obtain⟨a1,a2,a3,a4,a5⟩:=hS.cl i hi'
  obtain⟨b1,b2,b3⟩:=b4X ds x.a8[i]
  rw[e,b1,b2]
  refine⟨a1,a2,λq=>?_,λq=>?_,λq=>?_⟩
  ·rw[Bool.eq_false_iff]
   intro q2
   rw[a3 q] at b3
   exact absurd (b3.1 q2).1 (by decide)
  ·obtain⟨p,hp1,hp2,hp3⟩:=a4 q
   refine⟨p,by show p<(gnL x.S ds).S.a8.length;rw[g.len];exact hp1,?_⟩
   show Th (ce (gnL x.S ds) p)∧_=1+(p:Int)+32*(ce (gnL x.S ds) p).Gen
   rw[g.ce]
   split
   ·have hw:=(hx.wk p hp1 hp2).1
    have:=a9O hi' q
    rw[hp3] at this
    unfold gnC
    rw[if_neg (by omega)]
    exact⟨.inr rfl,hp3⟩
   ·exact⟨hp2,hp3⟩
  ·obtain⟨c1,c2⟩:=b3.1 q
   obtain⟨d1,d2⟩:=a5 c1
   have h0:x.a8[i].Target≠0:=λe=>a73 hR (e▸d1)
   refine⟨(hlv _).2 ⟨d1,λhd=>?_⟩,hwts i d2 λ_=>c2⟩
   have:a2U ds x.a8[i]=true:=by
    unfold a2U
    simp[c1,h0,hd]
   rw[this] at c2
   cases c2
 ·have hi':i<x.S.S.a8.length:=by
   have:=g.len
   have hi:i<(gnL x.S ds).S.a8.length:=hi
   omega
  show (ce (gnL x.S ds) i).Val.Weak=(nmg (clr x.a8 ds) (1+(i:Int)+32*(ce (gnL x.S ds) i).Gen):Int)∧((ce (gnL x.S ds) i).State=2→_)
  have hti':Th (ce (gnL x.S ds) i):=hti
  show _∧((ce (gnL x.S ds) i).State=2→1≤(ce (gnL x.S ds) i).Val.Weak∧(ce (gnL x.S ds) i).Val.Fields = []∧(ce (gnL x.S ds) i).Val.Strong=0)
  rw[c4p]
  rw[g.ce] at hti' ⊢
  split
  ·rename_i q
   rw[if_pos q] at hti'
   obtain⟨d,hd,rfl⟩:=List.mem_map.1 q
   have hp:=u7 hR (hm d hd)
   have hw:=(hx.wk _ hi' (.inl hp.2.1)).1
   unfold gnC at hti' ⊢
   split at hti'
   ·exfalso
    unfold Th at hti'
    split at hti' <;> simp at hti'
   ·rename_i q2
    rw[if_neg q2]
    have:=(hR.ok _ hi' (.inl hp.2.1)).wk
    exact⟨hw,λ_=>⟨by dsimp only;omega,rfl,rfl⟩⟩
  ·rename_i q
   rw[if_neg q] at hti'
   exact hx.wk i hi' hti'
 ·obtain⟨a,b⟩:=(hlv h).1 hh
  have e:=g.ob h a b
  have e':ob (a4o x ds t).S h=ob x.S h:=e
  rw[e'] at hlt ⊢
  have hf:=hx.fair h a hlt
  rw[R6] at hf
  rw[hf]
  have i1:=g.inn hR hn hm h
  have i2:=h2 h
  have i3:b2y ⟨x.Q.L++clt x.a8 ds,x.Q.Cap⟩=b2y x.Q:=b2z _ _ _ λt ht=>by
   obtain⟨w,_,rfl,_⟩:=a2W.1 ht
   simp
  unfold nms otr a4o
  dsimp only
  rw[i3,R5 (ds.flatMap (outs x.S)),R5]
  omega
theorem b28:∀(l:List Int) {x:Hp},HpS x→Wk x→a3j x l→O0 (l.foldl N7 x)
 | [],x,h1,h2,h3=>⟨h1,h2,h3⟩
 | v::l,x,h1,h2,h3=>b28 l (h1.st v λc=>V1) (h2.st h1.sr v λc=>V1) (b7i h1.sr h3)
abbrev srt(o:k9):k9:=⟨o.Serial,o.Strong,o.Weak,o.Prog,true,o.Fields⟩
abbrev qtk(x:Hp)(h:Int):g7:=⟨1,h,(ob x.S h).Prog⟩
noncomputable def quH(x:Hp)(h:Int):Hp:=C0 ⟨seO x.S h (srt (ob x.S h)),x.Roots,x.a8,x.T,⟨x.Q.L ++ [qtk x h],x.Q.Cap⟩⟩ h
theorem b0K{x:Hp}(hx:O0 x){h:Int}(hh:h∈lv x.S)(hp:0≤(ob x.S h).Prog)(hs:(ob x.S h).Started=false):O0 (quH x h):=by
 have hS:=hx.sh
 have hR:=hS.sr
 have oko:=I1 hR hh
 have ho:OkO x.S (srt (ob x.S h)):=⟨oko.s1,oko.s2,oko.st,oko.wk,oko.p1,oko.p2,oko.fl⟩
 have r1:=a1k (o:=srt (ob x.S h)) hR hh rfl ho
 have l1:=a2K (o:=srt (ob x.S h)) hR hh rfl ho
 have o1:∀j,j∈lv x.S→ob (seO x.S h (srt (ob x.S h))) j=if j=h then srt (ob x.S h) else ob x.S j:=λj hj=>by
  have:=I2 hR hj
  exact a1T (o:=srt (ob x.S h)) hR hh rfl ho (by omega)
 have hlen:(lv x.S).length≤24:=E8 (o6.2 hR)
 have s1:HpS (wS x (seO x.S h (srt (ob x.S h)))):=hS.of r1 l1 (λk i q=>(b8K (o:=srt (ob x.S h)) hR hh rfl ho).2 q) (λk hk q=>by
  rw[o1 k hk]
  split
  ·rfl
  ·exact q) λk hk v hv=>by
  rw[o1 k hk] at hv
  split at hv
  ·rename_i e;subst e;exact hS.fl k hk v hv
  ·exact hS.fl k hk v hv
 have w1:Wk (wS x (seO x.S h (srt (ob x.S h)))):=λi hi ht=>by
  have J3:=u7 hR hh
  have hc:=b8L (o:=srt (ob x.S h)) hR hh rfl ho i
  dsimp only at hi ht ⊢
  rw[hc] at ht ⊢
  have hi':i<x.S.S.a8.length:=by unfold seO at hi;rwa [K7] at hi
  split at ht
  ·rename_i e
   subst e
   rw[if_pos rfl]
   dsimp only
   have:=hx.wk _ hi' (.inl J3.2.1)
   rw[Q3 hR J3]
   exact⟨this.1,λq=>absurd q (by rw[J3.2.1];decide)⟩
  ·rename_i e
   rw[if_neg e]
   exact hx.wk i hi' ht
 have htd:(x.Q.L ++ [qtk x h]).Pairwise λa b=>¬(a.Kind=b.Kind∧a.At=b.At):=by
  rw[List.pairwise_append]
  refine⟨hS.td,by simp,λa ha b hb q=>?_⟩
  rw[List.mem_singleton] at hb
  subst hb
  dsimp only at q
  rcases (hS.tk a ha).2.2 with c | c
  ·rw[q.2,hs] at c
   exact absurd c.2.2 (by decide)
  ·omega
 have htk:∀t∈x.Q.L ++ [qtk x h],0≤t.Prog∧t.Prog≤5∧((t.Kind=1∧t.At∈lv (seO x.S h (srt (ob x.S h)))∧(ob (seO x.S h (srt (ob x.S h))) t.At).Started=true)∨(t.Kind=2∧0≤t.At∧t.At≤5)):=λt ht=>by
  rcases List.mem_append.1 ht with q | q
  ·exact s1.tk t q
  ·rw[List.mem_singleton] at q
   subst q
   refine⟨hp,oko.p2,.inl ⟨rfl,by rw[l1];exact hh,?_⟩⟩
   dsimp only
   rw[o1 h hh,if_pos rfl]
 have hq30:(x.Q.L ++ [qtk x h]).length≤30:=by
  have:=b3r (m:=lv x.S) htd λt ht=>by
   rcases (htk t ht).2.2 with q | q
   ·exact .inl ⟨q.1,by rw[←l1];exact q.2.1⟩
   ·exact .inr q
  omega
 have s2:HpS ⟨seO x.S h (srt (ob x.S h)),x.Roots,x.a8,x.T,⟨x.Q.L ++ [qtk x h],x.Q.Cap⟩⟩:=by
  refine⟨s1.sr,s1.hr,s1.r6,s1.c6,s1.cap,hq30,htk,htd,s1.rt,s1.fl,s1.pr,λi hi=>?_⟩
  obtain⟨a,b,c,d,e⟩:=s1.cl i hi
  refine⟨a,b,c,d,λq=>⟨(e q).1,?_⟩⟩
  have:=(e q).2
  rw[Bool.eq_false_iff] at this ⊢
  intro q2
  obtain⟨t,ht,k1,k2⟩:=a7Y.1 q2
  rcases List.mem_append.1 ht with q3 | q3
  ·exact this (a7Y.2 ⟨t,q3,k1,k2⟩)
  ·rw[List.mem_singleton] at q3
   subst q3
   dsimp only at k1
   omega
 have w2:Wk ⟨seO x.S h (srt (ob x.S h)),x.Roots,x.a8,x.T,⟨x.Q.L ++ [qtk x h],x.Q.Cap⟩⟩:=w1
 refine⟨s2.st h λc=>D2,w2.st s2.sr h λc=>D2,λk hk hlt=>?_⟩
 have hk':k∈lv x.S:=by
  have:lv (quH x h).S=lv x.S:=(G7 s2.sr h λc=>D2).lv.trans l1
  rw[←this];exact hk
 have hst:(ob (quH x h).S k).Strong=if k=h then W7 (ob x.S k).Strong else (ob x.S k).Strong:=by
  have:=b03 (x:=⟨seO x.S h (srt (ob x.S h)),x.Roots,x.a8,x.T,⟨x.Q.L ++ [qtk x h],x.Q.Cap⟩⟩) s2.sr h (f:=W7) (λc=>D2) (k:=k) (by rw[←l1] at hk';exact hk')
  refine Eq.trans this ?_
  dsimp only
  rw[o1 k hk']
  by_cases e:k=h
  ·subst e
   rw[if_pos rfl,if_pos rfl,if_pos rfl]
  ·rw[if_neg e,if_neg e,if_neg e]
 have hnm:nms (quH x h) k=nms x k+if k=h then 1 else 0:=by
  have:=b18 (x:=⟨seO x.S h (srt (ob x.S h)),x.Roots,x.a8,x.T,⟨x.Q.L ++ [qtk x h],x.Q.Cap⟩⟩) s2.sr h (f:=W7) (λc=>D2) k
  refine Eq.trans this ?_
  have hi:=b9e (o:=srt (ob x.S h)) hR hh rfl ho k
  dsimp only at hi
  have h0:k≠0:=λe=>a73 hR (e▸hk')
  unfold nms otr b2y
  dsimp only
  rw[List.filter_append,List.map_append,R5,R5,R5]
  have:R4 (List.map (·.At) (List.filter (λt:g7=>t.Kind==1) [qtk x h])) k=if k=h then 1 else 0:=by
   show R4 [h] k=_
   rw[J7,R6]
   by_cases e:k=h
   ·rw[if_pos ⟨e.symm,h0⟩,if_pos e]
   ·rw[if_neg (λq=>e q.1.symm),if_neg e]
  rw[this]
  omega
 rw[hst] at hlt ⊢
 rw[hnm,R6]
 have hpos:=(I1 hR hk').st
 by_cases e:k=h
 ·rw[if_pos e] at hlt ⊢
  rw[if_pos e]
  have:=hx.fair k hk' (by unfold W7 at hlt;split at hlt <;> omega)
  rw[R6] at this
  unfold W7 at hlt ⊢
  split at hlt
  ·omega
  ·rename_i q
   rw[if_neg q,if_neg (by omega)]
   omega
 ·rw[if_neg e] at hlt ⊢
  rw[if_neg e]
  have:=hx.fair k hk' hlt
  rw[R6] at this
  exact this
end Go.Sh
namespace Go.Sh
noncomputable def zr(x:Hp):List Int:=(lv x.S).filter λh=>(ob x.S h).Strong==0
theorem a1r{x:Hp}{h:Int}:h∈zr x↔h∈lv x.S∧(ob x.S h).Strong=0:=by
 unfold zr
 rw[List.mem_filter,beq_iff_eq]
theorem b6k{x:Hp}(hx:O0 x){z:Int}(hz:z∈zr x):nms x z=0:=by
 obtain⟨a,b⟩:=a1r.1 hz
 have:=hx.fair z a (by omega)
 rw[R6] at this
 omega
theorem b7y{l:List Int}{h:Int}(h0:h≠0)(e:R4 l h=0):h∉l:=λq=>by
 have:=a1p.2 ⟨h0,q⟩
 omega
theorem c2d{α:Type}(f:α→Nat):∀ {l:List α} {a:α},a∈l→f a≤(l.map f).sum
 | b::l,a,h=>by
  rw[List.map_cons,List.sum_cons]
  rcases List.mem_cons.1 h with e | e
  ·subst e;omega
  ·have:=c2d f e;omega
theorem b5q{s:a7}{a y:Int}(ha:a∈lv s):R4 (outs s a) y≤inn s y:=c2d (λx=>R4 (outs s x) y) ha
theorem b5G{t:Tb}{k v:Int}(h:Has t k v)(h0:v≠0):0<own t v:=List.countP_pos_iff.2 ⟨⟨k,v⟩,a18.2 h,by simp[h0]⟩
def wot(t:Tb)(ks:List Int):Tb × List Int:=(T4 t ks).getD (t,[])
theorem a3M{t:Tb}(hT:HR t)(ks:List Int)(hks:ks.length≤1000):T4 t ks=some (wot t ks)∧HR (wot t ks).1∧(wot t ks).2.length≤ks.length∧a4g (t.map J3) ks=some ((wot t ks).1.map J3,(wot t ks).2) ∧
  (∀k v,Has (wot t ks).1 k v↔k∉ks∧Has t k v)∧∀y,own (wot t ks).1 y+R4 (wot t ks).2 y=own t y:=by
 obtain⟨a,had,h1,h2,h3,h4,h5,h6,h7,h8,h9⟩:=b7F hT ks hks
 have:wot t ks=(a,had):=by unfold wot;rw[h1];rfl
 rw[this]
 exact⟨h1,h2,h4,h5,h6,h9⟩
noncomputable def buH(x:Hp)(ds:List Int):Hp:=(ds.flatMap (outs x.S)++(wot x.T ds).2).foldl N7 (a4o x ds (wot x.T ds).1)
theorem a41:∀(l:List Int) {x:Hp},SR x.S→Kin x.S (l.foldl N7 x).S∧l.foldl N7 x=wS x (l.foldl N7 x).S
 | [],x,h=>⟨Kin.refl h,rfl⟩
 | v::l,x,h=>by
  have k1:=G7 h v (f:=a5q) λc=>V1
  obtain⟨k2,e⟩:=a41 l (x:=N7 x v) k1.sr
  refine⟨k1.trans k2,?_⟩
  show l.foldl N7 (N7 x v)=wS x (l.foldl N7 (N7 x v)).S
  rw[e,c7g x v]
theorem b4b{x:Hp}(hx:O0 x){ds:List Int}(hn:ds.Nodup)(hm:∀d∈ds,d∈lv x.S)
  (ho:∀d∈ds,d∉otr x)(hf:∀h∈lv x.S,h∉ds→∀v∈(ob x.S h).Fields,v∉ds)(hp:∀k v,Has x.T k v→k∉ds→v∉ds):O0 (buH x ds):=by
 have hl:ds.length≤24:=Nat.le_trans (a3w hn hm) (E8 (o6.2 hx.sh.sr))
 obtain⟨_,w1,_,_,w2,w3⟩:=a3M hx.sh.hr ds (by omega)
 obtain⟨a,b,c⟩:=b95 hx hn hm ho hf hp w1 w2 w3
 exact b28 _ a b c
theorem b7N{x:Hp}(hR:SR x.S){ds:List Int}(hn:ds.Nodup)(hm:∀d∈ds,d∈lv x.S):lv (buH x ds).S=(lv x.S).filter λh=>decide (h∉ds):=by
 have g:=a1H ds hR hn hm
 exact (a41 (ds.flatMap (outs x.S)++(wot x.T ds).2) (x:=a4o x ds (wot x.T ds).1) g.sr).1.lv.trans g.lv
theorem b7O{x:Hp}(hR:SR x.S){ds:List Int}(hn:ds.Nodup)(hm:∀d∈ds,d∈lv x.S){k:Int}(hk:k∈lv x.S)(hd:k∉ds):∃n,ob (buH x ds).S k=stg (ob x.S k) n:=by
 have g:=a1H ds hR hn hm
 have hr:=I2 hR hk
 obtain⟨n,e⟩:=(a41 (ds.flatMap (outs x.S)++(wot x.T ds).2) (x:=a4o x ds (wot x.T ds).1) g.sr).1.ob k (by omega)
 refine⟨n,?_⟩
 have e':ob (buH x ds).S k=_:=e
 have g':ob (a4o x ds (wot x.T ds).1).S k=ob x.S k:=g.ob k hk hd
 rw[e',g']
theorem a9d{x:Hp}(hR:SR x.S){ds:List Int}(hn:ds.Nodup)(hm:∀d∈ds,d∈lv x.S):(buH x ds).Roots=x.Roots∧(buH x ds).a8=clr x.a8 ds∧(buH x ds).T=(wot x.T ds).1∧(buH x ds).Q=⟨x.Q.L++clt x.a8 ds,x.Q.Cap⟩:=by
 have g:=a1H ds hR hn hm
 have e:=(a41 (ds.flatMap (outs x.S)++(wot x.T ds).2) (x:=a4o x ds (wot x.T ds).1) g.sr).2
 have e':buH x ds=wS (a4o x ds (wot x.T ds).1) (buH x ds).S:=e
 rw[e']
 exact⟨rfl,rfl,rfl,rfl⟩
theorem b3F{x:Hp}(hx:O0 x){z:Int}(hz:z∈zr x):O0 (buH x [z]):=by
 obtain⟨a,b⟩:=a1r.1 hz
 have h0:z≠0:=λe=>a73 hx.sh.sr (e▸a)
 have hn:=b6k hx hz
 unfold nms at hn
 refine b4b hx (by simp) (by simpa using a) (λd hd=>?_) (λh hh hne v hv q=>?_) (λk v hkv _ q=>?_)
 ·rw[List.mem_singleton] at hd
  subst hd
  exact b7y h0 (by omega)
 ·rw[List.mem_singleton] at q
  subst q
  have:=b5q (y:=v) hh
  have h1:=a1p.2 ⟨h0,show v∈outs x.S h from a5J.2 ⟨hv,h0⟩⟩
  omega
 ·rw[List.mem_singleton] at q
  subst q
  have:=b5G hkv h0
  omega
def due(o:k9):Bool:=decide (0≤o.Prog) && !o.Started
noncomputable def stp(x:Hp):Hp:=match zr x with
 | []=>x
 | z::_=>if due (ob x.S z) then quH x z else buH x [z]
noncomputable def stN:Nat→Hp→Hp
 | 0,x=>x
 | n+1,x=>stN n (stp x)
theorem a2s(n:Nat)(x:Hp):stN (n+1) x=stp (stN n x):=by
 induction n generalizing x with
 | zero=>rfl
 | succ n ih=>exact ih (stp x)
theorem b0b{x:Hp}(h:zr x = []):stp x=x:=by unfold stp;rw[h]
theorem a5b{x:Hp}{z:Int}{l:List Int}(h:zr x=z::l):stp x=if due (ob x.S z) then quH x z else buH x [z]:=by unfold stp;rw[h]
theorem c00{x:Hp}(hx:O0 x):O0 (stp x):=by
 cases h:zr x with
 | nil=>rw[b0b h];exact hx
 | cons z l=>
  have hz:z∈zr x:=by rw[h];exact List.mem_cons_self ..
  rw[a5b h]
  split
  ·rename_i q
   unfold due at q
   rw[Bool.and_eq_true,decide_eq_true_iff,Bool.not_eq_true'] at q
   exact b0K hx (a1r.1 hz).1 q.1 q.2
  ·exact b3F hx hz
theorem a0T{x:Hp}(hx:O0 x)(n:Nat):O0 (stN n x):=by
 induction n with
 | zero=>exact hx
 | succ n ih=>rw[a2s];exact c00 ih
section
variable{x:Hp}(hR:SR x.S){h:Int}(hh:h∈lv x.S)
include hR hh
theorem a7B:Kin (seO x.S h (srt (ob x.S h))) (quH x h).S∧(quH x h).Roots=x.Roots∧(quH x h).a8=x.a8∧(quH x h).T=x.T∧(quH x h).Q=⟨x.Q.L ++ [qtk x h],x.Q.Cap⟩:=by
 have oko:=I1 hR hh
 have r1:=a1k (o:=srt (ob x.S h)) hR hh rfl ⟨oko.s1,oko.s2,oko.st,oko.wk,oko.p1,oko.p2,oko.fl⟩
 refine⟨G7 (x:=⟨seO x.S h (srt (ob x.S h)),x.Roots,x.a8,x.T,⟨x.Q.L ++ [qtk x h],x.Q.Cap⟩⟩) r1 h λc=>D2,?_⟩
 have e:quH x h=wS ⟨seO x.S h (srt (ob x.S h)),x.Roots,x.a8,x.T,⟨x.Q.L ++ [qtk x h],x.Q.Cap⟩⟩ (quH x h).S:=b3e _ h
 rw[e]
 exact⟨rfl,rfl,rfl,rfl⟩
theorem b5K:lv (quH x h).S=lv x.S:=by
 have oko:=I1 hR hh
 exact (a7B hR hh).1.lv.trans (a2K (o:=srt (ob x.S h)) hR hh rfl ⟨oko.s1,oko.s2,oko.st,oko.wk,oko.p1,oko.p2,oko.fl⟩)
theorem b2V{k:Int}(hk:k∈lv x.S):∃n,ob (quH x h).S k=stg (if k=h then srt (ob x.S h) else ob x.S k) n:=by
 have oko:=I1 hR hh
 have hr:=I2 hR hk
 obtain⟨n,e⟩:=(a7B hR hh).1.ob k (by omega)
 refine⟨n,?_⟩
 rw[e,a1T (o:=srt (ob x.S h)) hR hh rfl ⟨oko.s1,oko.s2,oko.st,oko.wk,oko.p1,oko.p2,oko.fl⟩ (by omega)]
end
noncomputable def mu(x:Hp):Nat:=(lv x.S).length+((lv x.S).filter λh => !(ob x.S h).Started).length
theorem c8p{x:Hp}(hR:SR x.S):mu x≤48:=by
 have h1:(lv x.S).length≤24:=E8 (o6.2 hR)
 have h2:((lv x.S).filter λh => !(ob x.S h).Started).length≤(lv x.S).length:=List.length_filter_le ..
 unfold mu
 omega
theorem c7r{x:Hp}(hx:O0 x)(h:zr x ≠ []):mu (stp x)<mu x:=by
 cases hz:zr x with
 | nil=>exact absurd hz h
 | cons z l=>
  have hzm:z∈zr x:=by rw[hz];exact List.mem_cons_self ..
  have hzl:=(a1r.1 hzm).1
  have hR:=hx.sh.sr
  rw[a5b hz]
  split
  ·rename_i q
   unfold due at q
   rw[Bool.and_eq_true,decide_eq_true_iff,Bool.not_eq_true'] at q
   unfold mu
   rw[b5K hR hzl]
   have:=filter_lt (p:=λh => !(ob (quH x z).S h).Started) (q:=λh => !(ob x.S h).Started) (l:=lv x.S) (λk hk hp=>by
    obtain⟨n,e⟩:=b2V hR hzl hk
    rw[e] at hp
    split at hp
    ·exact absurd hp (by simp)
    ·exact hp) z hzl (by rw[q.2];rfl) (by
    obtain⟨n,e⟩:=b2V hR hzl hzl
    rw[e,if_pos rfl]
    rfl)
   omega
  ·unfold mu
   have hn:([z]:List Int).Nodup:=by simp
   have hm:∀d ∈ [z],d∈lv x.S:=by simpa using hzl
   rw[b7N hR hn hm,List.filter_filter]
   have h1:((lv x.S).filter λh=>decide (h ∉ [z])).length<((lv x.S).filter λ_=>true).length:=filter_lt (λ_ _ _=>rfl) z hzl rfl (by simp)
   rw[List.filter_eq_self.2 (λ_ _=>rfl)] at h1
   have h2:((lv x.S).filter λa=>(!(ob (buH x [z]).S a).Started)&&decide (a ∉ [z])).length≤((lv x.S).filter λh => !(ob x.S h).Started).length:=by
    rw[←List.countP_eq_length_filter,←List.countP_eq_length_filter]
    refine List.countP_mono_left λa ha hp=>?_
    rw[Bool.and_eq_true,decide_eq_true_iff] at hp
    obtain⟨n,e⟩:=b7O hR hn hm ha hp.2
    rw[e] at hp
    exact hp.1
   omega
noncomputable def a3R(x:Hp):Hp:=stN 100 x
theorem b00{x:Hp}(hx:O0 x):∃n,n≤48∧zr (stN n x) = []∧(∀j,j<n→zr (stN j x) ≠ [])∧a3R x=stN n x:=by
 have key:∀m,(∃n,n≤m∧zr (stN n x) = [])∨mu (stN m x)+m≤mu x:=by
  intro m
  induction m with
  | zero=>exact .inr (Nat.le_refl _)
  | succ m ih=>
   rcases ih with ⟨n,h1,h2⟩ | ih
   ·exact .inl ⟨n,by omega,h2⟩
   ·by_cases q:zr (stN m x) = []
    ·exact .inl ⟨m,by omega,q⟩
    ·have:=c7r (a0T hx m) q
     rw[←a2s] at this
     exact .inr (by omega)
 have h48:=c8p hx.sh.sr
 have hex:∃n,n≤48∧zr (stN n x) = []:=by
  rcases key 49 with ⟨n,h1,h2⟩ | h
  ·rcases Nat.lt_or_ge n 49 with q | q
   ·exact⟨n,by omega,h2⟩
   ·rcases key 48 with h | h
    ·exact h
    ·have:mu (stN 48 x)=0:=by omega
     refine⟨48,Nat.le_refl _,?_⟩
     have hl:(lv (stN 48 x).S).length=0:=by unfold mu at this;omega
     unfold zr
     rw[List.eq_nil_of_length_eq_zero hl]
     rfl
  ·omega
 obtain⟨n,⟨hn,hz⟩,hmin⟩:=a0y hex
 refine⟨n,hn,hz,λj hj q=>?_,?_⟩
 ·have:=hmin j ⟨by omega,q⟩
  omega
 ·have:∀k,stN (n+k) x=stN n x:=λk=>by
   induction k with
   | zero=>rfl
   | succ k ih=>rw[show n+(k+1)=(n+k)+1 by omega,a2s,ih,b0b hz]
  have h100:=this (100-n)
  rw[show n+(100-n)=100 by omega] at h100
  exact h100
theorem a3G{x:Hp}(hx:O0 x):O0 (a3R x):=a0T hx 100
theorem c0V{x:Hp}(hx:O0 x):zr (a3R x) = []:=by
 obtain⟨n,_,h,_,e⟩:=b00 hx
 rw[e];exact h
theorem b7r{x:Hp}(h:zr x = []):a3R x=x:=by
 have:∀n,stN n x=x:=λn=>by
  induction n with
  | zero=>rfl
  | succ n ih=>rw[a2s,ih,b0b h]
 exact this 100
end Go.Sh
namespace Go.Sh
section
variable{x:Hp}(hR:SR x.S)
include hR
theorem a2h{h:Int}(hh:h∈lv x.S):h≤9223372036854775807:=by have:=I2 hR hh;omega
theorem b0A{h:Int}(hh:h∈lv x.S):o9 x.S h=some (ob x.S h,0):=by
 obtain⟨e,h1,h2⟩:=N2 (o6.2 hR) (a2h hR hh)
 rw[h1,h2.2 hh]
theorem a9r{h:Int}(hh:h∈lv x.S):C7 (sO x.S) h=some (oo (ob x.S h),0):=by
 have:=hR.len
 rw[a4F x.S (by omega) (a2h hR hh),b0A hR hh]
 rfl
theorem zero_eq:a0S x=some (zr x):=by
 have h24:(lv x.S).length≤24:=E8 (o6.2 hR)
 unfold a0S
 simp only[jn]
 rw[V2 (o6.2 hR),d1e]
 rw[B8 (lv x.S) (λb h=>if (ob x.S h).Strong==0 then b ++ [h] else b) id (λk b=>b.length≤k) (by omega) (Nat.le_refl _) (λk hk b hb=>?_) (λb hb=>by simp)]
 ·rw[foldl_filter]
  rfl
 ·simp only[Int.ofNat_lt,hk,decide_true,if_true,n0 hk,d1e,b0A hR (List.getElem_mem hk)]
  by_cases c:((ob x.S (lv x.S)[k]).Strong==0)=true
  ·rw[if_pos c,if_pos c,u4 (by omega) (by simp;omega),d1e,k7]
   exact⟨rfl,by simp;omega⟩
  ·rw[if_neg c,if_neg c,k7]
   exact⟨rfl,by omega⟩
theorem c3E:a69 (hO x)=some (zr x):=by
 have h24:(lv x.S).length≤24:=E8 (o6.2 hR)
 unfold a69
 simp only[jn]
 rw[show (hO x).S=sO x.S from rfl,a5D (o6.2 hR),d1e]
 rw[B8 (lv x.S) (λb h=>if (ob x.S h).Strong==0 then b ++ [h] else b) id (λk b=>b.length≤k) (by omega) (Nat.le_refl _) (λk hk b hb=>?_) (λb hb=>by simp)]
 ·rw[foldl_filter]
  rfl
 ·simp only[Int.ofNat_lt,hk,decide_true,if_true,n0 hk,d1e,a9r hR (List.getElem_mem hk)]
  by_cases c:((ob x.S (lv x.S)[k]).Strong==0)=true
  ·rw[show ((oo (ob x.S (lv x.S)[k])).Strong==0)=true from c,if_pos rfl,if_pos c,u4 (by omega) (by simp;omega),d1e,k7]
   exact⟨rfl,by simp;omega⟩
  ·rw[if_neg (show ¬((oo (ob x.S (lv x.S)[k])).Strong==0)=true from c),if_neg c,k7]
   exact⟨rfl,by omega⟩
end
noncomputable def quD(x:Hp)(h:Int):Hp:=if h∈lv x.S∧due (ob x.S h)=true then quH x h else x
theorem b52{s:a7}(hR:SR s){h:Int}(hl:h∈lv s):OkO s (srt (ob s h)):=by
 have oko:=I1 hR hl
 exact⟨oko.s1,oko.s2,oko.st,oko.wk,oko.p1,oko.p2,oko.fl⟩
theorem b9z(o:k9):I4 o=some (due o):=by
 unfold I4 due
 congr 1
section
variable{x:Hp}(hx:O0 x)(hS:SL x){h:Int}(hh:h≤9223372036854775807)
include hx hS hh
theorem b2W(hl:h∈lv x.S)(hd:due (ob x.S h)=true):x.Q.L.length<30:=by
 have hb:0≤(ob x.S h).Prog∧(ob x.S h).Started=false:=by
  unfold due at hd
  rw[Bool.and_eq_true,decide_eq_true_iff,Bool.not_eq_true'] at hd
  exact hd
 have:=(b0K hx hl hb.1 hb.2).sh.q30
 rw[(a7B hx.sh.sr hl).2.2.2.2] at this
 simp at this
 omega
theorem b4A:N8 x h=some (quD x h):=by
 have hR:=hx.sh.sr
 have cap:=hx.sh.cap
 obtain⟨e,h1,h2⟩:=N2 (o6.2 hR) hh
 unfold N8 quD
 rw[h1,d1e]
 by_cases hl:h∈lv x.S
 ·have e0:e=0:=h2.2 hl
  subst e0
  have e1:(((0:Int) != 0)==false)=true:=rfl
  simp only[e1,X0,b9z,d1e]
  cases hd:due (ob x.S h)
  ·rw[if_pos (by simp),if_neg (by simp)]
  ·rw[if_neg (by simp),if_pos ⟨hl,rfl⟩]
   have hr:=b2W hx hS hh hl hd
   have hok:=b52 hR hl
   have l1:=a2K (o:=srt (ob x.S h)) hR hl rfl hok
   have r1:=a1k (o:=srt (ob x.S h)) hR hl rfl hok
   rw[a97 (o:=srt (ob x.S h)) hR hl rfl hok,d1e,c5T _ (by omega),d1e]
   have et:tad x.Q ⟨1,h,(ob x.S h).Prog⟩=(⟨x.Q.L ++ [qtk x h],x.Q.Cap⟩,0):=by
    unfold tad
    rw[if_neg (by omega)]
   rw[et]
   dsimp only
   rw[a7M r1 hh (λk hk=>?_),d1e]
   ·rfl
   ·dsimp only at hk ⊢
    rw[l1] at hk
    rw[a1T (o:=srt (ob x.S h)) hR hl rfl hok (a2h hR hk)]
    split
    ·exact hS h hl
    ·exact hS k hk
 ·have e0:e≠0:=λq=>hl (h2.1 q)
  have e1:(e != 0)=true:=by simpa using e0
  rw[e1]
  simp only[show ((true==false)=true)=False by simp,p8,if_false,d1e,Bool.true_or,if_true]
  rw[if_neg (λq=>hl q.1)]
theorem c1A:a7H (hO x) h=some (decide (h∈lv x.S)&&due (ob x.S h)):=by
 have hR:=hx.sh.sr
 have hlen:=hR.len
 obtain⟨e,h1,h2⟩:=N2 (o6.2 hR) hh
 unfold a7H
 rw[show (hO x).S=sO x.S from rfl,a4F x.S (by omega) hh,h1,Option.map_some,d1e,b1X hR hh,d1e]
 unfold due oo
 rw[Bool.and_assoc]
theorem b69:a3B (hO x) h=some (hO (quD x h)):=by
 have hR:=hx.sh.sr
 have cap:=hx.sh.cap
 unfold a3B quD
 rw[c1A hx hS hh,d1e]
 by_cases hl:h∈lv x.S
 ·rw[decide_eq_true hl,Bool.true_and]
  cases hd:due (ob x.S h)
  ·rw[if_pos (by simp),if_neg (by simp)]
  ·rw[if_neg (by simp),if_pos ⟨hl,rfl⟩]
   have hr:=b2W hx hS hh hl hd
   have hok:=b52 hR hl
   have l1:=a2K (o:=srt (ob x.S h)) hR hl rfl hok
   have r1:=a1k (o:=srt (ob x.S h)) hR hl rfl hok
   rw[show (hO x).S=sO x.S from rfl,a9r hR hl,d1e]
   have es:K2 (sO x.S) h (oo (srt (ob x.S h)))=some (sO (seO x.S h (srt (ob x.S h))),0):=a98 hR hl rfl hok
   have es':K2 (sO x.S) h ⟨(oo (ob x.S h)).Serial,(oo (ob x.S h)).Strong,(oo (ob x.S h)).Weak,(oo (ob x.S h)).Prog,true,(oo (ob x.S h)).Fields⟩=some (sO (seO x.S h (srt (ob x.S h))),0):=es
   rw[es',d1e]
   have ea:a5O (hO x).Q ⟨1,h,(oo (ob x.S h)).Prog⟩=some (tqR ⟨x.Q.L ++ [qtk x h],x.Q.Cap⟩,0):=by
    have:=c5P (q:=x.Q) (qtk x h) (by omega)
    have et:tad x.Q (qtk x h)=(⟨x.Q.L ++ [qtk x h],x.Q.Cap⟩,0):=by
     unfold tad
     rw[if_neg (by omega)]
    rw[et] at this
    exact this
   rw[ea,d1e]
   have er:=a90 (x:=⟨seO x.S h (srt (ob x.S h)),x.Roots,x.a8,x.T,⟨x.Q.L ++ [qtk x h],x.Q.Cap⟩⟩) r1 hh (λk hk=>by
    dsimp only at hk ⊢
    rw[l1] at hk
    rw[a1T (o:=srt (ob x.S h)) hR hl rfl hok (a2h hR hk)]
    split
    ·exact hS h hl
    ·exact hS k hk)
   have er':a0G ⟨sO (seO x.S h (srt (ob x.S h))),(hO x).Roots,(hO x).a8,(hO x).T,tqR ⟨x.Q.L ++ [qtk x h],x.Q.Cap⟩⟩ h=_:=er
   dsimp only
   rw[er',d1e]
   rfl
 ·rw[decide_eq_false hl,Bool.false_and]
  rw[if_pos (by simp),if_neg (λq=>hl q.1)]
end
noncomputable def lvo(x:Hp)(l:List Int):List Int:=l.foldl (λb h=>if h∈lv x.S∧h∉b then b ++ [h] else b) []
theorem b6Q{x:Hp}{z:Int}(hz:z∈lv x.S):lvo x [z] = [z]:=by
 unfold lvo
 simp[hz]
section
variable{x:Hp}(hR:SR x.S)
include hR
theorem a9I(l:List Int)(hl:l.length≤1000)(hb:∀h∈l,h≤9223372036854775807):P7 x l=some (lvo x l):=by
 unfold P7
 simp only[jn]
 have key:=B8 (f:=λ((s20,s21,s22):Int × (List (Int × Bool)) × (List Int))=>
   if (decide (s20<(l.length:Int))) then
     (ix l s20).bind λv32=>
     (o9 x.S v32).bind λv33=>
     if ((v33.2==0)==true) then
      if (!((r8 s21 v32).getD (false:Bool))) then
       (app 8 s22 [v32]).bind λv34=>
       some (Sum.inl (p6 (s20+1),(m9 s21 v32 true),v34))
      else
      some (.inl (p6 (s20+1),s21,s22))
     else
     some (.inl (p6 (s20+1),s21,s22))
   else
   some (.inr s22)) l (λ(b:List (Int × Bool) × List Int) h=>if h∈lv x.S∧h∉b.2 then (m9 b.1 h true,b.2 ++ [h]) else b) (λb=>b.2) (λk b=>b.2.length≤k∧∀d,(r8 b.1 d).getD false=decide (d∈b.2)) (b0:=([],[])) (by omega) ⟨Nat.le_refl _,λd=>by simp[r8]⟩ (λk hk b hb2=>?_) (λb hb2=>by simp)
 ·rw[key,d1e]
  congr 1
  have:∀(l:List Int) (m:List (Int × Bool)) (b:List Int),(l.foldl (λ(b:List (Int × Bool) × List Int) h=>if h∈lv x.S∧h∉b.2 then (m9 b.1 h true,b.2 ++ [h]) else b) (m,b)).2=l.foldl (λb h=>if h∈lv x.S∧h∉b then b ++ [h] else b) b:=λl=>by
   induction l with
   | nil=>intro m b;rfl
   | cons h l ih=>
    intro m b
    rw[List.foldl_cons,List.foldl_cons]
    by_cases c:h∈lv x.S∧h∉b
    ·rw[if_pos c,if_pos c,ih]
    ·rw[if_neg c,if_neg c,ih]
  exact this l [] []
 ·obtain⟨hb1,hb3⟩:=hb2
  obtain⟨e,h1,h2⟩:=N2 (o6.2 hR) (hb _ (List.getElem_mem hk))
  simp only[Int.ofNat_lt,hk,decide_true,if_true,n0 hk,d1e,h1,hb3]
  by_cases hl:l[k]∈lv x.S
  ·have e0:e=0:=h2.2 hl
   subst e0
   by_cases hm:l[k]∈b.2
   ·rw[if_pos (by rfl),if_neg (by simp[hm]),if_neg (λq=>q.2 hm),k7]
    exact⟨rfl,by omega,hb3⟩
   ·rw[if_pos (by rfl),if_pos (by simp[hm]),if_pos ⟨hl,hm⟩,u4 (by omega) (by simp;omega),d1e,k7]
    refine⟨rfl,by simp;omega,λd=>?_⟩
    rw[a4Q]
    by_cases q:d=l[k]
    ·rw[if_pos q]
     simp[q]
    ·rw[if_neg q,hb3]
     simp[q]
  ·have e0:e≠0:=λq=>hl (h2.1 q)
   rw[if_neg (by simp[e0]),if_neg (λq=>hl q.1),k7]
   exact⟨rfl,by omega,hb3⟩
theorem c1B(l:List Int)(hl:l.length≤1000)(hb:∀h∈l,h≤9223372036854775807):a9W (hO x) l=some (lvo x l):=by
 unfold a9W
 simp only[jn]
 rw[B8 l (λb h=>if h∈lv x.S∧h∉b then b ++ [h] else b) id (λk b=>b.length≤k) (by omega) (Nat.le_refl _) (λk hk b hb2=>?_) (λb hb=>by simp)]
 ·rfl
 ·simp only[Int.ofNat_lt,hk,decide_true,if_true,n0 hk,d1e,b1X hR (hb _ (List.getElem_mem hk))]
  by_cases hl:l[k]∈lv x.S
  ·have h0:l[k]≠0:=λe=>a73 hR (e▸hl)
   rw[decide_eq_true hl]
   simp only[beq_self_eq_true,X0,a9t b _ (by omega:b.length≤1000000),d1e,Bool.true_and]
   by_cases hm:l[k]∈b
   ·rw[if_neg (by simp[hm,h0]),if_neg (λq=>q.2 hm),k7]
    exact⟨rfl,by omega⟩
   ·rw[if_pos (by simp[hm]),if_pos ⟨hl,hm⟩,u4 (by omega) (by simp;omega),d1e,k7]
    exact⟨rfl,by simp;omega⟩
  ·rw[decide_eq_false hl]
   simp only[show ((false==true)=true)=False by simp,p8,if_false,d1e,Bool.false_and]
   rw[if_neg (by simp),if_neg (λq=>hl q.1),k7]
   exact⟨rfl,by omega⟩
end
end Go.Sh
namespace Go.Sh
theorem b2u{α β:Type}(p:α→Bool)(f:α→β):∀(xs:List α) (acc:List β),xs.foldl (λb x=>if p x then b ++ [f x] else b) acc=acc++(xs.filter p).map f
 | [],acc=>by simp
 | x::xs,acc=>by
  rw[List.foldl_cons,b2u p f xs]
  by_cases h:p x=true
  ·simp[h]
  ·simp[h]
theorem a0t{α:Type}{l:List α}{i:Nat}(h:i<l.length)(d:α):l.getD i d=l[i]:=by
 rw[List.getD_eq_getElem?_getD,List.getElem?_eq_getElem h];rfl
theorem b96(c:c4)(ds:List Int)(hl:ds.length≤1000):Z7 c ds=some (a2U ds c):=by
 unfold Z7 a2U
 rw[contains_eq _ _ (by omega)]
 cases (c.Intact&&c.Target != 0)
 ·rfl
 ·simp[p8]
def pks(l:List c4)(ds:List Int):List Nat:=(List.range l.length).filter λw=>a2U ds (l.getD w cz)
theorem c60{l:List c4}{ds:List Int}{w:Nat}(h:w∈pks l ds):w<l.length:=by
 unfold pks at h
 rw[List.mem_filter,List.mem_range] at h
 exact h.1
theorem c4L(l:List c4)(ds:List Int):(pks l ds).length≤l.length:=by
 unfold pks
 exact Nat.le_trans (List.length_filter_le ..) (by simp)
theorem c61(l:List c4)(ds:List Int):(pks l ds).Nodup:=List.Pairwise.filter _ List.nodup_range
theorem c3S(l:List c4)(ds:List Int):cls l ds=(pks l ds).filter λw=>decide (0≤(l.getD w cz).Call):=by
 unfold cls pks
 rw[List.filter_filter]
 refine List.filter_congr λw _=>?_
 rw[Bool.and_comm]
def a5B(l:List Nat):List Int:=l.map λ(n:Nat)=>(n:Int)
theorem b5r{l:List Nat}{k:Nat}(h:k<l.length):ix (a5B l) (k:Int)=some ((l[k]:Nat):Int):=by
 unfold a5B
 rw[a16,n0 h];rfl
theorem a4O(l:List Nat):(a5B l).length=l.length:=List.length_map ..
theorem c0A(l:List c4)(ds:List Int)(hl:l.length≤1000)(hd:ds.length≤1000):G8 l ds=some (a5B (pks l ds)):=by
 unfold G8
 simp only[jn]
 have hr:(List.range l.length).length=l.length:=by simp
 have key:=B8 (List.range l.length) (λ(b:List Int) (w:Nat)=>if a2U ds (l.getD w cz) then b ++ [(w:Int)] else b) id (λk b=>b.length≤k) (b0:=[]) (f:=λ((s17,s18):Int × (List Int))=>
   if (decide (s17<(l.length:Int))) then
     (ix l s17).bind λv26=>
     (Z7 v26 ds).bind λv27=>
     if v27 then
      (app 8 s18 [s17]).bind λv28=>
      some (Sum.inl (p6 (s17+1),v28))
     else
     some (.inl (p6 (s17+1),s18))
   else
   some (.inr s18)) (by omega) (Nat.le_refl _) (λk hk b hb=>?_) (λb hb=>by simp)
 ·rw[key,b2u]
  rfl
 ·rw[hr] at hk
  simp only[Int.ofNat_lt,hk,decide_true,if_true,n0 hk,d1e,b96 _ _ hd,List.getElem_range,a0t hk]
  by_cases c:a2U ds l[k]=true
  ·rw[if_pos c,if_pos c,u4 (by omega) (by simp;omega),d1e,k7]
   exact⟨rfl,by simp;omega⟩
  ·rw[if_neg c,if_neg c,k7]
   exact⟨rfl,by omega⟩
theorem b99(l:List c4)(hl:l.length≤1000):Y4 l=some l:=by
 unfold Y4
 rw[b2G (by omega) (by omega),d1e]
 unfold cpy
 rw[if_pos (by simp),d1e]
 simp
def a9f(l:List c4)(K:List Nat):List c4:=(List.range l.length).map λi=>if i∈K then ⟨(l.getD i cz).Target,false,(l.getD i cz).Call⟩ else l.getD i cz
theorem a4B(l:List c4)(K:List Nat):(a9f l K).length=l.length:=by simp[a9f]
theorem a9g{l:List c4}{K:List Nat}{i:Nat}(h:i<(a9f l K).length):(a9f l K)[i]=if i∈K then ⟨(l.getD i cz).Target,false,(l.getD i cz).Call⟩ else l.getD i cz:=by simp[a9f]
theorem c1s(l:List c4):a9f l []=l:=by
 refine List.ext_getElem (a4B ..) λi h1 h2=>?_
 rw[a9g,if_neg (by simp),a0t h2]
theorem b98{l:List c4}{K:List Nat}{w:Nat}(hw:w<l.length):a9f l (K ++ [w])=(a9f l K).set w ⟨(l.getD w cz).Target,false,(l.getD w cz).Call⟩:=by
 refine List.ext_getElem (by rw[List.length_set,a4B,a4B]) λi h1 h2=>?_
 rw[a9g,List.getElem_set]
 by_cases e:w=i
 ·subst e
  rw[if_pos rfl,if_pos (by simp)]
 ·rw[if_neg e,a9g]
  by_cases q:i∈K
  ·rw[if_pos (List.mem_append_left _ q),if_pos q]
  ·rw[if_neg,if_neg q]
   rw[List.mem_append,List.mem_singleton]
   exact λq2=>q2.elim q λq3=>e q3.symm
theorem c1r(l:List c4)(ds:List Int):a9f l (pks l ds)=clr l ds:=by
 refine List.ext_getElem (by rw[a4B];simp[clr]) λi h1 h2=>?_
 have hi:i<l.length:=by rw[a4B] at h1;exact h1
 have ec:(clr l ds)[i]=a6D ds l[i]:=List.getElem_map _
 rw[a9g,ec,a0t hi]
 unfold a6D
 by_cases c:a2U ds l[i]=true
 ·rw[if_pos c,if_pos]
  unfold pks
  rw[List.mem_filter,List.mem_range,a0t hi]
  exact⟨hi,c⟩
 ·rw[if_neg c,if_neg]
  unfold pks
  rw[List.mem_filter,List.mem_range,a0t hi]
  exact λq=>c q.2
theorem K9{α:Type}{l:List α}{k:Nat}(h:k<l.length):l.take (k+1)=l.take k ++ [l[k]]:=List.take_succ_eq_append_getElem h
theorem c1p(l:List c4)(ds:List Int)(hl:l.length≤1000)(hd:ds.length≤1000):a3L l ds=some (clr l ds,a5B (cls l ds)):=by
 unfold a3L
 rw[c0A l ds hl hd,d1e,b99 l hl,d1e]
 simp only[jn,a4O]
 have hp:=c4L l ds
 refine O1 (pks l ds).length (λk (b:List c4 × List Int)=>b.1=a9f l ((pks l ds).take k)∧b.2=a5B (((pks l ds).take k).filter λw=>decide (0≤(l.getD w cz).Call))) (by omega) ⟨by simp[c1s],by simp[a5B]⟩ ?_ ?_
 ·rintro k ⟨b1,b2⟩ hk ⟨rfl,rfl⟩
  left
  have hw:=c60 (List.getElem_mem hk)
  have hnm:(pks l ds)[k]∉(pks l ds).take k:=λq=>by
   have hn:=c61 l ds
   rw[←List.take_append_drop k (pks l ds),List.nodup_append] at hn
   exact hn.2.2 _ q (pks l ds)[k] (by rw[List.drop_eq_getElem_cons hk];exact List.mem_cons_self ..) rfl
  have h1:(pks l ds)[k]<(a9f l ((pks l ds).take k)).length:=by rw[a4B];exact hw
  have e1:ix (a9f l ((pks l ds).take k)) (((pks l ds)[k]:Nat):Int)=some (l.getD (pks l ds)[k] cz):=by rw[n0 h1,a9g,if_neg hnm]
  have h2:(pks l ds)[k]<((a9f l ((pks l ds).take k)).set (pks l ds)[k] ⟨(l.getD (pks l ds)[k] cz).Target,false,(l.getD (pks l ds)[k] cz).Call⟩).length:=by rw[List.length_set];exact h1
  have e2:ix ((a9f l ((pks l ds).take k)).set (pks l ds)[k] ⟨(l.getD (pks l ds)[k] cz).Target,false,(l.getD (pks l ds)[k] cz).Call⟩) (((pks l ds)[k]:Nat):Int)=some ⟨(l.getD (pks l ds)[k] cz).Target,false,(l.getD (pks l ds)[k] cz).Call⟩:=by rw[n0 h2,List.getElem_set_self]
  dsimp only
  simp only[Int.ofNat_lt,hk,decide_true,if_true,b5r hk,d1e,e1,Int.toNat_natCast,e2]
  have hle:(a5B (((pks l ds).take k).filter λw=>decide (0≤(l.getD w cz).Call))).length≤1000:=by
   rw[a4O]
   exact Nat.le_trans (List.length_filter_le ..) (by simp;omega)
  rw[K9 hk,b98 hw,List.filter_append]
  by_cases c:0≤(l.getD (pks l ds)[k] cz).Call
  ·rw[if_pos (decide_eq_true c),u4 (by omega) (by simp only[List.length_cons,List.length_nil];omega),d1e,k7]
   refine⟨_,rfl,rfl,?_⟩
   rw[List.filter_cons,if_pos (decide_eq_true c)]
   simp[a5B]
  ·rw[if_neg (λq=>c (of_decide_eq_true q)),k7]
   refine⟨_,rfl,rfl,?_⟩
   rw[List.filter_cons,if_neg (λq=>c (of_decide_eq_true q))]
   simp[a5B]
 ·rintro⟨b1,b2⟩ ⟨rfl,rfl⟩
  refine⟨_,if_neg (by simp),?_⟩
  dsimp only
  rw[List.take_length,c1r,←c3S]
theorem c77(c:c4)(ds:List Int)(hd:ds.length≤1000):((p8 ((wcR c).Intact==true) 0 (a1P ds (wcR c).Target)).bind λv=>some ((wcR c).Intact&&decide (v > 0)))=some (a2U ds c):=by
 unfold a2U wcR
 dsimp only
 cases hI:c.Intact
 ·rfl
 ·simp only[beq_self_eq_true,X0]
  rw[a81 _ _ (by omega),d1e]
  congr 1
  rw[Bool.true_and,Bool.true_and,Bool.eq_iff_iff]
  simp only[decide_eq_true_iff,Bool.and_eq_true,bne_iff_ne]
  have:=a1p (l:=ds) (h:=c.Target)
  constructor
  ·intro q
   exact this.1 (by omega)
  ·intro q
   have:=this.2 q
   omega
theorem c3R(l:List c4)(ds:List Int)(hl:l.length≤1000)(hd:ds.length≤1000):b0N (l.map wcR) ds=some ((clr l ds).map wcR,a5B (cls l ds)):=by
 unfold b0N
 simp only[jn,List.length_map]
 refine O1 l.length (λk (b:List E2 × List Int)=>b.1=((clr l ds).take k).map wcR∧b.2=a5B ((List.range k).filter λw=>a2U ds (l.getD w cz)&&decide (0≤(l.getD w cz).Call))) (by omega) ⟨by simp,by simp[a5B]⟩ ?_ ?_
 ·rintro k ⟨b1,b2⟩ hk ⟨rfl,rfl⟩
  left
  have hk2:k<(clr l ds).length:=by simp[clr];exact hk
  have e1:ix (l.map wcR) (k:Int)=some (wcR l[k]):=by rw[a16,n0 hk];rfl
  have hle:(a5B ((List.range k).filter λw=>a2U ds (l.getD w cz)&&decide (0≤(l.getD w cz).Call))).length≤1000:=by
   rw[a4O]
   exact Nat.le_trans (List.length_filter_le ..) (by simp;omega)
  dsimp only
  simp only[Int.ofNat_lt,hk,decide_true,if_true,e1,d1e]
  obtain⟨v,hv,hv2⟩:=a8g (c77 l[k] ds hd)
  rw[hv,d1e]
  have hv2:=Option.some.inj hv2
  rw[hv2,K9 hk2,List.map_append,List.range_succ,List.filter_append]
  have ec:(clr l ds)[k]=a6D ds l[k]:=List.getElem_map _
  have lc:(List.map wcR (List.take k (clr l ds))).length≤1000:=by simp[clr];omega
  rw[ec]
  unfold a6D
  by_cases c:a2U ds l[k]=true
  ·rw[if_pos c,if_pos c]
   by_cases c2:0≤l[k].Call
   ·rw[if_pos (by simpa[wcR] using c2),u4 (by omega) (by simp only[List.length_cons,List.length_nil];omega),d1e,u4 (by omega) (by simp only[List.length_cons,List.length_nil];omega),d1e,k7]
    refine⟨_,rfl,rfl,?_⟩
    simp only[List.filter_cons,List.filter_nil,a0t hk,c,c2,decide_true,Bool.and_self,if_true]
    simp[a5B]
   ·rw[if_neg (by simpa[wcR] using c2),u4 (by omega) (by simp only[List.length_cons,List.length_nil];omega),d1e,k7]
    refine⟨_,rfl,rfl,?_⟩
    simp only[List.filter_cons,List.filter_nil,a0t hk,c,c2,decide_false,Bool.and_false,Bool.false_eq_true,if_false,List.append_nil]
  ·rw[if_neg c,if_neg c,u4 (by omega) (by simp only[List.length_cons,List.length_nil];omega),d1e,k7]
   refine⟨_,rfl,rfl,?_⟩
   have c:a2U ds l[k]=false:=by simpa using c
   simp only[List.filter_cons,List.filter_nil,a0t hk,c,Bool.false_and,Bool.false_eq_true,if_false,List.append_nil]
 ·rintro⟨b1,b2⟩ ⟨rfl,rfl⟩
  refine⟨_,if_neg (by simp),?_⟩
  dsimp only
  rw[List.take_of_length_le (by simp[clr])]
  rfl
end Go.Sh
namespace Go.Sh
def clH(x:Hp)(ds:List Int):Hp:=⟨x.S,x.Roots,clr x.a8 ds,x.T,⟨x.Q.L++clt x.a8 ds,x.Q.Cap⟩⟩
theorem a1Y(l:List c4)(ds:List Int):(clt l ds).length=(cls l ds).length:=List.length_map ..
theorem c1t{l:List c4}{ds:List Int}{w:Nat}(h:w∈cls l ds):w<l.length:=by
 unfold cls at h
 rw[List.mem_filter,List.mem_range] at h
 exact h.1
theorem c1u{l:List c4}{ds:List Int}{k:Nat}(h:k<(clt l ds).length):(clt l ds)[k]=⟨2,(((cls l ds)[k]'(by rw[←a1Y];exact h):Nat):Int),(l.getD ((cls l ds)[k]'(by rw[←a1Y];exact h)) cz).Call⟩:=List.getElem_map _
theorem b6v{l:List c4}{ds:List Int}{w:Nat}(h:w<l.length):ix (clr l ds) (w:Int)=some (a6D ds l[w]):=by
 unfold clr
 rw[a16,n0 h];rfl
section
variable{x:Hp}{ds:List Int}(hc:x.a8.length≤6)(hd:ds.length≤1000)(hq:(x.Q.L++clt x.a8 ds).length≤30)(hcap:x.Q.Cap=30)
include hc hd hq hcap
theorem b39{k:Nat}(hk:k<(clt x.a8 ds).length):tad ⟨x.Q.L++(clt x.a8 ds).take k,x.Q.Cap⟩ (clt x.a8 ds)[k]=(⟨x.Q.L++(clt x.a8 ds).take (k+1),x.Q.Cap⟩,0):=by
 rw[List.length_append] at hq
 unfold tad
 rw[if_neg (by dsimp only;rw[List.length_append,List.length_take,hcap];omega),K9 hk,List.append_assoc]
theorem b7P:a1l x ds=some (clH x ds):=by
 unfold a1l
 rw[c1p _ _ (by omega) hd,d1e]
 dsimp only
 simp only[jn,a4O]
 have hq2:=hq
 rw[List.length_append] at hq2
 refine O1 (cls x.a8 ds).length (λk (q:TQ)=>q=⟨x.Q.L++(clt x.a8 ds).take k,x.Q.Cap⟩) (by rw[←a1Y];omega) (by simp) ?_ ?_
 ·rintro k q hk rfl
  left
  have hw:=c1t (List.getElem_mem hk)
  have hk2:k<(clt x.a8 ds).length:=by rw[a1Y];exact hk
  simp only[Int.ofNat_lt,hk,decide_true,if_true,b5r hk,d1e,b6v hw]
  have et:(⟨2,(((cls x.a8 ds)[k]:Nat):Int),(a6D ds x.a8[(cls x.a8 ds)[k]]).Call⟩:g7)=(clt x.a8 ds)[k]:=by
   rw[c1u,(b4X ds _).2.1,a0t hw]
  rw[et,c5T _ (by dsimp only;rw[List.length_append,List.length_take];omega),b39 hc hd hq hcap hk2,d1e,k7 (by rw[←a1Y] at hk;omega)]
  exact⟨_,rfl,rfl⟩
 ·rintro q rfl
  refine⟨_,if_neg (by simp),?_⟩
  rw[←a1Y,List.take_length]
  rfl
theorem c52{K:z8→Option g5}:((lp (S:=Int × z8) (E:=z8) (λ((s68,s69):Int × z8)=>
   if (decide (s68<((a5B (cls x.a8 ds)).length:Int))) then
    (ix (a5B (cls x.a8 ds)) s68).bind λv72=>
    (ix ((clr x.a8 ds).map wcR) v72).bind λv73=>
    (a5O s69 (⟨2,v72,v73.Call⟩:E3)).bind λv74=>
    some (.inl (p6 (s68+1),v74.1))
   else
   some (.inr s69)) (0,tqR x.Q)).bind K)=K (tqR (clH x ds).Q):=by
 have hq2:=hq
 rw[List.length_append] at hq2
 have key:=a06 (f:=λ((s68,s69):Int × z8)=>
   if (decide (s68<((a5B (cls x.a8 ds)).length:Int))) then
    (ix (a5B (cls x.a8 ds)) s68).bind λv72=>
    (ix ((clr x.a8 ds).map wcR) v72).bind λv73=>
    (a5O s69 (⟨2,v72,v73.Call⟩:E3)).bind λv74=>
    some (Sum.inl (p6 (s68+1),v74.1))
   else
   some (.inr s69)) (t0:=tqR x.Q) (cls x.a8 ds).length (λk (q:z8)=>q=tqR ⟨x.Q.L++(clt x.a8 ds).take k,x.Q.Cap⟩) (λq=>q=tqR (clH x ds).Q) (by rw[←a1Y];omega) (by simp) ?_ ?_
 ·obtain⟨e,h1,h2⟩:=key
  rw[h1,d1e,h2]
 ·rintro k q hk rfl
  left
  have hw:=c1t (List.getElem_mem hk)
  have hk2:k<(clt x.a8 ds).length:=by rw[a1Y];exact hk
  have ei:ix ((clr x.a8 ds).map wcR) (((cls x.a8 ds)[k]:Nat):Int)=some (wcR (a6D ds x.a8[(cls x.a8 ds)[k]])):=by rw[a16,b6v hw];rfl
  simp only[a4O,Int.ofNat_lt,hk,decide_true,if_true,b5r hk,d1e,ei]
  have et:(⟨2,(((cls x.a8 ds)[k]:Nat):Int),(wcR (a6D ds x.a8[(cls x.a8 ds)[k]])).Call⟩:E3)=tkR (clt x.a8 ds)[k]:=by
   rw[c1u,a0t hw]
   show (⟨2,_,(a6D ds x.a8[(cls x.a8 ds)[k]]).Call⟩:E3)=_
   rw[(b4X ds _).2.1]
   rfl
  rw[et,c5P _ (by dsimp only;rw[List.length_append,List.length_take];omega),b39 hc hd hq hcap hk2,d1e,k7 (by rw[←a1Y] at hk;omega)]
  exact⟨_,rfl,rfl⟩
 ·rintro q rfl
  refine⟨_,if_neg (by rw[a4O];simp),?_⟩
  rw[←a1Y,List.take_length]
  rfl
end
theorem b0Z(s:a7)(i:Nat)(c d:b7):E5 (E5 s i c) i d=E5 s i d:=by
 unfold E5
 dsimp only
 rw[List.set_set]
section
variable{s:a7}(hR:SR s){d:Int}(hd:d∈lv s)
include hR hd
def k1(s:a7)(d:Int):a7:=E5 s (A2 d) ⟨1,(ce s (A2 d)).Gen,ded (ob s d)⟩
def k2(s:a7)(d:Int):a7:=E5 s (A2 d) ⟨2,(ce s (A2 d)).Gen,ded (ob s d)⟩
theorem b42:OkO s (ded (ob s d)):=by
 have ho:=I1 hR hd
 exact⟨ho.s1,ho.s2,Int.le_refl _,ho.wk,ho.p1,ho.p2,Nat.zero_le _⟩
theorem b8f:seO s d (ded (ob s d))=k1 s d:=by
 have q:=u7 hR hd
 unfold seO a1b k1 E5
 rw[q.2.1]
theorem c5E:At (k1 s d) d (A2 d):=by
 have q:=u7 hR hd
 refine⟨by unfold k1;rw[X7];exact q.1,?_,?_⟩
 ·unfold k1;rw[I7 q.1,if_pos rfl]
 ·unfold k1;rw[I7 q.1,if_pos rfl];exact q.2.2
theorem c5F:SR (k1 s d):=by rw[←b8f hR hd];exact a1k (o:=ded (ob s d)) hR hd rfl (b42 hR hd)
theorem c5I:SR (k2 s d):=by
 have q:=u7 hR hd
 have hc:=hR.cell _ q.1
 unfold k2
 refine hR.E5 q.1 ⟨by simp,by simp,hc.2.2.1,hc.2.2.2⟩ (λq=>absurd (.inr rfl) q) (λ_=>⟨b42 hR hd,.inl q.2.1,?_⟩)
 show (ob s d).Serial=_
 rw[Q3 hR q]
theorem c5G:S0 (k2 s d) d (A2 d):=by
 have q:=u7 hR hd
 refine⟨by unfold k2;rw[X7];exact q.1,?_,?_⟩
 ·unfold k2;rw[I7 q.1,if_pos rfl];exact .inr rfl
 ·unfold k2;rw[I7 q.1,if_pos rfl];exact q.2.2
theorem c4e:O6 (k1 s d).S d=some ((k2 s d).S,0):=by
 have q:=u7 hR hd
 have hR1:=c5F hR hd
 have q1:=c5E hR hd
 have hr:=I2 hR hd
 have hlen:=hR1.len
 have hH:Hnd d:=((a8M hR1).2 q1.d).2.1
 have hsl:(d-1) % 32=(A2 d:Nat):=((a8M hR1).2 q1.d).2.2.1
 have hg:(d-1) / 32=(ce s (A2 d)).Gen:=by
  have:=q.2.2
  have h24:=hR.len
  have:=q.1
  omega
 unfold O6 A9
 rw[a3T hR1 q1.d,d1e,if_neg (by simp),b4l q1.1,d1e,q1.2.1,if_neg (by simp),d1e,if_neg (by simp),a3q (by omega),d1e,if_pos hH,hsl,a4s (by omega),d1e,if_pos hH,hg,a5h rfl q1.1 hlen,d1e]
 have e:(ce (k1 s d) (A2 d)).Val=ded (ob s d):=by unfold k1;rw[I7 q.1,if_pos rfl]
 rw[e]
 congr 2
 show (E5 (k1 s d) (A2 d) _).S=(k2 s d).S
 unfold k1 k2
 rw[b0Z]
theorem c5A(hw:(ob s d).Weak=0):gvA (k2 s d) (A2 d)=gnA s d:=by
 have q:=u7 hR hd
 have e:ce (k2 s d) (A2 d)=⟨2,(ce s (A2 d)).Gen,ded (ob s d)⟩:=by unfold k2;rw[I7 q.1,if_pos rfl]
 unfold gvA gnA gnC
 rw[e]
 rw[Q3 hR q] at hw
 rw[if_pos hw]
 unfold k2
 rw[b0Z]
 rfl
theorem c5H(hw:(ob s d).Weak≠0):k2 s d=gnA s d:=by
 have q:=u7 hR hd
 unfold k2 gnA gnC
 rw[Q3 hR q] at hw ⊢
 rw[if_neg hw]
end
theorem c0q{x:Hp}(hR:SR x.S){d:Int}(hd:d∈lv x.S):T9 x d=some (wS x (gnA x.S d)):=by
 unfold T9
 rw[b0A hR hd,d1e]
 have e1:H4 x.S d (⟨(ob x.S d).Serial,0,(ob x.S d).Weak,(ob x.S d).Prog,(ob x.S d).Started,[]⟩:k9)=some (k1 x.S d,0):=by
  rw[←b8f hR hd]
  exact a97 (o:=ded (ob x.S d)) hR hd rfl (b42 hR hd)
 rw[e1,d1e,c4e hR hd,d1e]
 by_cases hw:(ob x.S d).Weak=0
 ·rw[if_pos (by simpa using hw),b9a (c5I hR hd) (c5G hR hd),d1e,c5A hR hd hw]
  rfl
 ·rw[if_neg (by simpa using hw)]
  show some (wS x (k2 x.S d))=_
  rw[c5H hR hd hw]
theorem c6D{s:a7}(hR:SR s){d:Int}(hd:d∈lv s):b2Z (sO (k1 s d)) d=some (sO (k2 s d)):=by
 have q:=u7 hR hd
 have hR1:=c5F hR hd
 have q1:=c5E hR hd
 have hlen:=hR1.len
 have hr:=I2 hR hd
 have hi:=q1.1
 have hi2:A2 d<(sO (k1 s d)).a8.length:=by rw[z1];exact hi
 have J3:A2 d<(pl (sO (k1 s d))).a8.length:=by rw[a0E];exact hi2
 have hlen2:(sO (k1 s d)).a8.length≤24:=by rw[z1];exact hlen
 unfold b2Z b7b b11
 rw[a4e _ (by omega),d1e,b0x (k1 s d) (by omega),a3T hR1 q1.d,d1e,if_neg (by simp),b62 hi2,d1e]
 have hst:(plc (A2 d) (sO (k1 s d)).a8[A2 d]).State=1:=by
  have:=q1.2.1
  rw[C2 hi] at this
  simpa[plc,sO,cO] using this
 have hgen:(plc (A2 d) (sO (k1 s d)).a8[A2 d]).Gen=(ce s (A2 d)).Gen:=by
  have:(ce (k1 s d) (A2 d)).Gen=(ce s (A2 d)).Gen:=by unfold k1;rw[I7 q.1,if_pos rfl]
  rw[C2 hi] at this
  simpa[plc,sO,cO] using this
 rw[hst,if_neg (by simp),d1e,if_neg (by simp),d1e]
 dsimp only
 rw[b62 hi2,d1e]
 have w3:∀c:E1,a0o (pl (sO (k1 s d))) ((A2 d:Nat):Int) c=some ⟨(pl (sO (k1 s d))).a8.set (A2 d) c,(pl (sO (k1 s d))).Last⟩:=λc=>by
  unfold a0o
  rw[J8 (by omega) (by rw[a0E];omega),d1e,n0 J3,d1e,Int.toNat_natCast]
 rw[w3,d1e,d1e,b3u _ _ (by omega) (by simp[a0E]),d1e,hgen]
 unfold k2
 rw[←b0Z s (A2 d) ⟨1,(ce s (A2 d)).Gen,ded (ob s d)⟩,b9S]
 show some _=some (⟨(sO (k1 s d)).a8.set (A2 d) _,_,_⟩:m8)
 congr 1
 congr 1
 refine List.ext_getElem (by simp) λk h1 h2=>?_
 have hk:k<(k1 s d).S.a8.length:=by simpa[z1] using h1
 have hk2:k<(sO (k1 s d)).a8.length:=by rw[z1];exact hk
 have hk3:k<(pl (sO (k1 s d))).a8.length:=by rw[a0E];exact hk2
 simp only[List.getElem_map,List.getElem_range,List.getElem_set]
 rw[a4G J3,a0t hk2,a0t hk3]
 by_cases e:k=A2 d
 ·subst e
  rw[if_pos rfl,if_pos rfl]
  have e2:(sO (k1 s d)).a8[A2 d].Val=oo (ded (ob s d)):=by
   have:(ce (k1 s d) (A2 d)).Val=ded (ob s d):=by unfold k1;rw[I7 q.1,if_pos rfl]
   rw[←this,C2 hi]
   simp[sO,cO]
  rw[e2]
  rfl
 ·rw[if_neg e,if_neg (Ne.symm e)]
  simp[sO,pl,plc,cO]
theorem c6s{x:Hp}(hR:SR x.S){d:Int}(hd:d∈lv x.S):a7a (hO x) d=some (hO (wS x (gnA x.S d))):=by
 unfold a7a
 rw[show (hO x).S=sO x.S from rfl,a9r hR hd,d1e]
 have e1:K2 (sO x.S) d (⟨(oo (ob x.S d)).Serial,0,(oo (ob x.S d)).Weak,(oo (ob x.S d)).Prog,(oo (ob x.S d)).Started,[]⟩:D9)=some (sO (k1 x.S d),0):=by
  rw[←b8f hR hd]
  exact a98 (o:=ded (ob x.S d)) hR hd rfl (b42 hR hd)
 rw[e1,d1e,c6D hR hd,d1e]
 by_cases hw:(ob x.S d).Weak=0
 ·rw[if_pos (by simpa[oo] using hw),c1Y (c5I hR hd) (c5G hR hd),d1e,c5A hR hd hw]
  rfl
 ·rw[if_neg (by simpa[oo] using hw)]
  show some (hO (wS x (k2 x.S d)))=_
  rw[c5H hR hd hw]
end Go.Sh
namespace Go.Sh
theorem b9M:∀(l:List Int) {x:Hp},SR x.S→SR (l.foldl N7 x).S
 | [],x,h=>h
 | v::l,x,h=>b9M l (x:=N7 x v) (b8B h v)
theorem b9L:∀(l:List Int) {x:Hp},SR x.S→SL x→SL (l.foldl N7 x)
 | [],x,_,h=>h
 | v::l,x,hR,h=>b9L l (x:=N7 x v) (b8B hR v) (h.rls hR v)
theorem c0N(l:List Int){k:Nat}(hk:k<l.length)(x:Hp):(l.take (k+1)).foldl N7 x=N7 ((l.take k).foldl N7 x) l[k]:=by
 rw[K9 hk,List.foldl_append]
 rfl
theorem b5S{y:Hp}(hR:SR y.S)(l:List Int)(hl:l.length≤1000000)(hb:∀v∈l,v≤9223372036854775807){K:Hp→Option Hp}:((lp (S:=Int × b6) (E:=b6) (λ((s35,s36):Int × b6)=>
     if (decide (s35<(l.length:Int))) then
      (ix l s35).bind λv39=>
      (C5 s36 v39).bind λv40=>
      some (.inl (p6 (s35+1),v40))
     else
     some (.inr s36)) (0,y)).bind K)=K (l.foldl N7 y):=by
 have key:=B8 l N7 id (λk z=>SR z.S) (b0:=y) (f:=λ((s35,s36):Int × b6)=>
     if (decide (s35<(l.length:Int))) then
      (ix l s35).bind λv39=>
      (C5 s36 v39).bind λv40=>
      some (Sum.inl (p6 (s35+1),v40))
     else
     some (.inr s36)) (by omega) hR (λk hk z hz=>?_) (λz hz=>by simp)
 ·rw[key,d1e]
  rfl
 ·simp only[Int.ofNat_lt,hk,decide_true,if_true,n0 hk,d1e,a5T hz (hb _ (List.getElem_mem hk))]
  rw[k7]
  exact⟨rfl,b8B hz _⟩
theorem b26{y:Hp}(hR:SR y.S)(l:List Int)(hl:l.length≤1000000)(hb:∀v∈l,v≤9223372036854775807){K:g5→Option g5}:((lp (S:=Int × g5) (E:=g5) (λ((s45,s46):Int × g5)=>
      if (decide (s45<(l.length:Int))) then
       (ix l s45).bind λv49=>
       (E4 s46 v49).bind λv50=>
       some (.inl (p6 (s45+1),v50))
      else
      some (.inr s46)) (0,hO y)).bind K)=K (hO (l.foldl N7 y)):=by
 have key:=a06 (f:=λ((s45,s46):Int × g5)=>
      if (decide (s45<(l.length:Int))) then
       (ix l s45).bind λv49=>
       (E4 s46 v49).bind λv50=>
       some (Sum.inl (p6 (s45+1),v50))
      else
      some (.inr s46)) (t0:=hO y) l.length (λk z=>z=hO ((l.take k).foldl N7 y)) (λz=>z=hO (l.foldl N7 y)) (by omega) rfl ?_ ?_
 ·obtain⟨e,h1,h2⟩:=key
  rw[h1,d1e,h2]
 ·rintro k z hk rfl
  left
  have hz:=b9M (l.take k) hR
  simp only[Int.ofNat_lt,hk,decide_true,if_true,n0 hk,d1e,a7K hz (hb _ (List.getElem_mem hk))]
  rw[k7,←c0N l hk]
  exact⟨_,rfl,rfl⟩
 ·rintro z rfl
  exact⟨_,if_neg (by simp),by rw[List.take_length]⟩
theorem b6H(s:a7)(ds:List Int){k:Nat}(hk:k<ds.length):gnL s (ds.take (k+1))=gnA (gnL s (ds.take k)) ds[k]:=by
 unfold gnL
 rw[K9 hk,List.foldl_append]
 rfl
section
variable{y:Hp}(hR:SR y.S){ds:List Int}(hn:ds.Nodup)(hm:∀d∈ds,d∈lv y.S)
include hR hn hm
theorem b2D{k:Nat}(hk:k<ds.length):SR (gnL y.S (ds.take k))∧ds[k]∈lv (gnL y.S (ds.take k)):=by
 have g:=a1H (ds.take k) hR ((List.take_sublist k ds).nodup hn) λd hd=>hm d (List.mem_of_mem_take hd)
 refine⟨g.sr,?_⟩
 rw[g.lv,List.mem_filter,decide_eq_true_iff]
 refine⟨hm _ (List.getElem_mem hk),λq=>?_⟩
 rw[←List.take_append_drop k ds,List.nodup_append] at hn
 exact hn.2.2 _ q ds[k] (by rw[List.drop_eq_getElem_cons hk];exact List.mem_cons_self ..) rfl
theorem c0p(hl:ds.length≤1000){K:Hp→Option Hp}:((lp (S:=Int × b6) (E:=b6) (λ((s42,s43):Int × b6)=>
    if (decide (s42<(ds.length:Int))) then
     (ix ds s42).bind λv46=>
     (T9 s43 v46).bind λv47=>
     some (.inl (p6 (s42+1),v47))
    else
    some (.inr s43)) (0,y)).bind K)=K (wS y (gnL y.S ds)):=by
 have key:=a06 (f:=λ((s42,s43):Int × b6)=>
    if (decide (s42<(ds.length:Int))) then
     (ix ds s42).bind λv46=>
     (T9 s43 v46).bind λv47=>
     some (Sum.inl (p6 (s42+1),v47))
    else
    some (.inr s43)) (t0:=y) ds.length (λk z=>z=wS y (gnL y.S (ds.take k))) (λz=>z=wS y (gnL y.S ds)) (by omega) rfl ?_ ?_
 ·obtain⟨e,h1,h2⟩:=key
  rw[h1,d1e,h2]
 ·rintro k z hk rfl
  left
  obtain⟨h1,h2⟩:=b2D hR hn hm hk
  simp only[Int.ofNat_lt,hk,decide_true,if_true,n0 hk,d1e,c0q (x:=wS y (gnL y.S (ds.take k))) h1 h2]
  rw[k7,b6H _ _ hk]
  exact⟨_,rfl,rfl⟩
 ·rintro z rfl
  exact⟨_,if_neg (by simp),by rw[List.take_length]⟩
theorem b6O(hl:ds.length≤1000){K:g5→Option g5}:((lp (S:=Int × g5) (E:=g5) (λ((s52,s53):Int × g5)=>
     if (decide (s52<(ds.length:Int))) then
      (ix ds s52).bind λv56=>
      (a7a s53 v56).bind λv57=>
      some (.inl (p6 (s52+1),v57))
     else
     some (.inr s53)) (0,hO y)).bind K)=K (hO (wS y (gnL y.S ds))):=by
 have key:=a06 (f:=λ((s52,s53):Int × g5)=>
     if (decide (s52<(ds.length:Int))) then
      (ix ds s52).bind λv56=>
      (a7a s53 v56).bind λv57=>
      some (Sum.inl (p6 (s52+1),v57))
     else
     some (.inr s53)) (t0:=hO y) ds.length (λk z=>z=hO (wS y (gnL y.S (ds.take k)))) (λz=>z=hO (wS y (gnL y.S ds))) (by omega) rfl ?_ ?_
 ·obtain⟨e,h1,h2⟩:=key
  rw[h1,d1e,h2]
 ·rintro k z hk rfl
  left
  obtain⟨h1,h2⟩:=b2D hR hn hm hk
  simp only[Int.ofNat_lt,hk,decide_true,if_true,n0 hk,d1e,c6s (x:=wS y (gnL y.S (ds.take k))) h1 h2]
  rw[k7,b6H _ _ hk]
  exact⟨_,rfl,rfl⟩
 ·rintro z rfl
  exact⟨_,if_neg (by simp),by rw[List.take_length]⟩
end
section
variable{x:Hp}(hx:O0 x){ds:List Int}(hn:ds.Nodup)(hm:∀d∈ds,d∈lv x.S)
include hx hn hm
theorem b43:ds.length≤24:=Nat.le_trans (a3w hn hm) (E8 (o6.2 hx.sh.sr))
theorem b5a{d:Int}(hd:d∈lv x.S):(ob x.S d).Fields.length≤4:=(I1 hx.sh.sr hd).fl
theorem b5D{d:Int}(hd:d∈lv x.S):(outs x.S d).length≤4:=Nat.le_trans (b8j _) (b5a hx hn hm hd)
theorem a7y:∀(l:List Int),(∀d∈l,d∈lv x.S)→(l.flatMap (outs x.S)).length≤4*l.length
 | [],_=>by simp
 | d::l,h=>by
  rw[List.flatMap_cons,List.length_append,List.length_cons]
  have:=a7y l λe he=>h e (List.mem_cons_of_mem _ he)
  have:=b5D hx hn hm (h d (List.mem_cons_self ..))
  omega
theorem b9x:∀v∈ds.flatMap (outs x.S)++(wot x.T ds).2,v≤9223372036854775807:=λv hv=>by
 rcases List.mem_append.1 hv with q | q
 ·obtain⟨d,hd,q⟩:=List.mem_flatMap.1 q
  obtain⟨q,_⟩:=a5J.1 q
  rcases hx.sh.fl d (hm d hd) v q with e | e
  ·omega
  ·exact a2h hx.sh.sr e
 ·by_cases h0:v=0
  ·omega
  ·have hl:=b43 hx hn hm
   have h3:=(a3M hx.sh.hr ds (by omega)).2.2.2.2.2 v
   have h4:=a1p.2 ⟨h0,q⟩
   have h5:0<own x.T v:=by omega
   obtain⟨p,hp,hq⟩:=List.countP_pos_iff.1 h5
   have hq:(v != 0&&p.Val==v)=true:=hq
   rw[Bool.and_eq_true,beq_iff_eq] at hq
   have:=(hx.sh.pr _ _ (a18.1 hp)).2
   rw[hq.2] at this
   exact a2h hx.sh.sr this
theorem b6Z:(ds.flatMap (outs x.S)++(wot x.T ds).2).length≤200:=by
 have hl:=b43 hx hn hm
 have h1:=a7y hx hn hm ds hm
 have h2:=(a3M hx.sh.hr ds (by omega)).2.2.1
 rw[List.length_append]
 omega
theorem b83(hq:(x.Q.L++clt x.a8 ds).length≤30){l:List Int}(h1:P7 x l=some ds):X8 x l=some (buH x ds):=by
 have hl:=b43 hx hn hm
 have hR:=hx.sh.sr
 obtain⟨w1,w2,w3,w4,w5,w6⟩:=a3M hx.sh.hr ds (by omega)
 have ol:=b6Z hx hn hm
 have fl:=a7y hx hn hm ds hm
 unfold X8
 rw[h1,d1e,b7P (by have:=hx.sh.c6;omega) (by omega) hq hx.sh.cap,d1e]
 simp only[jn]
 have key:=B8 ds (λb d=>b++outs x.S d) id (λk b=>b.length≤4*k) (b0:=[]) (f:=λ((s49,s50):Int × (List Int))=>
   if (decide (s49<(ds.length:Int))) then
    (ix ds s49).bind λv53=>
    (o9 (clH x ds).S v53).bind λv54=>
    (a3h v54.1.Fields).bind λv55=>
    (app 8 s50 v55).bind λv56=>
    some (Sum.inl (p6 (s49+1),v56))
   else
   some (.inr s50)) (by omega) (by simp) (λk hk b hb=>?_) (λb hb=>by simp)
 ·rw[key,d1e,a1F,List.nil_append]
  dsimp only[id]
  rw[show (clH x ds).T=x.T from rfl,w1,d1e]
  have ol2:=ol
  rw[List.length_append] at ol2
  rw[u4 (by omega) (by omega),d1e]
  have k1:=c0p (y:=⟨(clH x ds).S,(clH x ds).Roots,(clH x ds).a8,(wot x.T ds).1,(clH x ds).Q⟩) hR hn hm (by omega) (K:=λe=>(lp (S:=Int × b6) (E:=b6) (λ((s35,s36):Int × b6)=>
     if (decide (s35<((ds.flatMap (outs x.S)++(wot x.T ds).2).length:Int))) then
      (ix (ds.flatMap (outs x.S)++(wot x.T ds).2) s35).bind λv39=>
      (C5 s36 v39).bind λv40=>
      some (.inl (p6 (s35+1),v40))
     else
     some (.inr s36)) (0,e)).bind λe34=>some e34)
  refine Eq.trans k1 ?_
  have g:=a1H ds hR hn hm
  have k2:=b5S (y:=wS (⟨(clH x ds).S,(clH x ds).Roots,(clH x ds).a8,(wot x.T ds).1,(clH x ds).Q⟩:Hp) (gnL x.S ds)) g.sr _ (by omega) (b9x hx hn hm) (K:=λe34=>some e34)
  refine Eq.trans k2 ?_
  rfl
 ·have hd:=hm _ (List.getElem_mem hk)
  have f4:=b5a hx hn hm hd
  have o4:=b5D hx hn hm hd
  simp only[Int.ofNat_lt,hk,decide_true,if_true,n0 hk,d1e,show (clH x ds).S=x.S from rfl,b0A hR hd,b6T _ (by omega:(ob x.S ds[k]).Fields.length≤1000000)]
  have e:nz (ob x.S ds[k]).Fields=outs x.S ds[k]:=rfl
  rw[e,u4 (by omega) (by omega),d1e,k7]
  exact⟨rfl,by rw[List.length_append];omega⟩
theorem b4c(hq:(x.Q.L++clt x.a8 ds).length≤30){l:List Int}(h1:a9W (hO x) l=some ds):a68 (hO x) l=some (hO (buH x ds)):=by
 have hl:=b43 hx hn hm
 have hR:=hx.sh.sr
 obtain⟨w1,w2,w3,w4,w5,w6⟩:=a3M hx.sh.hr ds (by omega)
 have ol:=b6Z hx hn hm
 have fl:=a7y hx hn hm ds hm
 have c6:=hx.sh.c6
 unfold a68
 rw[h1,d1e,show (hO x).a8=x.a8.map wcR from rfl,c3R _ _ (by omega) (by omega),d1e]
 simp only[jn]
 rw[show (hO x).Q=tqR x.Q from rfl,c52 (by omega) (by omega) hq hx.sh.cap]
 have key:=B8 ds (λb d=>b++outs x.S d) id (λk b=>b.length≤4*k) (b0:=[]) (f:=λ((s59,s60):Int × (List Int))=>
    if (decide (s59<(ds.length:Int))) then
     (ix ds s59).bind λv63=>
     (C7 (hO x).S v63).bind λv64=>
     (a3e v64.1.Fields).bind λv65=>
     (app 8 s60 v65).bind λv66=>
     some (Sum.inl (p6 (s59+1),v66))
    else
    some (.inr s60)) (by omega) (by simp) (λk hk b hb=>?_) (λb hb=>by simp)
 ·rw[key,d1e,a1F,List.nil_append]
  dsimp only[id]
  rw[show (hO x).T=x.T.map J3 from rfl,w4,d1e]
  dsimp only
  have ol2:=ol
  rw[List.length_append] at ol2
  rw[u4 (by omega) (by omega),d1e]
  have k1:=b6O (y:=⟨(clH x ds).S,(clH x ds).Roots,(clH x ds).a8,(wot x.T ds).1,(clH x ds).Q⟩) hR hn hm (by omega) (K:=λe=>(lp (S:=Int × g5) (E:=g5) (λ((s45,s46):Int × g5)=>
      if (decide (s45<((ds.flatMap (outs x.S)++(wot x.T ds).2).length:Int))) then
       (ix (ds.flatMap (outs x.S)++(wot x.T ds).2) s45).bind λv49=>
       (E4 s46 v49).bind λv50=>
       some (.inl (p6 (s45+1),v50))
      else
      some (.inr s46)) (0,e)).bind λe44=>some e44)
  refine Eq.trans k1 ?_
  have g:=a1H ds hR hn hm
  have k2:=b26 (y:=wS (⟨(clH x ds).S,(clH x ds).Roots,(clH x ds).a8,(wot x.T ds).1,(clH x ds).Q⟩:Hp) (gnL x.S ds)) g.sr _ (by omega) (b9x hx hn hm) (K:=λe44=>some e44)
  refine Eq.trans k2 ?_
  rfl
 ·have hd:=hm _ (List.getElem_mem hk)
  have f4:=b5a hx hn hm hd
  have o4:=b5D hx hn hm hd
  simp only[Int.ofNat_lt,hk,decide_true,if_true,n0 hk,d1e,show (hO x).S=sO x.S from rfl,a9r hR hd]
  have e:a3e (oo (ob x.S ds[k])).Fields=some (outs x.S ds[k]):=b2I _ (by show (ob x.S ds[k]).Fields.length≤_;omega)
  rw[e,d1e,u4 (by omega) (by omega),d1e,k7]
  exact⟨rfl,by rw[List.length_append];omega⟩
end
end Go.Sh
namespace Go.Sh
theorem c3O{x:Hp}(hR:SR x.S)(hS:SL x){ds:List Int}(hn:ds.Nodup)(hm:∀d∈ds,d∈lv x.S)(t:Tb):SL (a4o x ds t):=λk hk=>by
 have g:=a1H ds hR hn hm
 have hk:k∈lv (gnL x.S ds):=hk
 rw[g.lv,List.mem_filter,decide_eq_true_iff] at hk
 have e:ob (a4o x ds t).S k=ob x.S k:=g.ob k hk.1 hk.2
 rw[e]
 exact hS k hk.1
theorem c1n{x:Hp}(hR:SR x.S)(hS:SL x){ds:List Int}(hn:ds.Nodup)(hm:∀d∈ds,d∈lv x.S):SL (buH x ds):=
 b9L _ (x:=a4o x ds (wot x.T ds).1) (a1H ds hR hn hm).sr (c3O hR hS hn hm _)
theorem c2S{x:Hp}(hR:SR x.S)(hS:SL x){h:Int}(hh:h∈lv x.S):SL (quH x h):=by
 have hok:=b52 hR hh
 have r1:=a1k (o:=srt (ob x.S h)) hR hh rfl hok
 refine SL.C0 (x:=⟨seO x.S h (srt (ob x.S h)),x.Roots,x.a8,x.T,⟨x.Q.L ++ [qtk x h],x.Q.Cap⟩⟩) (λk hk=>?_) r1 h
 dsimp only at hk ⊢
 rw[a2K (o:=srt (ob x.S h)) hR hh rfl hok] at hk
 rw[a1T (o:=srt (ob x.S h)) hR hh rfl hok (a2h hR hk)]
 split
 ·exact hS h hh
 ·exact hS k hk
theorem c7s{x:Hp}(hx:O0 x)(hS:SL x):SL (stp x):=by
 cases h:zr x with
 | nil=>rw[b0b h];exact hS
 | cons z l=>
  have hz:=(a1r.1 (show z∈zr x by rw[h];exact List.mem_cons_self ..)).1
  rw[a5b h]
  split
  ·exact c2S hx.sh.sr hS hz
  ·exact c1n hx.sh.sr hS (by simp) (by simpa using hz)
theorem b53{x:Hp}(hx:O0 x)(hS:SL x)(n:Nat):SL (stN n x):=by
 induction n with
 | zero=>exact hS
 | succ n ih=>rw[a2s];exact c7s (a0T hx n) ih
theorem c44{x:Hp}(hx:O0 x)(hS:SL x):SL (a3R x):=b53 hx hS 100
section
variable{x:Hp}(hx:O0 x)(hS:SL x)
include hx hS
theorem b4O{z:Int}(hz:z∈zr x):(x.Q.L++clt x.a8 [z]).length≤30:=by
 have h1:=(b3F hx hz).sh.q30
 have hzl:=(a1r.1 hz).1
 rw[(a9d hx.sh.sr (ds:=[z]) (by simp) (by simpa using hzl)).2.2.2] at h1
 exact h1
theorem c0Q(h:zr x = []):((a0S x).bind λv4=>
  if ((v4.length:Int)==0) then
   some (Sum.inr x)
  else
  (ix v4 0).bind λv5=>
  (o9 x.S v5).bind λv6=>
  (I4 v6.1).bind λv7=>
  if v7 then
   (N8 x v5).bind λv8=>
   some (.inl v8)
  else
  (cut v4 0 1).bind λv9=>
  (X8 x v9).bind λv10=>
  some (Sum.inl (α:=Hp) (β:=Hp) v10))=some (.inr x):=by
 rw[zero_eq hx.sh.sr,d1e,h]
 rfl
theorem c7X(z:Int)(l:List Int):cut (z::l) 0 1=some [z]:=by
 unfold cut
 rw[if_pos (by simp;omega)]
 simp
theorem b8D(h:zr x ≠ []):((a0S x).bind λv4=>
  if ((v4.length:Int)==0) then
   some (Sum.inr x)
  else
  (ix v4 0).bind λv5=>
  (o9 x.S v5).bind λv6=>
  (I4 v6.1).bind λv7=>
  if v7 then
   (N8 x v5).bind λv8=>
   some (.inl v8)
  else
  (cut v4 0 1).bind λv9=>
  (X8 x v9).bind λv10=>
  some (Sum.inl (α:=Hp) (β:=Hp) v10))=some (.inl (stp x)):=by
 cases hz:zr x with
 | nil=>exact absurd hz h
 | cons z l=>
  have hzm:z∈zr x:=by rw[hz];exact List.mem_cons_self ..
  have hzl:=(a1r.1 hzm).1
  have hR:=hx.sh.sr
  rw[zero_eq hR,d1e,hz,if_neg (by simp;omega),show ix (z::l) 0=some z from rfl,d1e,b0A hR hzl,d1e,b9z,d1e,a5b hz]
  by_cases hd:due (ob x.S z)=true
  ·rw[if_pos hd,if_pos hd,b4A hx hS (a2h hR hzl),d1e]
   unfold quD
   rw[if_pos ⟨hzl,hd⟩]
  ·rw[if_neg hd,if_neg hd,c7X hx hS,d1e,b83 hx (ds:=[z]) (by simp) (by simpa using hzl) (b4O hx hS hzm) (by rw[a9I hR [z] (by simp) (by simpa using a2h hR hzl),b6Q hzl]),d1e]
theorem a7P:T8 x=some (a3R x):=by
 obtain⟨n,hn,h1,h2,h3⟩:=b00 hx
 unfold T8
 refine a3t (λj=>stN j x) rfl n (λ_=>True) (by omega) trivial (λk hk _=>.inl ⟨?_,trivial⟩) (λ_=>⟨stN n x,?_,by rw[h3]⟩)
 ·have:=b8D (a0T hx k) (b53 hx hS k) (h2 k hk)
  rw[←a2s] at this
  exact this
 ·exact c0Q (a0T hx n) (b53 hx hS n) h1
theorem c4X{k:Nat}(hk:k<100)(h:zr x ≠ []){E:Type}{e:E}:((a69 (hO x)).bind λv35=>
     if ((v35.length:Int)==0) then
      some (Sum.inr e)
     else
     (ix v35 0).bind λv36=>
     (a7H (hO x) v36).bind λv37=>
     if v37 then
      (a3B (hO x) v36).bind λv38=>
      some (.inl (p6 ((k:Int)+1),v38))
     else
     (cut v35 0 1).bind λv39=>
     (a68 (hO x) v39).bind λv40=>
     some (Sum.inl (p6 ((k:Int)+1),v40)))=some (.inl (((k+1:Nat):Int),hO (stp x))):=by
 cases hz:zr x with
 | nil=>exact absurd hz h
 | cons z l=>
  have hzm:z∈zr x:=by rw[hz];exact List.mem_cons_self ..
  have hzl:=(a1r.1 hzm).1
  have hR:=hx.sh.sr
  rw[c3E hR,d1e,hz,if_neg (by simp;omega),show ix (z::l) 0=some z from rfl,d1e,c1A hx hS (a2h hR hzl),d1e,decide_eq_true hzl,Bool.true_and,a5b hz,k7]
  by_cases hd:due (ob x.S z)=true
  ·rw[if_pos hd,if_pos hd,b69 hx hS (a2h hR hzl),d1e]
   unfold quD
   rw[if_pos ⟨hzl,hd⟩]
  ·rw[if_neg hd,if_neg hd,c7X hx hS,d1e,b4c hx (ds:=[z]) (by simp) (by simpa using hzl) (b4O hx hS hzm) (by rw[c1B hR [z] (by simp) (by simpa using a2h hR hzl),b6Q hzl]),d1e]
theorem a99:L6 (hO x)=some (hO (a3R x)):=by
 obtain⟨n,hn,h1,h2,h3⟩:=b00 hx
 unfold L6
 simp only[jn]
 refine a3t (λj=>((j:Int),hO (stN j x))) (by rfl) n (λ_=>True) (by omega) trivial (λk hk _=>.inl ⟨?_,trivial⟩) (λ_=>⟨.inl (hO (stN n x)),?_,by rw[h3]⟩)
 ·dsimp only
  rw[if_pos (by simp;omega)]
  have:=c4X (a0T hx k) (b53 hx hS k) (k:=k) (by omega) (h2 k hk) (e:=(Sum.inl (hO (stN k x)):g5 ⊕ g5))
  rw[←a2s] at this
  exact this
 ·dsimp only
  rw[if_pos (by simp;omega),c3E (a0T hx n).sh.sr,d1e,h1]
  rfl
end
end Go.Sh
namespace Go.Sh
def J1(n l m e:Int):Int:=if n<l∨n > m then e else 0
def Z8(a b c:Int):Int:=if a≠0 then a else if b≠0 then b else c
def B3(k a b c:Int):Int:=
 if k=1 then Z8 (J1 a 0 5 6) (J1 b 0 4 1) (J1 c (-1) 5 13)
 else if k=2∨k=9∨k=10 then Z8 (J1 a 0 5 6) (J1 b 0 5 6) 0
 else if k=3 then J1 a 0 5 6
 else if k=4 then Z8 (J1 a 0 5 6) (J1 b 0 5 6) (J1 c 0 3 5)
 else if k=5 then Z8 (J1 a 0 5 6) (J1 b 0 3 5) (J1 c (-1) 5 6)
 else if k=6 then Z8 (J1 a 0 5 7) (J1 b (-1) 5 6) (J1 c (-1) 5 13)
 else if k=7 then Z8 (J1 a 0 5 6) (J1 b 0 5 7) 0
 else if k=8 then Z8 (J1 a 0 5 6) (J1 b (-1) 5 6) 0
 else if k=11 then 0
 else if k=12 then J1 a 0 200 12
 else 14
def b5R:e6:=⟨some 307,0,5,6⟩
def c4T:e6:=⟨some 308,0,5,6⟩
def c8q:e6:=⟨some 308,-1,5,6⟩
def c8y:e6:=⟨some 310,-1,5,13⟩
def b1b:List (Int × List e6):=[(1,[b5R,⟨some 308,0,4,1⟩,c8y]),(2,[b5R,c4T]),(3,[b5R]),(4,[b5R,c4T,⟨some 310,0,3,5⟩]),
 (5,[b5R,⟨some 308,0,3,5⟩,⟨some 310,-1,5,6⟩]),(6,[⟨some 307,0,5,7⟩,c8q,c8y]),(7,[b5R,⟨some 308,0,5,7⟩]),(8,[b5R,c8q]),(9,[b5R,c4T]),(10,[b5R,c4T]),(11,[]),(12,[⟨some 307,0,200,12⟩])]
theorem b7Q:a5p=some b1b:=by kernel_rfl
def a2l(o:k8)(d:e6):Int:=if d.part=some 307 then o.A else if d.part=some 308 then o.B else o.C
def a8f(o:k8)(d:e6):Bool:=decide (a2l o d<d.least)||decide (a2l o d > d.most)
def a9o(o:k8):List e6→Int ⊕ Unit
 | []=>.inr ()
 | d::ds=>if a8f o d then .inl d.e else a9o o ds
theorem b6E(o:k8)(d:e6)(ds:List e6):a9o o (d::ds)=if a8f o d then .inl d.e else a9o o ds:=rfl
def b8Z(d:e6):Prop:=d.part=some 307∨d.part=some 308∨d.part=some 310
theorem c63(o:k8){d:e6}(h:b8Z d):a9p d.part o=some (a2l o d):=by
 unfold a2l
 rcases h with h | h | h
 ·rw[h];rfl
 ·rw[h];rfl
 ·rw[h];rfl
theorem c6F(o:k8)(ds:List e6)(hl:ds.length≤10)(hp:∀d∈ds,b8Z d):lp (S:=Int) (E:=Int ⊕ Unit) (λ(s11:Int)=>
   if (decide (s11<(ds.length:Int))) then
    (ix ds s11).bind λv13=>
    (a9p v13.part o).bind λv14=>
    if ((decide (v14<v13.least))||(decide (v14 > v13.most))) then
     some (.inr (.inl v13.e))
    else
    some (.inl (p6 (s11+1)))
   else
   some (.inr (.inr ()))) 0=some (a9o o ds):=by
 refine a52 (b9j ds.length (λk=>a9o o ds=a9o o (ds.drop k)) (λe=>e=a9o o ds) (by omega) rfl (λk hk hP=>?_) (λhP=>?_))
 ·rw[if_pos (by simpa using hk),n0 hk,d1e,c63 o (hp _ (List.getElem_mem hk)),d1e]
  rw[List.drop_eq_getElem_cons hk,b6E] at hP
  by_cases c:a8f o ds[k]=true
  ·rw[if_pos (show ((decide (a2l o ds[k]<ds[k].least))||(decide (a2l o ds[k] > ds[k].most)))=true from c)]
   rw[if_pos c] at hP
   exact .inr ⟨_,rfl,hP.symm⟩
  ·rw[if_neg (show ¬((decide (a2l o ds[k]<ds[k].least))||(decide (a2l o ds[k] > ds[k].most)))=true from c),k7]
   rw[if_neg c] at hP
   exact .inl ⟨rfl,hP⟩
 ·rw[List.drop_length] at hP
  exact⟨_,if_neg (by simp),hP.symm⟩
theorem c3W:∀p∈b1b,p.2.length≤10∧∀d∈p.2,b8Z d:=by
 have:b1b.all (λp=>decide (p.2.length≤10)&&p.2.all λd=>(d.part==some 307)||(d.part==some 308)||(d.part==some 310))=true:=by kernel_rfl
 intro p hp
 have:=List.all_eq_true.1 this p hp
 rw[Bool.and_eq_true,decide_eq_true_iff,List.all_eq_true] at this
 refine⟨this.1,λd hd=>?_⟩
 have:=this.2 d hd
 simp only[Bool.or_eq_true,beq_iff_eq] at this
 unfold b8Z
 rcases this with (h | h) | h
 ·exact .inl h
 ·exact .inr (.inl h)
 ·exact .inr (.inr h)
theorem b9o{m:List (Int × List e6)}{k:Int}{v:List e6}(h:r8 m k=some v):(k,v)∈m:=by
 induction m with
 | nil=>cases h
 | cons p m ih=>
  unfold r8 at h
  split at h
  ·rename_i c
   have:k=p.1:=by simpa using c
   cases h
   subst this
   exact List.mem_cons_self ..
  ·exact List.mem_cons_of_mem _ (ih h)
def b0g(o:k8)(ds:List e6):Int:=match a9o o ds with
 | .inl e=>e
 | .inr _=>0
theorem c5f(o:k8):b0g o []=0:=rfl
theorem b0h(o:k8)(d:e6)(ds:List e6):b0g o (d::ds)=if a8f o d then d.e else b0g o ds:=by
 unfold b0g
 rw[b6E]
 cases a8f o d <;> rfl
theorem b5p(o:k8)(d:e6):J1 (a2l o d) d.least d.most d.e=if a8f o d then d.e else 0:=by
 unfold J1 a8f
 by_cases h:a2l o d<d.least∨a2l o d > d.most
 ·rw[if_pos h,if_pos (by simpa using h)]
 ·rw[if_neg h,if_neg (by simpa using h)]
theorem c5d(o:k8)(d:e6):b0g o [d]=J1 (a2l o d) d.least d.most d.e:=by rw[b0h,c5f,b5p]
theorem c3v(o:k8)(d e:e6)(h1:d.e≠0):b0g o [d,e]=Z8 (J1 (a2l o d) d.least d.most d.e) (J1 (a2l o e) e.least e.most e.e) 0:=by
 rw[b0h,c5d,b5p o d]
 unfold Z8
 cases a8f o d
 ·simp only[Bool.false_eq_true,if_false,ne_eq,not_true_eq_false]
  split
  ·rfl
  ·rename_i h;simpa using h
 ·simp[h1]
theorem c5e(o:k8)(d e f:e6)(h1:d.e≠0)(h2:e.e≠0):b0g o [d,e,f]=Z8 (J1 (a2l o d) d.least d.most d.e) (J1 (a2l o e) e.least e.most e.e) (J1 (a2l o f) f.least f.most f.e):=by
 rw[b0h,b0h,c5d,b5p o d,b5p o e]
 unfold Z8
 cases a8f o d <;> cases a8f o e <;> simp[h1,h2]
theorem c2c(o:k8):(match r8 b1b o.Kind with
  | none=>14
  | some ds=>b0g o ds)=B3 o.Kind o.A o.B o.C:=by
 obtain⟨k,a,b,c⟩:=o
 dsimp only
 by_cases h:1≤k∧k≤12
 ·have:k=1∨k=2∨k=3∨k=4∨k=5∨k=6∨k=7∨k=8∨k=9∨k=10∨k=11∨k=12:=by omega
  rcases this with rfl | rfl | rfl | rfl | rfl | rfl | rfl | rfl | rfl | rfl | rfl | rfl
  ·exact c5e _ _ _ _ (by decide) (by decide)
  ·exact c3v _ _ _ (by decide)
  ·exact c5d _ _
  ·exact c5e _ _ _ _ (by decide) (by decide)
  ·exact c5e _ _ _ _ (by decide) (by decide)
  ·exact c5e _ _ _ _ (by decide) (by decide)
  ·exact c3v _ _ _ (by decide)
  ·exact c3v _ _ _ (by decide)
  ·exact c3v _ _ _ (by decide)
  ·exact c3v _ _ _ (by decide)
  ·rfl
  ·exact c5d _ _
 ·have e:r8 b1b k=none:=by
   cases hm:r8 b1b k with
   | none=>rfl
   | some v=>
    have:=b9o hm
    simp only[b1b,List.mem_cons,Prod.mk.injEq,List.not_mem_nil,or_false] at this
    omega
  rw[e]
  unfold B3
  repeat rw[if_neg (by omega)]
theorem b2i(o:k8):a3k o=some (B3 o.Kind o.A o.B o.C):=by
 rw[←c2c]
 unfold a3k
 rw[b7Q,d1e]
 cases h:r8 b1b o.Kind with
 | none=>rfl
 | some ds=>
  obtain⟨h1,h2⟩:=c3W _ (b9o h)
  rw[if_neg (by simp)]
  simp only[jn,Option.getD_some]
  rw[c6F o ds h1 h2,d1e]
  unfold b0g
  cases a9o o ds <;> rfl
theorem c4a(n l m e:Int):a0H n l m e=some (J1 n l m e):=by
 unfold a0H J1
 by_cases h:n<l∨n > m
 ·rw[if_pos h,if_pos (by simpa using h)]
 ·rw[if_neg h,if_neg (by simpa using h)]
theorem c1V(a b c:Int):Z4 a b c=some (Z8 a b c):=by
 unfold Z4 Z8
 by_cases h:a=0
 ·by_cases g:b=0
  ·rw[if_neg (by simpa using h),if_neg (by simpa using g),if_neg (by simpa using h),if_neg (by simpa using g)]
  ·rw[if_neg (by simpa using h),if_pos (by simpa using g),if_neg (by simpa using h),if_pos (by simpa using g)]
 ·rw[if_pos (by simpa using h),if_pos (by simpa using h)]
theorem a7r(o:X5):b0Q o=some (B3 o.Kind o.A o.B o.C):=by
 unfold b0Q B3
 simp only[c4a,c1V,d1e,jn]
 by_cases h:1≤o.Kind∧o.Kind≤12
 ·have:o.Kind=1∨o.Kind=2∨o.Kind=3∨o.Kind=4∨o.Kind=5∨o.Kind=6∨o.Kind=7∨o.Kind=8∨o.Kind=9∨o.Kind=10∨o.Kind=11∨o.Kind=12:=by omega
  rcases this with h | h | h | h | h | h | h | h | h | h | h | h <;> rw[h] <;> rfl
 ·have n:∀j:Int,1≤j→j≤12→(o.Kind==j)=false:=λj h1 h2=>by
   rw[beq_eq_false_iff_ne];omega
  simp only[n 1 (by omega) (by omega),n 2 (by omega) (by omega),n 3 (by omega) (by omega),n 4 (by omega) (by omega),n 5 (by omega) (by omega),n 6 (by omega) (by omega),n 7 (by omega) (by omega),n 8 (by omega) (by omega),n 9 (by omega) (by omega),n 10 (by omega) (by omega),n 11 (by omega) (by omega),n 12 (by omega) (by omega),Bool.false_eq_true,if_false]
  repeat rw[if_neg (by omega)]
end Go.Sh
namespace Go.Sh
end Go.Sh
namespace Go.Sh
end Go.Sh
namespace Go.Sh
end Go.Sh
namespace Go.Sh
def ooI(o:D9):k9:=⟨o.Serial,o.Strong,o.Weak,o.Prog,o.Started,o.Fields⟩
def sOI(s:m8):a7:=⟨⟨s.a8.map λc=>⟨c.State,c.Gen,ooI c.Val⟩,s.Last⟩,s.Serial⟩
def hOI(x:g5):Hp:=⟨sOI x.S,x.Roots,x.a8.map λc=>⟨c.Target,c.Intact,c.Call⟩,x.T.map λp=>⟨p.State,p.Key,p.Val⟩,⟨x.Q.L.map λt=>⟨t.Kind,t.At,t.Prog⟩,x.Q.Cap⟩⟩
theorem a6L(x:Hp):hOI (hO x)=x:=by
 obtain⟨⟨⟨cs,l⟩,n⟩,r,w,t,⟨q,c⟩⟩:=x
 unfold hOI hO sOI sO tqR
 dsimp only
 have a1:(cs.map cO).map (λc=>(⟨c.State,c.Gen,ooI c.Val⟩:b7))=cs:=by
  rw[List.map_map]
  refine Eq.trans (List.map_congr_left λa _=>?_) (List.map_id cs)
  rfl
 have a2:(w.map wcR).map (λc=>(⟨c.Target,c.Intact,c.Call⟩:c4))=w:=by
  rw[List.map_map]
  refine Eq.trans (List.map_congr_left λa _=>?_) (List.map_id w)
  rfl
 have a3:(t.map J3).map (λp=>(⟨p.State,p.Key,p.Val⟩:b8))=t:=by
  rw[List.map_map]
  refine Eq.trans (List.map_congr_left λa _=>?_) (List.map_id t)
  rfl
 have a4:(q.map tkR).map (λt=>(⟨t.Kind,t.At,t.Prog⟩:g7))=q:=by
  rw[List.map_map]
  refine Eq.trans (List.map_congr_left λa _=>?_) (List.map_id q)
  rfl
 rw[a1,a2,a3,a4]
theorem b9O{x:Hp}(hx:O0 x){ds:List Int}:(x.Q.L++clt x.a8 ds).length≤30:=by
 have hS:=hx.sh
 have c6:=hS.c6
 have h24:(lv x.S).length≤24:=E8 (o6.2 hS.sr)
 have htd:(x.Q.L++clt x.a8 ds).Pairwise λa b=>¬(a.Kind=b.Kind∧a.At=b.At):=by
  rw[List.pairwise_append]
  refine⟨hS.td,b4e ..,λa ha b hb q=>?_⟩
  obtain⟨w,hw,rfl,hh,_⟩:=a2W.1 hb
  have hi:x.a8[w].Intact=true:=by
   unfold a2U at hh
   rw[Bool.and_eq_true,Bool.and_eq_true] at hh
   exact hh.1.1
  have:=((hS.cl w hw).2.2.2.2 hi).2
  rw[Bool.eq_false_iff] at this
  exact this (a7Y.2 ⟨a,ha,q.1,q.2⟩)
 have:=b3r (m:=lv x.S) htd λt ht=>by
  rcases List.mem_append.1 ht with q | q
  ·rcases (hS.tk t q).2.2 with c | c
   ·exact .inl ⟨c.1,c.2.1⟩
   ·exact .inr c
  ·obtain⟨w,hw,rfl,_,_⟩:=a2W.1 q
   exact .inr ⟨rfl,by dsimp only;omega,by dsimp only;omega⟩
 omega
section
variable{x:Hp}(hB:HB x)
include hB
end
end Go.Sh
namespace Go.Sh
structure Stl (x y:Hp):Prop where
 lv:∀h∈lv y.S,h∈lv x.S
 ser:y.S.Serial=x.S.Serial
 len:y.S.S.a8.length=x.S.S.a8.length
 ob:∀h∈Sh.lv y.S,(ob y.S h).Serial=(ob x.S h).Serial∧(Sh.ob y.S h).Prog=(Sh.ob x.S h).Prog∧(Sh.ob y.S h).Fields=(Sh.ob x.S h).Fields∧((Sh.ob x.S h).Started=true→(Sh.ob y.S h).Started=true)
 rt:y.Roots=x.Roots
 cn:y.a8.length=x.a8.length
 cl:∀i (h:i<y.a8.length) (h':i<x.a8.length),y.a8[i]=⟨x.a8[i].Target,x.a8[i].Intact&&decide (x.a8[i].Target∈Sh.lv y.S),x.a8[i].Call⟩
 q:∃l,y.Q=⟨x.Q.L++l,x.Q.Cap⟩∧(∀t∈l,t.Kind=1→t.At∈Sh.lv x.S∧(Sh.ob x.S t.At).Started=false)∧∀h∈Sh.lv y.S,(Sh.ob y.S h).Started=true→(Sh.ob x.S h).Started=false→∃t∈l,t.Kind=1∧t.At=h
 rc:∀h,a0g x.S x.T (otr x) h→a0g y.S y.T (otr y) h
 has:∀k v,Has y.T k v→Has x.T k v
theorem Stl.refl{x:Hp}(hx:HpS x):Stl x x:=by
 refine⟨λ_ h=>h,rfl,rfl,λh _=>⟨rfl,rfl,rfl,id⟩,rfl,rfl,λi h h'=>?_,⟨[],by simp,by simp,λh _ a b=>?_⟩,λ_ h=>h,λ_ _ h=>h⟩
 ·have:=(hx.cl i h).2.2.2.2
  cases hI:x.a8[i].Intact
  ·rw[Bool.false_and,←hI]
  ·rw[decide_eq_true (this hI).1,Bool.and_self,←hI]
 ·rw[a] at b;cases b
theorem Stl.trans{x y z:Hp}(a:Stl x y)(b:Stl y z):Stl x z:=by
 obtain⟨l1,q1,q2,q3⟩:=a.q
 obtain⟨l2,r1,r2,r3⟩:=b.q
 refine⟨λh hh=>a.lv h (b.lv h hh),b.ser.trans a.ser,b.len.trans a.len,λh hh=>?_,b.rt.trans a.rt,b.cn.trans a.cn,λi h h'=>?_,⟨l1++l2,?_,λt ht hk=>?_,λh hh s1 s2=>?_⟩,λh hh=>b.rc h (a.rc h hh),λk v hh=>a.has k v (b.has k v hh)⟩
 ·obtain⟨b1,b2,b3,b4⟩:=b.ob h hh
  obtain⟨a1,a2,a3,a4⟩:=a.ob h (b.lv h hh)
  exact⟨b1.trans a1,b2.trans a2,b3.trans a3,λq=>b4 (a4 q)⟩
 ·have hy:i<y.a8.length:=by rw[a.cn];exact h'
  rw[b.cl i h hy,a.cl i hy h']
  dsimp only
  congr 1
  rw[Bool.and_assoc]
  congr 1
  by_cases q:x.a8[i].Target∈Sh.lv z.S
  ·rw[decide_eq_true q,decide_eq_true (b.lv _ q)];rfl
  ·rw[decide_eq_false q,Bool.and_false]
 ·rw[r1,q1,List.append_assoc]
 ·rcases List.mem_append.1 ht with q | q
  ·exact q2 t q hk
  ·obtain⟨e1,e2⟩:=r2 t q hk
   refine⟨a.lv _ e1,?_⟩
   cases hs:(Sh.ob x.S t.At).Started
   ·rfl
   ·rw[(a.ob _ e1).2.2.2 hs] at e2;cases e2
 ·cases hs:(Sh.ob y.S h).Started
  ·obtain⟨t,ht,e⟩:=r3 h hh s1 hs
   exact⟨t,List.mem_append_right _ ht,e⟩
  ·obtain⟨t,ht,e⟩:=q3 h (b.lv h hh) hs s2
   exact⟨t,List.mem_append_left _ ht,e⟩
theorem c43(s:a7)(h:Int)(o:k9):(seO s h o).S.a8.length=s.S.a8.length:=K7 ..
theorem c4R{x:Hp}(hx:O0 x){z:Int}(hz:z∈lv x.S)(hs:(ob x.S z).Started=false):Stl x (quH x z):=by
 have hR:=hx.sh.sr
 obtain⟨k,e1,e2,e3,e4⟩:=a7B hR hz
 have l1:=b5K hR hz
 have hob:∀h∈lv x.S,(ob (quH x z).S h).Serial=(ob x.S h).Serial∧(ob (quH x z).S h).Prog=(ob x.S h).Prog∧(ob (quH x z).S h).Fields=(ob x.S h).Fields∧((ob (quH x z).S h).Started=true↔(ob x.S h).Started=true∨h=z):=λh hh=>by
  obtain⟨n,e⟩:=b2V hR hz hh
  rw[e]
  by_cases q:h=z
  ·subst q
   rw[if_pos rfl]
   exact⟨rfl,rfl,rfl,by simp⟩
  ·rw[if_neg q]
   exact⟨rfl,rfl,rfl,by simp[q]⟩
 have hot:∀h∈otr x,h∈otr (quH x z):=λh hh=>by
  unfold otr at hh ⊢
  rw[e1,e4]
  rcases List.mem_append.1 hh with q | q
  ·exact List.mem_append_left _ q
  ·refine List.mem_append_right _ ?_
   obtain⟨t,ht,a,b⟩:=a9N.1 q
   exact a9N.2 ⟨t,List.mem_append_left _ ht,a,b⟩
 have rf:=Stl.refl hx.sh
 refine⟨λh hh=>by rw[l1] at hh;exact hh,k.ser,k.len.trans (c43 ..),λh hh=>?_,e1,by rw[e2],λi h h'=>?_,⟨[qtk x z],by rw[e4],λt ht hk=>?_,λh hh s1 s2=>?_⟩,λh hh=>?_,λk v hh=>by rw[e3] at hh;exact hh⟩
 ·rw[l1] at hh
  obtain⟨a,b,c,d⟩:=hob h hh
  exact⟨a,b,c,λq=>d.2 (.inl q)⟩
 ·have e5:(quH x z).a8[i]=x.a8[i]:=by simp only[e2]
  rw[e5,l1]
  exact rf.cl i h' h'
 ·rw[List.mem_singleton] at ht
  subst ht
  exact⟨hz,hs⟩
 ·rw[l1] at hh
  rcases (hob h hh).2.2.2.1 s1 with q | q
  ·rw[q] at s2;cases s2
  ·exact⟨qtk x z,List.mem_singleton_self _,rfl,q.symm⟩
 ·induction hh with
  | base h1 h2=>exact .base (hot _ h1) (by rw[l1];exact h2)
  | step h0 h1 h2 ih=>
   refine .step ih ?_ (by rw[l1];exact h2)
   unfold outs at h1 ⊢
   rw[(hob _ h0.live).2.2.1]
   exact h1
  | pair h1 h0 h2 ih=>exact .pair (by rw[e3];exact h1) ih (by rw[l1];exact h2)
theorem c3P{x:Hp}(hx:O0 x){z:Int}(hz:z∈zr x):Stl x (buH x [z]):=by
 have hR:=hx.sh.sr
 have hzl:=(a1r.1 hz).1
 have h0:z≠0:=λe=>a73 hR (e▸hzl)
 have hfree:=b6k hx hz
 have hn:([z]:List Int).Nodup:=by simp
 have hm:∀d ∈ [z],d∈lv x.S:=by simpa using hzl
 have g:=a1H [z] hR hn hm
 have k:=(a41 ([z].flatMap (outs x.S)++(wot x.T [z]).2) (x:=a4o x [z] (wot x.T [z]).1) g.sr).1
 obtain⟨e1,e2,e3,e4⟩:=a9d hR hn hm
 obtain⟨_,w2,_,_,w5,w6⟩:=a3M hx.sh.hr [z] (by simp)
 have l1:∀h,h∈lv (buH x [z]).S↔h∈lv x.S∧h≠z:=λh=>by
  rw[b7N hR hn hm,List.mem_filter,decide_eq_true_iff,List.mem_singleton]
 have hob:∀h∈lv (buH x [z]).S,(ob (buH x [z]).S h).Serial=(ob x.S h).Serial∧(ob (buH x [z]).S h).Prog=(ob x.S h).Prog∧(ob (buH x [z]).S h).Fields=(ob x.S h).Fields∧(ob (buH x [z]).S h).Started=(ob x.S h).Started:=λh hh=>by
  obtain⟨a,b⟩:=(l1 h).1 hh
  obtain⟨n,e⟩:=b7O hR hn hm a (by simpa using b)
  rw[e]
  exact⟨rfl,rfl,rfl,rfl⟩
 refine⟨λh hh=>((l1 h).1 hh).1,k.ser.trans g.ser,k.len.trans g.len,λh hh=>?_,e1,by rw[e2];simp[clr],λi h h'=>?_,⟨clt x.a8 [z],by rw[e4],λt ht hk=>?_,λh hh s1 s2=>?_⟩,λh hh=>?_,λk v hh=>?_⟩
 ·obtain⟨a,b,c,d⟩:=hob h hh
  exact⟨a,b,c,λq=>d.trans q⟩
 ·have e5:(buH x [z]).a8[i]=a6D [z] x.a8[i]:=by
   simp only[e2]
   exact List.getElem_map _
  rw[e5]
  have hc:=(hx.sh.cl i h').2.2.2.2
  unfold a6D a2U
  cases hI:x.a8[i].Intact
  ·rw[if_neg (by simp),Bool.false_and,←hI]
  ·have ht:=(hc hI).1
   have ht0:x.a8[i].Target≠0:=λe=>a73 hR (e▸ht)
   by_cases q:x.a8[i].Target=z
   ·rw[if_pos (by simp[q,h0]),decide_eq_false (λr=>((l1 _).1 r).2 q)]
    rfl
   ·rw[if_neg (by simp[q]),decide_eq_true ((l1 _).2 ⟨ht,q⟩),Bool.and_self,←hI]
 ·obtain⟨w,hw,rfl,_,_⟩:=a2W.1 ht
  simp at hk
 ·rw[(hob h hh).2.2.2,s2] at s1
  cases s1
 ·unfold nms at hfree
  have key:a0g (buH x [z]).S (buH x [z]).T (otr (buH x [z])) h∧h≠z:=by
   induction hh with
   | base h1 h2=>
    rename_i a
    have hne:a≠z:=λe=>by
     subst e
     exact b7y h0 (by omega:R4 (otr x) a=0) h1
    refine⟨.base ?_ ((l1 _).2 ⟨h2,hne⟩),hne⟩
    unfold otr at h1 ⊢
    rw[e1,e4,b2z _ _ _ λt ht=>by
     obtain⟨w,_,rfl,_⟩:=a2W.1 ht
     simp]
    exact h1
   | step q0 q1 q2 ih=>
    rename_i a b
    have hne:b≠z:=λe=>by
     subst e
     have:=b5q (y:=b) q0.live
     have h1:=a1p.2 ⟨h0,q1⟩
     omega
    refine⟨.step ih.1 ?_ ((l1 _).2 ⟨q2,hne⟩),hne⟩
    unfold outs at q1 ⊢
    rw[(hob _ ((l1 _).2 ⟨q0.live,ih.2⟩)).2.2.1]
    exact q1
   | pair q1 q0 q2 ih=>
    rename_i a b
    have hne:b≠z:=λe=>by
     subst e
     have:=b5G q1 h0
     omega
    exact⟨.pair (by rw[e3];exact (w5 _ _).2 ⟨by simpa using ih.2,q1⟩) ih.1 ((l1 _).2 ⟨q2,hne⟩),hne⟩
  exact key.1
 ·rw[e3] at hh
  exact ((w5 _ _).1 hh).2
theorem c47{x:Hp}(hx:O0 x):Stl x (stp x):=by
 cases h:zr x with
 | nil=>rw[b0b h];exact Stl.refl hx.sh
 | cons z l=>
  have hz:z∈zr x:=by rw[h];exact List.mem_cons_self ..
  rw[a5b h]
  split
  ·rename_i q
   unfold due at q
   rw[Bool.and_eq_true,decide_eq_true_iff,Bool.not_eq_true'] at q
   exact c4R hx (a1r.1 hz).1 q.2
  ·exact c3P hx hz
theorem c46{x:Hp}(hx:O0 x)(n:Nat):Stl x (stN n x):=by
 induction n with
 | zero=>exact Stl.refl hx.sh
 | succ n ih=>rw[a2s];exact ih.trans (c47 (a0T hx n))
theorem b7s{x:Hp}(hx:O0 x):Stl x (a3R x):=c46 hx 100
end Go.Sh
namespace Go.Sh
section
variable{x:Hp}(hB:HB x)
include hB
end
end Go.Sh
namespace Go.Sh
end Go.Sh
namespace Go.Sh
end Go.Sh
namespace Go.Sh
end Go.Sh
namespace Go.Sh
structure Ks (s s':a7):Prop where
 sr:SR s'
 ser:s'.Serial=s.Serial
 lv:lv s'=lv s
 ob:∀h∈Sh.lv s,(ob s' h).Serial=(ob s h).Serial
theorem Ks.refl{s:a7}(hR:SR s):Ks s s:=⟨hR,rfl,rfl,λ_ _=>rfl⟩
theorem Ks.trans{a b c:a7}(h:Ks a b)(q:Ks b c):Ks a c:=⟨q.sr,q.ser.trans h.ser,q.lv.trans h.lv,λk hk=>(q.ob k (by rw[h.lv];exact hk)).trans (h.ob k hk)⟩
theorem Kin.ks{s s':a7}(hR:SR s)(k:Kin s s'):Ks s s':=⟨k.sr,k.ser,k.lv,λh hh=>by
 obtain⟨n,e⟩:=k.ob h (by have:=I2 hR hh;omega)
 rw[e]⟩
theorem Kn.ks{s s':a7}(k:Kn s s')(e:s'.Serial=s.Serial):Ks s s':=⟨k.sr,e,k.lv,λh hh=>by
 obtain⟨n,m,e⟩:=k.ob h hh
 rw[e]⟩
theorem c7l{s:a7}(hR:SR s){h:Int}(hh:h∈lv s){o:k9}(hs:o.Serial=(ob s h).Serial)(ho:OkO s o):Ks s (seO s h o):=⟨a1k hR hh hs ho,rfl,a2K hR hh hs ho,λk hk=>by
 rw[a1T hR hh hs ho (by have:=I2 hR hk;omega)]
 split
 ·rename_i e;subst e;exact hs
 ·rfl⟩
theorem b8H{x:Hp}(hR:SR x.S)(h:Int):Ks x.S (C0 x h).S:=(G7 hR h λc=>D2).ks hR
theorem b8A{x:Hp}(hR:SR x.S)(h:Int):Ks x.S (N7 x h).S:=(G7 hR h λc=>V1).ks hR
theorem b7j(x:Hp)(h:Int):(N7 x h).Roots=x.Roots∧(N7 x h).a8=x.a8∧(N7 x h).T=x.T∧(N7 x h).Q=x.Q:=b3n x h a5q
theorem b3a{x:Hp}(hR:SR x.S)(r:Nat)(h:Int):Ks x.S (Q4 x r h).S:=
 (b8H hR h).trans (b8A (x:=wR (C0 x h) (x.Roots.set r h)) (a7d hR h) _)
theorem c0d{x:Hp}(hR:SR x.S){h:Int}(hh:h∈lv x.S){n:Nat}(hn:n<(ob x.S h).Fields.length)(v:Int):Ks x.S (a1E x h n v).S:=by
 have k1:=b8H hR v
 have hh1:h∈lv (C0 x v).S:=by rw[k1.lv];exact hh
 have hof:(ob (C0 x v).S h).Fields=(ob x.S h).Fields:=by
  obtain⟨n,e⟩:=(G7 hR v (f:=W7) λc=>D2).ob h (by have:=I2 hR hh;omega)
  show (ob (stO x v W7).S h).Fields=_
  rw[e]
 have ho:OkO (C0 x v).S (flg (ob (C0 x v).S h) ((ob x.S h).Fields.set n v)):=by
  have:=I1 k1.sr hh1
  refine⟨this.s1,this.s2,this.st,this.wk,this.p1,this.p2,?_⟩
  have h4:=this.fl
  rw[hof] at h4
  simpa using h4
 have k2:=c7l (o:=flg (ob (C0 x v).S h) ((ob x.S h).Fields.set n v)) k1.sr hh1 rfl ho
 exact (k1.trans k2).trans (b8A (x:=wS (C0 x v) (seO (C0 x v).S h (flg (ob (C0 x v).S h) ((ob x.S h).Fields.set n v)))) k2.sr _)
theorem b1d(x:Hp)(h:Int)(n:Nat)(v:Int):(a1E x h n v).Roots=x.Roots∧(a1E x h n v).a8=x.a8∧(a1E x h n v).T=x.T∧(a1E x h n v).Q=x.Q:=by
 obtain⟨a,b,c,d⟩:=b7j (wS (C0 x v) (seO (C0 x v).S h (flg (ob (C0 x v).S h) ((ob x.S h).Fields.set n v)))) ((ob x.S h).Fields.getD n 0)
 obtain⟨a',b',c',d'⟩:=a92 x v
 exact⟨a.trans a',b.trans b',c.trans c',d.trans d'⟩
theorem c2L{x:Hp}(hR:SR x.S)(v:Int)(t:Tb)(old:Int):Ks x.S (a6X x v t old).S:=
 (b8H hR v).trans (b8A (x:=wT (C0 x v) t) (a7d hR v) old)
theorem b2Q(x:Hp)(v:Int)(t:Tb)(old:Int):(a6X x v t old).Roots=x.Roots∧(a6X x v t old).a8=x.a8∧(a6X x v t old).T=t∧(a6X x v t old).Q=x.Q:=by
 obtain⟨a,b,c,d⟩:=b7j (wT (C0 x v) t) old
 obtain⟨a',b',c',d'⟩:=a92 x v
 exact⟨a.trans a',b.trans b',c,d.trans d'⟩
end Go.Sh
namespace Go.Sh
theorem c6u{s:a7}(hR:SR s){i:Nat}(hi:i<s.S.a8.length)(h2:(ce s i).State=2):Ks s (gvA s i):=⟨b5j hR hi,rfl,b5h hR hi h2,λh hh=>by rw[b5i hR hi h2 hh]⟩
theorem c6H{x:Hp}(hR:SR x.S)(h:Int){d:Int}(hd:S0 x.S h (A2 h)→0≤(ce x.S (A2 h)).Val.Weak+d):Ks x.S (mkd x h d).S:=by
 unfold mkd
 split
 ·rename_i q
  exact (a5G hR q.1 q.2.1 (hd q)).ks rfl
 ·exact Ks.refl hR
theorem c2o(x:Hp)(h d:Int):(mkd x h d).Roots=x.Roots∧(mkd x h d).a8=x.a8∧(mkd x h d).T=x.T∧(mkd x h d).Q=x.Q:=by
 unfold mkd
 split <;> exact⟨rfl,rfl,rfl,rfl⟩
theorem c03(x:Hp)(h:Int):(a84 x h).Roots=x.Roots∧(a84 x h).a8=x.a8∧(a84 x h).T=x.T∧(a84 x h).Q=x.Q:=by
 unfold a84
 split
 ·split <;> exact⟨rfl,rfl,rfl,rfl⟩
 ·exact⟨rfl,rfl,rfl,rfl⟩
theorem b9Y{x:Hp}(hR:SR x.S)(h:Int)(hd:S0 x.S h (A2 h)→1≤(ce x.S (A2 h)).Val.Weak):Ks x.S (a84 x h).S:=by
 unfold a84
 split
 ·rename_i q
  have hd:=hd q
  have kn:=a5G (d:=-1) hR q.1 q.2.1 (by omega)
  split
  ·rename_i c
   have hi1:A2 h<(mkA x.S (A2 h) (-1)).S.a8.length:=by rw[kn.len];exact q.1
   have hce:ce (mkA x.S (A2 h) (-1)) (A2 h)=⟨(ce x.S (A2 h)).State,(ce x.S (A2 h)).Gen,wkg (ce x.S (A2 h)).Val ((ce x.S (A2 h)).Val.Weak + -1)⟩:=by
    rw[a3v hR q.1 q.2.1,if_pos rfl]
   have h2:(ce (mkA x.S (A2 h) (-1)) (A2 h)).State=2:=by rw[hce];exact c.1
   exact (kn.ks rfl).trans (c6u kn.sr hi1 h2)
  ·exact kn.ks rfl
 ·exact Ks.refl hR
theorem c3w{x:Hp}(hx:O0 x){n:Nat}(hn:n<6)(h call:Int):Ks x.S (a3K x n h call).S:=by
 have hR:=hx.sh.sr
 have hnl:n<x.a8.length:=by have:=hx.sh.c6;omega
 have ok:∀k i,S0 x.S k i→0≤(ce x.S i).Val.Weak:=λk i q=>(hR.ok i q.1 q.2.1).wk
 have tw:∀i,S0 x.S (tgt x n) i→1≤(ce x.S i).Val.Weak:=λi q=>by
  have htg:tgt x n=x.a8[n].Target:=by
   unfold tgt
   rw[List.getD_eq_getElem?_getD,List.getElem?_eq_getElem hnl]
   rfl
  have r:=q.rng hR
  have p:=a9O hnl (by rw[←htg];omega)
  rw[←htg,q.2.2] at p
  have:=(hx.wk i q.1 q.2.1).1
  omega
 unfold a3K
 have s1:Ks x.S (mkd (wC x (x.a8.set n (wcl h call))) h 1).S:=c6H (x:=wC x (x.a8.set n (wcl h call))) hR h λq=>by
  have:=ok _ _ q
  dsimp only
  omega
 by_cases q:S0 x.S h (A2 h)
 ·have e:mkd (wC x (x.a8.set n (wcl h call))) h 1=wS (wC x (x.a8.set n (wcl h call))) (mkA x.S (A2 h) 1):=by
   unfold mkd
   rw[if_pos q]
  have hd:=ok _ _ q
  have kn:=a5G (d:=1) hR q.1 q.2.1 (by omega)
  rw[e] at s1 ⊢
  refine s1.trans (b9Y (x:=wS (wC x (x.a8.set n (wcl h call))) (mkA x.S (A2 h) 1)) kn.sr _ λq2=>?_)
  dsimp only at q2 ⊢
  have q3:=(kn.ad _ _).1 q2
  have:=tw _ q3
  rw[a3v hR q.1 q.2.1]
  split
  ·rename_i e2
   rw[e2] at this
   show 1≤(ce x.S (A2 h)).Val.Weak+1
   omega
  ·exact this
 ·have e:mkd (wC x (x.a8.set n (wcl h call))) h 1=wC x (x.a8.set n (wcl h call)):=by
   unfold mkd
   rw[if_neg q]
  rw[e] at s1 ⊢
  exact s1.trans (b9Y (x:=wC x (x.a8.set n (wcl h call))) hR _ λq2=>tw _ q2)
theorem b8R(x:Hp)(n:Nat)(h call:Int):(a3K x n h call).Roots=x.Roots∧(a3K x n h call).a8=x.a8.set n (wcl h call)∧(a3K x n h call).T=x.T∧(a3K x n h call).Q=x.Q:=by
 obtain⟨a,b,c,d⟩:=c03 (mkd (wC x (x.a8.set n (wcl h call))) h 1) (tgt x n)
 obtain⟨a',b',c',d'⟩:=c2o (wC x (x.a8.set n (wcl h call))) h 1
 exact⟨a.trans a',b.trans b',c.trans c',d.trans d'⟩
end Go.Sh
namespace Go.Sh
abbrev nwo(s:a7)(n:Nat)(p:Int):k9:=⟨s.Serial+1,0,0,p,false,List.replicate n 0⟩
def mkS(s:a7)(i n:Nat)(p:Int):a7:=⟨⟨s.S.a8.set i ⟨1,(ce s i).Gen,nwo s n p⟩,s.S.Last⟩,s.Serial+1⟩
section
variable{s:a7}(hR:SR s){i:Nat}(hi:i<s.S.a8.length)(h0:(ce s i).State=0){n:Nat}(hn:n≤4){p:Int}(hp : -1≤p∧p≤5)
include hR hi h0 hn hp
theorem a5I:(mkS s i n p).S.a8.length=s.S.a8.length:=by simp[mkS]
theorem a6U(j:Nat):ce (mkS s i n p) j=if j=i then ⟨1,(ce s i).Gen,nwo s n p⟩ else ce s j:=a4G hi _ _ j
theorem b9q:SR (mkS s i n p):=by
 have hser:=hR.ser
 have hc:=hR.cell i hi
 have hnt:¬Th (ce s i):=λh=>by
  rcases h with h | h <;> omega
 refine⟨by rw[a5I hR hi h0 hn hp];exact hR.len,hR.l0,hR.l9,by show 0≤s.Serial+1;omega,λj hj=>?_,λj hj ht=>?_,λj hj ht=>?_,λj k hj hk a b e=>?_⟩
 ·rw[a5I hR hi h0 hn hp] at hj
  rw[a6U hR hi h0 hn hp]
  split
  ·exact⟨show (0:Int)≤1 by decide,show (1:Int)≤3 by decide,hc.2.2.1,hc.2.2.2⟩
  ·exact hR.cell j hj
 ·rw[a5I hR hi h0 hn hp] at hj
  rw[a6U hR hi h0 hn hp] at ht ⊢
  split at ht
  ·exact absurd (.inl rfl) ht
  ·rename_i e
   rw[if_neg e];exact hR.no j hj ht
 ·rw[a5I hR hi h0 hn hp] at hj
  rw[a6U hR hi h0 hn hp] at ht ⊢
  split at ht
  ·rename_i e
   rw[if_pos e]
   exact⟨by show 1≤s.Serial+1;omega,Int.le_refl _,Int.le_refl 0,Int.le_refl 0,hp.1,hp.2,by simpa using hn⟩
  ·rename_i e
   rw[if_neg e]
   have:=hR.ok j hj ht
   exact⟨this.s1,by show _≤s.Serial+1;have:=this.s2;omega,this.st,this.wk,this.p1,this.p2,this.fl⟩
 ·rw[a5I hR hi h0 hn hp] at hj hk
  rw[a6U hR hi h0 hn hp] at a e
  rw[a6U hR hi h0 hn hp] at b e
  have old:∀m,m<s.S.a8.length→Th (ce s m)→(ce s m).Val.Serial≠s.Serial+1:=λm hm t q=>by
   have:=(hR.ok m hm t).s2
   omega
  by_cases ej:j=i <;> by_cases ek:k=i
  ·rw[ej,ek]
  ·rw[if_neg ek] at b e
   rw[if_pos ej] at e
   exact absurd e.symm (old k hk b)
  ·rw[if_neg ej] at a e
   rw[if_pos ek] at e
   exact absurd e (old j hj a)
  ·rw[if_neg ej] at a e
   rw[if_neg ek] at b e
   exact hR.dif j k hj hk a b e
theorem b8h{k:Int}{j:Nat}(q:S0 s k j):j≠i:=λe=>by
 subst e
 rcases q.2.1 with h | h <;> omega
theorem c6G{k:Int}{j:Nat}:S0 (mkS s i n p) k j↔S0 s k j∨(j=i∧k=hdl s i):=by
 unfold S0
 rw[a5I hR hi h0 hn hp,a6U hR hi h0 hn hp]
 by_cases e:j=i
 ·rw[if_pos e]
  subst e
  constructor
  ·rintro⟨a,b,c⟩
   exact .inr ⟨rfl,c⟩
  ·rintro (⟨a,b,c⟩ | ⟨_,c⟩)
   ·exact absurd rfl (b8h hR hi h0 hn hp ⟨a,b,c⟩)
   ·exact⟨hi,.inl rfl,c⟩
 ·rw[if_neg e]
  constructor
  ·exact .inl
  ·rintro (h | ⟨h,_⟩)
   ·exact h
   ·exact absurd h e
theorem b9p:lv (mkS s i n p)=lv s ++ [hdl s i]:=by
 have e:=b8g (s:=s) (o6.2 hR) hi (by rw[←C2 hi];exact h0) (nwo s n p) rfl (V2 (o6.2 hR))
 unfold mkS
 rw[show (ce s i).Gen=s.S.a8[i].Gen by rw[C2 hi]]
 have e2:hdl s i=1+(i:Int)+32*s.S.a8[i].Gen:=by unfold hdl;rw[C2 hi]
 rw[e2]
 have:=V2 (o6.2 (by have:=b9q hR hi h0 hn hp;unfold mkS at this;rw[show (ce s i).Gen=s.S.a8[i].Gen by rw[C2 hi]] at this;exact this))
 rw[e] at this
 exact (Option.some.inj this).symm
theorem c2m:hdl s i∉lv s:=λh=>by
 obtain⟨j,q⟩:=(a4P hR).1 h
 have:i=j:=by
  have a:=q.2.2
  have b:=q.1
  unfold hdl at a
  have:=hR.len
  omega
 subst this
 have:=q.2.1
 omega
theorem b4u{k:Int}(hk:k∈lv s):ob (mkS s i n p) k=ob s k:=by
 obtain⟨j,q⟩:=(a4P hR).1 hk
 have hj:=b8h hR hi h0 hn hp q.d
 have q2:At (mkS s i n p) k j:=by
  refine⟨by rw[a5I hR hi h0 hn hp];exact q.1,?_,?_⟩ <;> rw[a6U hR hi h0 hn hp,if_neg hj]
  ·exact q.2.1
  ·exact q.2.2
 rw[Q3 (b9q hR hi h0 hn hp) q2,Q3 hR q,a6U hR hi h0 hn hp,if_neg hj]
theorem b0F:ob (mkS s i n p) (hdl s i)=nwo s n p:=by
 have q2:At (mkS s i n p) (hdl s i) i:=by
  refine⟨by rw[a5I hR hi h0 hn hp];exact hi,?_,?_⟩ <;> rw[a6U hR hi h0 hn hp,if_pos rfl]
  rfl
 rw[Q3 (b9q hR hi h0 hn hp) q2,a6U hR hi h0 hn hp,if_pos rfl]
end
theorem b9W{l:List Int}{h:Int}(e:h∉l):R4 l h=0:=Nat.eq_zero_of_not_pos λq=>e (a1p.1 q).2
theorem c2n{x:Hp}(hx:O0 x){i:Nat}(hi:i<x.S.S.a8.length)(h0:(ce x.S i).State=0){n:Nat}(hn:n≤4){p:Int}(hp : -1≤p∧p≤5):O0 (wS x (mkS x.S i n p)):=by
 have hR:=hx.sh.sr
 have hS:=b9q hR hi h0 hn hp
 have hl:=b9p hR hi h0 hn hp
 have hnew:=c2m hR hi h0 hn hp
 have mem:∀ {k},k∈lv x.S→k∈lv (mkS x.S i n p):=λhk=>by rw[hl];exact List.mem_append_left _ hk
 have mem0:∀ {k},k=0∨k∈lv x.S→k=0∨k∈lv (mkS x.S i n p):=λhk=>hk.imp id mem
 have hpos:=b1U hR hi
 have split:∀ {k},k∈lv (mkS x.S i n p)→k∈lv x.S∨k=hdl x.S i:=λhk=>by
  rw[hl] at hk
  rcases List.mem_append.1 hk with q | q
  ·exact .inl q
  ·exact .inr (List.mem_singleton.1 q)
 have rep:∀v∈List.replicate n (0:Int),v=0:=λv hv=>(List.mem_replicate.1 hv).2
 have ntgt:∀j (hj:j<x.a8.length),x.a8[j].Target≠hdl x.S i:=λj hj e=>by
  obtain⟨q,hq⟩:=(hx.sh.cl j hj).2.2.2.1 (by rw[e];omega)
  rw[e] at hq
  have:q=i:=by
   have a:=hq.2.2
   have b:=hq.1
   unfold hdl at a
   have:=hR.len
   omega
  exact b8h hR hi h0 hn hp hq this
 refine⟨⟨hS,hx.sh.hr,hx.sh.r6,hx.sh.c6,hx.sh.cap,hx.sh.q30,λt ht=>?_,hx.sh.td,λh hh=>mem0 (hx.sh.rt h hh),λh hh v hv=>?_,λk v hk=>?_,λj hj=>?_⟩,λj hj ht=>?_,λh hh hs=>?_⟩
 ·obtain⟨a,b,c⟩:=hx.sh.tk t ht
  refine⟨a,b,c.imp (λ⟨d,e,f⟩=>⟨d,mem e,?_⟩) id⟩
  show (ob (mkS x.S i n p) t.At).Started=true
  rw[b4u hR hi h0 hn hp e];exact f
 ·rcases split hh with q | q
  ·have hv':v∈(ob (mkS x.S i n p) h).Fields:=hv
   rw[b4u hR hi h0 hn hp q] at hv'
   exact mem0 (hx.sh.fl h q v hv')
  ·subst q
   have hv':v∈(ob (mkS x.S i n p) (hdl x.S i)).Fields:=hv
   rw[b0F hR hi h0 hn hp] at hv'
   exact .inl (rep v hv')
 ·obtain⟨a,b⟩:=hx.sh.pr k v hk
  exact⟨mem a,mem b⟩
 ·obtain⟨a,b,c,d,e⟩:=hx.sh.cl j hj
  refine⟨a,b,c,λq=>?_,λq=>⟨mem (e q).1,(e q).2⟩⟩
  obtain⟨m,hm⟩:=d q
  exact⟨m,(c6G hR hi h0 hn hp).2 (.inl hm)⟩
 ·have hj':j<x.S.S.a8.length:=by have:j<(mkS x.S i n p).S.a8.length:=hj;rwa [a5I hR hi h0 hn hp] at this
  show (ce (mkS x.S i n p) j).Val.Weak=(nmg x.a8 (1+(j:Int)+32*(ce (mkS x.S i n p) j).Gen):Int)∧_
  have ht':Th (ce (mkS x.S i n p) j):=ht
  rw[a6U hR hi h0 hn hp] at ht' ⊢
  by_cases e:j=i
  ·subst e
   rw[if_pos rfl]
   refine⟨?_,λq=>absurd (show (1:Int)=2 from q) (by decide)⟩
   show (0:Int)=(nmg x.a8 (hdl x.S j):Int)
   have:nmg x.a8 (hdl x.S j)=0:=by
    unfold nmg
    rw[List.countP_eq_zero]
    intro c hc
    obtain⟨m,hm,rfl⟩:=List.getElem_of_mem hc
    have:=ntgt m hm
    simp[this]
   rw[this];rfl
  ·rw[if_neg e] at ht' ⊢
   exact hx.wk j hj' ht'
 ·have hinn:∀y,inn (mkS x.S i n p) y=inn x.S y:=λy=>by
   unfold inn
   rw[hl,List.map_append,List.sum_append]
   have e1:(lv x.S).map (λk=>R4 (outs (mkS x.S i n p) k) y)=(lv x.S).map λk=>R4 (outs x.S k) y:=List.map_congr_left λk hk=>by
    unfold outs
    rw[b4u hR hi h0 hn hp hk]
   rw[e1]
   have e2:outs (mkS x.S i n p) (hdl x.S i) = []:=by
    refine List.eq_nil_iff_forall_not_mem.2 λv hv=>?_
    have h1:=a5J.1 hv
    rw[b0F hR hi h0 hn hp] at h1
    exact h1.2 (rep v h1.1)
   simp[e2,R6]
  have hnm:∀y,nms (wS x (mkS x.S i n p)) y=nms x y:=λy=>by
   unfold nms
   show inn (mkS x.S i n p) y+own x.T y+R4 (otr x) y=_
   rw[hinn]
  rw[hnm]
  have hs':(ob (mkS x.S i n p) h).Strong<12:=hs
  show (ob (mkS x.S i n p) h).Strong=_
  rcases split hh with q | q
  ·rw[b4u hR hi h0 hn hp q] at hs' ⊢
   exact hx.fair h q hs'
  ·subst q
   rw[b0F hR hi h0 hn hp]
   have h1:nms x (hdl x.S i)=0:=by
    unfold nms
    have a1:inn x.S (hdl x.S i)=0:=by
     unfold inn
     have:=b57 (λk=>R4 (outs x.S k) (hdl x.S i)) 0 (lv x.S) λk hk=>Nat.le_of_eq<|b9W λq=>by
      have q2:=a5J.1 q
      rcases hx.sh.fl k hk _ q2.1 with e | e
      ·exact q2.2 e
      ·exact hnew e
     omega
    have a2:own x.T (hdl x.S i)=0:=by
     unfold own
     rw[List.countP_eq_zero]
     intro c hc
     have:=(hx.sh.pr _ _ (a18.1 hc)).2
     have hne:c.Val≠hdl x.S i:=λe=>hnew (e▸this)
     simp[hne]
    have a3:R4 (otr x) (hdl x.S i)=0:=b9W λq=>by
     unfold otr at q
     rcases List.mem_append.1 q with q | q
     ·have q2:=a5J.1 q
      rcases hx.sh.rt _ q2.1 with e | e
      ·exact q2.2 e
      ·exact hnew e
     ·obtain⟨t,ht,k1,k2⟩:=a9N.1 q
      rcases (hx.sh.tk t ht).2.2 with ⟨_,b,_⟩ | ⟨b,_⟩
      ·exact hnew (k2▸b)
      ·omega
    omega
   rw[h1,R6]
   rfl
end Go.Sh
namespace Go.Sh
structure Ev (x y:Hp):Prop where
 lv:∀h∈lv y.S,(h∈Sh.lv x.S∧(ob y.S h).Serial=(ob x.S h).Serial)∨(h∉Sh.lv x.S∧(ob y.S h).Serial=x.S.Serial+1)
 s1:x.S.Serial≤y.S.Serial
 s2:y.S.Serial≤x.S.Serial+1
theorem Ev.refl(x:Hp):Ev x x:=⟨λh hh=>.inl ⟨hh,rfl⟩,by omega,by omega⟩
theorem Ks.ev{x y:Hp}(k:Ks x.S y.S):Ev x y:=⟨λh hh=>by
 rw[k.lv] at hh
 exact .inl ⟨hh,k.ob h hh⟩,by rw[k.ser];omega,by rw[k.ser];omega⟩
theorem Ev.ks{x y z:Hp}(e:Ev x y)(k:Ks y.S z.S):Ev x z:=⟨λh hh=>by
 rw[k.lv] at hh
 rw[k.ob h hh]
 exact e.lv h hh,by rw[k.ser];exact e.s1,by rw[k.ser];exact e.s2⟩
theorem Ev.stl{x y z:Hp}(e:Ev x y)(s:Stl y z):Ev x z:=⟨λh hh=>by
 rw[(s.ob h hh).1]
 exact e.lv h (s.lv h hh),by rw[s.ser];exact e.s1,by rw[s.ser];exact e.s2⟩
theorem c8n{x:Hp}(hx:O0 x){i:Nat}(hi:i<x.S.S.a8.length)(h0:(ce x.S i).State=0){n:Nat}(hn:n≤4){p:Int}(hp : -1≤p∧p≤5):Ev x (wS x (mkS x.S i n p)):=⟨λh hh=>by
 have hR:=hx.sh.sr
 have hh':h∈lv (mkS x.S i n p):=hh
 show (_∧(ob (mkS x.S i n p) h).Serial=_)∨_∧(ob (mkS x.S i n p) h).Serial=_
 rw[b9p hR hi h0 hn hp] at hh'
 rcases List.mem_append.1 hh' with q | q
 ·exact .inl ⟨q,by rw[b4u hR hi h0 hn hp q]⟩
 ·rw[List.mem_singleton.1 q]
  exact .inr ⟨c2m hR hi h0 hn hp,by rw[b0F hR hi h0 hn hp]⟩,by show _≤x.S.Serial+1;omega,Int.le_refl _⟩
def Cw(x y:Hp)(w:Int):Prop:=∀i:Nat,(i:Int)≠w→(y.a8.getD i cz).Target=(x.a8.getD i cz).Target∧((y.a8.getD i cz).Intact=true→(x.a8.getD i cz).Intact=true)
theorem Cw.refl(x:Hp)(w:Int):Cw x x w:=λi _=>⟨rfl,id⟩
theorem Cw.same{x y:Hp}(h:y.a8=x.a8)(w:Int):Cw x y w:=λi _=>by rw[h];exact⟨rfl,id⟩
theorem Cw.trans{x y z:Hp}{w:Int}(a:Cw x y w)(b:Cw y z w):Cw x z w:=λi hi=>⟨(b i hi).1.trans (a i hi).1,λq=>(a i hi).2 ((b i hi).2 q)⟩
theorem Stl.cw{x y:Hp}(s:Stl x y)(w:Int):Cw x y w:=λi _=>by
 by_cases h:i<x.a8.length
 ·have h':i<y.a8.length:=by rw[s.cn];exact h
  rw[b1T h,b1T h',s.cl i h' h]
  exact⟨rfl,λq=>(Bool.and_eq_true _ _▸q).1⟩
 ·have h':¬i<y.a8.length:=by rw[s.cn];exact h
  rw[List.getD_eq_getElem?_getD,List.getD_eq_getElem?_getD,List.getElem?_eq_none (by omega),List.getElem?_eq_none (by omega)]
  exact⟨rfl,id⟩
theorem Cw.set{x y:Hp}{w:Nat}{c:c4}(h:y.a8=x.a8.set w c):Cw x y w:=λi hi=>by
 rw[h,List.getD_eq_getElem?_getD,List.getD_eq_getElem?_getD,List.getElem?_set_ne (by omega)]
 exact⟨rfl,id⟩
end Go.Sh
namespace Go.Sh
def Fst(s:a7)(i:Nat):Prop:=i<s.S.a8.length∧(ce s i).State=0∧∀j,j<i→(ce s j).State≠0
theorem c8j{s:a7}(hR:SR s)(hb:s.Serial<9223372036854775807)(a p:Int) :
  (¬(0≤a∧a≤4)∧N9 s a p=some (s,0,1)) ∨
  ((0≤a∧a≤4)∧¬(-1≤p∧p≤5)∧N9 s a p=some (s,0,13)) ∨
  ((0≤a∧a≤4)∧(-1≤p∧p≤5)∧(∀i,i<s.S.a8.length→(ce s i).State≠0)∧N9 s a p=some (s,0,4)) ∨
  ((0≤a∧a≤4)∧(-1≤p∧p≤5)∧∃i,Fst s i∧N9 s a p=some (mkS s i a.toNat p,hdl s i,0)):=by
 have hs':=hR.ser
 have hR':=o6.2 hR
 unfold N9 b6f
 by_cases ha:0≤a∧a≤4
 ·right
  obtain⟨ha1,ha2⟩:=ha
  obtain⟨n,rfl⟩:∃n:Nat,a=n:=⟨a.toNat,by omega⟩
  rw[if_neg (by simp;omega),b2G (by omega) (by omega)]
  simp only[d1e]
  by_cases hp : -1≤p∧p≤5
  ·right
   unfold G0
   simp only[d1e]
   have e1:(decide (p ≥ -1)&&decide (p<6))=true:=by simp;omega
   rw[e1]
   have hl:SlO s.S:=⟨a1i hR',hR'.l0,hR'.l9,λi hi=>b5V hR' i hi⟩
   rcases b58 hl ⟨s.Serial+1,0,0,p,false,List.replicate n 0⟩ with ⟨i,hi,h0,hf,e⟩ | ⟨hf,e⟩
   ·right
    refine⟨⟨ha1,ha2⟩,hp,i,⟨hi,by rw[C2 hi];exact h0,λj hj=>by rw[C2 (by omega)];exact hf j hj⟩,?_⟩
    simp only[bne_self_eq_false,Bool.false_eq_true,if_false,Bool.not_true]
    rw[show p6 (s.Serial+1)=s.Serial+1 from C9 (by omega) (by omega),e]
    unfold mkS hdl
    rw[C2 hi]
    simp
   ·left
    refine⟨⟨ha1,ha2⟩,hp,λi hi=>by rw[C2 hi];exact hf i hi,?_⟩
    simp only[bne_self_eq_false,Bool.false_eq_true,if_false,Bool.not_true]
    rw[show p6 (s.Serial+1)=s.Serial+1 from C9 (by omega) (by omega),e]
    simp
  ·left
   refine⟨⟨ha1,ha2⟩,hp,?_⟩
   unfold G0
   simp only[d1e]
   have e1:(decide (p ≥ -1)&&decide (p<6))=false:=by rw[Bool.eq_false_iff];simp;omega
   rw[e1]
   simp
 ·left
  refine⟨ha,?_⟩
  rw[if_pos (by simp;omega)]
  simp
end Go.Sh
namespace Go.Sh
def sd(x:Hp)(r:Int):Int:=if r<0 then 0 else x.Roots.getD r.toNat 0
def asd(x:Hp)(r:Int):Int × Int:=if sd x r=0 then (0,2) else (sd x r,0)
def ser(x:Hp)(h:Int):Int:=(ob x.S h).Serial
theorem in0{n l m e:Int}(he:e≠0)(h:J1 n l m e=0):l≤n∧n≤m:=by
 unfold J1 at h
 split at h
 ·exact absurd h he
 ·omega
theorem b72{a b c:Int}(h:Z8 a b c=0):a=0∧b=0∧c=0:=by
 unfold Z8 at h
 split at h
 ·contradiction
 ·split at h
  ·contradiction
  ·omega
theorem c4g{k a b c:Int}(h:B3 k a b c=0):1≤k∧k≤12:=by
 refine Decidable.byContradiction λq=>?_
 have:B3 k a b c=14:=by
  unfold B3
  repeat rw[if_neg (by omega)]
 omega
theorem c9x{a b c:Int}(h:B3 1 a b c=0):(0≤a∧a≤5)∧(0≤b∧b≤4) ∧ -1≤c∧c≤5:=by
 obtain⟨h1,h2,h3⟩:=b72 (show Z8 (J1 a 0 5 6) (J1 b 0 4 1) (J1 c (-1) 5 13)=0 from h)
 exact⟨in0 (by decide) h1,in0 (by decide) h2,in0 (by decide) h3⟩
theorem c56{a b c:Int}(h:B3 2 a b c=0):(0≤a∧a≤5)∧(0≤b∧b≤5):=by
 obtain⟨h1,h2,_⟩:=b72 (show Z8 (J1 a 0 5 6) (J1 b 0 5 6) 0=0 from h)
 exact⟨in0 (by decide) h1,in0 (by decide) h2⟩
theorem c9y{a b c:Int}(h:B3 3 a b c=0):0≤a∧a≤5:=in0 (by decide) (show J1 a 0 5 6=0 from h)
theorem c9z{a b c:Int}(h:B3 4 a b c=0):(0≤a∧a≤5)∧(0≤b∧b≤5)∧0≤c∧c≤3:=by
 obtain⟨h1,h2,h3⟩:=b72 (show Z8 (J1 a 0 5 6) (J1 b 0 5 6) (J1 c 0 3 5)=0 from h)
 exact⟨in0 (by decide) h1,in0 (by decide) h2,in0 (by decide) h3⟩
theorem c9A{a b c:Int}(h:B3 5 a b c=0):(0≤a∧a≤5)∧(0≤b∧b≤3) ∧ -1≤c∧c≤5:=by
 obtain⟨h1,h2,h3⟩:=b72 (show Z8 (J1 a 0 5 6) (J1 b 0 3 5) (J1 c (-1) 5 6)=0 from h)
 exact⟨in0 (by decide) h1,in0 (by decide) h2,in0 (by decide) h3⟩
theorem c9B{a b c:Int}(h:B3 6 a b c=0):(0≤a∧a≤5)∧(-1≤b∧b≤5) ∧ -1≤c∧c≤5:=by
 obtain⟨h1,h2,h3⟩:=b72 (show Z8 (J1 a 0 5 7) (J1 b (-1) 5 6) (J1 c (-1) 5 13)=0 from h)
 exact⟨in0 (by decide) h1,in0 (by decide) h2,in0 (by decide) h3⟩
theorem c9C{a b c:Int}(h:B3 7 a b c=0):(0≤a∧a≤5)∧(0≤b∧b≤5):=by
 obtain⟨h1,h2,_⟩:=b72 (show Z8 (J1 a 0 5 6) (J1 b 0 5 7) 0=0 from h)
 exact⟨in0 (by decide) h1,in0 (by decide) h2⟩
theorem c9D{a b c:Int}(h:B3 8 a b c=0):(0≤a∧a≤5)∧(-1≤b∧b≤5):=by
 obtain⟨h1,h2,_⟩:=b72 (show Z8 (J1 a 0 5 6) (J1 b (-1) 5 6) 0=0 from h)
 exact⟨in0 (by decide) h1,in0 (by decide) h2⟩
theorem c9E{a b c:Int}(h:B3 9 a b c=0):(0≤a∧a≤5)∧(0≤b∧b≤5):=c56 (show B3 2 a b c=0 from h)
theorem c7W{a b c:Int}(h:B3 10 a b c=0):(0≤a∧a≤5)∧(0≤b∧b≤5):=c56 (show B3 2 a b c=0 from h)
section
variable{x:Hp}(hx:HpS x)
include hx
theorem b1p{r:Int}(h:0≤r∧r≤5):ix x.Roots r=some (sd x r):=by
 have:=hx.r6
 obtain⟨n,rfl⟩:∃n:Nat,r=n:=⟨r.toNat,by omega⟩
 have hn:n<x.Roots.length:=by omega
 rw[n0 hn]
 unfold sd
 rw[if_neg (by omega),Int.toNat_natCast,List.getD_eq_getElem?_getD,List.getElem?_eq_getElem hn]
 rfl
theorem b3j{r:Int}(h:¬(0≤r∧r≤5)):sd x r=0:=by
 have:=hx.r6
 unfold sd
 split
 ·rfl
 ·rw[List.getD_eq_getElem?_getD,List.getElem?_eq_none (by omega)]
  rfl
theorem b1q(r:Int):sd x r=0∨sd x r∈lv x.S:=by
 by_cases h:0≤r∧r≤5
 ·have e:=b1p hx h
  unfold ix at e
  rw[if_pos h.1] at e
  exact hx.rt _ (List.mem_of_getElem? e)
 ·exact .inl (b3j hx h)
theorem b1r(r:Int):sd x r≤9223372036854775807:=by
 rcases b1q hx r with h | h
 ·omega
 ·have:=I2 hx.sr h;omega
theorem a5W(r:Int):H7 x r=some (sd x r):=by
 have h6:=hx.r6
 unfold H7
 by_cases h:0≤r∧r≤5
 ·rw[if_neg (by simp;omega),b1p hx h]
  rfl
 ·rw[if_pos (by simp;omega),b3j hx h]
theorem c3k{r:Int}(h:r≤5):a4Z (hO x) r=some (sd x r):=by
 unfold a4Z
 by_cases q:r<0
 ·rw[if_pos (by simpa using q),b3j hx (by omega)]
 ·rw[if_neg (by simpa using q),show (hO x).Roots=x.Roots from rfl,b1p hx (by omega)]
  rfl
theorem a4S(r:Int):I3 x r=some (asd x r):=by
 unfold I3 asd
 rw[a5W hx,d1e]
 by_cases h:sd x r=0
 ·rw[if_pos (by simpa using h),if_pos h]
 ·rw[if_neg (by simpa using h),if_neg h]
theorem a9c{r:Int}(h:0≤r∧r≤5):T7 (hO x) r=some (asd x r):=by
 unfold T7 asd
 rw[show (hO x).Roots=x.Roots from rfl,b1p hx h,d1e]
 by_cases h:sd x r=0
 ·rw[if_pos (by simpa using h),if_pos h]
 ·rw[if_neg (by simpa using h),if_neg h]
theorem c7n{h:Int}(hh:h≤9223372036854775807):a07 x h=some (ser x h):=by
 obtain⟨e,h1,_⟩:=N2 (o6.2 hx.sr) hh
 unfold a07
 rw[h1]
 rfl
theorem c5R{h:Int}(hh:h≤9223372036854775807):a3C (hO x) h=some (ser x h):=by
 obtain⟨e,h1,_⟩:=N2 (o6.2 hx.sr) hh
 unfold a3C
 rw[show (hO x).S=sO x.S from rfl,a4F x.S (by have:=hx.sr.len;omega) hh,h1]
 rfl
theorem b81(r:Int):a0C x r=some (ser x (sd x r)):=by
 unfold a0C
 rw[a5W hx,d1e,c7n hx (b1r hx r)]
 rfl
theorem b9T:ser x 0=0:=by
 unfold ser
 rw[a8u (o6.2 hx.sr) (by omega) (a73 hx.sr)]
theorem c7S(r:Int):b0R (hO x) r=some (ser x (sd x r)):=by
 unfold b0R
 by_cases h:0≤r∧r≤5
 ·rw[if_neg (by simp;omega),show (hO x).Roots=x.Roots from rfl,b1p hx h,d1e,c5R hx (b1r hx r)]
  rfl
 ·rw[if_pos (by simp;omega),b3j hx h,b9T hx]
end
theorem c7o{x z:Hp}(hx:HpS x)(k:Ks x.S z.S){h:Int}(hh:h=0∨h∈lv x.S):ser z h=ser x h:=by
 rcases hh with e | e
 ·subst e
  unfold ser
  rw[a8u (o6.2 hx.sr) (by omega) (a73 hx.sr),a8u (o6.2 k.sr) (by omega) (a73 k.sr)]
 ·exact k.ob h e
theorem c42{x z:Hp}(h:z.Roots=x.Roots)(r:Int):sd z r=sd x r:=by unfold sd;rw[h]
noncomputable def doR(x:Hp)(o:k8)(v:Hp × Int):Option (Hp × Int × Int):=
 if (v.2 != 0) then some (x,0,v.2) else (T8 v.1).bind λv5=>(P3 v.1 v5 o).bind λv6=>some (v5,v6,0)
theorem a8m{x:Hp}{o:k8}{n:Option Nat}(hc:B3 o.Kind o.A o.B o.C=0)(hk:∃l,a17=some l∧r8 l o.Kind=some n):p7 x o=(b1R n ⟨x,o⟩).bind (doR x o):=by
 obtain⟨l,h1,h2⟩:=hk
 unfold p7
 rw[b2i,hc,d1e,if_neg (by simp),h1,d1e,h2,if_neg (by simp)]
 rfl
theorem c6a{x:Hp}{o:k8}(hc:B3 o.Kind o.A o.B o.C≠0):p7 x o=some (x,0,B3 o.Kind o.A o.B o.C)∧A8 (hO x) ⟨o.Kind,o.A,o.B,o.C⟩=some (hO x,0,B3 o.Kind o.A o.B o.C):=by
 constructor
 ·unfold p7
  rw[b2i,d1e,if_pos (by simpa using hc)]
 ·unfold A8
  rw[a7r,d1e,if_pos (by simpa using hc)]
section
variable{x:Hp}{a b c:Int}
theorem c9F(hc:B3 1 a b c=0):p7 x ⟨1,a,b,c⟩=(O2 ⟨x,⟨1,a,b,c⟩⟩).bind (doR x ⟨1,a,b,c⟩):=a8m (o:=⟨1,a,b,c⟩) (n:=some 242) hc ⟨_,rfl,rfl⟩
theorem c9G(hc:B3 2 a b c=0):p7 x ⟨2,a,b,c⟩=(F7 ⟨x,⟨2,a,b,c⟩⟩).bind (doR x ⟨2,a,b,c⟩):=a8m (o:=⟨2,a,b,c⟩) (n:=some 243) hc ⟨_,rfl,rfl⟩
theorem c9H(hc:B3 3 a b c=0):p7 x ⟨3,a,b,c⟩=(V3 ⟨x,⟨3,a,b,c⟩⟩).bind (doR x ⟨3,a,b,c⟩):=a8m (o:=⟨3,a,b,c⟩) (n:=some 244) hc ⟨_,rfl,rfl⟩
theorem c9I(hc:B3 4 a b c=0):p7 x ⟨4,a,b,c⟩=(V4 ⟨x,⟨4,a,b,c⟩⟩).bind (doR x ⟨4,a,b,c⟩):=a8m (o:=⟨4,a,b,c⟩) (n:=some 245) hc ⟨_,rfl,rfl⟩
theorem c9J(hc:B3 5 a b c=0):p7 x ⟨5,a,b,c⟩=(R3 ⟨x,⟨5,a,b,c⟩⟩).bind (doR x ⟨5,a,b,c⟩):=a8m (o:=⟨5,a,b,c⟩) (n:=some 246) hc ⟨_,rfl,rfl⟩
theorem c9K(hc:B3 6 a b c=0):p7 x ⟨6,a,b,c⟩=(O3 ⟨x,⟨6,a,b,c⟩⟩).bind (doR x ⟨6,a,b,c⟩):=a8m (o:=⟨6,a,b,c⟩) (n:=some 247) hc ⟨_,rfl,rfl⟩
theorem c9L(hc:B3 7 a b c=0):p7 x ⟨7,a,b,c⟩=(T0 ⟨x,⟨7,a,b,c⟩⟩).bind (doR x ⟨7,a,b,c⟩):=a8m (o:=⟨7,a,b,c⟩) (n:=some 248) hc ⟨_,rfl,rfl⟩
theorem c9M(hc:B3 8 a b c=0):p7 x ⟨8,a,b,c⟩=(V5 ⟨x,⟨8,a,b,c⟩⟩).bind (doR x ⟨8,a,b,c⟩):=a8m (o:=⟨8,a,b,c⟩) (n:=some 249) hc ⟨_,rfl,rfl⟩
theorem c9N(hc:B3 9 a b c=0):p7 x ⟨9,a,b,c⟩=(Z1 ⟨x,⟨9,a,b,c⟩⟩).bind (doR x ⟨9,a,b,c⟩):=a8m (o:=⟨9,a,b,c⟩) (n:=some 250) hc ⟨_,rfl,rfl⟩
theorem c7Z(hc:B3 10 a b c=0):p7 x ⟨10,a,b,c⟩=(L2 ⟨x,⟨10,a,b,c⟩⟩).bind (doR x ⟨10,a,b,c⟩):=a8m (o:=⟨10,a,b,c⟩) (n:=some 251) hc ⟨_,rfl,rfl⟩
theorem c1z{k:Int}(hk:k=11∨k=12)(hc:B3 k a b c=0):p7 x ⟨k,a,b,c⟩=some (x,0,14)∧A8 (hO x) ⟨k,a,b,c⟩=some (hO x,0,14):=by
 constructor
 ·unfold p7
  rw[b2i,hc,d1e,if_neg (by simp)]
  rcases hk with rfl | rfl <;> rfl
 ·unfold A8 a3g
  rw[a7r,hc,d1e,if_neg (by simp)]
  rcases hk with rfl | rfl <;> rfl
variable{y:g5}
def rT(y:g5)(a:Int)(v:Int × Int):Option (g5 × Int × Int):=
 if (v.2 != 0) then some (y,0,v.2) else (a1f y a v.1).bind λv15=>(L6 v15.1).bind λv16=>(b0R v16 a).bind λv17=>some (v16,v17,0)
def rO(y:g5)(v:g5 × Int × Int):Option (g5 × Int × Int):=
 if (v.2.2 != 0) then some (y,0,v.2.2) else (L6 v.1).bind λv8=>(a3C y v.2.1).bind λv9=>some (v8,v9,0)
theorem b9G{k:Int}(hk:k=2∨k=3∨k=4∨k=7∨k=9)(hc:B3 k a b c=0):A8 y ⟨k,a,b,c⟩=(a1Q y ⟨k,a,b,c⟩).bind (rT y a):=by
 unfold A8 a3g
 rw[a7r,hc,d1e,if_neg (by simp)]
 rcases hk with rfl | rfl | rfl | rfl | rfl <;> rfl
theorem b9F{k:Int}(hk:k=5∨k=6∨k=8)(hc:B3 k a b c=0):A8 y ⟨k,a,b,c⟩=(a0Q y ⟨k,a,b,c⟩).bind (rO y):=by
 unfold A8 a3g
 rw[a7r,hc,d1e,if_neg (by simp)]
 rcases hk with rfl | rfl | rfl <;> rfl
theorem c8I(hc:B3 1 a b c=0):A8 y ⟨1,a,b,c⟩=(a2m y.S b c).bind λv10=>if (v10.2.2 != 0) then some (y,0,v10.2.2) else (a1f ⟨v10.1,y.Roots,y.a8,y.T,y.Q⟩ a v10.2.1).bind λv11=>(L6 v11.1).bind λv12=>(b0R v12 a).bind λv13=>some (v12,v13,0):=by
 unfold A8 a3g
 rw[a7r,hc,d1e,if_neg (by simp)]
 rfl
theorem c7d(hc:B3 10 a b c=0):A8 y ⟨10,a,b,c⟩=(ix y.Roots a).bind λv3=>(ix y.Roots b).bind λv4=>if (v3==v4) then some (y,1,0) else some (y,0,0):=by
 unfold A8 a3g
 rw[a7r,hc,d1e,if_neg (by simp)]
 rfl
end
end Go.Sh
namespace Go.Sh
section
variable{s:a7}(hR:SR s){i:Nat}(hi:i<s.S.a8.length)
include hR hi
theorem c7w(st g:Int):a0F (sO s) ⟨(pl (sO s)).a8.set i ⟨st,g,0⟩,(pl (sO s)).Last⟩=some ⟨(sO s).a8.set i ⟨st,g,oo (ce s i).Val⟩,s.S.Last,s.Serial⟩:=by
 have hlen:=hR.len
 have J3:i<(pl (sO s)).a8.length:=by rw[a0E,z1];exact hi
 rw[b3u _ _ (by rw[z1];omega) (by simp[a0E])]
 congr 1
 congr 1
 refine List.ext_getElem (by simp) λk h1 h2=>?_
 have hk:k<s.S.a8.length:=by simpa[z1] using h1
 have hk2:k<(sO s).a8.length:=by rw[z1];exact hk
 have hk3:k<(pl (sO s)).a8.length:=by rw[a0E];exact hk2
 simp only[List.getElem_map,List.getElem_range,List.getElem_set]
 have e1:(sO s).a8.getD k ⟨0,0,oo z0⟩=cO (ce s k):=by
  rw[List.getD_eq_getElem?_getD,List.getElem?_eq_getElem hk2,C2 hk]
  simp[sO]
 have e2:((pl (sO s)).a8.set i ⟨st,g,0⟩).getD k ⟨0,0,0⟩=if k=i then ⟨st,g,0⟩ else plc k (cO (ce s k)):=by
  rw[a4G J3]
  split
  ·rfl
  ·rw[List.getD_eq_getElem?_getD,List.getElem?_eq_getElem hk3,C2 hk]
   simp[pl,sO]
 rw[e1,e2]
 by_cases e:k=i
 ·subst e
  rw[if_pos rfl,if_pos rfl]
  rfl
 ·rw[if_neg e,if_neg (Ne.symm e)]
  rw[C2 hk]
  simp[sO,plc,cO]
theorem c7x(st g:Int)(o:D9):a2n ⟨(sO s).a8.set i ⟨st,g,oo (ce s i).Val⟩,s.S.Last,s.Serial⟩ (i:Int) o=some ⟨(sO s).a8.set i ⟨st,g,o⟩,s.S.Last,s.Serial⟩:=by
 have hlen:=hR.len
 unfold a2n
 have hi2:i<((sO s).a8.set i ⟨st,g,oo (ce s i).Val⟩).length:=by simp[z1];exact hi
 rw[J8 (by omega) (by simp[z1];omega),d1e,n0 hi2,d1e]
 simp[List.set_set]
theorem c2P:∃h:i<(pl (sO s)).a8.length,(pl (sO s)).a8[i]=⟨(ce s i).State,(ce s i).Gen,(i:Int)⟩:=by
 have J3:i<(pl (sO s)).a8.length:=by rw[a0E,z1];exact hi
 refine⟨J3,?_⟩
 rw[C2 hi]
 simp[pl,sO,plc,cO]
end
theorem c7u{s:a7}(hR:SR s):(∀i,i<s.S.a8.length→(ce s i).State≠0)→a61 (pl (sO s)) 0=some (pl (sO s),0,4):=λhf=>by
 have hlen:=hR.len
 have el:(pl (sO s)).a8.length=s.S.a8.length:=by rw[a0E,z1]
 unfold a61
 simp only[jn]
 refine M0 (pl (sO s)).a8.length (λk=>True) (by omega) trivial (λk hk _=>?_) (λhP=>⟨.inr (),by simp,rfl⟩)
 refine .inl ⟨?_,trivial⟩
 obtain⟨h1,h2⟩:=c2P hR (show k<s.S.a8.length by omega)
 have:=hf k (by omega)
 simp only[Int.ofNat_lt,hk,decide_true,if_true,n0 hk,d1e]
 rw[h2,if_neg (by simpa using this),k7]
theorem c49{s:a7}(hR:SR s){i:Nat}(hF:Fst s i):a61 (pl (sO s)) 0=some (⟨(pl (sO s)).a8.set i ⟨1,(ce s i).Gen,0⟩,(pl (sO s)).Last⟩,hdl s i,0):=by
 have hlen:=hR.len
 have el:(pl (sO s)).a8.length=s.S.a8.length:=by rw[a0E,z1]
 obtain⟨hi,h0,hmin⟩:=hF
 have hc:=hR.cell i hi
 have l9:=hR.l9
 unfold a61
 simp only[jn]
 refine M0 (pl (sO s)).a8.length (λk=>k≤i) (by omega) (by omega) (λk hk hP=>?_) (λhP=>by omega)
 obtain⟨h1,h2⟩:=c2P hR (show k<s.S.a8.length by omega)
 rcases Nat.lt_or_ge k i with g | g
 ·refine .inl ⟨?_,g⟩
  have:=hmin k g
  simp only[Int.ofNat_lt,hk,decide_true,if_true,n0 hk,d1e]
  rw[h2,if_neg (by simpa using this),k7]
 ·have:k=i:=by omega
  subst this
  refine .inr ⟨.inl _,?_,rfl⟩
  simp only[Int.ofNat_lt,hk,decide_true,if_true,n0 hk,d1e]
  rw[h2,if_pos (by simpa using h0)]
  have w3:∀c:E1,a0o (pl (sO s)) (k:Int) c=some ⟨(pl (sO s)).a8.set k c,(pl (sO s)).Last⟩:=λc=>by
   unfold a0o
   rw[J8 (by omega) (by omega),d1e,n0 hk,d1e,Int.toNat_natCast]
  rw[w3,d1e,a6Y,if_pos (by dsimp only;omega),d1e]
  rfl
theorem c8k{s:a7}(hR:SR s)(hb:s.Serial<9223372036854775807)(a p:Int) :
  (∃e,e≠0∧N9 s a p=some (s,0,e)∧a2m (sO s) a p=some (sO s,0,e)) ∨
  ((0≤a∧a≤4)∧(-1≤p∧p≤5)∧∃i,Fst s i∧N9 s a p=some (mkS s i a.toNat p,hdl s i,0)∧a2m (sO s) a p=some (sO (mkS s i a.toNat p),hdl s i,0)):=by
 have hser:=hR.ser
 have hlen:=hR.len
 have r1:∀n:Nat,n≤4→b13 (n:Int)=some (List.replicate n 0,0):=λn hn=>by
  unfold b13
  rw[if_neg (by simp;omega),b2G (by omega) (by omega)]
  rfl
 rcases c8j hR hb a p with ⟨h1,e⟩ | ⟨h1,h2,e⟩ | ⟨h1,h2,h3,e⟩ | ⟨h1,h2,i,h3,e⟩
 ·refine .inl ⟨1,by decide,e,?_⟩
  unfold a2m b13
  rw[if_pos (by simp;omega)]
  rfl
 ·refine .inl ⟨13,by decide,e,?_⟩
  obtain⟨n,rfl⟩:∃n:Nat,a=n:=⟨a.toNat,by omega⟩
  unfold a2m
  rw[r1 n (by omega),d1e,if_neg (by simp),if_pos (by simp;omega)]
 ·refine .inl ⟨4,by decide,e,?_⟩
  obtain⟨n,rfl⟩:∃n:Nat,a=n:=⟨a.toNat,by omega⟩
  unfold a2m
  rw[r1 n (by omega),d1e,if_neg (by simp),if_neg (by simp;omega),a4e _ (by rw[z1];omega),d1e,c7u hR h3,d1e,if_pos (by simp)]
 ·refine .inr ⟨h1,h2,i,h3,e,?_⟩
  obtain⟨n,rfl⟩:∃n:Nat,a=n:=⟨a.toNat,by omega⟩
  have hi:=h3.1
  have hc:=hR.cell i hi
  have l9:=hR.l9
  unfold a2m
  rw[r1 n (by omega),d1e,if_neg (by simp),if_neg (by simp;omega),a4e _ (by rw[z1];omega),d1e,c49 hR h3,d1e,if_neg (by simp),c7w hR hi,d1e,a60,if_pos (by unfold Hnd hdl;dsimp only;omega),d1e,
   show (hdl s i-1) % 32=(i:Int) by unfold hdl;omega,c7x hR hi,d1e,C9 (by show _≤s.Serial+1;omega) (by show s.Serial+1≤_;omega)]
  unfold mkS
  rw[Int.toNat_natCast]
  simp only[sO,List.map_set]
  rfl
end Go.Sh
