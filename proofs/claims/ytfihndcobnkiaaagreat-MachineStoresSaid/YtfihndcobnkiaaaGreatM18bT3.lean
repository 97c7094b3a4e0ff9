/-
 More of the theory.
-/
import Derived.Test.YtfihndcobnkiaaaGreatM18bT2
set_option linter.unusedVariables false
set_option linter.unusedSimpArgs false
set_option linter.unusedSectionVars false
namespace Go.Sh
section
variable{s:store_Store}(hR:SR s){i:Nat}(hi:i<s.S.Cells.length)
include hR hi
theorem c7o(st g:Int):a0u (sO s) ⟨(pl (sO s)).Cells.set i ⟨st,g,0⟩,(pl (sO s)).Last⟩=some ⟨(sO s).Cells.set i ⟨st,g,oo (ce s i).Val⟩,s.S.Last,s.Serial⟩:=by
 have hlen:=hR.len
 have I1:i<(pl (sO s)).Cells.length:=by rw[a0t,y6];exact hi
 rw[b3f _ _ (by rw[y6];omega) (by simp[a0t])]
 congr 1
 congr 1
 refine List.ext_getElem (by simp) λk h1 h2=>?_
 have hk:k<s.S.Cells.length:=by simpa[y6] using h1
 have hk2:k<(sO s).Cells.length:=by rw[y6];exact hk
 have hk3:k<(pl (sO s)).Cells.length:=by rw[a0t];exact hk2
 simp only[List.getElem_map,List.getElem_range,List.getElem_set]
 have e1:(sO s).Cells.getD k ⟨0,0,oo z0⟩=cO (ce s k):=by
  rw[List.getD_eq_getElem?_getD,List.getElem?_eq_getElem hk2,C9 hk]
  simp[sO]
 have e2:((pl (sO s)).Cells.set i ⟨st,g,0⟩).getD k ⟨0,0,0⟩=if k=i then ⟨st,g,0⟩ else plc k (cO (ce s k)):=by
  rw[a4g I1]
  split
  ·rfl
  ·rw[List.getD_eq_getElem?_getD,List.getElem?_eq_getElem hk3,C9 hk]
   simp[pl,sO]
 rw[e1,e2]
 by_cases e:k=i
 ·subst e
  rw[if_pos rfl,if_pos rfl]
  rfl
 ·rw[if_neg e,if_neg (Ne.symm e)]
  rw[C9 hk]
  simp[sO,plc,cO]
theorem c7p(st g:Int)(o:A5):a11 ⟨(sO s).Cells.set i ⟨st,g,oo (ce s i).Val⟩,s.S.Last,s.Serial⟩ (i:Int) o=some ⟨(sO s).Cells.set i ⟨st,g,o⟩,s.S.Last,s.Serial⟩:=by
 have hlen:=hR.len
 unfold a11
 have hi2:i<((sO s).Cells.set i ⟨st,g,oo (ce s i).Val⟩).length:=by simp[y6];exact hi
 rw[K5 (by omega) (by simp[y6];omega),d09,l6 hi2,d09]
 simp[List.set_set]
theorem c2E:∃h:i<(pl (sO s)).Cells.length,(pl (sO s)).Cells[i]=⟨(ce s i).State,(ce s i).Gen,(i:Int)⟩:=by
 have I1:i<(pl (sO s)).Cells.length:=by rw[a0t,y6];exact hi
 refine⟨I1,?_⟩
 rw[C9 hi]
 simp[pl,sO,plc,cO]
end
theorem c7m{s:store_Store}(hR:SR s):(∀i,i<s.S.Cells.length→(ce s i).State≠0)→a6D (pl (sO s)) 0=some (pl (sO s),0,4):=λhf=>by
 have hlen:=hR.len
 have el:(pl (sO s)).Cells.length=s.S.Cells.length:=by rw[a0t,y6]
 unfold a6D
 simp only[jn]
 refine E9 (pl (sO s)).Cells.length (λk=>True) (by omega) trivial (λk hk _=>?_) (λhP=>⟨.inr (),by simp,rfl⟩)
 refine .inl ⟨?_,trivial⟩
 obtain⟨h1,h2⟩:=c2E hR (show k<s.S.Cells.length by omega)
 have:=hf k (by omega)
 simp only[Int.ofNat_lt,hk,decide_true,if_true,l6 hk,d09]
 rw[h2,if_neg (by simpa using this),g9]
theorem c4U{s:store_Store}(hR:SR s){i:Nat}(hF:Fst s i):a6D (pl (sO s)) 0=some (⟨(pl (sO s)).Cells.set i ⟨1,(ce s i).Gen,0⟩,(pl (sO s)).Last⟩,hdl s i,0):=by
 have hlen:=hR.len
 have el:(pl (sO s)).Cells.length=s.S.Cells.length:=by rw[a0t,y6]
 obtain⟨hi,h0,hmin⟩:=hF
 have hc:=hR.cell i hi
 have l9:=hR.l9
 unfold a6D
 simp only[jn]
 refine E9 (pl (sO s)).Cells.length (λk=>k≤i) (by omega) (by omega) (λk hk hP=>?_) (λhP=>by omega)
 obtain⟨h1,h2⟩:=c2E hR (show k<s.S.Cells.length by omega)
 rcases Nat.lt_or_ge k i with g | g
 ·refine .inl ⟨?_,g⟩
  have:=hmin k g
  simp only[Int.ofNat_lt,hk,decide_true,if_true,l6 hk,d09]
  rw[h2,if_neg (by simpa using this),g9]
 ·have:k=i:=by omega
  subst this
  refine .inr ⟨.inl _,?_,rfl⟩
  simp only[Int.ofNat_lt,hk,decide_true,if_true,l6 hk,d09]
  rw[h2,if_pos (by simpa using h0)]
  have w3:∀c:z8,a0c (pl (sO s)) (k:Int) c=some ⟨(pl (sO s)).Cells.set k c,(pl (sO s)).Last⟩:=λc=>by
   unfold a0c
   rw[K5 (by omega) (by omega),d09,l6 hk,d09,Int.toNat_natCast]
  rw[w3,d09,a3J,if_pos (by dsimp only;omega),d09]
  rfl
theorem c79{s:store_Store}(hR:SR s)(hb:s.Serial<9223372036854775807)(a p:Int) :
  (∃e,e≠0∧N8 s a p=some (s,0,e)∧a10 (sO s) a p=some (sO s,0,e)) ∨
  ((0≤a∧a≤4)∧(-1≤p∧p≤5)∧∃i,Fst s i∧N8 s a p=some (mkS s i a.toNat p,hdl s i,0)∧a10 (sO s) a p=some (sO (mkS s i a.toNat p),hdl s i,0)):=by
 have hser:=hR.Y4
 have hlen:=hR.len
 have r1:∀n:Nat,n≤4→b1Q (n:Int)=some (List.replicate n 0,0):=λn hn=>by
  unfold b1Q
  rw[if_neg (by simp;omega),b6M (by omega) (by omega)]
  rfl
 rcases c78 hR hb a p with ⟨h1,e⟩ | ⟨h1,h2,e⟩ | ⟨h1,h2,h3,e⟩ | ⟨h1,h2,i,h3,e⟩
 ·refine .inl ⟨1,by decide,e,?_⟩
  unfold a10 b1Q
  rw[if_pos (by simp;omega)]
  rfl
 ·refine .inl ⟨13,by decide,e,?_⟩
  obtain⟨n,rfl⟩:∃n:Nat,a=n:=⟨a.toNat,by omega⟩
  unfold a10
  rw[r1 n (by omega),d09,if_neg (by simp),if_pos (by simp;omega)]
 ·refine .inl ⟨4,by decide,e,?_⟩
  obtain⟨n,rfl⟩:∃n:Nat,a=n:=⟨a.toNat,by omega⟩
  unfold a10
  rw[r1 n (by omega),d09,if_neg (by simp),if_neg (by simp;omega),a1Q _ (by rw[y6];omega),d09,c7m hR h3,d09,if_pos (by simp)]
 ·refine .inr ⟨h1,h2,i,h3,e,?_⟩
  obtain⟨n,rfl⟩:∃n:Nat,a=n:=⟨a.toNat,by omega⟩
  have hi:=h3.1
  have hc:=hR.cell i hi
  have l9:=hR.l9
  unfold a10
  rw[r1 n (by omega),d09,if_neg (by simp),if_neg (by simp;omega),a1Q _ (by rw[y6];omega),d09,c4U hR h3,d09,if_neg (by simp),c7o hR hi,d09,a6C,if_pos (by unfold Hnd hdl;dsimp only;omega),d09,
   show (hdl s i-1) % 32=(i:Int) by unfold hdl;omega,c7p hR hi,d09,E5 (by show _≤s.Serial+1;omega) (by show s.Serial+1≤_;omega)]
  unfold mkS
  rw[Int.toNat_natCast]
  simp only[sO,List.map_set]
  rfl
end Go.Sh
namespace Go.Sh
abbrev opR(o:code_Op):a2f:=⟨o.Kind,o.A,o.B,o.C⟩
structure Dn (x:Hp) (o:code_Op) (z:Hp) (v:Int):Prop where
 rt:Q5 z
 sl:SL z
 ev:Ev x z
 cw:Cw x z (if o.Kind=6 then o.A else -1)
 mc:l5 x o=some (M6 z,v,0)
 rf:A8 (hO x) (opR o)=some (hO (M6 z),v,0)
def Er(x:Hp)(o:code_Op)(e:Int):Prop:=e≠0∧l5 x o=some (x,0,e)∧A8 (hO x) (opR o)=some (hO x,0,e)
theorem c8d{x:Hp}(hx:Q5 x)(hS:SL x){i:Nat}(hi:i<x.S.S.Cells.length)(h0:(ce x.S i).State=0){n:Nat}(hn:n≤4){p:Int}(hp : -1≤p∧p≤5):SL (wS x (mkS x.S i n p)):=λk hk=>by
 have hR:=hx.sh.sr
 have hk':k∈lv (mkS x.S i n p):=hk
 show (ob (mkS x.S i n p) k).Strong≤_
 rw[b87 hR hi h0 hn hp] at hk'
 rcases List.mem_append.1 hk' with q | q
 ·rw[b4k hR hi h0 hn hp q];exact hS k q
 ·rw[List.mem_singleton.1 q,b0G hR hi h0 hn hp]
  show (0:Int)≤_
  decide
theorem a2G{y:Hp}(hy:Q5 y){a:Int}(ha:0≤a∧a≤5){h:Int}(hh:h=0∨h∈lv y.S):sd (M6 (Q6 y a.toNat h)) a=h∧Y4 (M6 (Q6 y a.toNat h)) h=Y4 y h:=by
 have hz:=a3N hy (r:=a.toNat) (by omega) hh
 have st:=a6U hz
 have w:=a3e hz
 have e1:(M6 (Q6 y a.toNat h)).Roots=y.Roots.set a.toNat h:=st.rt.trans (a8E y a.toNat h).1
 have h6:=hy.sh.r6
 have e2:sd (M6 (Q6 y a.toNat h)) a=h:=by
  unfold sd
  rw[if_neg (by omega),e1,List.getD_eq_getElem?_getD,List.getElem?_set_self (by omega)]
  rfl
 refine⟨e2,?_⟩
 have k:=b2V hy.sh.sr a.toNat h
 rcases a5Y w.sh a with q | q
 ·rw[e2] at q
  subst q
  rw[b23 w.sh,b23 hy.sh]
 ·rw[e2] at q
  have h1:=(st.ob h q).1
  have h2:=st.lv h q
  rw[k.lv] at h2
  exact h1.trans (k.ob h h2)
section
variable{x:Hp}{a b c:Int}
theorem a5O{o:code_Op}{y:Hp}{e:Int}(he:e≠0):doR x o (y,e)=some (x,0,e):=by
 unfold doR
 rw[if_pos (by simpa using he)]
theorem c5a{z:Hp}(hz:Q5 z)(hS:SL z){k:Int}(hk:k≠5∧k≠6∧k≠8∧k≠10):doR x ⟨k,a,b,c⟩ (z,0)=some (M6 z,Y4 (M6 z) (sd (M6 z) a),0):=by
 unfold doR P5
 rw[if_neg (by simp),b0X hz hS,d09]
 simp only[jn]
 rw[if_neg (by simp;omega),if_neg (by simp;omega)]
 have:(k==8)=false:=by simp;omega
 rw[this,if_neg (by simp),if_neg (by simp;omega),b12 (a3e hz).sh]
 rfl
theorem b8E{o:code_Op}{v e:Int}(he:e≠0):y7 ⟨x,o⟩ v e=some (x,e):=by
 unfold y7
 rw[if_pos (by simpa using he)]
theorem c2L{y:g6}{v e:Int}(he:e≠0):rT y a (v,e)=some (y,0,e):=by
 unfold rT
 rw[if_pos (by simpa using he)]
theorem c0k{y z:g6}{v e:Int}(he:e≠0):rO y (z,v,e)=some (y,0,e):=by
 unfold rO
 rw[if_pos (by simpa using he)]
variable(hx:Q5 x)(hS:SL x)
include hx hS
theorem a7D{k:Int}(ha:0≤a∧a≤5){h:Int}(hh:h=0∨h∈lv x.S):y7 ⟨x,⟨k,a,b,c⟩⟩ h 0=some (Q6 x a.toNat h,0):=by
 unfold y7
 rw[if_neg (by simp),c4H hx hS a (a6w hx hS hh),if_neg (by omega),if_pos hh]
 rfl
theorem c8s(ha:0≤a∧a≤5){h:Int}(hh:h=0∨h∈lv x.S):rT (hO x) a (h,0)=some (hO (M6 (Q6 x a.toNat h)),Y4 x h,0):=by
 have hz:=a3N hx (r:=a.toNat) (by omega) hh
 have zS:=b2W hx.sh.sr hS a.toNat h
 obtain⟨e1,e2⟩:=a2G hx ha hh
 unfold rT
 rw[if_neg (by simp),c2V hx hS a (a6w hx hS hh),if_neg (by omega),if_pos hh,d09,b25 hz zS,d09,c7J (a3e hz).sh,e1,e2]
 rfl
theorem a4L{k:Int}(hk:k=2∨k=3∨k=4∨k=7∨k=9)(hc:A7 k a b c=0)(ha:0≤a∧a≤5){h:Int}(hh:h=0∨h∈lv x.S)
  (h1:l5 x ⟨k,a,b,c⟩=doR x ⟨k,a,b,c⟩ (Q6 x a.toNat h,0))(h2:a1z (hO x) ⟨k,a,b,c⟩=some (h,0)):Dn x ⟨k,a,b,c⟩ (Q6 x a.toNat h) (Y4 x h):=by
 have hz:=a3N hx (r:=a.toNat) (by omega) hh
 have zS:=b2W hx.sh.sr hS a.toNat h
 obtain⟨e1,e2⟩:=a2G hx ha hh
 refine⟨hz,zS,(b2V hx.sh.sr a.toNat h).ev,Cw.same (a8E x a.toNat h).2.1 _,?_,?_⟩
 ·rw[h1,c5a hz zS (by omega),e1,e2]
 ·show A8 (hO x) ⟨k,a,b,c⟩=_
  rw[b9o hk hc,h2,d09,c8s hx hS ha hh]
theorem d2(hc:A7 2 a b c=0):Dn x ⟨2,a,b,c⟩ (Q6 x a.toNat (sd x b)) (Y4 x (sd x b)):=by
 obtain⟨ha,hb⟩:=c5V hc
 refine a4L hx hS (.inl rfl) hc ha (a5Y hx.sh b) ?_ ?_
 ·rw[c9C hc]
  unfold F6
  rw[a5A hx.sh,d09,a7D hx hS ha (a5Y hx.sh b)]
  rfl
 ·unfold a1z
  rw[if_pos (by rfl),show (hO x).Roots=x.Roots from rfl,b1j hx.sh hb]
  rfl
theorem d3(hc:A7 3 a b c=0):Dn x ⟨3,a,b,c⟩ (Q6 x a.toNat 0) 0:=by
 have ha:=c9u hc
 have:=a4L (b:=b) (c:=c) hx hS (.inr (.inl rfl)) hc ha (h:=0) (.inl rfl) ?_ ?_
 ·rwa [b23 hx.sh] at this
 ·rw[c9D hc]
  unfold U8
  rw[a7D hx hS ha (.inl rfl)]
  rfl
 ·rfl
theorem d4(hc:A7 4 a b c=0):(sd x b=0∧Er x ⟨4,a,b,c⟩ 2)∨(∃e,M8 x.S (sd x b) c=some (0,e)∧Er x ⟨4,a,b,c⟩ e) ∨
  (sd x b∈lv x.S∧∃n:Nat,c=n∧∃hn:n<(ob x.S (sd x b)).Fields.length,Dn x ⟨4,a,b,c⟩ (Q6 x a.toNat (ob x.S (sd x b)).Fields[n]) (Y4 x (ob x.S (sd x b)).Fields[n])):=by
 obtain⟨ha,hb,_⟩:=c9v hc
 have hm:l5 x ⟨4,a,b,c⟩=_:=c9E hc
 unfold U9 at hm
 rw[a4u hx.sh,d09] at hm
 have hr:A8 (hO x) ⟨4,a,b,c⟩=_:=b9o (by omega) hc
 have hnm:a1z (hO x) ⟨4,a,b,c⟩=(T4 (hO x) b).bind λv2=>if (v2.2 != 0) then some (0,v2.2) else (a2B (hO x).S v2.1 c).bind λv3=>some (v3.1,v3.2):=rfl
 rw[a8U hx.sh hb,d09] at hnm
 by_cases h0:sd x b=0
 ·refine .inl ⟨h0,by decide,?_,?_⟩
  ·rw[hm]
   unfold asd
   rw[if_pos h0,if_pos (by simp),d09,a5O (by decide)]
  ·show A8 (hO x) ⟨4,a,b,c⟩=_
   rw[hr,hnm]
   unfold asd
   rw[if_pos h0,if_pos (by simp),d09,c2L (by decide)]
 ·have has:asd x b=(sd x b,0):=by unfold asd;rw[if_neg h0]
  rw[has,if_neg (by simp)] at hm hnm
  right
  rcases b08 hx hS (sd x b) c (a92 hx.sh b) with ⟨e,he,f1,f2⟩ | ⟨hl,n,hn0,hn,f1,f2⟩
  ·refine .inl ⟨e,f1,he,?_,?_⟩
   ·rw[hm]
    dsimp only
    rw[f1,d09,b8E he,d09,d09,a5O he]
   ·show A8 (hO x) ⟨4,a,b,c⟩=_
    rw[hr,hnm]
    dsimp only
    rw[show (hO x).S=sO x.S from rfl,f2,d09,d09,c2L he]
  ·refine .inr ⟨hl,n,hn0,hn,?_⟩
   have hv:=hx.sh.fl _ hl _ (List.getElem_mem hn)
   refine a4L hx hS (by omega) hc ha hv ?_ ?_
   ·rw[hm]
    dsimp only
    rw[f1,d09,a7D hx hS ha hv]
    rfl
   ·rw[hnm]
    dsimp only
    rw[show (hO x).S=sO x.S from rfl,f2]
    rfl
theorem c31{n:Nat}(hn:n<6):∃h:n<x.Cells.length,a4N x.Cells n=some (if x.Cells[n].Target=0∨x.Cells[n].Intact=false then (0,9) else (x.Cells[n].Target,0))∧a9E (hO x).Cells n=some (if x.Cells[n].Target=0∨x.Cells[n].Intact=false then (0,9) else (x.Cells[n].Target,0)):=by
 have c6:=hx.sh.c6
 have hl:n<x.Cells.length:=by omega
 have hl2:n<(x.Cells.map wcR).length:=by simp;exact hl
 refine⟨hl,?_,?_⟩
 ·unfold a4N a4O
  have:(decide ((n:Int)≥0)&&decide ((n:Int)<(x.Cells.length:Int)))=true:=by simp;omega
  rw[this,d09,if_neg (by simp),l6 hl,d09]
  by_cases q:x.Cells[n].Target=0∨x.Cells[n].Intact=false
  ·rw[if_pos q,if_pos (by rcases q with q | q <;> simp[q])]
  ·rw[if_neg q,if_neg (by simpa using q)]
 ·unfold a9E
  show (if _ then _ else (ix (x.Cells.map wcR) (n:Int)).bind _)=_
  rw[if_neg (by simp[hO];omega),l6 hl2,d09,List.getElem_map]
  by_cases q:x.Cells[n].Target=0∨x.Cells[n].Intact=false
  ·rw[if_pos q,if_pos (by rcases q with q | q <;> simp[wcR,q])]
  ·rw[if_neg q,if_neg (by simpa[wcR] using q)]
   rfl
theorem d7(hc:A7 7 a b c=0):∃h:b.toNat<x.Cells.length,((x.Cells[b.toNat].Intact=false∧Er x ⟨7,a,b,c⟩ 9) ∨
  (x.Cells[b.toNat].Intact=true∧Dn x ⟨7,a,b,c⟩ (Q6 x a.toNat x.Cells[b.toNat].Target) (Y4 x x.Cells[b.toNat].Target))):=by
 obtain⟨ha,hb⟩:=c9y hc
 obtain⟨n,rfl⟩:∃n:Nat,b=n:=⟨b.toNat,by omega⟩
 obtain⟨hl,l1,l2⟩:=c31 hx hS (n:=n) (by omega)
 rw[Int.toNat_natCast]
 refine⟨hl,?_⟩
 have hm:l5 x ⟨7,a,n,c⟩=_:=c9H hc
 unfold R9 at hm
 rw[show a4N (n8.mk x ⟨7,a,n,c⟩).x.Cells (n8.mk x ⟨7,a,n,c⟩).o.B=_ from l1,d09] at hm
 have hr:A8 (hO x) ⟨7,a,n,c⟩=_:=b9o (by omega) hc
 have hnm:a1z (hO x) ⟨7,a,n,c⟩=(a9E (hO x).Cells n).bind λv4=>some (v4.1,v4.2):=rfl
 rw[l2,d09] at hnm
 have cl:=hx.sh.cl n hl
 cases hI:x.Cells[n].Intact
 ·left
  rw[if_pos (.inr hI)] at hm hnm
  refine⟨rfl,by decide,?_,?_⟩
  ·rw[hm]
   dsimp only
   rw[b8E (by decide),d09,d09]
   exact a5O (e:=9) (by decide)
  ·show A8 (hO x) ⟨7,a,n,c⟩=_
   rw[hr,hnm,d09,c2L (by decide)]
 ·right
  have ht:=(cl.2.2.2.2 hI).1
  have ht0:x.Cells[n].Target≠0:=λe=>a4q hx.sh.sr (e▸ht)
  rw[if_neg (by simp[ht0,hI])] at hm hnm
  refine⟨rfl,a4L hx hS (by omega) hc ha (.inr ht) ?_ hnm⟩
  rw[hm]
  dsimp only
  rw[a7D hx hS ha (.inr ht)]
  rfl
theorem d9(hc:A7 9 a b c=0):(sd x b=0∧Er x ⟨9,a,b,c⟩ 2)∨(sd x b∈lv x.S∧(∀v,¬Has x.T (sd x b) v)∧Er x ⟨9,a,b,c⟩ 9) ∨
  (sd x b∈lv x.S∧∃v,Has x.T (sd x b) v∧Dn x ⟨9,a,b,c⟩ (Q6 x a.toNat v) (Y4 x v)):=by
 obtain⟨ha,hb⟩:=c9A hc
 have hT:=hx.sh.hr
 have hm:l5 x ⟨9,a,b,c⟩=_:=c9J hc
 unfold X8 at hm
 rw[a4u hx.sh,d09] at hm
 have hr:A8 (hO x) ⟨9,a,b,c⟩=_:=b9o (by omega) hc
 have hnm:a1z (hO x) ⟨9,a,b,c⟩=(T4 (hO x) b).bind λv2=>if (v2.2 != 0) then some (0,v2.2) else (b1R (hO x).T v2.1).bind λv3=>some (v3.1,v3.2):=rfl
 rw[a8U hx.sh hb,d09] at hnm
 by_cases h0:sd x b=0
 ·refine .inl ⟨h0,by decide,?_,?_⟩
  ·rw[hm]
   unfold asd
   rw[if_pos h0,if_pos (by simp),d09,a5O (by decide)]
  ·show A8 (hO x) ⟨9,a,b,c⟩=_
   rw[hr,hnm]
   unfold asd
   rw[if_pos h0,if_pos (by simp),d09,c2L (by decide)]
 ·have has:asd x b=(sd x b,0):=by unfold asd;rw[if_neg h0]
  have hl:=(a5Y hx.sh b).resolve_left h0
  rw[has,if_neg (by simp)] at hm hnm
  dsimp only at hm hnm
  have g2:b1R (hO x).T (sd x b)=(I6 x.T (sd x b)).bind λv=>some (v.1,v.2):=by
   unfold b1R
   rw[show (hO x).T=x.T.map I1 from rfl,c2P hT]
  unfold b0s at hm
  rw[g2] at hnm
  right
  by_cases hv:∃v,Has x.T (sd x b) v
  ·obtain⟨v,hv⟩:=hv
   rw[b1I hT hv] at hm hnm
   refine .inr ⟨hl,v,hv,a4L hx hS (by omega) hc ha (.inr (hx.sh.pr _ _ hv).2) ?_ hnm⟩
   rw[hm,d09,d09]
   dsimp only
   rw[a7D hx hS ha (.inr (hx.sh.pr _ _ hv).2)]
   rfl
  ·have hv':∀v,¬Has x.T (sd x b) v:=λv q=>hv ⟨v,q⟩
   rw[b91 hT hv'] at hm hnm
   refine .inl ⟨hl,hv',by decide,?_,?_⟩
   ·rw[hm,d09,d09]
    dsimp only
    rw[b8E (by decide),d09,d09]
    exact a5O (e:=9) (by decide)
   ·show A8 (hO x) ⟨9,a,b,c⟩=_
    rw[hr,hnm,d09,d09,d09]
    exact c2L (e:=9) (by decide)
end
end Go.Sh
namespace Go.Sh
section
variable{x:Hp}{a b c:Int}
theorem c7Q{z:Hp}(hz:Q5 z)(hS:SL z){k:Int}{r:Int}(hk:k=5∧r=c∨(k=6∨k=8)∧r=b):doR x ⟨k,a,b,c⟩ (z,0)=some (M6 z,Y4 z (sd z r),0):=by
 unfold doR P5
 rw[if_neg (by simp),b0X hz hS,d09]
 simp only[jn]
 rcases hk with ⟨rfl,rfl⟩ | ⟨rfl | rfl,rfl⟩
 ·rw[if_pos (by rfl),b12 hz.sh]
  rfl
 ·rw[if_neg (by decide),if_pos (by rfl),if_pos (by rfl),b12 hz.sh]
  rfl
 ·rw[if_neg (by decide),if_neg (by decide),if_pos (by rfl),b12 hz.sh]
  rfl
variable(hx:Q5 x)(hS:SL x)
include hx hS
theorem c8r{z:Hp}(hz:Q5 z)(zS:SL z){h:Int}(hh:h=0∨h∈lv x.S):rO (hO x) (hO z,h,0)=some (hO (M6 z),Y4 x h,0):=by
 unfold rO
 rw[if_neg (by simp),b25 hz zS,d09,c5D hx.sh (a6w hx hS hh)]
 rfl
theorem a8z{z:Hp}(hz:Q5 z)(zS:SL z)(k:Ks x.S z.S)(er:z.Roots=x.Roots){kd r:Int}(hk:kd=5∧r=c∨(kd=6∨kd=8)∧r=b)(hc:A7 kd a b c=0)(cw:Cw x z (if kd=6 then a else -1))
  (h1:l5 x ⟨kd,a,b,c⟩=doR x ⟨kd,a,b,c⟩ (z,0))(h2:a0F (hO x) ⟨kd,a,b,c⟩=some (hO z,sd x r,0)):Dn x ⟨kd,a,b,c⟩ z (Y4 x (sd x r)):=by
 refine⟨hz,zS,k.ev,cw,?_,?_⟩
 ·rw[h1,c7Q hz zS hk,b5J er,c7g hx.sh k (a5Y hx.sh r)]
 ·show A8 (hO x) ⟨kd,a,b,c⟩=_
  rw[b9n (by omega) hc,h2,d09,c8r hx hS hz zS (a5Y hx.sh r)]
theorem d5(hc:A7 5 a b c=0):(sd x a=0∧Er x ⟨5,a,b,c⟩ 2)∨(∃e,a1r x (sd x a) b (sd x c)=some (x,e)∧Er x ⟨5,a,b,c⟩ e) ∨
  (sd x a∈lv x.S∧∃n:Nat,b=n∧n<(ob x.S (sd x a)).Fields.length∧Dn x ⟨5,a,b,c⟩ (K8 x (sd x a) n (sd x c)) (Y4 x (sd x c))):=by
 obtain⟨ha,hb,hcc⟩:=c9w hc
 have hm:l5 x ⟨5,a,b,c⟩=_:=c9F hc
 unfold R3 at hm
 rw[a4u hx.sh,d09] at hm
 have hr:A8 (hO x) ⟨5,a,b,c⟩=_:=b9n (by omega) hc
 have hnm:a0F (hO x) ⟨5,a,b,c⟩=(T4 (hO x) a).bind λv4=>if (v4.2 != 0) then some (hO x,0,v4.2) else (a4F (hO x) c).bind λv5=>(a4C (hO x) v4.1 b v5).bind λv6=>some (v6.1,v5,v6.2):=rfl
 rw[a8U hx.sh ha,d09,c23 hx.sh (by omega)] at hnm
 by_cases h0:sd x a=0
 ·have has:asd x a=(0,2):=by unfold asd;rw[if_pos h0]
  rw[has,if_pos (by simp)] at hm hnm
  refine .inl ⟨h0,by decide,?_,?_⟩
  ·rw[hm,d09]
   exact a5O (e:=2) (by decide)
  ·show A8 (hO x) ⟨5,a,b,c⟩=_
   rw[hr,hnm,d09]
   exact c0k (e:=2) (by decide)
 ·have has:asd x a=(sd x a,0):=by unfold asd;rw[if_neg h0]
  rw[has,if_neg (by simp)] at hm hnm
  dsimp only at hm hnm
  rw[a5A hx.sh,d09] at hm
  rw[d09] at hnm
  right
  rcases c1D hx hS (sd x a) b (sd x c) (a92 hx.sh a) (a92 hx.sh c) with ⟨e,he,f1,f2⟩ | ⟨hl,hv,n,hn0,hn,f1,f2⟩
  ·refine .inl ⟨e,f1,he,?_,?_⟩
   ·rw[hm,f1,d09,d09,a5O he]
   ·show A8 (hO x) ⟨5,a,b,c⟩=_
    rw[hr,hnm,f2,d09,d09,c0k he]
  ·refine .inr ⟨hl,n,hn0,hn,a8z hx hS (b4N hx hl hn hv) (b9W hx.sh.sr hS hl _ _) (b9V hx.sh.sr hl hn _) (a6l _ _ _ _).1 (.inl ⟨rfl,rfl⟩) hc (Cw.same (a6l _ _ _ _).2.1 _) ?_ ?_⟩
   ·rw[hm,f1]
    rfl
   ·rw[hnm,f2]
    rfl
theorem d6(hc:A7 6 a b c=0):(sd x b=0∧Er x ⟨6,a,b,c⟩ 2)∨(∃e,P3 x a (sd x b) c=some (x,e)∧Er x ⟨6,a,b,c⟩ e) ∨
  (wts x.Q a=false∧Dn x ⟨6,a,b,c⟩ (S9 x a.toNat (sd x b) c) (Y4 x (sd x b))):=by
 obtain⟨ha,hb,hcc⟩:=c9x hc
 have hm:l5 x ⟨6,a,b,c⟩=_:=c9G hc
 unfold O3 at hm
 have hr:A8 (hO x) ⟨6,a,b,c⟩=_:=b9n (by omega) hc
 have key:(l5 x ⟨6,a,b,c⟩=(((P3 x a (sd x b) c).bind λv1=>some (v1.1,v1.2)).bind (doR x ⟨6,a,b,c⟩))∧a0F (hO x) ⟨6,a,b,c⟩=(a21 (hO x) a (sd x b) c).bind λv1=>some (v1.1,sd x b,v1.2))∨(sd x b=0∧Er x ⟨6,a,b,c⟩ 2):=by
  by_cases h1:b = -1
  ·subst h1
   left
   rw[b22 hx.sh (r:=-1) (by omega)]
   refine⟨?_,rfl⟩
   rw[hm,if_pos (by rfl)]
  ·rw[if_neg (by simpa using h1),a4u hx.sh,d09] at hm
   have hnm:a0F (hO x) ⟨6,a,b,c⟩=(T4 (hO x) b).bind λv4=>if (v4.2 != 0) then some (hO x,0,v4.2) else (a21 (hO x) a v4.1 c).bind λv7=>some (v7.1,v4.1,v7.2):=by
    unfold a0F
    rw[if_neg (by simp;omega)]
    rfl
   rw[a8U hx.sh (by omega),d09] at hnm
   by_cases h0:sd x b=0
   ·have has:asd x b=(0,2):=by unfold asd;rw[if_pos h0]
    rw[has,if_pos (by simp)] at hm hnm
    refine .inr ⟨h0,by decide,?_,?_⟩
    ·rw[hm,d09]
     exact a5O (e:=2) (by decide)
    ·show A8 (hO x) ⟨6,a,b,c⟩=_
     rw[hr,hnm,d09]
     exact c0k (e:=2) (by decide)
   ·have has:asd x b=(sd x b,0):=by unfold asd;rw[if_neg h0]
    rw[has,if_neg (by simp)] at hm hnm
    exact .inl ⟨hm,hnm⟩
 rcases key with ⟨hm,hnm⟩ | key
 ·right
  rcases c42 hx a (sd x b) c (a92 hx.sh b) hcc with ⟨e,he,f1,f2⟩ | ⟨hh,n,rfl,hn,hw,f1,f2⟩
  ·refine .inl ⟨e,f1,he,?_,?_⟩
   ·rw[hm,f1,d09,d09,a5O he]
   ·show A8 (hO x) ⟨6,a,b,c⟩=_
    rw[hr,hnm,f2,d09,d09,c0k he]
  ·rw[Int.toNat_natCast]
   obtain⟨r1,r2,_,_⟩:=b3k x n (sd x b) c
   refine .inr ⟨hw,a8z hx hS (b7t hx hn hh hcc hw) (c3h hx hS hn _ _) (c3g hx hn _ _) r1 (.inr ⟨.inl rfl,rfl⟩) hc (by rw[if_pos rfl];exact Cw.set r2) ?_ ?_⟩
   ·rw[hm,f1]
    rfl
   ·rw[hnm,f2]
    rfl
 ·exact .inl key
theorem d8(hc:A7 8 a b c=0):(sd x a=0∧Er x ⟨8,a,b,c⟩ 2)∨(sd x a∈lv x.S∧∃e,a0A x (sd x a) (sd x b)=some (x,e)∧Er x ⟨8,a,b,c⟩ e) ∨
  (sd x a∈lv x.S∧∃r,P1 x.T (sd x a) (sd x b)=some r∧r.2.2=0∧Dn x ⟨8,a,b,c⟩ (a3I x (sd x b) r.1 r.2.1) (Y4 x (sd x b))):=by
 obtain⟨ha,hb⟩:=c9z hc
 have hm:l5 x ⟨8,a,b,c⟩=_:=c9I hc
 unfold V0 at hm
 rw[a4u hx.sh,d09] at hm
 have hr:A8 (hO x) ⟨8,a,b,c⟩=_:=b9n (by omega) hc
 have hnm:a0F (hO x) ⟨8,a,b,c⟩=(T4 (hO x) a).bind λv4=>if (v4.2 != 0) then some (hO x,0,v4.2) else (a4F (hO x) b).bind λv8=>(a6H (hO x) v4.1 v8).bind λv9=>some (v9.1,v8,v9.2):=rfl
 rw[a8U hx.sh ha,d09,c23 hx.sh (by omega)] at hnm
 by_cases h0:sd x a=0
 ·have has:asd x a=(0,2):=by unfold asd;rw[if_pos h0]
  rw[has,if_pos (by simp)] at hm hnm
  refine .inl ⟨h0,by decide,?_,?_⟩
  ·rw[hm,d09]
   exact a5O (e:=2) (by decide)
  ·show A8 (hO x) ⟨8,a,b,c⟩=_
   rw[hr,hnm,d09]
   exact c0k (e:=2) (by decide)
 ·have has:asd x a=(sd x a,0):=by unfold asd;rw[if_neg h0]
  have hl:=(a5Y hx.sh a).resolve_left h0
  rw[has,if_neg (by simp)] at hm hnm
  dsimp only at hm hnm
  rw[a5A hx.sh,d09] at hm
  rw[d09] at hnm
  right
  rcases c4w hx hS (sd x a) (sd x b) (a92 hx.sh a) (a92 hx.sh b) with ⟨e,he,f1,f2⟩ | ⟨hl,hv,r,r1,r2,f1,f2⟩
  ·refine .inl ⟨hl,e,f1,he,?_,?_⟩
   ·rw[hm,f1,d09,d09,a5O he]
   ·show A8 (hO x) ⟨8,a,b,c⟩=_
    rw[hr,hnm,f2,d09,d09,c0k he]
  ·refine .inr ⟨hl,r,r1,r2,a8z hx hS (b6T hx hl hv r1 r2) (c2z hx.sh.sr hS _ _ _) (c2y hx.sh.sr _ _ _) (a8A _ _ _ _).1 (.inr ⟨.inr rfl,rfl⟩) hc (Cw.same (a8A _ _ _ _).2.1 _) ?_ ?_⟩
   ·rw[hm,f1]
    rfl
   ·rw[hnm,f2]
    rfl
theorem d10(hz:zr x = [])(hc:A7 10 a b c=0):Dn x ⟨10,a,b,c⟩ x (if sd x a=sd x b then 1 else 0):=by
 obtain⟨ha,hb⟩:=c7N hc
 refine⟨hx,hS,Ev.refl x,Cw.refl x _,?_,?_⟩
 ·rw[c7R hc]
  unfold L6 doR P5
  rw[d09,if_neg (by simp),b0X hx hS,d09]
  simp only[jn]
  rw[if_neg (by decide),if_neg (by decide),if_neg (by decide),if_pos (by rfl),a5A hx.sh,d09,a5A hx.sh,d09]
  by_cases q:sd x a=sd x b
  ·rw[if_pos (by simpa using q),if_pos q]
   rfl
  ·rw[if_neg (by simpa using q),if_neg q]
   rfl
 ·show A8 (hO x) ⟨10,a,b,c⟩=_
  rw[c68 hc,show (hO x).Roots=x.Roots from rfl,b1j hx.sh ha,d09,b1j hx.sh hb,d09,c28 hz]
  by_cases q:sd x a=sd x b
  ·rw[if_pos (by simpa using q),if_pos q]
  ·rw[if_neg (by simpa using q),if_neg q]
theorem d1(hb:x.S.Serial<9223372036854775807)(hc:A7 1 a b c=0):(∃e,N8 x.S b c=some (x.S,0,e)∧Er x ⟨1,a,b,c⟩ e) ∨
  (b.toNat≤4∧(-1≤c∧c≤5)∧∃i,Fst x.S i∧Dn x ⟨1,a,b,c⟩ (Q6 (wS x (mkS x.S i b.toNat c)) a.toNat (hdl x.S i)) (x.S.Serial+1)):=by
 obtain⟨ha,hbb,hcc⟩:=c9t hc
 have hR:=hx.sh.sr
 have hm:l5 x ⟨1,a,b,c⟩=_:=c9B hc
 unfold O2 at hm
 dsimp only at hm
 have hr:A8 (hO x) ⟨1,a,b,c⟩=_:=c8y hc
 rw[show (hO x).S=sO x.S from rfl] at hr
 rcases c79 hR hb b c with ⟨e,he,f1,f2⟩ | ⟨_,_,i,hF,f1,f2⟩
 ·refine .inl ⟨e,f1,he,?_,?_⟩
  ·rw[hm,f1,d09,if_pos (by simpa using he),d09,a5O he]
  ·show A8 (hO x) ⟨1,a,b,c⟩=_
   rw[hr,f2,d09,if_pos (by simpa using he)]
 ·refine .inr ⟨by omega,hcc,i,hF,?_⟩
  obtain⟨hi,h0,_⟩:=hF
  have hn:b.toNat≤4:=by omega
  have hy:=c2a hx hi h0 hn hcc
  have yS:=c8d hx hS hi h0 hn hcc
  have hh:hdl x.S i=0∨hdl x.S i∈lv (wS x (mkS x.S i b.toNat c)).S:=.inr (by
   show _∈lv (mkS x.S i b.toNat c)
   rw[b87 hR hi h0 hn hcc]
   exact List.mem_append_right _ (List.mem_singleton.2 rfl))
  have hz:=a3N hy (r:=a.toNat) (by omega) hh
  have zS:=b2W hy.sh.sr yS a.toNat (hdl x.S i)
  obtain⟨e1,e2⟩:=a2G hy ha hh
  have e3:Y4 (wS x (mkS x.S i b.toNat c)) (hdl x.S i)=x.S.Serial+1:=by
   show (ob (mkS x.S i b.toNat c) (hdl x.S i)).Serial=_
   rw[b0G hR hi h0 hn hcc]
  refine⟨hz,zS,(c8c hx hi h0 hn hcc).ks (b2V hy.sh.sr a.toNat _),Cw.same (a8E (wS x (mkS x.S i b.toNat c)) a.toNat _).2.1 _,?_,?_⟩
  ·rw[hm,f1,d09,if_neg (by simp)]
   dsimp only
   rw[show y7 ⟨⟨mkS x.S i b.toNat c,x.Roots,x.Cells,x.T,x.Q⟩,⟨1,a,b,c⟩⟩ (hdl x.S i) 0=_ from a7D hy yS ha hh,d09,d09,c5a hz zS (by omega),e1,e2,e3]
  ·show A8 (hO x) ⟨1,a,b,c⟩=_
   rw[hr,f2,d09,if_neg (by simp)]
   dsimp only
   rw[show a20 ⟨sO (mkS x.S i b.toNat c),(hO x).Roots,(hO x).Cells,(hO x).T,(hO x).Q⟩ a (hdl x.S i)=_ from c2V hy yS a (a6w hy yS hh),if_neg (by omega),if_pos hh,d09,b25 hz zS,d09,c7J (a3e hz).sh,e1,e2,e3]
   rfl
end
theorem c50{x:Hp}(hx:Q5 x)(hS:SL x)(hz:zr x = [])(hb:x.S.Serial<9223372036854775807)(o:code_Op):(∃e,Er x o e)∨∃z v,Dn x o z v:=by
 obtain⟨k,a,b,c⟩:=o
 by_cases hc:A7 k a b c=0
 ·have:=c30 hc
  have hk:k=1∨k=2∨k=3∨k=4∨k=5∨k=6∨k=7∨k=8∨k=9∨k=10∨k=11∨k=12:=by omega
  rcases hk with rfl | rfl | rfl | rfl | rfl | rfl | rfl | rfl | rfl | rfl | rfl | rfl
  ·rcases d1 hx hS hb hc with ⟨e,_,h⟩ | ⟨_,_,i,_,h⟩
   ·exact .inl ⟨e,h⟩
   ·exact .inr ⟨_,_,h⟩
  ·exact .inr ⟨_,_,d2 hx hS hc⟩
  ·exact .inr ⟨_,_,d3 hx hS hc⟩
  ·rcases d4 hx hS hc with ⟨_,h⟩ | ⟨e,_,h⟩ | ⟨_,n,_,_,h⟩
   ·exact .inl ⟨_,h⟩
   ·exact .inl ⟨_,h⟩
   ·exact .inr ⟨_,_,h⟩
  ·rcases d5 hx hS hc with ⟨_,h⟩ | ⟨e,_,h⟩ | ⟨_,n,_,_,h⟩
   ·exact .inl ⟨_,h⟩
   ·exact .inl ⟨_,h⟩
   ·exact .inr ⟨_,_,h⟩
  ·rcases d6 hx hS hc with ⟨_,h⟩ | ⟨e,_,h⟩ | ⟨_,h⟩
   ·exact .inl ⟨_,h⟩
   ·exact .inl ⟨_,h⟩
   ·exact .inr ⟨_,_,h⟩
  ·obtain⟨_,⟨_,h⟩ | ⟨_,h⟩⟩:=d7 hx hS hc
   ·exact .inl ⟨_,h⟩
   ·exact .inr ⟨_,_,h⟩
  ·rcases d8 hx hS hc with ⟨_,h⟩ | ⟨_,e,_,h⟩ | ⟨_,r,_,_,h⟩
   ·exact .inl ⟨_,h⟩
   ·exact .inl ⟨_,h⟩
   ·exact .inr ⟨_,_,h⟩
  ·rcases d9 hx hS hc with ⟨_,h⟩ | ⟨_,_,h⟩ | ⟨_,v,_,h⟩
   ·exact .inl ⟨_,h⟩
   ·exact .inl ⟨_,h⟩
   ·exact .inr ⟨_,_,h⟩
  ·exact .inr ⟨_,_,d10 hx hS hz hc⟩
  ·obtain⟨h1,h2⟩:=c05 (x:=x) (a:=a) (b:=b) (c:=c) (.inl rfl) hc
   exact .inl ⟨14,by decide,h1,h2⟩
  ·obtain⟨h1,h2⟩:=c05 (x:=x) (a:=a) (b:=b) (c:=c) (.inr rfl) hc
   exact .inl ⟨14,by decide,h1,h2⟩
 ·obtain⟨h1,h2⟩:=c51 (x:=x) (o:=⟨k,a,b,c⟩) hc
  exact .inl ⟨_,hc,h1,h2⟩
end Go.Sh
namespace Go.Sh
noncomputable def dov(x:Hp)(o:code_Op):Hp × Int × Int:=(l5 x o).getD (x,0,0)
structure Nxt (x:Hp) (o:code_Op) (y:Hp) (v e:Int):Prop where
 rt:Q5 y
 sl:SL y
 zr:zr y = []
 ev:Ev x y
 cw:Cw x y (if o.Kind=6 then o.A else -1)
 er:e≠0→y=x∧v=0
 mc:l5 x o=some (y,v,e)
 rf:A8 (hO x) (opR o)=some (hO y,v,e)
theorem Dn.nxt{x z:Hp}{o:code_Op}{v:Int}(d:Dn x o z v):Nxt x o (M6 z) v 0:=by
 have st:=a6U d.rt
 exact⟨a3e d.rt,c4O d.rt d.sl,c0y d.rt,d.ev.stl st,d.cw.trans (st.cw _),λh=>absurd rfl h,d.mc,d.rf⟩
theorem a9s{x:Hp}(hx:Q5 x)(hS:SL x)(hz:zr x = [])(hb:x.S.Serial<9223372036854775807)(o:code_Op):∃y v e,Nxt x o y v e:=by
 rcases c50 hx hS hz hb o with ⟨e,h1,h2,h3⟩ | ⟨z,v,d⟩
 ·exact⟨x,0,e,hx,hS,hz,Ev.refl x,Cw.refl x _,λ_=>⟨rfl,rfl⟩,h2,h3⟩
 ·exact⟨_,_,_,d.nxt⟩
theorem b45{x:Hp}(hx:Q5 x)(hS:SL x)(hz:zr x = [])(hb:x.S.Serial<9223372036854775807)(o:code_Op):Nxt x o (dov x o).1 (dov x o).2.1 (dov x o).2.2:=by
 obtain⟨y,v,e,h⟩:=a9s hx hS hz hb o
 have:dov x o=(y,v,e):=by unfold dov;rw[h.mc];rfl
 rw[this]
 exact h
theorem c52{x:Hp}(hx:Q5 x)(hS:SL x)(hz:zr x = [])(hb:x.S.Serial<9223372036854775807){o:code_Op}{r:g6 × Int × Int}(h:A8 (hO x) (opR o)=some r):l5 x o=some (hOI r.1,r.2.1,r.2.2):=by
 obtain⟨y,v,e,n⟩:=a9s hx hS hz hb o
 rw[n.rf] at h
 rw[n.mc,←Option.some.inj h,c1P]
noncomputable def runs(x:Hp)(l:List code_Op):Hp × List Int:=l.foldl (λp o=>((dov p.1 o).1,p.2 ++ [(dov p.1 o).2.1])) (x,[])
theorem b0R(x:Hp)(l:List code_Op)(o:code_Op):runs x (l ++ [o])=((dov (runs x l).1 o).1,(runs x l).2 ++ [(dov (runs x l).1 o).2.1]):=by
 unfold runs
 rw[List.foldl_append]
 rfl
theorem a90{x:Hp}(hx:Q5 x)(hS:SL x)(hz:zr x = [])(l:List code_Op)(hb:x.S.Serial+l.length<9223372036854775807)(P:Hp→Prop)(h0:P x)
  (hs:∀(y:Hp) (o:code_Op),o∈l→Q5 y→Nxt y o (dov y o).1 (dov y o).2.1 (dov y o).2.2→P y→P (dov y o).1):∀k,k≤l.length →
  Q5 (runs x (l.take k)).1∧SL (runs x (l.take k)).1∧zr (runs x (l.take k)).1 = []∧(runs x (l.take k)).1.S.Serial≤x.S.Serial+k∧(runs x (l.take k)).2.length=k∧P (runs x (l.take k)).1
 | 0,_=>⟨hx,hS,hz,by show x.S.Serial≤_;omega,rfl,h0⟩
 | k+1,hk=>by
  obtain⟨a1,a2,a3,a4,a5,a6⟩:=a90 hx hS hz l hb P h0 hs k (by omega)
  have hk':k<l.length:=by omega
  have n:=b45 a1 a2 a3 (by omega) l[k]
  rw[a0J hk',b0R]
  exact⟨n.rt,n.sl,n.zr,by have:=n.ev.s2;show (dov _ _).1.S.Serial≤_;omega,by simp[a5],hs _ _ (List.getElem_mem hk') a1 n a6⟩
theorem run_eq{x:Hp}(hx:Q5 x)(hS:SL x)(hz:zr x = [])(l:List code_Op)(hl:l.length≤1000)(hb:x.S.Serial+l.length<9223372036854775807) :
  a0B x l=some (runs x l)∧b5y (hO x) (l.map opR)=some (hO (runs x l).1,(runs x l).2):=by
 have all:=a90 hx hS hz l hb (λ_=>True) trivial (λ_ _ _ _ _ _=>trivial)
 constructor
 ·unfold a0B
  simp only[jn]
  refine X7 (T:=Hp × List Int) l.length (λk acc=>acc=runs x (l.take k)) (by omega) rfl (λk acc hk hP=>?_) (λacc hP=>?_)
  ·subst hP
   obtain⟨a1,a2,a3,a4,a5,_⟩:=all k (by omega)
   have n:=b45 a1 a2 a3 (by omega) l[k]
   refine .inl ⟨_,?_,rfl⟩
   rw[a0J hk,b0R]
   show (if _ then _ else _)=_
   rw[if_pos (by simpa using hk),l6 hk,d09,n.mc,d09,A0 (by omega) (by rw[a5];simp;omega),d09,g9]
  ·subst hP
   refine⟨runs x (l.take l.length),?_,?_⟩
   ·show (if _ then _ else _)=_
    rw[if_neg (by simp)]
   ·rw[List.take_length]
 ·unfold b5y
  simp only[jn]
  refine X7 (T:=g6 × List Int) (l.map opR).length (λk acc=>acc=(hO (runs x (l.take k)).1,(runs x (l.take k)).2)) (by simp;omega) rfl (λk acc hk hP=>?_) (λacc hP=>?_)
  ·subst hP
   have hk':k<l.length:=by simpa using hk
   obtain⟨a1,a2,a3,a4,a5,_⟩:=all k (by omega)
   have n:=b45 a1 a2 a3 (by omega) l[k]
   refine .inl ⟨_,?_,rfl⟩
   rw[a0J hk',b0R]
   show (if _ then _ else _)=_
   rw[if_pos (by simpa using hk'),l6 hk,d09,List.getElem_map]
   dsimp only
   rw[n.rf,d09,A0 (by omega) (by rw[a5];simp;omega),d09,g9]
  ·subst hP
   refine⟨(hO (runs x (l.take (l.map opR).length)).1,(runs x (l.take (l.map opR).length)).2),?_,?_⟩
   ·show (if _ then _ else _)=_
    rw[if_neg (by simp)]
   ·rw[List.length_map,List.take_length]
def Z0:Hp:=(b2p 3 5 8).getD c1T
def a8e:List code_Op:=[(⟨1,0,1,(-1)⟩:code_Op),(⟨2,1,0,0⟩:code_Op),(⟨6,2,1,0⟩:code_Op),(⟨10,0,1,0⟩:code_Op),(⟨3,0,0,0⟩:code_Op),(⟨7,3,2,0⟩:code_Op),(⟨3,1,0,0⟩:code_Op),(⟨3,3,0,0⟩:code_Op)]
def b0w:g6 × List Int:=(b5y (hO Z0) (a8e.map opR)).getD (hO c1T,[])
def a2N:Hp:=hOI b0w.1
theorem c3O:Q5 Z0∧SL Z0∧zr Z0 = []:=by
 have hB:HB Z0:=c6o (by kernel_rfl)
 have hx:Q5 Z0:=by
  obtain⟨b,h1,h2⟩:=b1c Z0 hB (by decide +kernel) (by decide +kernel) (by decide +kernel) (by decide +kernel) (by decide +kernel)
  have:a4E (hO Z0)=some true:=by kernel_rfl
  rw[this] at h1
  exact h2.1 (Option.some.inj h1).symm
 refine⟨hx,SB.sl hx.sh.sr hB.sb,?_⟩
 have h:=b6b hx.sh.sr
 rw[show a23 (hO Z0)=some [] by kernel_rfl] at h
 exact (Option.some.inj h).symm
theorem c1a:a0B Z0 a8e=some (a2N,b0w.2)∧Q5 a2N∧SL a2N∧zr a2N = []∧a2N.S.Serial<1000:=by
 obtain⟨h1,h2,h3⟩:=c3O
 have hser:Z0.S.Serial=0:=by kernel_rfl
 obtain⟨r1,r2⟩:=run_eq h1 h2 h3 a8e (by decide) (by rw[hser];decide)
 obtain⟨a1,a2,a3,a4,_,_⟩:=a90 h1 h2 h3 a8e (by rw[hser];decide) (λ_=>True) trivial (λ_ _ _ _ _ _=>trivial) 8 (by decide)
 rw[show a8e.take 8=a8e from rfl] at a1 a2 a3 a4
 have e:b0w=(hO (runs Z0 a8e).1,(runs Z0 a8e).2):=by
  unfold b0w
  rw[r2]
  rfl
 have e2:a2N=(runs Z0 a8e).1:=by
  unfold a2N
  rw[e,c1P]
 have e3:b0w.2=(runs Z0 a8e).2:=by rw[e]
 rw[e2,e3]
 exact⟨r1,a1,a2,a3,by rw[hser] at a4;omega⟩
theorem c4P:Q0=some true:=by
 obtain⟨r1,hx,hS,hz,hb⟩:=c1a
 unfold Q0
 refine bnd (a:=Z0) (by kernel_rfl) ?_
 refine bnd (a:=(a2N,b0w.2)) r1 ?_
 refine bnd (c52 hx hS hz (by omega) (o:=⟨7,3,2,0⟩) (r:=(A8 (hO a2N) ⟨7,3,2,0⟩).getD (hO c1T,0,0)) (by kernel_rfl)) ?_
 refine bnd (c52 hx hS hz (by omega) (o:=⟨4,0,0,0⟩) (r:=(A8 (hO a2N) ⟨4,0,0,0⟩).getD (hO c1T,0,0)) (by kernel_rfl)) ?_
 refine bnd (c52 hx hS hz (by omega) (o:=⟨11,0,0,0⟩) (r:=(A8 (hO a2N) ⟨11,0,0,0⟩).getD (hO c1T,0,0)) (by kernel_rfl)) ?_
 dsimp only
 rw[c6x hx.sh.sr,b1w hx (c5n hx hS)]
 kernel_rfl
theorem c5U{x:Hp}(hB:HB x):∃b,a3k x=some b∧(b=true→Q5 x∧x.S.Serial<1000000000∧zr x = []):=by
 obtain⟨b,h1,h2⟩:=c4R hB
 unfold a3k
 rw[h1,d09]
 cases b
 ·exact⟨false,by simp[n9],λh=>by cases h⟩
 ·obtain⟨hx,hb⟩:=h2 rfl
  rw[beq_self_eq_true,L7,b8V hx.sh,d09,L7,c0z hx.sh.sr,d09,Bool.true_and]
  exact⟨_,rfl,λh=>⟨hx,hb,of_decide_eq_true h⟩⟩
theorem c1I{x:Hp}{K:Option Bool}(g:Bool→Bool)(hg:g false=true)(hB:HB x)(h:Q5 x→SL x→zr x = []→x.S.Serial<1000000000→g true=false→K=some true):((a3k x).bind λv1=>(n9 ((g v1)==false) false Q0).bind λv2=>if ((g v1)||(!v2)) then (Q0).bind λv3=>some v3 else K)=some true:=by
 obtain⟨b,h1,h2⟩:=c5U hB
 rw[h1,d09,c4P]
 cases hgb:g b
 ·simp only[beq_self_eq_true,L7,d09,Bool.not_true,Bool.or_self,Bool.false_eq_true,if_false]
  cases b
  ·rw[hg] at hgb;cases hgb
  ·obtain⟨a,b,c⟩:=h2 rfl
   exact h a (SB.sl a.sh.sr hB.sb) c b hgb
 ·simp[n9]
end Go.Sh
namespace Go.Sh
section
variable{x:Hp}(hB:HB x)
include hB
end
end Go.Sh
namespace Go.Sh
theorem c4W{l:List Int}(hn:l.Nodup){h:Int}(h0:h≠0)(hm:h∈l):Q3 l h=1:=by
 induction l with
 | nil=>cases hm
 | cons a l ih=>
  rw[J2]
  rw[List.nodup_cons] at hn
  rcases List.mem_cons.1 hm with e | e
  ·subst e
   rw[b5Y hn.1,if_pos ⟨rfl,h0⟩]
  ·rw[ih hn.2 e,if_neg (λ(q:a=h∧h≠0)=>hn.1 (q.1▸e))]
section
variable{x:Hp}(hB:HB x)
include hB
theorem machineKeeps{o:code_Op}:a1E x o=some true:=by
 unfold a1E
 refine c1I (λb => !b) rfl hB λhx hS hz hb _=>?_
 obtain⟨y,v,e,n⟩:=a9s hx hS hz (by omega) o
 have ysh:=n.rt.sh
 have hR:=hx.sh.sr
 have hRy:=ysh.sr
 have hBy:=c5n n.rt n.sl
 have l24:=hR.len
 have l24':=hRy.len
 have r6:=ysh.r6
 have q30:=ysh.q30
 have ol:=a9t (x:=y) (by omega) (by omega)
 have fl:=c3Q (p5.2 hRy) y.T (otr y)
 have lv24:(lv y.S).length≤24:=U5 (p5.2 hRy)
 rw[n.mc,d09,c5k ysh,d09,if_neg (by simp),b8V ysh,d09,b9e (by omega) (by omega),d09]
 rw[show (hO y).S=sO y.S from rfl,show (hO y).T=y.T.map I1 from rfl,b7T (p5.2 hRy) ysh.hr hBy.tb (by omega),d09,a8w (p5.2 hRy),d09]
 simp only[jn]
 refine E9 (frc y.S y.T (otr y)).length (λ_=>True) (by omega) trivial (λk hk _=>.inl ⟨?_,trivial⟩) (λ_=>⟨.inr (),if_neg (by simp),rfl⟩)
 have hl:=(c3R.1 (List.getElem_mem hk)).live
 have hl0:(frc y.S y.T (otr y))[k]≠0:=λq=>a4q hRy (q▸hl)
 have hmx:=a4r hRy hl
 obtain⟨e1,g1,g2⟩:=N3 (p5.2 hR) hmx
 have hs:=hR.Y4
 rw[if_pos (by simpa using hk),c5q x.S (by omega),d09,l6 hk,d09,a2j x.S (by omega) hmx,g1,Option.map_some,d09,a6o hRy hl,d09,
  a3j _ _ (by omega),d09,c4W (a9m (p5.2 hRy)) hl0 hl,E5 (n:=x.S.Serial+1) (by omega) (by omega)]
 have hev:=n.ev.lv _ hl
 have c:((((1:Nat):Int) != 1)||((e1==0)&&((oo (ob x.S (frc y.S y.T (otr y))[k])).Serial != (oo (ob y.S (frc y.S y.T (otr y))[k])).Serial))||((e1 != 0)&&((oo (ob y.S (frc y.S y.T (otr y))[k])).Serial != (x.S.Serial+1))))=false:=by
  rcases hev with ⟨a1,a2⟩ | ⟨a1,a2⟩
  ·have:=g2.2 a1
   subst this
   simp[oo,a2]
  ·have:e1≠0:=λq=>a1 (g2.1 q)
   simp[oo,a2,this]
 dsimp only
 rw[c,if_neg (by simp),g9]
end
end Go.Sh
namespace Go.Sh
theorem c4x{t:Tb}(hT:HR t){k v:Int}{r:Tb × Int × Int}(h:P1 t k v=some r)(h0:r.2.2=0):(v≠0→Has r.1 k v)∧(v=0→∀u,¬Has r.1 k u):=by
 obtain⟨r',e1,e2,_,e3⟩:=a8H hT k v
 rw[h] at e1
 cases e1
 rcases e3 with ⟨_,rfl⟩ | ⟨hk,hv,⟨i,hi,rfl⟩ | ⟨hn,rfl⟩⟩ | ⟨hk,hv,⟨i,hi,rfl⟩ | ⟨d,hn,hd,hf,hp,rfl⟩ | ⟨hn,ha,rfl⟩⟩
 ·simp at h0
 ·exact⟨λq=>absurd hv q,λ_ u q=>((a81 hT hi k u).1 q).1 rfl⟩
 ·exact⟨λq=>absurd hv q,λ_=>c1Q.2 hn⟩
 ·exact⟨λ_=>(a9u hT (.old i hi) rfl k v).2 (.inl ⟨rfl,rfl⟩),λq=>absurd q hv⟩
 ·exact⟨λ_=>(a9u hT hp rfl k v).2 (.inl ⟨rfl,rfl⟩),λq=>absurd q hv⟩
 ·simp at h0
theorem c2A{x:Hp}(hx:Q5 x)(hS:SL x){k v e:Int}(hk:k∈lv x.S)(hv:v=0∨v∈lv x.S)(h:a0A x k v=some (x,e))(he:e≠0):e=8:=by
 have hR:=hx.sh.sr
 have k0:k≠0:=λq=>a4q hR (q▸hk)
 unfold a0A at h
 rw[if_neg (by simpa using k0),R4 hR (a6w hx hS (.inr hk)),d09,R4 hR (a6w hx hS hv),decide_eq_true (.inr hk),decide_eq_true hv] at h
 simp only[Bool.not_true,beq_self_eq_true,L7,d09,Bool.or_self,Bool.false_eq_true,if_false] at h
 obtain⟨r,r1,_,_,r5⟩:=a8H hx.sh.hr k v
 rw[r1,d09] at h
 by_cases h0:r.2.2=0
 ·have e1:(r.2.2 != 0)=false:=by simpa using h0
  rw[e1,if_neg (by simp)] at h
  cases q:D4 x r.2.1 v ⟨r.1⟩ with
  | none=>rw[q] at h;cases h
  | some w=>
   rw[q,d09] at h
   exact absurd (congrArg (λp=>p.2) (Option.some.inj h)).symm he
 ·rw[if_pos (by simpa using h0)] at h
  have:r.2.2=e:=congrArg (λp=>p.2) (Option.some.inj h)
  rcases r5 with ⟨q,rfl⟩ | ⟨_,_,⟨i,hi,rfl⟩ | ⟨_,rfl⟩⟩ | ⟨_,_,⟨i,hi,rfl⟩ | ⟨d,_,_,_,_,rfl⟩ | ⟨_,_,rfl⟩⟩
  ·exact absurd q k0
  ·exact absurd rfl h0
  ·exact absurd rfl h0
  ·exact absurd rfl h0
  ·exact absurd rfl h0
  ·exact this.symm
theorem b7U{x:Hp}(hR:SR x.S){h:Int}(hh:h∈lv x.S){n:Nat}(hn:n<(ob x.S h).Fields.length)(v:Int):(ob (K8 x h n v).S h).Fields=(ob x.S h).Fields.set n v:=by
 have k1:=G0 hR v (f:=Z2) λc=>E2
 have hh1:h∈lv (C0 x v).S:=by
  have:=k1.lv
  show h∈lv (stO x v Z2).S
  rw[this];exact hh
 have r1:=a5x hR v
 have hof:(ob (C0 x v).S h).Fields=(ob x.S h).Fields:=by
  obtain⟨m,e⟩:=k1.ob h (by have:=H7 hR hh;omega)
  show (ob (stO x v Z2).S h).Fields=_
  rw[e]
 have ho:OkO (C0 x v).S (flg (ob (C0 x v).S h) ((ob x.S h).Fields.set n v)):=by
  have:=H6 r1 hh1
  refine⟨this.s1,this.s2,this.st,this.wk,this.p1,this.p2,?_⟩
  have h4:=this.fl
  rw[hof] at h4
  simpa using h4
 have r2:=a07 (o:=flg (ob (C0 x v).S h) ((ob x.S h).Fields.set n v)) r1 hh1 rfl ho
 have hr:=H7 hR hh
 obtain⟨m,e⟩:=(G0 (x:=wS (C0 x v) (seO (C0 x v).S h (flg (ob (C0 x v).S h) ((ob x.S h).Fields.set n v)))) r2 ((ob x.S h).Fields.getD n 0) (f:=a7P) λc=>X0).ob h (by omega)
 show (ob (O1 (wS (C0 x v) (seO (C0 x v).S h (flg (ob (C0 x v).S h) ((ob x.S h).Fields.set n v)))) ((ob x.S h).Fields.getD n 0)).S h).Fields=_
 show (ob (stO (wS (C0 x v) (seO (C0 x v).S h (flg (ob (C0 x v).S h) ((ob x.S h).Fields.set n v)))) ((ob x.S h).Fields.getD n 0) a7P).S h).Fields=_
 rw[e]
 show (ob (seO (C0 x v).S h (flg (ob (C0 x v).S h) ((ob x.S h).Fields.set n v))) h).Fields=_
 rw[a1B (o:=flg (ob (C0 x v).S h) ((ob x.S h).Fields.set n v)) r1 hh1 rfl ho (by omega),if_pos rfl]
theorem b0S{x y:Hp}(hx:HpS x)(hy:HpS y)(ev:Ev x y){v:Int}(h1:v=0∨v∈lv x.S)(h2:v=0∨v∈lv y.S):Y4 y v=Y4 x v:=by
 rcases h2 with e | e
 ·subst e
  rw[b23 hx,b23 hy]
 ·rcases ev.lv v e with ⟨_,q⟩ | ⟨q,_⟩
  ·exact q
  ·rcases h1 with r | r
   ·subst r;exact absurd e (a4q hy.sr)
   ·exact absurd r q
theorem c1E{s:store_Store}(hR:SR s){h:Int}(hh:h∈lv s){n:Nat}(hn:n<(ob s h).Fields.length):M8 s h n=some ((ob s h).Fields[n],0):=by
 unfold M8
 rw[a5f (p5.2 hR) hh,d09,if_neg (by simp),at1 hn]
 rfl
section
variable{x:Hp}(hB:HB x)
include hB
theorem machineStores{a k c r:Int}:a1e x a k c r=some true:=by
 unfold a1e
 refine c1I (λv=>((((((((!v)||(decide (a<0)))||(decide (a > 5)))||(decide (c<0)))||(decide (c > 5)))||(decide (r<0)))||(decide (r > 5)))||(decide (k<0)))||(decide (k > 3))) (by simp) hB λhx hS hz hb hg=>?_
 have hg:(0≤a∧a≤5)∧(0≤c∧c≤5)∧(0≤r∧r≤5)∧0≤k∧k≤3:=by simp at hg;omega
 obtain⟨ha,hc,hr,hk⟩:=hg
 have i0:∀ {n l m e:Int},l≤n∧n≤m→D6 n l m e=0:=λh=>by unfold D6;rw[if_neg (by omega)]
 have c5:A7 5 a k c=0:=by
  show N9 (D6 a 0 5 6) (D6 k 0 3 5) (D6 c (-1) 5 6)=0
  rw[i0 ha,i0 hk,i0 (by omega)];rfl
 have c4:A7 4 r a k=0:=by
  show N9 (D6 r 0 5 6) (D6 a 0 5 6) (D6 k 0 3 5)=0
  rw[i0 hr,i0 ha,i0 hk];rfl
 have c8:A7 8 a c 0=0:=by
  show N9 (D6 a 0 5 6) (D6 c (-1) 5 6) 0=0
  rw[i0 ha,i0 (by omega)];rfl
 have c9:A7 9 r a 0=0:=by
  show N9 (D6 r 0 5 6) (D6 a 0 5 6) 0=0
  rw[i0 hr,i0 ha];rfl
 have hvc:=a5Y hx.sh c
 have first:∃y v e z w f,l5 x ⟨5,a,k,c⟩=some (y,v,e)∧l5 y ⟨4,r,a,k⟩=some (z,w,f)∧HpS z∧(e=0→f=0∧w=v∧Y4 z (sd z r)=v):=by
  have bad:∀e,Er x ⟨5,a,k,c⟩ e→∃y v e z w f,l5 x ⟨5,a,k,c⟩=some (y,v,e)∧l5 y ⟨4,r,a,k⟩=some (z,w,f)∧HpS z∧(e=0→f=0∧w=v∧Y4 z (sd z r)=v):=λe h=>by
   obtain⟨z,w,f,n⟩:=a9s hx hS hz (by omega) ⟨4,r,a,k⟩
   exact⟨_,_,_,_,_,_,h.2.1,n.mc,n.rt.sh,λq=>absurd q h.1⟩
  rcases d5 hx hS c5 with ⟨_,h⟩ | ⟨e,_,h⟩ | ⟨hl,n,rfl,hn,d⟩
  ·exact bad _ h
  ·exact bad _ h
  ·have y:=d.nxt
   have st:=a6U d.rt
   have hlx:=hl
   generalize hh:sd x a=h at d y st hn hl
   generalize hv:sd x c=v at d y st hvc
   have e1:sd (M6 (K8 x h n v)) a=h:=by rw[b5J (st.rt.trans (a6l x h n v).1),hh]
   have hl2:h∈lv (M6 (K8 x h n v)).S:=by
    rcases a5Y y.rt.sh a with q | q
    ·rw[e1] at q
     subst q
     exact absurd hl (a4q hx.sh.sr)
    ·rwa [e1] at q
   have e2:(ob (M6 (K8 x h n v)).S h).Fields=(ob x.S h).Fields.set n v:=(st.ob h hl2).2.2.1.trans (b7U hx.sh.sr hl hn v)
   have hn2:n<(ob (M6 (K8 x h n v)).S h).Fields.length:=by rw[e2,List.length_set];exact hn
   have e3:(ob (M6 (K8 x h n v)).S h).Fields[n]=v:=by
    simp only[e2]
    exact List.getElem_set_self ..
   have fo:=c1E y.rt.sh.sr hl2 hn2
   rcases d4 y.rt y.sl c4 with ⟨q,_⟩ | ⟨e,q,q2⟩ | ⟨_,m,hm,hm2,d2⟩
   ·rw[e1] at q
    subst q
    exact absurd hl (a4q hx.sh.sr)
   ·rw[e1,fo] at q
    exact absurd (congrArg (λp=>p.2) (Option.some.inj q)).symm q2.1
   ·have:m=n:=by omega
    subst this
    have e4:(ob (M6 (K8 x h m v)).S (sd (M6 (K8 x h m v)) a)).Fields[m]=v:=by
     have:∀h' (hh':m<(ob (M6 (K8 x h m v)).S h').Fields.length),h'=h→(ob (M6 (K8 x h m v)).S h').Fields[m]=v:=λh' hh' e=>by subst e;exact e3
     exact this _ _ e1
    rw[e4] at d2
    have hv2:v=0∨v∈lv (M6 (K8 x h m v)).S:=y.rt.sh.fl h hl2 v (List.mem_iff_getElem.2 ⟨m,hn2,e3⟩)
    have n2:=d2.nxt
    obtain⟨s1,s2⟩:=a2G y.rt hr hv2
    refine⟨_,_,_,_,_,_,y.mc,n2.mc,n2.rt.sh,λ_=>⟨rfl,b0S hx.sh y.rt.sh y.ev hvc hv2,?_⟩⟩
    rw[s1,s2]
    exact b0S hx.sh y.rt.sh y.ev hvc hv2
 obtain⟨y,v,e,z,w,f,m1,m2,zsh,hq⟩:=first
 refine bnd m1 (bnd m2 ?_)
 dsimp only
 have t1:∃u,(n9 (((e==0)==true)&&(((f != 0)||(w != v))==false)) 0 (J9 z r))=some u∧((e==0)&&(((f != 0)||(w != v))||(u != v)))=false:=by
  rw[b12 zsh]
  by_cases he:e=0
  ·obtain⟨q1,q2,q3⟩:=hq he
   subst he q1 q2
   refine⟨w,?_,by simp⟩
   rw[q3]
   simp[n9]
  ·refine⟨0,?_,by simp[he]⟩
   have:(e==0)=false:=by simpa using he
   rw[this]
   rfl
 obtain⟨u,t2,t3⟩:=t1
 refine bnd t2 ?_
 rw[t3,if_neg (by simp)]
 have bad:∀e,e=2∨e=8→Er x ⟨8,a,c,0⟩ e→∃p s g q t h,l5 x ⟨8,a,c,0⟩=some (p,s,g)∧l5 p ⟨9,r,a,0⟩=some (q,t,h)∧HpS q∧(g≠0→g=2∨g=8)∧(g=0→s=0→h=9∧t=0)∧(g=0→s≠0→h=0∧t=s∧Y4 q (sd q r)=s):=λe he h=>by
  obtain⟨z,w,f,n⟩:=a9s hx hS hz (by omega) ⟨9,r,a,0⟩
  exact⟨_,_,_,_,_,_,h.2.1,n.mc,n.rt.sh,λ_=>he,λq=>absurd q h.1,λq=>absurd q h.1⟩
 have second:∃p s g q t h,l5 x ⟨8,a,c,0⟩=some (p,s,g)∧l5 p ⟨9,r,a,0⟩=some (q,t,h)∧HpS q∧(g≠0→g=2∨g=8)∧(g=0→s=0→h=9∧t=0)∧(g=0→s≠0→h=0∧t=s∧Y4 q (sd q r)=s):=by
  rcases d8 hx hS c8 with ⟨_,h⟩ | ⟨hl,e,m,h⟩ | ⟨hl,rr,r1,r2,d⟩
  ·exact bad _ (.inl rfl) h
  ·exact bad _ (.inr (c2A hx hS hl hvc m h.1)) h
  ·have y:=d.nxt
   have st:=a6U d.rt
   obtain⟨p1,p2⟩:=c4x hx.sh.hr r1 r2
   obtain⟨w1,_,w3,_⟩:=a8A x (sd x c) rr.1 rr.2.1
   generalize hh:sd x a=h at p1 p2 hl r1
   generalize hv:sd x c=v at d y st hvc p1 p2 w1 w3 r1
   have e1:sd (M6 (a3I x v rr.1 rr.2.1)) a=h:=by rw[b5J (st.rt.trans w1),hh]
   have hl2:h∈lv (M6 (a3I x v rr.1 rr.2.1)).S:=by
    rcases a5Y y.rt.sh a with q | q
    ·rw[e1] at q
     subst q
     exact absurd hl (a4q hx.sh.sr)
    ·rwa [e1] at q
   have v0:Y4 x v=0↔v=0:=by
    constructor
    ·intro q
     rcases hvc with e | e
     ·exact e
     ·have:=(H6 hx.sh.sr e).s1
      unfold Y4 at q
      omega
    ·intro q
     subst q
     exact b23 hx.sh
   rcases d9 y.rt y.sl c9 with ⟨q,_⟩ | ⟨_,q,q2⟩ | ⟨_,u,q,d2⟩
   ·rw[e1] at q
    subst q
    exact absurd hl (a4q hx.sh.sr)
   ·rw[e1] at q
    refine⟨_,_,_,_,_,_,y.mc,q2.2.1,y.rt.sh,λq=>absurd rfl q,λ_ _=>⟨rfl,rfl⟩,λ_ q3=>?_⟩
    have hv0:v≠0:=λe=>q3 (v0.2 e)
    refine absurd (c27 d.rt (k:=h) (v:=v) ?_ hl2) (q v)
    rw[w3]
    exact p1 hv0
   ·rw[e1] at q
    have q1:Has rr.1 h u:=by
     have:=st.has h u q
     rwa [w3] at this
    have n2:=d2.nxt
    have hu2:u=0∨u∈lv (M6 (a3I x v rr.1 rr.2.1)).S:=.inr (y.rt.sh.pr h u q).2
    obtain⟨s1,s2⟩:=a2G y.rt hr hu2
    have hv0:v≠0:=λe=>p2 e u q1
    have huv:u=v:=by
     have g1:=b1I d.rt.sh.hr (k:=h) (v:=u) (by rw[w3];exact q1)
     have g2:=b1I d.rt.sh.hr (k:=h) (v:=v) (by rw[w3];exact p1 hv0)
     rw[g1] at g2
     exact congrArg (λp=>p.1) (Option.some.inj g2)
    subst huv
    refine⟨_,_,_,_,_,_,y.mc,n2.mc,n2.rt.sh,λq=>absurd rfl q,λ_ q=>absurd (v0.1 q) hv0,λ_ _=>⟨rfl,b0S hx.sh y.rt.sh y.ev hvc hu2,?_⟩⟩
    rw[s1,s2]
    exact b0S hx.sh y.rt.sh y.ev hvc hu2
 obtain⟨p,s,g,q,t,h,m1,m2,qsh,b1,b2,b3⟩:=second
 refine bnd m1 (bnd m2 ?_)
 dsimp only
 by_cases hg:g=0
 ·subst hg
  rw[if_neg (by simp)]
  by_cases hs:s=0
  ·obtain⟨rfl,rfl⟩:=b2 rfl hs
   rw[if_pos (by simpa using hs)]
   rfl
  ·obtain⟨rfl,rfl,q3⟩:=b3 rfl hs
   rw[if_neg (by simpa using hs),b12 qsh,q3]
   simp[n9]
 ·rw[if_pos (by simpa using hg)]
  rcases b1 hg with rfl | rfl <;> rfl
end
end Go.Sh
namespace Go.Sh
theorem c3i{x:Hp}(hx:Q5 x){k h c e:Int}(hk:0≤k∧k≤5)(hh:h=0∨h∈lv x.S)(hm:h≤9223372036854775807)(hc : -1≤c∧c≤5)(q:P3 x k h c=some (x,e))(he:e≠0):e=7:=by
 have hR:=hx.sh.sr
 have c6:=hx.sh.c6
 have q30:=hx.sh.q30
 obtain⟨n,rfl⟩:∃n:Nat,k=n:=⟨k.toNat,by omega⟩
 unfold P3 at q
 have e1:((decide ((n:Int)<0))||(decide ((n:Int)≥(x.Cells.length:Int))))=false:=by rw[c6];simp;omega
 rw[e1] at q
 simp only[beq_self_eq_true,L7,Bool.false_or] at q
 have hwq:a1C x.Q n=some (wts x.Q n):=b9A (by omega)
 rw[hwq,d09,R4 hR hm,d09,decide_eq_true hh] at q
 cases hw:wts x.Q n
 ·rw[hw,if_neg (by decide),if_neg (by decide)] at q
  cases g1:a62 x.Cells n h c with
  | none=>rw[g1] at q;cases q
  | some a=>
   rw[g1,d09] at q
   cases g2:W0 ⟨x.S,x.Roots,a.1,x.T,x.Q⟩ h 1 with
   | none=>rw[g2] at q;cases q
   | some b=>
    rw[g2,d09] at q
    cases g3:a0a b a.2.1 with
    | none=>rw[g3] at q;cases q
    | some d=>
     rw[g3,d09] at q
     exact absurd (congrArg (λp=>p.2) (Option.some.inj q)).symm he
 ·rw[hw,if_pos rfl] at q
  exact (congrArg (λp=>p.2) (Option.some.inj q)).symm
def Nm(w:Int)(T v:Int)(y:Hp):Prop:=(y.Cells.getD w.toNat cz).Target=T∧((y.Cells.getD w.toNat cz).Intact=true→Y4 y T=v)
theorem c39{y y':Hp}{w T v:Int}(hw:0≤w∧w≤5)(hy:HpS y)(hy':HpS y')(ev:Ev y y'){u:Int}(cw:Cw y y' u)(hu:w≠u)(h:Nm w T v y):Nm w T v y':=by
 obtain⟨h1,h2⟩:=h
 obtain⟨c1,c2⟩:=cw w.toNat (by omega)
 refine⟨c1.trans h1,λq=>?_⟩
 have i1:=c2 q
 have l1:w.toNat<y.Cells.length:=by have:=hy.c6;omega
 have l2:w.toNat<y'.Cells.length:=by have:=hy'.c6;omega
 rw[←h2 i1]
 have a1:=(hy.cl w.toNat l1).2.2.2.2 (by rw[A2 l1] at i1;exact i1)
 have a2:=(hy'.cl w.toNat l2).2.2.2.2 (by rw[A2 l2] at q;exact q)
 have t1:y.Cells[w.toNat].Target=T:=by rw[A2 l1] at h1;exact h1
 have t2:y'.Cells[w.toNat].Target=T:=by rw[A2 l2] at c1;exact c1.trans h1
 rw[t1] at a1
 rw[t2] at a2
 exact b0S hy hy' ev (.inr a1.1) (.inr a2.1)
section
variable{x:Hp}(hB:HB x)
include hB
theorem machineLoads{w r s:Int}{l:List code_Op}:a1F x w r s l=some true:=by
 unfold a1F
 refine c1I (λv=>(((((((!v)||(decide (w<0)))||(decide (w > 5)))||(decide (r<0)))||(decide (r > 5)))||(decide (s<0)))||(decide (s > 5)))||(decide ((l.length:Int) > 20))) (by simp) hB λhx hS hz hb hg=>?_
 have hg:(0≤w∧w≤5)∧(0≤r∧r≤5)∧(0≤s∧s≤5)∧l.length≤20:=by simp at hg;omega
 obtain⟨hw,hr,hs,hl⟩:=hg
 have i0:∀ {n l m e:Int},l≤n∧n≤m→D6 n l m e=0:=λh=>by unfold D6;rw[if_neg (by omega)]
 have c6:A7 6 w r (-1)=0:=by
  show N9 (D6 w 0 5 7) (D6 r (-1) 5 6) (D6 (-1) (-1) 5 13)=0
  rw[i0 hw,i0 (by omega)];rfl
 have c7:A7 7 s w 0=0:=by
  show N9 (D6 s 0 5 6) (D6 w 0 5 7) 0=0
  rw[i0 hs,i0 hw];rfl
 have hT:=a5Y hx.sh r
 rcases d6 hx hS c6 with ⟨_,h⟩ | ⟨e,m,h⟩ | ⟨_,d⟩
 ·refine bnd h.2.1 ?_
  rfl
 ·refine bnd h.2.1 ?_
  have:=c3i hx hw hT (a92 hx.sh r) (by decide) m h.1
  subst this
  rfl
 ·have n:=d.nxt
  have st:=a6U d.rt
  obtain⟨w1,w2,_,_⟩:=b3k x w.toNat (sd x r) (-1)
  generalize hv:sd x r=T at d n st w1 w2 hT
  have l0:w.toNat<x.Cells.length:=by have:=hx.sh.c6;omega
  have l1:w.toNat<(M6 (S9 x w.toNat T (-1))).Cells.length:=by have:=n.rt.sh.c6;omega
  have hN:Nm w T (Y4 x T) (M6 (S9 x w.toNat T (-1))):=by
   have lz:w.toNat<(S9 x w.toNat T (-1)).Cells.length:=by rw[w2,List.length_set];exact l0
   have ez:(S9 x w.toNat T (-1)).Cells[w.toNat]=wcl T (-1):=by
    simp only[w2]
    exact List.getElem_set_self ..
   have t1:(M6 (S9 x w.toNat T (-1))).Cells[w.toNat].Target=T:=by
    rw[st.cl w.toNat l1 lz,ez]
   refine⟨by rw[A2 l1];exact t1,λq=>?_⟩
   rw[A2 l1] at q
   have a2:=((n.rt.sh.cl w.toNat l1).2.2.2.2 q).1
   rw[t1] at a2
   exact b0S hx.sh n.rt.sh n.ev hT (.inr a2)
  refine bnd n.mc ?_
  rw[if_neg (by simp)]
  simp only[jn]
  refine E9 l.length (λk=>∀j (hj:j<l.length),j<k→¬(l[j].Kind=6∧l[j].A=w)) (by omega) (λ_ _ h=>by omega) (λk hk hP=>?_) (λhP=>⟨.inr (),if_neg (by simp),?_⟩)
  ·by_cases q:l[k].Kind=6∧l[k].A=w
   ·refine .inr ⟨.inl true,?_,rfl⟩
    rw[if_pos (by simpa using hk),l6 hk,d09,if_pos (by simp[q.1,q.2])]
   ·refine .inl ⟨?_,λj hj hjk=>?_⟩
    ·rw[if_pos (by simpa using hk),l6 hk,d09,if_neg (by simpa using q),g9]
    ·by_cases e:j=k
     ·subst e;exact q
     ·exact hP j hj (by omega)
  ·have hno:∀o∈l,¬(o.Kind=6∧o.A=w):=λo ho=>by
    obtain⟨j,hj,rfl⟩:=List.getElem_of_mem ho
    exact hP j hj hj
   have hs2:=n.ev.s2
   have hbb:(M6 (S9 x w.toNat T (-1))).S.Serial+l.length<9223372036854775807:=by omega
   obtain⟨r1,_⟩:=run_eq n.rt n.sl n.zr l (by omega) hbb
   obtain⟨a1,a2,a3,a4,_,a6⟩:=a90 n.rt n.sl n.zr l hbb (Nm w T (Y4 x T)) hN (λy o ho hy nx hP=>c39 hw hy.sh nx.rt.sh nx.ev nx.cw (by
    split
    ·rename_i q
     exact λe=>hno o ho ⟨q,e.symm⟩
    ·omega) hP) l.length (Nat.le_refl _)
   rw[List.take_length] at a1 a2 a3 a4 a6
   refine bnd r1 ?_
   have lb:w.toNat<(runs (M6 (S9 x w.toNat T (-1))) l).1.Cells.length:=by have:=a1.sh.c6;omega
   rw[c5k a1.sh,d09,a1.sh.c6,if_neg (by simp)]
   obtain⟨b1,b2⟩:=a6
   rw[A2 lb] at b1 b2
   have hix:ix (runs (M6 (S9 x w.toNat T (-1))) l).1.Cells w=some (runs (M6 (S9 x w.toNat T (-1))) l).1.Cells[w.toNat]:=by
    have:=l6 lb
    rwa [Int.toNat_of_nonneg hw.1] at this
   obtain⟨_,⟨i1,h7⟩ | ⟨i1,d7⟩⟩:=d7 a1 a2 c7
   ·refine bnd h7.2.1 ?_
    rw[hix,d09,i1]
    rfl
   ·rw[b1] at d7
    have n7:=d7.nxt
    have hTl:T=0∨T∈lv (runs (M6 (S9 x w.toNat T (-1))) l).1.S:=.inr (by
     have:=((a1.sh.cl w.toNat lb).2.2.2.2 i1).1
     rwa [b1] at this)
    obtain⟨s1,s2⟩:=a2G a1 hs hTl
    have e7:=b2 i1
    refine bnd n7.mc ?_
    rw[hix,d09,i1,e7,if_neg (by simp),b12 n7.rt.sh,s1,s2,e7]
    simp[n9]
end
end Go.Sh
