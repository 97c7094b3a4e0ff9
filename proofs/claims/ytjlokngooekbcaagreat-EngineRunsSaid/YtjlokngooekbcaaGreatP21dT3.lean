/-
 More of the theory.
-/
import Derived.Test.YtjlokngooekbcaaGreatP21dT2
set_option linter.unusedVariables false
set_option linter.unusedSimpArgs false
set_option linter.unusedSectionVars false
namespace Go.Sh
noncomputable def hdx(x:Hp):List Int:=hld x.S x.T
noncomputable def gbg(x:Hp):List Int:=fls x.S x.T (hdx x)
theorem a0L{x:Hp}{h:Int}:h∈gbg x↔h∈lv x.S∧¬a1a x.S x.T (hdx x) h:=by
 classical
 unfold gbg fls;rw[List.mem_filter,decide_eq_true_iff]
section
variable{x:Hp}(hx:N9 x)
include hx
theorem a3I:(gbg x).Nodup:=List.Pairwise.filter _ (b1H (w9.2 hx.sh.sr))
theorem a2K:∀d∈gbg x,d∈lv x.S:=λd hd=>(a0L.1 hd).1
theorem c4K{h:Int}(hl:h∈lv x.S)(hs:(ob x.S h).Strong<12):rst x.S x.T h=(tms (otr x) h:Int):=c7d.2 hx.fair h hl hs
theorem c35{h:Int}(hl:h∈lv x.S)(ho:h∈otr x):h∈hdx x:=by
 refine b4o.2 ⟨hl,?_⟩;by_cases hs:(ob x.S h).Strong<12
 ·left;rw[c4K hx hl hs];have:=a2r.2 ⟨λe=>a93 hx.sh.sr (e▸hl),ho⟩;omega
 ·exact .inr (by omega)
theorem c7u{h:Int}(hh:h∈hdx x):h∈lv x.S∧(h∈otr x∨12≤(ob x.S h).Strong):=by
 obtain⟨hl,hs⟩:=b4o.1 hh;refine⟨hl,?_⟩;by_cases q:(ob x.S h).Strong<12
 ·rcases hs with hs | hs
  ·rw[c4K hx hl q] at hs;exact .inl (a2r.1 (by omega)).2
  ·omega
 ·exact .inr (by omega)
theorem d0b:∀d∈gbg x,d∉otr x:=λd hd q=>by
 obtain⟨a,b⟩:=a0L.1 hd;exact b (.base (c35 hx a q) a)
theorem d0a:∀h∈lv x.S,h∉gbg x→∀v∈(ob x.S h).Fields,v∉gbg x:=λh hh hn v hv q=>by
 obtain⟨a,b⟩:=a0L.1 q;have hr:a1a x.S x.T (hdx x) h:=Classical.byContradiction λr=>hn (a0L.2 ⟨hh,r⟩);exact b (.step hr (a7n.2 ⟨hv,λe=>a93 hx.sh.sr (e▸a)⟩) a)
theorem d0c:∀k v,Has x.T k v→k∉gbg x→v∉gbg x:=λk v hk hn q=>by
 obtain⟨a,b⟩:=a0L.1 q;have hr:a1a x.S x.T (hdx x) k:=Classical.byContradiction λr=>hn (a0L.2 ⟨(hx.sh.pr k v hk).1,r⟩);exact b (.pair hk hr a)
theorem Y3:N9 (buH x (gbg x)):=b6P hx (a3I hx) (a2K hx) (d0b hx) (d0a hx) (d0c hx)
end
theorem b5P:∀(l:List Int) {x:Hp} (hR:SR x.S) {h:Int} (hh:h∈lv x.S) (hs:12≤(ob x.S h).Strong),12≤(ob (l.foldl Q5 x).S h).Strong
 | [],_,_,_,_,hs=>hs
 | v::l,x,hR,h,hh,hs=>by
  have k1:=G6 hR v (f:=a6b) λc=>O5;refine b5P l (x:=Q5 x v) k1.sr (by
   show h∈lv (stO x v a6b).S;rw[k1.lv];exact hh) ?_
  show 12≤(ob (stO x v a6b).S h).Strong;rw[b3k (x:=x) hR (h:=v) (f:=a6b) (λc=>O5) hh];split
  ·unfold a6b;rw[if_pos hs];omega
  ·exact hs
section
variable{x:Hp}(hx:N9 x)
include hx
theorem b5g{h:Int}:h∈lv (buH x (gbg x)).S↔a1a x.S x.T (hdx x) h:=by
 rw[c16 hx.sh.sr (a3I hx) (a2K hx),List.mem_filter,decide_eq_true_iff,a0L];constructor
 ·rintro⟨a,b⟩;exact Classical.byContradiction λr=>b ⟨a,r⟩
 ·intro r;exact⟨r.live,λq=>q.2 r⟩
theorem d5H{h:Int}(hh:h∈lv (buH x (gbg x)).S):(ob (buH x (gbg x)).S h).Serial=(ob x.S h).Serial∧(ob (buH x (gbg x)).S h).Prog=(ob x.S h).Prog∧(ob (buH x (gbg x)).S h).Fields=(ob x.S h).Fields∧(ob (buH x (gbg x)).S h).Started=(ob x.S h).Started:=by
 have r:=(b5g hx).1 hh;obtain⟨n,e⟩:=c17 hx.sh.sr (a3I hx) (a2K hx) r.live (λq=>(a0L.1 q).2 r);rw[e];exact⟨rfl,rfl,rfl,rfl⟩
theorem c7o{h:Int}(hh:h∈lv (buH x (gbg x)).S)(hs:12≤(ob x.S h).Strong):12≤(ob (buH x (gbg x)).S h).Strong:=by
 have r:=(b5g hx).1 hh;have g:=a15 (gbg x) hx.sh.sr (a3I hx) (a2K hx);have hn:h∉gbg x:=λq=>(a0L.1 q).2 r;refine b5P _ (x:=a47 x (gbg x) (wot x.T (gbg x)).1) g.sr ?_ ?_
 ·show h∈lv (gnL x.S (gbg x));rw[g.lv,List.mem_filter];exact⟨r.live,by simpa using hn⟩
 ·show 12≤(ob (gnL x.S (gbg x)) h).Strong;rw[g.ob h r.live hn];exact hs
theorem d3e:otr (buH x (gbg x))=otr x:=by
 obtain⟨e1,_,_,e4⟩:=b1c hx.sh.sr (a3I hx) (a2K hx);unfold otr;rw[e1,e4,b5j _ _ _ λt ht=>by
  obtain⟨w,_,rfl,_⟩:=a35.1 ht;simp]
theorem c99{h:Int}(hh:a1a x.S x.T (hdx x) h):a1a (buH x (gbg x)).S (buH x (gbg x)).T (hdx (buH x (gbg x))) h:=by
 have w:=Y3 hx;obtain⟨_,_,e3,_⟩:=b1c hx.sh.sr (a3I hx) (a2K hx);have hlen:(gbg x).length≤1000:=by
  have:=a4K (a3I hx) (a2K hx);have:=G2 (w9.2 hx.sh.sr);omega
 obtain⟨_,_,_,_,w5,_⟩:=a42 hx.sh.hr (gbg x) hlen;induction hh with
 | base h1 h2=>
  have hl:=(b5g hx).2 (.base h1 h2);refine .base ?_ hl;rcases (c7u hx h1).2 with q | q
  ·exact c35 w hl (by rw[d3e hx];exact q)
  ·exact b4o.2 ⟨hl,.inr (c7o hx hl q)⟩
 | step q0 q1 q2 ih=>
  refine .step ih ?_ ((b5g hx).2 (.step q0 q1 q2));unfold outs at q1 ⊢;rw[(d5H hx ((b5g hx).2 q0)).2.2.1];exact q1
 | pair q1 q0 q2 ih=>
  refine .pair ?_ ih ((b5g hx).2 (.pair q1 q0 q2));rw[e3];exact (w5 _ _).2 ⟨λq=>(a0L.1 q).2 q0,q1⟩
theorem c0k:gbg (buH x (gbg x)) = []:=List.eq_nil_iff_forall_not_mem.2 λh hh=>by
 obtain⟨a,b⟩:=a0L.1 hh;exact b (c99 hx ((b5g hx).1 a))
end
theorem b99{x:Hp}(hx:N9 x)(hg:gbg x = []):zr x = []:=List.eq_nil_iff_forall_not_mem.2 λh hh=>by
 have hl:=(a1E.1 hh).1;have hs:=(a1E.1 hh).2;have hf:=b9K hx hh;have h0:h≠0:=λe=>a93 hx.sh.sr (e▸hl);have r:a1a x.S x.T (hdx x) h:=Classical.byContradiction λr=>by
  have:h∈gbg x:=a0L.2 ⟨hl,r⟩;rw[hg] at this;cases this
 unfold nms at hf;cases r with
 | base h1 h2=>
  rcases (c7u hx h1).2 with q | q
  ·have:=a2r.2 ⟨h0,q⟩;omega
  ·omega
 | step q0 q1 q2=>
  have:=b8y (y:=h) q0.live;have h1:=a2r.2 ⟨h0,q1⟩;omega
 | pair q1 q0 q2=>
  have:=b8M q1 h0;omega
theorem b5h{x:Hp}(hx:N9 x):a1V (buH x (gbg x))=buH x (gbg x):=c1u (b99 (Y3 hx) (c0k hx))
end Go.Sh
namespace Go.Sh
theorem c7y{c:Int}(h:0≤c):1≤V1 c:=by unfold V1;split <;> (try split) <;> omega
theorem c2L{x:Hp}(hR:SR x.S){h:Int}(hh:h∈lv x.S){k:Int}(hk:k∈lv x.S):(ob (quH x h).S k).Strong=if k=h then V1 (ob x.S k).Strong else (ob x.S k).Strong:=by
 have oko:=K3 hR hh;have ho:OkO x.S (srt (ob x.S h)):=⟨oko.s1,oko.s2,oko.st,oko.wk,oko.p1,oko.p2,oko.fl⟩;have r1:=a08 (o:=srt (ob x.S h)) hR hh rfl ho;have l1:lv (seO x.S h (srt (ob x.S h)))=lv x.S:=a3Q (o:=srt (ob x.S h)) hR hh rfl ho;have hr:=I0 hR hk;have e1:(ob (seO x.S h (srt (ob x.S h))) k).Strong=(ob x.S k).Strong:=by
  rw[a2W (o:=srt (ob x.S h)) hR hh rfl ho (by omega)]
  split;·rename_i e;subst e;rfl
  ·rfl
 have:=b3k (x:=⟨seO x.S h (srt (ob x.S h)),x.Roots,x.a8,x.T,⟨x.Q.L ++ [qtk x h],x.Q.Cap⟩⟩) r1 (h:=h) (f:=V1) (λc=>E0) (k:=k) (by
  show k∈lv (seO x.S h (srt (ob x.S h)));rw[l1];exact hk)
 rw[show (ob (quH x h).S k).Strong=_ from this];show (if k=h then V1 (ob (seO x.S h (srt (ob x.S h))) k).Strong else (ob (seO x.S h (srt (ob x.S h))) k).Strong)=_
 rw[e1]
theorem d4i{x:Hp}(hx:N9 x)(hz:zr x = []){h:Int}(hh:h∈lv x.S):zr (quH x h) = []:=List.eq_nil_iff_forall_not_mem.2 λk hk=>by
 obtain⟨a,b⟩:=a1E.1 hk;rw[b8Q hx.sh.sr hh] at a;rw[c2L hx.sh.sr hh a] at b;have h0:=(K3 hx.sh.sr a).st;have hn:(ob x.S k).Strong≠0:=λq=>by
  have:k∈zr x:=a1E.2 ⟨a,q⟩;rw[hz] at this;cases this
 split at b;·have:=c7y h0;omega
 ·exact hn b
structure Qd (x y:Hp) (l:List Int):Prop where
 rt:N9 y
 sl:SL y
 zr:zr y = []
 lv:lv y.S=lv x.S
 ob:∀k∈Sh.lv x.S,∃n,Sh.ob y.S k=stg (if k∈l then srt (Sh.ob x.S k) else Sh.ob x.S k) n
 ro:y.Roots=x.Roots
 ce:y.a8=x.a8
 t:y.T=x.T
 q:y.Q=⟨x.Q.L++l.map (qtk x),x.Q.Cap⟩
 ser:y.S.Serial=x.S.Serial
theorem d0U{x:Hp}(hR:SR x.S){h:Int}(hh:h∈lv x.S):(quH x h).S.Serial=x.S.Serial:=(a7s hR hh).1.ser
theorem c2M:∀(l:List Int) {x:Hp},N9 x→SL x→Sh.zr x = []→l.Nodup→(∀h∈l,h∈Sh.lv x.S∧due (Sh.ob x.S h)=true)→Qd x (l.foldl quH x) l
 | [],x,hx,hS,hz,_,_=>⟨hx,hS,hz,rfl,λk hk=>⟨(Sh.ob x.S k).Strong,by rw[if_neg (by simp)];rfl⟩,rfl,rfl,rfl,by simp,rfl⟩
 | h::l,x,hx,hS,hz,hn,hd=>by
  obtain⟨hl,hdu⟩:=hd h (List.mem_cons_self ..);have hR:=hx.sh.sr;rw[List.nodup_cons] at hn;have q2:=hdu;unfold due at q2;rw[Bool.and_eq_true,decide_eq_true_iff,Bool.not_eq_true'] at q2;have h1:=b26 hx hl q2.1 q2.2;have h2:=c8o hR hS hl;have h3:=d4i hx hz hl;have lq:=b8Q hR hl;have oq:∀k∈Sh.lv x.S,k≠h→∃n,Sh.ob (quH x h).S k=stg (Sh.ob x.S k) n:=λk hk hne=>by
   obtain⟨n,e⟩:=b5z hR hl hk;rw[if_neg hne] at e;exact⟨n,e⟩
  have ih:=c2M l h1 h2 h3 hn.2 λk hk=>by
   obtain⟨a,b⟩:=hd k (List.mem_cons_of_mem _ hk);obtain⟨n,e⟩:=oq k a λe=>hn.1 (e▸hk);refine⟨by rw[lq];exact a,?_⟩
   rw[e];exact b
  obtain⟨_,k1,k2,k3,k4⟩:=a7s hR hl;refine⟨ih.rt,ih.sl,ih.zr,ih.lv.trans lq,λk hk=>?_,ih.ro.trans k1,ih.ce.trans k2,ih.t.trans k3,?_,ih.ser.trans (d0U hR hl)⟩
  ·obtain⟨n,e⟩:=ih.ob k (by rw[lq];exact hk)
   obtain⟨m,e2⟩:=b5z hR hl hk;refine⟨n,?_⟩;show Sh.ob (l.foldl quH (quH x h)).S k=_;rw[e];by_cases c:k=h
   ·subst c;rw[if_neg hn.1,if_pos (List.mem_cons_self ..),e2,if_pos rfl]
   ·rw[if_neg c] at e2;by_cases c2:k∈l
    ·rw[if_pos c2,if_pos (List.mem_cons_of_mem _ c2),e2]
    ·rw[if_neg c2,if_neg (λq=>by
      rcases List.mem_cons.1 q with r | r
      ·exact c r
      ·exact c2 r),e2]
  ·show (l.foldl quH (quH x h)).Q=_;rw[ih.q,k4];have:l.map (qtk (quH x h))=l.map (qtk x):=List.map_congr_left λk hk=>by
    obtain⟨a,_⟩:=hd k (List.mem_cons_of_mem _ hk);obtain⟨n,e⟩:=oq k a λe=>hn.1 (e▸hk);show (⟨1,k,(Sh.ob (quH x h).S k).Prog⟩:k9)=⟨1,k,(Sh.ob x.S k).Prog⟩;rw[e]
   rw[this];simp
noncomputable def btc(x:Hp):List Int:=(gbg x).filter λh=>due (Sh.ob x.S h)
noncomputable def col(x:Hp):Hp:=if btc x = [] then buH x (gbg x) else (btc x).foldl quH x
theorem b7Y{x:Hp}:∀h∈btc x,h∈Sh.lv x.S∧due (Sh.ob x.S h)=true:=λh hh=>by
 obtain⟨a,b⟩:=List.mem_filter.1 hh;exact⟨(a0L.1 a).1,b⟩
theorem c6M{x:Hp}(hx:N9 x):(btc x).Nodup:=List.Pairwise.filter _ (a3I hx)
theorem c6N{x:Hp}(hx:N9 x)(hS:SL x)(hz:zr x = []):Qd x ((btc x).foldl quH x) (btc x):=c2M _ hx hS hz (c6M hx) b7Y
theorem b73{x:Hp}(hx:N9 x)(hS:SL x)(hz:zr x = []):N9 (col x)∧SL (col x)∧zr (col x) = []:=by
 unfold col;split;·exact⟨Y3 hx,c6O hx.sh.sr hS (a3I hx) (a2K hx),b99 (Y3 hx) (c0k hx)⟩
 ·have q:=c6N hx hS hz;exact⟨q.rt,q.sl,q.zr⟩
end Go.Sh
namespace Go.Sh
theorem c6Z{y:Hp}(h:btc y = []):col y=buH y (gbg y):=by
 unfold col;rw[if_pos h]
section
variable{x:Hp}(hx:N9 x)
include hx
end
end Go.Sh
namespace Go.Sh
structure Rs (x:Hp) (n:Nat):Prop where
 rt:N9 x
 sl:SL x
 zr:zr x = []
 ser:x.S.Serial≤n
theorem d0e{k p:Nat}{l:Int}(hk:1≤k∧k≤24)(hl:0≤l∧l≤9)(hp:1≤p∧p≤8) :
  a17 k l p=some (nwH k l p)∧N9 (nwH k l p)∧SL (nwH k l p)∧zr (nwH k l p) = []:=by
 have e1:a1R k l=some (nwH k l p).S:=by
  unfold a1R P7;rw[if_neg (by simp;omega),a73 (by omega) (by omega)]
  rfl
 have h3:RtR (sO (nwH k l p).S):=by
  refine⟨by simp[sO,nwH];omega,hl.1,hl.2,by simp[sO,nwH],λi h=>?_,λi h=>?_,λi h q=>?_,λi h k hk q=>?_⟩
  ·simp[sO,cO,nwH];omega
  ·simp[sO,cO,oo,c1W,nwH]
  ·exfalso;simp[sO,cO,oo,Thr,nwH] at q
  ·exfalso;simp[sO,cO,oo,Thr,nwH] at q
 have hR:SR (nwH k l p).S:=w9.1 h3;have hce:∀i,ce (nwH k l p).S i=⟨0,0,z0⟩:=λi=>by
  unfold ce nwH;dsimp only;rw[List.getD_eq_getElem?_getD,List.getElem?_replicate];split <;> rfl
 have hlv:lv (nwH k l p).S = []:=List.eq_nil_iff_forall_not_mem.2 λh hh=>by
  obtain⟨i,q⟩:=(a3p hR).1 hh;have:=q.2.1;rw[hce] at this;cases this
 refine⟨?_,⟨⟨hR,(c8U (V:=Int) (λ_ _=>True) hp.1 hp.2).1,rfl,rfl,rfl,Nat.zero_le _,(λt ht=>nomatch ht),List.Pairwise.nil,(λh hh=>.inl (List.mem_replicate.1 hh).2),λh hh=>?_,λa v hv=>?_,λi hi=>?_⟩,λi hi ht=>?_,λh hh=>?_⟩,λh hh=>?_,?_⟩
 ·unfold a17;rw[if_neg (by simp;omega),e1,d7R,show mk 8 6 (0:Int)=some (List.replicate 6 0) from rfl,d7R]
  refine bnd (a:=List.replicate 6 ⟨0,false,-1⟩) (by kernel_rfl) ?_
  rw[c7W hp.1 hp.2,d7R];refine bnd (a:=⟨[],30⟩) (by kernel_rfl) ?_
  rfl
 ·rw[hlv] at hh;cases hh
 ·obtain⟨i,hi,_⟩:=hv;have:=hi.2.1;rw[show (nwH k l p).T=List.replicate p ⟨0,0,0⟩ from rfl,b25] at this;cases this
 ·have:(nwH k l p).a8[i]=⟨0,false,-1⟩:=List.getElem_replicate ..;rw[this];exact⟨by decide,by decide,λ_=>rfl,λh=>absurd rfl h,λh=>by cases h⟩
 ·rw[hce] at ht;rcases ht with h | h <;> cases h
 ·rw[hlv] at hh;cases hh
 ·rw[hlv] at hh;cases hh
 ·unfold zr;rw[hlv];rfl
theorem d4y{k p:Nat}{l:Int}(hk:1≤k∧k≤24)(hl:0≤l∧l≤9)(hp:1≤p∧p≤8):a17 k l p=some (nwH k l p)∧Rs (nwH k l p) 0:=by
 obtain⟨a,b,c,d⟩:=d0e hk hl hp;exact⟨a,b,c,d,Int.le_refl _⟩
end Go.Sh
namespace Go.Sh
section
variable{x:Hp}(hx:N9 x)(hS:SL x)
include hx hS
theorem c19:N5 x=some (gbg x):=by
 have hB:=d1K hx hS;unfold N5;rw[c2n (w9.2 hx.sh.sr) hx.sh.hr hB.tb hB.fb hB.sb];rfl
theorem c6Q:a1O (hO x)=some (gbg x):=by
 have hB:=d1K hx hS;unfold a1O;rw[show (hO x).S=sO x.S from rfl,show (hO x).T=x.T.map M0 from rfl,b8o (w9.2 hx.sh.sr) hx.sh.hr hB.tb hB.sb];rfl
theorem b1q:(gbg x).length≤24:=Nat.le_trans (List.length_filter_le ..) (G2 (w9.2 hx.sh.sr))
theorem d2I:a27 x=some (btc x):=by
 have hR:=hx.sh.sr;have hl:=b1q hx hS;unfold a27;rw[c19 hx hS,d7R];unfold H9;simp only[jn];refine bnd (a:=btc x) ?_ rfl;refine M7 (gbg x).length (λk b=>b=((gbg x).take k).filter λh=>due (Sh.ob x.S h)) (by omega) rfl (λk b hk hP=>?_) (λb hP=>?_)
 ·subst hP;have hm:=a2K hx _ (List.getElem_mem hk);have hle:(((gbg x).take k).filter λh=>due (Sh.ob x.S h)).length≤24:=Nat.le_trans (List.length_filter_le ..) (by simp;omega)
  refine .inl ⟨_,?_,rfl⟩;rw[if_pos (by simpa using hk),p8 hk,d7R,N2 hk,List.filter_append]
  unfold a3G;rw[b2U hR hm,d7R,d7R];have e:(decide ((ob x.S (gbg x)[k],(0:Int)).1.Prog≥0) && !(ob x.S (gbg x)[k],(0:Int)).1.Started)=due (ob x.S (gbg x)[k]):=rfl;rw[e];cases hd:due (ob x.S (gbg x)[k])
  ·rw[if_neg (by simp),l7]
   simp[hd]
  ·rw[if_pos rfl,A7 (by omega) (by simp;omega),d7R,l7]
   simp[hd]
 ·subst hP;refine⟨_,if_neg (by simp),?_⟩
  rw[List.take_length];rfl
theorem d5q:a9J (hO x)=some (btc x):=by
 have hR:=hx.sh.sr;have hl:=b1q hx hS;unfold a9J;rw[c6Q hx hS,d7R];simp only[jn];refine M7 (gbg x).length (λk b=>b=((gbg x).take k).filter λh=>due (Sh.ob x.S h)) (by omega) rfl (λk b hk hP=>?_) (λb hP=>?_)
 ·subst hP;have hm:=a2K hx _ (List.getElem_mem hk);have hle:(((gbg x).take k).filter λh=>due (Sh.ob x.S h)).length≤24:=Nat.le_trans (List.length_filter_le ..) (by simp;omega)
  refine .inl ⟨_,?_,rfl⟩;rw[if_pos (by simpa using hk),p8 hk,d7R,N2 hk,List.filter_append,c66 hx hS (a2c hR hm),d7R,decide_eq_true hm,Bool.true_and]
  cases hd:due (ob x.S (gbg x)[k])
  ·rw[if_neg (by simp),l7]
   simp[hd]
  ·rw[if_pos rfl,A7 (by omega) (by simp;omega),d7R,l7]
   simp[hd]
 ·subst hP;refine⟨_,if_neg (by simp),?_⟩
  rw[List.take_length];rfl
theorem d2M:a28 x=some (decide (gbg x = [])):=by
 unfold a28;rw[c19 hx hS,d7R];congr 1;cases gbg x <;> simp <;> omega
theorem d5s:b3a (hO x)=some (decide (gbg x = [])):=by
 unfold b3a;rw[c6Q hx hS,d7R];congr 1;cases gbg x <;> simp <;> omega
noncomputable def cgn(x:Hp):Int:=if btc x = [] then ((lv x.S).length:Int)-((lv (col x).S).length:Int) else 0
omit hx hS in
theorem c7L {l:List Int} (hn:l.Nodup) (hm:∀d∈l,d∈lv x.S):lvo x l=l:=by
 have key:∀(l b:List Int),(b++l).Nodup→(∀d∈l,d∈lv x.S)→l.foldl (λb h=>if h∈lv x.S∧h∉b then b ++ [h] else b) b=b++l:=by
  intro l;induction l with
  | nil=>intro b _ _;simp
  | cons a l ih=>
   intro b hn hm;rw[List.foldl_cons];have ha:a∉b:=λq=>by
    rw[List.nodup_append] at hn;exact hn.2.2 a q a (List.mem_cons_self ..) rfl
   rw[if_pos ⟨hm a (List.mem_cons_self ..),ha⟩,ih (b ++ [a]) (by simpa using hn) λd hd=>hm d (List.mem_cons_of_mem _ hd)]
   simp
 exact key l [] (by simpa using hn) hm
variable(hz:zr x = [])
include hz
theorem c4U{k:Nat}(hk:k<(btc x).length):(((btc x).take k).foldl quH x)=(((btc x).take k).foldl quH x)∧N9 (((btc x).take k).foldl quH x)∧SL (((btc x).take k).foldl quH x)∧(btc x)[k]∈lv (((btc x).take k).foldl quH x).S∧due (ob (((btc x).take k).foldl quH x).S (btc x)[k])=true:=by
 have hn:=c6M hx;have q:=c2M ((btc x).take k) hx hS hz ((List.take_sublist ..).nodup hn) λh hh=>b7Y h (List.mem_of_mem_take hh);obtain⟨a,b⟩:=b7Y (btc x)[k] (List.getElem_mem hk);refine⟨rfl,q.rt,q.sl,by rw[q.lv];exact a,?_⟩
 obtain⟨n,e⟩:=q.ob _ a;have hnot:(btc x)[k]∉(btc x).take k:=λh=>by
  have:=N2 hk;have hs:((btc x).take (k+1)).Nodup:=(List.take_sublist ..).nodup hn;rw[this,List.nodup_append] at hs;exact hs.2.2 _ h _ (List.mem_singleton_self _) rfl
 rw[e,if_neg hnot];exact b
theorem b7Z:(btc x).length≤24:=Nat.le_trans (List.length_filter_le ..) (b1q hx hS)
theorem d2N:X6 x=some (col x,((btc x).length:Int),cgn x):=by
 have hR:=hx.sh.sr;have hl:=b7Z hx hS hz;obtain⟨c1,c2,c3⟩:=b73 hx hS hz;unfold X6;rw[d2I hx hS,d7R];simp only[jn];refine M7 (btc x).length (λk b=>b=((btc x).take k).foldl quH x) (by omega) rfl (λk b hk hP=>?_) (λb hP=>?_)
 ·subst hP;obtain⟨_,r1,r2,r3,r4⟩:=c4U hx hS hz hk;refine .inl ⟨_,?_,rfl⟩;rw[if_pos (by simpa using hk),p8 hk,d7R,b7j r1 r2 (a2c r1.sh.sr r3),d7R,l7,N2 hk,List.foldl_append]
  unfold quD;rw[if_pos ⟨r3,r4⟩];rfl
 ·subst hP;refine⟨_,if_neg (by simp),?_⟩
  rw[List.take_length];by_cases hb:btc x = []
  ·have e:col x=buH x (gbg x):=c6Z hb;rw[if_neg (by simp[hb])]
   unfold cgn;rw[if_pos hb,e,hb];have h1:=a3I hx;have h2:=a2K hx;have hlive:=a2b (w9.2 hR);have hlive2:=a2b (w9.2 (Y3 hx).sh.sr);have l1:=G2 (w9.2 hR);have l2:=G2 (w9.2 (Y3 hx).sh.sr);show (N5 x).bind _=_;rw[c19 hx hS,d7R,List.foldl_nil,c3T hx h1 h2 (c4I hx) (by rw[b1F hR _ (by have:=b1q hx hS;omega) λh hh=>a2c hR (h2 h hh),c7L h1 h2]),d7R,a4s (Y3 hx) (by rw[←e];exact c2),d7R,b5h hx,hlive,d7R,hlive2,d7R,F2 (by omega) (by omega)]
   rfl
  ·have:0<(btc x).length:=List.length_pos_iff.2 hb;rw[if_pos (by simp;omega)]
   unfold cgn col;rw[if_neg hb,if_neg hb]
theorem d5u:a5E (hO x)=some (hO (col x),((btc x).length:Int),cgn x):=by
 have hR:=hx.sh.sr;have hl:=b7Z hx hS hz;obtain⟨c1,c2,c3⟩:=b73 hx hS hz;unfold a5E;rw[d5q hx hS,d7R];simp only[jn];by_cases hb:btc x = []
 ·have e:col x=buH x (gbg x):=c6Z hb;rw[if_neg (by simp[hb])]
  unfold cgn;rw[if_pos hb,e,hb];have h1:=a3I hx;have h2:=a2K hx;have hlive:=a8I (w9.2 hR);have hlive2:=a8I (w9.2 (Y3 hx).sh.sr);have l1:=G2 (w9.2 hR);have l2:=G2 (w9.2 (Y3 hx).sh.sr);rw[c6Q hx hS,d7R,b6Q hx h1 h2 (c4I hx) (by rw[c67 hR _ (by have:=b1q hx hS;omega) λh hh=>a2c hR (h2 h hh),c7L h1 h2]),d7R,a6K (Y3 hx) (by rw[←e];exact c2),d7R,b5h hx,show (hO x).S=sO x.S from rfl,hlive,d7R,show (hO (buH x (gbg x))).S=sO (buH x (gbg x)).S from rfl,hlive2,d7R,F2 (by omega) (by omega)]
  rfl
 ·have hp:0<(btc x).length:=List.length_pos_iff.2 hb;rw[if_pos (by simp;omega)]
  refine M7 (btc x).length (λk b=>b=hO (((btc x).take k).foldl quH x)) (by omega) rfl (λk b hk hP=>?_) (λb hP=>?_)
  ·subst hP;obtain⟨_,r1,r2,r3,r4⟩:=c4U hx hS hz hk;refine .inl ⟨_,?_,rfl⟩;rw[if_pos (by simpa using hk),p8 hk,d7R,c0R r1 r2 (a2c r1.sh.sr r3),d7R,l7,N2 hk,List.foldl_append]
   unfold quD;rw[if_pos ⟨r3,r4⟩];rfl
  ·subst hP;refine⟨_,if_neg (by simp),?_⟩
   rw[List.take_length];unfold cgn col;rw[if_neg hb,if_neg hb]
end
end Go.Sh
namespace Go.Sh
theorem c92{x:Hp}(hx:N9 x)(hS:SL x)(hz:zr x = []):(col x).S.Serial=x.S.Serial:=by
 unfold col;split
 ·have g:=a15 (gbg x) hx.sh.sr (a3I hx) (a2K hx);exact (a4R ((gbg x).flatMap (outs x.S)++(wot x.T (gbg x)).2) (x:=a47 x (gbg x) (wot x.T (gbg x)).1) g.sr).1.ser.trans g.ser
 ·exact (c6N hx hS hz).ser
end Go.Sh
namespace Go.Sh
def Sv(s s':a7):Prop:=s'.S.a8.length=s.S.a8.length∧∀i,i<s.S.a8.length→(ce s i).Gen≤(ce s' i).Gen∧((ce s' i).Gen=(ce s i).Gen→((ce s i).State≠0→(ce s' i).State≠0)∧((ce s' i).State=1→(ce s i).State=0∨((ce s i).State=1∧((ce s i).Val.Started=true→(ce s' i).Val.Started=true))))
theorem Sv.refl(s:a7):Sv s s:=⟨rfl,λi _=>⟨Int.le_refl _,λ_=>⟨id,λh=>.inr ⟨h,id⟩⟩⟩⟩
theorem Sv.trans{a b c:a7}(h:Sv a b)(q:Sv b c):Sv a c:=by
 obtain⟨h1,h2⟩:=h;obtain⟨q1,q2⟩:=q;refine⟨q1.trans h1,λi hi=>?_⟩;obtain⟨a1,a2⟩:=h2 i hi;obtain⟨b1,b2⟩:=q2 i (by omega)
 refine⟨by omega,λe=>?_⟩
 obtain⟨a3,a4⟩:=a2 (by omega)
 obtain⟨b3,b4⟩:=b2 (by omega)
 refine⟨λh=>b3 (a3 h),λh=>?_⟩;rcases b4 h with r | ⟨r,r'⟩
 ·exact .inl (Classical.byContradiction λn=>a3 n r)
 ·rcases a4 r with k | ⟨k,k'⟩
  ·exact .inl k
  ·exact .inr ⟨k,λs=>r' (k' s)⟩
def c3t(s:a7)(h:Int):Prop:=∃(i:Nat) (g:Int),i<s.S.a8.length∧h=1+(i:Int)+32*g∧(g<(ce s i).Gen∨(g=(ce s i).Gen∧(ce s i).State≠0∧((ce s i).State=1→(ce s i).Val.Started=true)))
theorem Sv.d6u{s s':a7}(h:Sv s s'){k:Int}(q:c3t s k):c3t s' k:=by
 obtain⟨i,g,hi,e,q⟩:=q;obtain⟨h1,h2⟩:=h;obtain⟨a,b⟩:=h2 i hi;refine⟨i,g,by omega,e,?_⟩
 rcases q with q | ⟨q1,q2,q3⟩
 ·exact .inl (by omega)
 ·by_cases c:(ce s' i).Gen=(ce s i).Gen
  ·obtain⟨b1,b2⟩:=b c;refine .inr ⟨by omega,b1 q2,λr=>?_⟩
   rcases b2 r with k | ⟨k1,k2⟩
   ·exact absurd k q2
   ·exact k2 (q3 k1)
  ·exact .inl (by omega)
theorem c6a{s:a7}(hR:SR s){h:Int}(hh:h∈lv s)(hs:(ob s h).Started=false):¬c3t s h:=by
 rintro⟨i,g,hi,e,q⟩;obtain⟨j,hj⟩:=(a3p hR).1 hh;have hl:=hR.len;have hij:i=j:=by
  have:=hj.2.2;have:=hj.1;omega
 subst hij;have:=hj.2.2;rcases q with q | ⟨q1,q2,q3⟩
 ·omega
 ·rw[P2 hR hj,q3 hj.2.1] at hs;cases hs
theorem Kin.sv{s s':a7}(hR:SR s)(k:Kin s s'):Sv s s':=⟨k.len,λi hi=>by
 obtain⟨a,b,_,_,_⟩:=k.ce i hi;refine⟨by omega,λ_=>⟨by omega,λh=>.inr ⟨by omega,λq=>?_⟩⟩⟩
 have h1:At s (hdl s i) i:=⟨hi,by omega,rfl⟩
 have h2:At s' (hdl s i) i:=⟨by rw[k.len];exact hi,h,by rw[b];rfl⟩
 have hl:=I0 hR ((a3p hR).2 ⟨i,h1⟩);obtain⟨n,e⟩:=k.ob (hdl s i) (by omega)
 rw[P2 k.sr h2,P2 hR h1] at e;rw[e];exact q⟩
theorem c8K{s:a7}(hR:SR s){h:Int}(hh:h∈lv s){o:m9}(hs:o.Serial=(ob s h).Serial)(ho:OkO s o)(hst:(ob s h).Started=true→o.Started=true):Sv s (seO s h o):=⟨c4O s h o,λi hi=>by
 have q:=A8 hR hh;rw[b9l hR hh hs ho];split
 ·rename_i e;subst e;refine⟨Int.le_refl _,λ_=>⟨id,λr=>.inr ⟨q.2.1,λk=>hst ?_⟩⟩⟩;rw[P2 hR q];exact k
 ·exact⟨Int.le_refl _,λ_=>⟨id,λr=>.inr ⟨r,id⟩⟩⟩⟩
theorem c7P{s:a7}(hR:SR s){i:Nat}(hi:i<s.S.a8.length)(ht:Th (ce s i))(d:Int):Sv s (mkA s i d):=⟨M8 ..,λj hj=>by
 rw[a3L hR hi ht];split
 ·rename_i e;subst e;exact⟨Int.le_refl _,λ_=>⟨id,λr=>.inr ⟨r,id⟩⟩⟩
 ·exact⟨Int.le_refl _,λ_=>⟨id,λr=>.inr ⟨r,id⟩⟩⟩⟩
theorem d3l{s:a7}{i:Nat}(hi:i<s.S.a8.length):Sv s (gvA s i):=⟨Y0 ..,λj hj=>by
 unfold gvA;rw[L0 hi];by_cases e:j=i
 ·subst e;rw[if_pos rfl];split;·exact⟨Int.le_refl _,λ_=>⟨λ_=>(by decide:(3:Int)≠0),λr=>absurd (show (3:Int)=1 from r) (by decide)⟩⟩
  ·refine⟨by show _≤(ce s j).Gen+1;omega,λr=>?_⟩
   have:(ce s j).Gen+1=(ce s j).Gen:=r;omega
 ·rw[if_neg e];exact⟨Int.le_refl _,λ_=>⟨id,λr=>.inr ⟨r,id⟩⟩⟩⟩
theorem Gn.sv{s s':a7}{ds:List Int}(g:Gn s s' ds):Sv s s':=⟨g.len,λj hj=>by
 rw[g.ce];split
 ·unfold gnC;split
  ·split;·exact⟨Int.le_refl _,λ_=>⟨λ_=>(by decide:(3:Int)≠0),λr=>absurd (show (3:Int)=1 from r) (by decide)⟩⟩
   ·refine⟨by show _≤(Sh.ce s j).Gen+1;omega,λr=>?_⟩
    have:(Sh.ce s j).Gen+1=(Sh.ce s j).Gen:=r;omega
  ·exact⟨Int.le_refl _,λ_=>⟨λ_=>(by decide:(2:Int)≠0),λr=>absurd (show (2:Int)=1 from r) (by decide)⟩⟩
 ·exact⟨Int.le_refl _,λ_=>⟨id,λr=>.inr ⟨r,id⟩⟩⟩⟩
theorem d5T{s:a7}(hR:SR s){i:Nat}(hi:i<s.S.a8.length)(h0:(ce s i).State=0){n:Nat}(hn:n≤4){p:Int}(hp : -1≤p∧p≤5):Sv s (mkS s i n p):=⟨a5X hR hi h0 hn hp,λj hj=>by
 rw[a72 hR hi h0 hn hp];split
 ·rename_i e;subst e;exact⟨Int.le_refl _,λ_=>⟨λr=>absurd h0 r,λ_=>.inl h0⟩⟩
 ·exact⟨Int.le_refl _,λ_=>⟨id,λr=>.inr ⟨r,id⟩⟩⟩⟩
theorem c27{x:Hp}(hR:SR x.S)(h:Int):Sv x.S (C8 x h).S:=(G6 hR h (f:=V1) λc=>E0).sv hR
theorem b9f{x:Hp}(hR:SR x.S)(h:Int):Sv x.S (Q5 x h).S:=(G6 hR h (f:=a6b) λc=>O5).sv hR
theorem c1n{x:Hp}(hR:SR x.S)(r:Nat)(h:Int):Sv x.S (G5 x r h).S:=
 (c27 hR h).trans (b9f (x:=wR (C8 x h) (x.Roots.set r h)) (a3P hR h) _)
theorem c5t{x:Hp}(hR:SR x.S){h:Int}(hh:h∈lv x.S){n:Nat}(hn:n<(ob x.S h).Fields.length)(v:Int):Sv x.S (a1u x h n v).S:=by
 have k1:=b9i hR v;have hh1:h∈lv (C8 x v).S:=by rw[k1.lv];exact hh
 have hof:(ob (C8 x v).S h).Fields=(ob x.S h).Fields:=by
  obtain⟨n,e⟩:=(G6 hR v (f:=V1) λc=>E0).ob h (by have:=I0 hR hh;omega)
  show (ob (stO x v V1).S h).Fields=_;rw[e]
 have ho:OkO (C8 x v).S (flg (ob (C8 x v).S h) ((ob x.S h).Fields.set n v)):=by
  have:=K3 k1.sr hh1;refine⟨this.s1,this.s2,this.st,this.wk,this.p1,this.p2,?_⟩;have h4:=this.fl;rw[hof] at h4;simpa using h4
 have k2:=c8K (o:=flg (ob (C8 x v).S h) ((ob x.S h).Fields.set n v)) k1.sr hh1 rfl ho id;exact ((c27 hR v).trans k2).trans (b9f (x:=wS (C8 x v) (seO (C8 x v).S h (flg (ob (C8 x v).S h) ((ob x.S h).Fields.set n v)))) (a08 (o:=flg (ob (C8 x v).S h) ((ob x.S h).Fields.set n v)) k1.sr hh1 rfl ho) _)
theorem c8f{x:Hp}(hR:SR x.S)(v:Int)(t:Tb)(old:Int):Sv x.S (a6m x v t old).S:=
 (c27 hR v).trans (b9f (x:=wT (C8 x v) t) (a3P hR v) old)
theorem d3F{x:Hp}(hR:SR x.S)(h d:Int):Sv x.S (mkd x h d).S:=by
 unfold mkd;split
 ·rename_i q;exact c7P hR q.1 q.2.1 d
 ·exact Sv.refl _
theorem d1p{x:Hp}(hR:SR x.S)(h:Int):Sv x.S (a9f x h).S:=by
 unfold a9f;split
 ·rename_i q;have k:=c7P hR q.1 q.2.1 (-1);split;·exact k.trans (d3l (by rw[k.1];exact q.1))
  ·exact k
 ·exact Sv.refl _
theorem c8Y{x:Hp}(hx:N9 x)(n:Nat)(h call:Int):Sv x.S (a2C x n h call).S:=by
 have hR:=hx.sh.sr;unfold a2C;have s1:Sv x.S (mkd (wC x (x.a8.set n (wcl h call))) h 1).S:=d3F (x:=wC x (x.a8.set n (wcl h call))) hR h 1;refine s1.trans (d1p ?_ _);unfold mkd;split
 ·rename_i q;have:=(hR.ok _ q.1 q.2.1).wk;exact b5t hR q.1 q.2.1 (by omega)
 ·exact hR
theorem d2J{x:Hp}(hR:SR x.S){ds:List Int}(hn:ds.Nodup)(hm:∀d∈ds,d∈lv x.S):Sv x.S (buH x ds).S:=by
 have g:=a15 ds hR hn hm;exact g.sv.trans ((a4R (ds.flatMap (outs x.S)++(wot x.T ds).2) (x:=a47 x ds (wot x.T ds).1) g.sr).1.sv g.sr)
theorem d4h{x:Hp}(hR:SR x.S){h:Int}(hh:h∈lv x.S):Sv x.S (quH x h).S:=by
 have oko:=K3 hR hh;have ho:OkO x.S (srt (ob x.S h)):=⟨oko.s1,oko.s2,oko.st,oko.wk,oko.p1,oko.p2,oko.fl⟩;exact (c8K (o:=srt (ob x.S h)) hR hh rfl ho λ_=>rfl).trans ((a7s hR hh).1.sv (a08 (o:=srt (ob x.S h)) hR hh rfl ho))
theorem d4L{x:Hp}(hx:N9 x):Sv x.S (stp x).S:=by
 cases h:zr x with
 | nil=>rw[a9R h];exact Sv.refl _
 | cons z l=>
  have hz:z∈zr x:=by rw[h];exact List.mem_cons_self ..
  have hzl:=(a1E.1 hz).1;rw[a4X h];split;·exact d4h hx.sh.sr hzl
  ·exact d2J hx.sh.sr (by simp) (by simpa using hzl)
theorem d4H{x:Hp}(hx:N9 x)(n:Nat):Sv x.S (stN n x).S:=by
 induction n with
 | zero=>exact Sv.refl _
 | succ n ih=>rw[a2q];exact ih.trans (d4L (a0W hx n))
theorem d1a{x:Hp}(hx:N9 x):Sv x.S (a1V x).S:=d4H hx 100
structure Fw (x y:Hp):Prop where
 sv:Sv x.S y.S
 q:∃l,y.Q=⟨x.Q.L++l,x.Q.Cap⟩∧∀t∈l,t.Kind=1→¬c3t x.S t.At
theorem Fw.of{x y:Hp}(h:Sv x.S y.S)(q:y.Q=x.Q):Fw x y:=⟨h,[],by rw[q,List.append_nil],λt ht=>by cases ht⟩
theorem Fw.refl(x:Hp):Fw x x:=Fw.of (Sv.refl _) rfl
theorem Fw.trans{x y z:Hp}(a:Fw x y)(b:Fw y z):Fw x z:=by
 obtain⟨l,q1,q2⟩:=a.q;obtain⟨m,r1,r2⟩:=b.q;refine⟨a.sv.trans b.sv,l++m,by rw[r1,q1,List.append_assoc],λt ht hk=>?_⟩
 rcases List.mem_append.1 ht with h | h
 ·exact q2 t h hk
 ·exact λs=>r2 t h hk (a.sv.d6u s)
theorem b9n{x:Hp}(hx:N9 x):Fw x (a1V x):=by
 obtain⟨l,q1,q2,_⟩:=(a89 hx).q;exact⟨d1a hx,l,q1,λt ht hk=>c6a hx.sh.sr (q2 t ht hk).1 (q2 t ht hk).2⟩
end Go.Sh
namespace Go.Sh
theorem a4S{x:Hp}(hR:SR x.S)(r:Nat)(h:Int):Fw x (G5 x r h):=Fw.of (c1n hR r h) (a4T x r h).2.2.2
theorem d5z{x:Hp}(hx:N9 x)(hS:SL x)(hz:zr x = [])(hb:x.S.Serial<9223372036854775807)(o:g8):(∃e,Er x o e)∨∃z v,Dn x o z v∧Fw x z:=by
 have hR:=hx.sh.sr;obtain⟨k,a,b,c⟩:=o;by_cases hc:B7 k a b c=0
 ·have:=c4b hc;have hk:k=1∨k=2∨k=3∨k=4∨k=5∨k=6∨k=7∨k=8∨k=9∨k=10∨k=11∨k=12:=by omega
  rcases hk with rfl | rfl | rfl | rfl | rfl | rfl | rfl | rfl | rfl | rfl | rfl | rfl
  ·rcases d1 hx hS hb hc with ⟨e,_,h⟩ | ⟨hn,hcc,i,hF,h⟩;·exact .inl ⟨e,h⟩
   ·obtain⟨hi,h0,_⟩:=hF;have k1:Fw x (wS x (mkS x.S i b.toNat c)):=Fw.of (d5T hR hi h0 hn hcc) rfl;exact .inr ⟨_,_,h,k1.trans (a4S (x:=wS x (mkS x.S i b.toNat c)) (c0B hR hi h0 hn hcc) _ _)⟩
  ·exact .inr ⟨_,_,d2 hx hS hc,a4S hR _ _⟩
  ·exact .inr ⟨_,_,d3 hx hS hc,a4S hR _ _⟩
  ·rcases d4 hx hS hc with ⟨_,h⟩ | ⟨e,_,h⟩ | ⟨_,n,_,_,h⟩;·exact .inl ⟨_,h⟩
   ·exact .inl ⟨_,h⟩
   ·exact .inr ⟨_,_,h,a4S hR _ _⟩
  ·rcases d5 hx hS hc with ⟨_,h⟩ | ⟨e,_,h⟩ | ⟨hl,n,_,hn,h⟩;·exact .inl ⟨_,h⟩
   ·exact .inl ⟨_,h⟩
   ·exact .inr ⟨_,_,h,Fw.of (c5t hR hl hn _) (a8y _ _ _ _).2.2.2⟩
  ·rcases d6 hx hS hc with ⟨_,h⟩ | ⟨e,_,h⟩ | ⟨_,h⟩;·exact .inl ⟨_,h⟩
   ·exact .inl ⟨_,h⟩
   ·exact .inr ⟨_,_,h,Fw.of (c8Y hx _ _ _) (b58 _ _ _ _).2.2.2⟩
  ·obtain⟨_,⟨_,h⟩ | ⟨_,h⟩⟩:=d7 hx hS hc;·exact .inl ⟨_,h⟩
   ·exact .inr ⟨_,_,h,a4S hR _ _⟩
  ·rcases d8 hx hS hc with ⟨_,h⟩ | ⟨_,e,_,h⟩ | ⟨_,r,_,_,h⟩;·exact .inl ⟨_,h⟩
   ·exact .inl ⟨_,h⟩
   ·exact .inr ⟨_,_,h,Fw.of (c8f hR _ _ _) (b0Q _ _ _ _).2.2.2⟩
  ·rcases d9 hx hS hc with ⟨_,h⟩ | ⟨_,_,h⟩ | ⟨_,v,_,h⟩;·exact .inl ⟨_,h⟩
   ·exact .inl ⟨_,h⟩
   ·exact .inr ⟨_,_,h,a4S hR _ _⟩
  ·exact .inr ⟨_,_,d10 hx hS hz hc,Fw.refl x⟩
  ·obtain⟨h1,h2⟩:=b8a (x:=x) (a:=a) (b:=b) (c:=c) (.inl rfl) hc;exact .inl ⟨14,by decide,h1,h2⟩
  ·obtain⟨h1,h2⟩:=b8a (x:=x) (a:=a) (b:=b) (c:=c) (.inr rfl) hc;exact .inl ⟨14,by decide,h1,h2⟩
 ·obtain⟨h1,h2⟩:=c65 (x:=x) (o:=⟨k,a,b,c⟩) hc;exact .inl ⟨_,hc,h1,h2⟩
theorem d2S{x:Hp}(hx:N9 x)(hS:SL x)(hz:zr x = [])(hb:x.S.Serial<9223372036854775807)(o:g8):Fw x (dov x o).1:=by
 rcases d5z hx hS hz hb o with ⟨e,_,h,_⟩ | ⟨z,v,d,f⟩
 ·have:dov x o=(x,0,e):=by unfold dov;rw[h];rfl
  rw[this];exact Fw.refl x
 ·have:dov x o=(a1V z,v,0):=by unfold dov;rw[d.mc];rfl
  rw[this];exact f.trans (b9n d.rt)
theorem d6q{x:Hp}(h1:HpS x)(h2:Wk x){L:List Int}(h3:a1F x L){r:Nat}(hr:r<6){h:Int}(hh:h=0∨h∈lv x.S):HpS (G5 x r h)∧Wk (G5 x r h)∧a1F (G5 x r h) L:=by
 have kin:=G6 h1.sr h (f:=V1) λc=>E0;have l1:lv (C8 x h).S=lv x.S:=kin.lv;have f1:a1F (C8 x h) (h::L):=c1p h1.sr h3 h;have s1:HpS (C8 x h):=h1.st h (f:=V1) λc=>E0;have s2:HpS (wR (C8 x h) (x.Roots.set r h)):=s1.roots (by rw[List.length_set];exact h1.r6) λv hv=>by
  rw[l1];rcases List.mem_or_eq_of_mem_set hv with q | q
  ·exact h1.rt v q
  ·exact q▸hh
 have w1:Wk (C8 x h):=h2.st h1.sr h (f:=V1) λc=>E0;have one:∀v k,tms [v] k=if v=k∧k≠0 then 1 else 0:=λv k=>by rw[H0,Q2,Nat.zero_add]
 have f2:a1F (wR (C8 x h) (x.Roots.set r h)) (x.Roots.getD r 0::L):=f1.mv rfl (λ_ _=>rfl) λk hk=>by
  have:=b4E (l:=x.Roots) (r:=r) (by rw[h1.r6];exact hr) h k
  rw[one,one] at this;rw[b3e x h];unfold nms otr;dsimp only;rw[K7,K7,b3n,b3n,H0 h L,H0 (x.Roots.getD r 0) L];omega
 exact⟨s2.st _ λc=>O5,Wk.st (x:=wR (C8 x h) (x.Roots.set r h)) w1 s2.sr _ λc=>O5,b2m (x:=wR (C8 x h) (x.Roots.set r h)) s2.sr f2⟩
abbrev unq(x:Hp)(ts:List k9):Hp:=wQ x ⟨ts,x.Q.Cap⟩
noncomputable def b2R(x:Hp)(ts:List k9)(h:Int):Hp:=Q5 (G5 (unq x ts) 5 h) h
section
variable{x:Hp}(hx:N9 x){t:k9}{ts:List k9}(hq:x.Q.L=t::ts)
include hx hq
theorem b9y:HpS (unq x ts):=by
 have h:=hx.sh;refine⟨h.sr,h.hr,h.r6,h.c6,h.cap,?_,λu hu=>h.tk u (by rw[hq];exact List.mem_cons_of_mem _ hu),?_,h.rt,h.fl,h.pr,λi hi=>?_⟩
 ·have:=h.q30;rw[hq,List.length_cons] at this;show ts.length≤30;omega
 ·have:=h.td;rw[hq,List.pairwise_cons] at this;exact this.2
 ·obtain⟨a,b,c,d,e⟩:=h.cl i hi;refine⟨a,b,c,d,λq=>⟨(e q).1,?_⟩⟩;have:=(e q).2;rw[Bool.eq_false_iff] at this ⊢;intro r;obtain⟨u,hu,k1,k2⟩:=a5L.1 r;exact this (a5L.2 ⟨u,by rw[hq];exact List.mem_cons_of_mem _ hu,k1,k2⟩)
theorem c1F:a1F (unq x ts) (if t.Kind=1 then [t.At] else []):=hx.fair.mv rfl (λ_ _=>rfl) λh _=>by
 unfold nms otr b6r;dsimp only;rw[hq,List.filter_cons];by_cases k:t.Kind=1
 ·rw[if_pos k,if_pos (by simpa using k),List.map_cons,K7,K7,H0 t.At (List.map _ _),H0 t.At [],Q2]
  omega
 ·rw[if_neg k,if_neg (by simpa using k),Q2]
theorem c18(hk:t.Kind≠1):N9 (unq x ts):=⟨b9y hx hq,hx.wk,by have:=c1F hx hq;rwa [if_neg hk] at this⟩
theorem c2h(hk:t.Kind=1):t.At∈lv x.S∧(ob x.S t.At).Started=true:=by
 rcases (hx.sh.tk t (by rw[hq];exact List.mem_cons_self ..)).2.2 with ⟨_,b,c⟩ | ⟨b,_⟩
 ·exact⟨b,c⟩
 ·omega
theorem a6c(hk:t.Kind=1):N9 (b2R x ts t.At):=by
 have f:=c1F hx hq;rw[if_pos hk] at f;obtain⟨a,b,c⟩:=d6q (b9y hx hq) (x:=unq x ts) hx.wk f (r:=5) (by decide) (.inr (c2h hx hq hk).1)
 exact⟨a.st _ λc=>O5,b.st a.sr _ λc=>O5,b2m a.sr c⟩
omit hq in
theorem c2i (hS:SL x) (h:Int):SL (b2R x ts h):=by
 have k:=a4U (x:=unq x ts) hx.sh.sr hS 5 h;exact b9d [h] (a1l (x:=unq x ts) hx.sh.sr 5 h).sr k
omit hq in
theorem d2X (h:Int):Ks x.S (b2R x ts h).S:=by
 have k:=a1l (x:=unq x ts) hx.sh.sr 5 h;exact k.trans (b9e k.sr h)
omit hq in
theorem c7j (h:Int):(b2R x ts h).Roots=x.Roots.set 5 h∧(b2R x ts h).a8=x.a8∧(b2R x ts h).T=x.T∧(b2R x ts h).Q=⟨ts,x.Q.Cap⟩:=by
 obtain⟨a,b,c,d⟩:=b5Q (G5 (unq x ts) 5 h) h;obtain⟨a',b',c',d'⟩:=a4T (unq x ts) 5 h;exact⟨a.trans a',b.trans b',c.trans c',d.trans d'⟩
omit hq in
theorem d2W (h:Int):Fw (unq x ts) (b2R x ts h):=Fw.of ((c1n (x:=unq x ts) hx.sh.sr 5 h).trans (b9f (a1l (x:=unq x ts) hx.sh.sr 5 h).sr h)) (c7j hx h).2.2.2
end
def prg(ps:List (List g8))(n:Int):List g8:=if n<0∨(ps.length:Int)≤n then [] else ps.getD n.toNat []
noncomputable def pre(x:Hp)(t:k9)(ts:List k9):Hp:=if t.Kind=1 then a1V (b2R x ts t.At) else unq x ts
noncomputable def ran(ps:List (List g8))(x:Hp)(t:k9)(ts:List k9):Hp:=(runs (pre x t ts) (prg ps t.Prog)).1
noncomputable def dne(ps:List (List g8))(x:Hp)(t:k9)(ts:List k9):Hp:=if t.Kind=1 then a1V (G5 (ran ps x t ts) 5 0) else ran ps x t ts
structure Oh (x:Hp):Prop where
 rt:N9 x
 sl:SL x
 zr:zr x = []
theorem Nxt.ok{x y:Hp}{o:g8}{v e:Int}(n:Nxt x o y v e):Oh y:=⟨n.rt,n.sl,n.zr⟩
theorem c4Q{x:Hp}(h:N9 x)(s:SL x):Oh (a1V x):=⟨a2X h,c4R h s,b7x h⟩
theorem c8H{x:Hp}(hx:Oh x)(l:List g8)(hb:x.S.Serial+l.length<9223372036854775807):Oh (runs x l).1∧Fw x (runs x l).1∧(runs x l).1.S.Serial≤x.S.Serial+l.length∧(runs x l).2.length=l.length:=by
 have key:∀k,k≤l.length→Oh (runs x (l.take k)).1∧Fw x (runs x (l.take k)).1∧(runs x (l.take k)).1.S.Serial≤x.S.Serial+k∧(runs x (l.take k)).2.length=k:=by
  intro k;induction k with
  | zero=>exact λ_=>⟨hx,Fw.refl x,by show x.S.Serial≤_;omega,rfl⟩
  | succ k ih=>
   intro hk;obtain⟨a,b,c,d⟩:=ih (by omega)
   have hk':k<l.length:=by omega
   have n:=a7m a.rt a.sl a.zr (by omega) l[k]
   rw[N2 hk',a9O];exact⟨n.ok,b.trans (d2S a.rt a.sl a.zr (by omega) _),by have:=n.ev.s2;show (dov _ _).1.S.Serial≤_;omega,by simp[d]⟩
 have:=key l.length (Nat.le_refl _);rwa [List.take_length] at this
section
variable{x:Hp}(hx:Oh x){t:k9}{ts:List k9}(hq:x.Q.L=t::ts)(ps:List (List g8))
include hx hq
theorem c2H:Oh (pre x t ts):=by
 unfold pre;split
 ·rename_i k;exact c4Q (a6c hx.rt hq k) (c2i hx.rt hx.sl _)
 ·rename_i k;exact⟨c18 hx.rt hq k,hx.sl,hx.zr⟩
theorem d3Z:Fw (unq x ts) (pre x t ts):=by
 unfold pre;split
 ·rename_i k;exact (d2W hx.rt _).trans (b9n (a6c hx.rt hq k))
 ·exact Fw.refl _
theorem b8N:(pre x t ts).S.Serial=x.S.Serial:=by
 unfold pre;split
 ·rename_i k;rw[(a89 (a6c hx.rt hq k)).ser,(d2X hx.rt _).ser]
 ·rfl
variable(hb:x.S.Serial+(prg ps t.Prog).length<9223372036854775807)
include hb
theorem b89:Oh (ran ps x t ts)∧Fw (unq x ts) (ran ps x t ts)∧(ran ps x t ts).S.Serial≤x.S.Serial+(prg ps t.Prog).length:=by
 have e:=b8N hx hq;obtain⟨a,b,c,_⟩:=c8H (c2H hx hq) (prg ps t.Prog) (by rw[e];exact hb)
 exact⟨a,(d3Z hx hq).trans b,by rw[e] at c;exact c⟩
theorem c96:Oh (dne ps x t ts)∧Fw (unq x ts) (dne ps x t ts)∧(dne ps x t ts).S.Serial≤x.S.Serial+(prg ps t.Prog).length∧(t.Kind=1→sd (dne ps x t ts) 5=0):=by
 obtain⟨a,b,c⟩:=b89 hx hq ps hb;unfold dne;split
 ·have hz:=a0A a.rt (r:=5) (by decide) (h:=0) (.inl rfl)
  have k:=a1l a.rt.sh.sr 5 0;refine⟨c4Q hz (a4U a.rt.sh.sr a.sl 5 0),(b.trans (a4S a.rt.sh.sr 5 0)).trans (b9n hz),?_,λ_=>(a9L a.rt (a:=5) (by decide) (h:=0) (.inl rfl)).1⟩
  rw[(a89 hz).ser,k.ser];exact c
 ·exact⟨a,b,c,λq=>absurd q (by assumption)⟩
end
end Go.Sh
namespace Go.Sh
def cst(ps:List (List g8))(t:k9):Int:=1+((prg ps t.Prog).length:Int)
def can(ps:List (List g8))(p:Hp × Int):Prop:=∃t ts,p.1.Q.L=t::ts∧cst ps t≤p.2
noncomputable def nxd(ps:List (List g8))(p:Hp × Int):Hp × Int:=match p.1.Q.L with
 | []=>p
 | t::ts=>if cst ps t≤p.2 then (dne ps p.1 t ts,p.2-cst ps t) else p
noncomputable def dN(ps:List (List g8)):Nat→Hp × Int→Hp × Int
 | 0,p=>p
 | n+1,p=>dN ps n (nxd ps p)
section
variable(ps:List (List g8))
theorem b4l(n:Nat)(p:Hp × Int):dN ps (n+1) p=nxd ps (dN ps n p):=by
 induction n generalizing p with
 | zero=>rfl
 | succ n ih=>exact ih (nxd ps p)
theorem d0z{p:Hp × Int}(h:p.1.Q.L = []):nxd ps p=p:=by unfold nxd;rw[h]
theorem b1N{p:Hp × Int}{t:k9}{ts:List k9}(h:p.1.Q.L=t::ts):nxd ps p=if cst ps t≤p.2 then (dne ps p.1 t ts,p.2-cst ps t) else p:=by unfold nxd;rw[h]
theorem b97{p:Hp × Int}{t:k9}{ts:List k9}(h:p.1.Q.L=t::ts):can ps p↔cst ps t≤p.2:=by
 constructor
 ·rintro⟨u,us,e,c⟩;rw[h] at e;injection e with e1 e2
  rw[e1];exact c
 ·exact λc=>⟨t,ts,h,c⟩
theorem b1h(t:k9):1≤cst ps t:=by unfold cst;omega
theorem c3W{p:Hp × Int}(hb:0≤p.2):∃n:Nat,(n:Int)≤p.2∧¬can ps (dN ps n p)∧∀j,j<n→can ps (dN ps j p):=by
 have key:∀m:Nat,(∃n:Nat,n≤m∧¬can ps (dN ps n p))∨((dN ps m p).2+m≤p.2∧0≤(dN ps m p).2):=by
  intro m;induction m with
  | zero=>exact .inr ⟨by show p.2+((0:Nat):Int)≤_;omega,hb⟩
  | succ m ih=>
   rcases ih with ⟨n,h1,h2⟩ | ⟨h1,h2⟩;·exact .inl ⟨n,by omega,h2⟩
   ·by_cases q:can ps (dN ps m p)
    ·right;obtain⟨t,ts,e,c⟩:=q;have:=b1h ps t;rw[b4l,b1N ps e,if_pos c];dsimp only;omega
    ·exact .inl ⟨m,by omega,q⟩
 have hex:∃n:Nat,(n:Int)≤p.2∧¬can ps (dN ps n p):=by
  rcases key (p.2.toNat+1) with ⟨n,h1,h2⟩ | ⟨h1,h2⟩
  ·rcases Nat.lt_or_ge n (p.2.toNat+1) with q | q
   ·exact⟨n,by omega,h2⟩
   ·have hn:n=p.2.toNat+1:=by omega
    rcases key p.2.toNat with ⟨n,h1,h2⟩ | ⟨h1,h3⟩;·exact⟨n,by omega,h2⟩
    ·refine⟨p.2.toNat,by omega,λ⟨t,ts,e,c⟩=>?_⟩
     have:=b1h ps t;omega
  ·omega
 obtain⟨n,⟨hn,hz⟩,hmin⟩:=a1t hex;refine⟨n,hn,hz,λj hj=>Classical.byContradiction λq=>?_⟩;have:=hmin j ⟨by omega,q⟩
 omega
theorem b76{p:Hp × Int}(hx:Oh p.1)(hb:0≤p.2)(hs:p.1.S.Serial+p.2<9223372036854775807):∀n,Oh (dN ps n p).1∧0≤(dN ps n p).2∧(dN ps n p).2≤p.2∧(dN ps n p).1.S.Serial+(dN ps n p).2≤p.1.S.Serial+p.2
 | 0=>⟨hx,hb,Int.le_refl _,Int.le_refl _⟩
 | n+1=>by
  obtain⟨a,b,c,d⟩:=b76 hx hb hs n;rw[b4l];cases e:(dN ps n p).1.Q.L with
  | nil=>rw[d0z ps e];exact⟨a,b,c,d⟩
  | cons t ts=>
   rw[b1N ps e];split
   ·rename_i q;have q2:=q;unfold cst at q2;obtain⟨r1,_,r3,_⟩:=c96 a e ps (by omega)
    refine⟨r1,?_,?_,?_⟩;·dsimp only;omega
    ·have:=b1h ps t;dsimp only;omega
    ·dsimp only;unfold cst;omega
   ·exact⟨a,b,c,d⟩
end
noncomputable def dn(ps:List (List g8))(p:Hp × Int):Nat:=if h:0≤p.2 then Classical.choose (c3W ps h) else 0
theorem c3Y(ps:List (List g8)){p:Hp × Int}(h:0≤p.2):(dn ps p:Int)≤p.2∧¬can ps (dN ps (dn ps p) p)∧∀j,j<dn ps p→can ps (dN ps j p):=by
 unfold dn;rw[dif_pos h];exact Classical.choose_spec (c3W ps h)
noncomputable def dr(ps:List (List g8))(p:Hp × Int):Hp × Int:=dN ps (dn ps p) p
theorem d5A(ps:List (List g8)){x:Hp}{f:Int}(hx:Oh x)(hf:0≤f)(hs:x.S.Serial+f<9223372036854775807):Oh (dr ps (x,f)).1∧0≤(dr ps (x,f)).2∧(dr ps (x,f)).2≤f∧(dr ps (x,f)).1.S.Serial+(dr ps (x,f)).2≤x.S.Serial+f:=b76 ps (p:=(x,f)) hx hf hs _
end Go.Sh
namespace Go.Sh
section
variable{x:Hp}(hx:HpS x)(hS:∀k∈lv x.S,(ob x.S k).Strong≤9223372036854775807)
include hx hS
theorem c7H{h:Int}(hh:h=0∨h∈lv x.S):h≤9223372036854775807:=by
 rcases hh with q | q
 ·omega
 ·have:=I0 hx.sr q;omega
theorem c8C(k:Int){h:Int}(hh:h≤9223372036854775807):a0N x k h=some (if k<0∨5<k then (x,6) else if h=0∨h∈lv x.S then (G5 x k.toNat h,0) else (x,3)):=by
 have hR:=hx.sr;have r6:=hx.r6;unfold a0N;by_cases hk:k<0∨5<k
 ·rw[if_pos hk,if_pos (by rw[r6];simp;omega)]
 ·rw[if_neg hk,if_neg (by rw[r6];simp;omega),a2O hR hh,d7R]
  by_cases hn:h=0∨h∈lv x.S
  ·rw[if_pos hn,decide_eq_true hn,if_neg (by simp)]
   obtain⟨n,rfl⟩:∃n:Nat,k=n:=⟨k.toNat,by omega⟩
   have hn6:n<6:=by omega
   have hnl:n<x.Roots.length:=by omega
   have old:x.Roots[n]≤9223372036854775807:=c7H hx hS (hx.rt _ (List.getElem_mem hnl));have e1:=a6H x h;have hn2:n<(C8 x h).Roots.length:=by rw[e1.1];exact hnl
   rw[p8 hnl,d7R];unfold F4 P3 M3;rw[a6F hR hh hS,d7R];dsimp only;rw[M6 (by omega) (by rw[e1.1];omega),d7R,p8 hn2,d7R,d7R]
   have hrel:=a2U (x:=wR (C8 x h) (x.Roots.set n h)) (a3P hR h) old;rw[Int.toNat_natCast,e1.1,show D3 ⟨(C8 x h).S,x.Roots.set n h,(C8 x h).a8,(C8 x h).T,(C8 x h).Q⟩ x.Roots[n]=_ from hrel];unfold G5;rw[List.getD_eq_getElem?_getD,List.getElem?_eq_getElem hnl];rfl
  ·rw[if_neg hn,decide_eq_false hn,if_pos (by simp)]
theorem d03(k:Int){h:Int}(hh:h≤9223372036854775807):V7 (hO x) k h=some (if k<0∨5<k then (hO x,6) else if h=0∨h∈lv x.S then (hO (G5 x k.toNat h),0) else (hO x,3)):=by
 have hR:=hx.sr;have r6:=hx.r6;unfold V7;by_cases hk:k<0∨5<k
 ·rw[if_pos hk,if_pos (by simp;omega)]
 ·rw[if_neg hk,if_neg (by simp;omega),b1J hR hh,d7R]
  by_cases hn:h=0∨h∈lv x.S
  ·rw[if_pos hn,decide_eq_true hn,if_neg (by simp)]
   obtain⟨n,rfl⟩:∃n:Nat,k=n:=⟨k.toNat,by omega⟩
   have hnl:n<x.Roots.length:=by omega
   have hnl':n<(hO x).Roots.length:=hnl;have old:x.Roots[n]≤9223372036854775807:=c7H hx hS (hx.rt _ (List.getElem_mem hnl));have e1:=a6H x h;have r6':(hO x).Roots.length=6:=r6;rw[p8 hnl',d7R,a83 hR hh hS,d7R,M6 (by omega) (by rw[r6'];omega),d7R,p8 hnl',d7R]
   have hrel:=a4r (x:=wR (C8 x h) (x.Roots.set n h)) (a3P hR h) old;rw[Int.toNat_natCast];rw[show E8 ⟨(hO (C8 x h)).S,(hO x).Roots.set n h,(hO (C8 x h)).a8,(hO (C8 x h)).T,(hO (C8 x h)).Q⟩ (hO x).Roots[n]=_ from hrel];unfold G5;rw[List.getD_eq_getElem?_getD,List.getElem?_eq_getElem hnl];rfl
  ·rw[if_neg hn,decide_eq_false hn,if_pos (by simp)]
end
theorem c2I(ps:List (List g8))(n:Int):a4A ps n=some (prg ps n):=by
 unfold a4A prg;by_cases h:n<0∨(ps.length:Int)≤n
 ·rw[if_pos (by simpa using h),if_pos h]
 ·rw[if_neg (by simpa using h),if_neg h]
  obtain⟨k,rfl⟩:∃k:Nat,n=k:=⟨n.toNat,by omega⟩
  have hk:k<ps.length:=by omega
  rw[p8 hk,d7R,Int.toNat_natCast,List.getD_eq_getElem?_getD,List.getElem?_eq_getElem hk];rfl
abbrev psR(ps:List (List g8)):List (List r8):=ps.map (List.map opR)
theorem c8k(ps:List (List g8))(n:Int):a6D (psR ps) n=some ((prg ps n).map opR):=by
 unfold a6D prg;rw[List.length_map];by_cases h:n<0∨(ps.length:Int)≤n
 ·rw[if_pos (by simpa using h),if_pos h]
  rfl
 ·rw[if_neg (by simpa using h),if_neg h]
  obtain⟨k,rfl⟩:∃k:Nat,n=k:=⟨n.toNat,by omega⟩
  have hk:k<ps.length:=by omega
  have hk2:k<(psR ps).length:=by simpa using hk
  rw[p8 hk2,d7R,Int.toNat_natCast,List.getD_eq_getElem?_getD,List.getElem?_eq_getElem hk];simp[psR]
def Mp(ps:List (List g8)):Prop:=∀p∈ps,p.length≤6
theorem b4t{ps:List (List g8)}(h:Mp ps)(n:Int):(prg ps n).length≤6:=by
 unfold prg;split;·simp
 ·rename_i q;have hk:n.toNat<ps.length:=by omega
  rw[List.getD_eq_getElem?_getD,List.getElem?_eq_getElem hk];exact h _ (List.getElem_mem hk)
theorem c3V{ps:List (List g8)}(h:Mp ps)(t:k9):a67 ps t=some (cst ps t):=by
 have:=b4t h t.Prog;unfold a67 cst;rw[c2I,d7R,F2 (by omega) (by omega)]
theorem c60{ps:List (List g8)}(h:Mp ps)(t:k9):a6B (psR ps) ⟨t.Kind,t.At,t.Prog⟩=some (cst ps t):=by
 have:=b4t h t.Prog;unfold a6B cst;show (a6D (psR ps) t.Prog).bind _=_;rw[c8k,d7R,List.length_map,F2 (by omega) (by omega)]
theorem b8c(x:Hp):a1G x=some (x.Q.L.isEmpty):=by
 unfold a1G;rw[b9u,d7R];unfold tnx;cases x.Q.L <;> rfl
theorem c3Z(x:Hp):a4q (hO x)=some (x.Q.L.isEmpty):=by
 unfold a4q;show some ((((x.Q.L.map _).length:Nat):Int)==0)=_;cases x.Q.L with
 | nil=>rfl
 | cons a l=>simp;omega
section
variable{x:Hp}(hx:Oh x){t:k9}{ts:List k9}(hq:x.Q.L=t::ts){ps:List (List g8)}(hm:Mp ps)(hb:x.S.Serial<9000000000000000000)
include hx hq hm hb
theorem c8V:a68 x ps=some (dne ps x t ts,t,0):=by
 have M0:=b4t hm t.Prog;have pok:=c2H hx hq;have pser:=b8N hx hq;obtain⟨rok,_,_⟩:=b89 hx hq ps (by omega)
 have hrun:=(run_eq pok.rt pok.sl pok.zr (prg ps t.Prog) (by omega) (by rw[pser];omega)).1
 have hrun':a3q (pre x t ts) (prg ps t.Prog)=some (ran ps x t ts,(runs (pre x t ts) (prg ps t.Prog)).2):=hrun;have hz:=a0A rok.rt (r:=5) (by decide) (h:=0) (.inl rfl)
 have zS:=a4U rok.rt.sh.sr rok.sl 5 0;unfold a68;rw[b9u,d7R];have e:tnx x.Q=(⟨ts,x.Q.Cap⟩,t,0):=by unfold tnx;rw[hq]
 rw[e];dsimp only;rw[if_neg (by simp)]
 simp only[jn];by_cases k:t.Kind=1
 ·have hk:(t.Kind==1)=true:=by simpa using k
  have hat:=(c2h hx.rt hq k).1;have ush:=b9y hx.rt hq;have hm1:=a2c hx.rt.sh.sr hat;have e1:a0N ⟨x.S,x.Roots,x.a8,x.T,⟨ts,x.Q.Cap⟩⟩ 5 t.At=some (G5 (unq x ts) 5 t.At,0):=by
   have:=c8C (x:=unq x ts) ush hx.sl 5 hm1;rw[if_neg (by omega),if_pos (.inr hat)] at this
   exact this
  have e2:D3 (G5 (unq x ts) 5 t.At) t.At=some (b2R x ts t.At):=a2U (a1l (x:=unq x ts) hx.rt.sh.sr 5 t.At).sr hm1;have e3:=a4s (a6c hx.rt hq k) (c2i hx.rt hx.sl t.At);have e4:pre x t ts=a1V (b2R x ts t.At):=by unfold pre;rw[if_pos k]
  have e5:=c4J rok.rt rok.sl 5 (h:=0) (by decide)
  rw[if_neg (by omega),if_pos (.inl rfl)] at e5
  rw[if_pos hk,e1,d7R];dsimp only;rw[e2,d7R,e3,d7R,c2I,d7R,←e4,hrun',d7R,if_pos hk];dsimp only;rw[e5,d7R];refine bnd (a4s hz zS) ?_;unfold dne;rw[if_pos k];rfl
 ·have hk:¬(t.Kind==1)=true:=by simpa using k
  have e4:pre x t ts=unq x ts:=by unfold pre;rw[if_neg k]
  rw[if_neg hk,c2I,d7R,show (⟨x.S,x.Roots,x.a8,x.T,⟨ts,x.Q.Cap⟩⟩:b7)=pre x t ts from e4.symm,hrun',d7R,if_neg hk];unfold dne;rw[if_neg k]
theorem d4I:b2h (hO x) (psR ps)=some (hO (dne ps x t ts),tkR t,0):=by
 have M0:=b4t hm t.Prog;have pok:=c2H hx hq;have pser:=b8N hx hq;obtain⟨rok,_,_⟩:=b89 hx hq ps (by omega)
 have hrun:=(run_eq pok.rt pok.sl pok.zr (prg ps t.Prog) (by omega) (by rw[pser];omega)).2
 have hrun':b2g (hO (pre x t ts)) ((prg ps t.Prog).map opR)=some (hO (ran ps x t ts),(runs (pre x t ts) (prg ps t.Prog)).2):=hrun;have hz:=a0A rok.rt (r:=5) (by decide) (h:=0) (.inl rfl)
 have zS:=a4U rok.rt.sh.sr rok.sl 5 0;unfold b2h;rw[show (hO x).Q=tqR x.Q from rfl,d4j,d7R];have e:tnx x.Q=(⟨ts,x.Q.Cap⟩,t,0):=by unfold tnx;rw[hq]
 rw[e];dsimp only;rw[if_neg (by simp)]
 simp only[jn];have hkk:(tkR t).Kind=t.Kind:=rfl;have hka:(tkR t).At=t.At:=rfl;have hkp:(tkR t).Prog=t.Prog:=rfl;rw[hkk,hka,hkp];by_cases k:t.Kind=1
 ·have hk:(t.Kind==1)=true:=by simpa using k
  have hat:=(c2h hx.rt hq k).1;have ush:=b9y hx.rt hq;have hm1:=a2c hx.rt.sh.sr hat;have e1:V7 (hO (unq x ts)) 5 t.At=some (hO (G5 (unq x ts) 5 t.At),0):=by
   have:=d03 (x:=unq x ts) ush hx.sl 5 hm1;rw[if_neg (by omega),if_pos (.inr hat)] at this
   exact this
  have e2:E8 (hO (G5 (unq x ts) 5 t.At)) t.At=some (hO (b2R x ts t.At)):=a4r (a1l (x:=unq x ts) hx.rt.sh.sr 5 t.At).sr hm1;have e3:=a6K (a6c hx.rt hq k) (c2i hx.rt hx.sl t.At);have e4:pre x t ts=a1V (b2R x ts t.At):=by unfold pre;rw[if_pos k]
  have e5:=c24 rok.rt rok.sl 5 (h:=0) (by decide)
  rw[if_neg (by omega),if_pos (.inl rfl)] at e5
  rw[if_pos hk,show (⟨(hO x).S,(hO x).Roots,(hO x).a8,(hO x).T,tqR ⟨ts,x.Q.Cap⟩⟩:c7)=hO (unq x ts) from rfl,e1,d7R];dsimp only;rw[e2,d7R,e3,d7R,c8k,d7R,←e4,hrun',d7R,if_pos hk];dsimp only;rw[e5,d7R];refine bnd (a6K hz zS) ?_;unfold dne;rw[if_pos k];rfl
 ·have hk:¬(t.Kind==1)=true:=by simpa using k
  have e4:pre x t ts=unq x ts:=by unfold pre;rw[if_neg k]
  rw[if_neg hk,c8k,d7R,show (⟨(hO x).S,(hO x).Roots,(hO x).a8,(hO x).T,tqR ⟨ts,x.Q.Cap⟩⟩:c7)=hO (pre x t ts) by rw[e4];rfl,hrun',d7R,if_neg hk]
  unfold dne;rw[if_neg k]
end
section
variable{x:Hp}(hx:Oh x){ps:List (List g8)}(hm:Mp ps){f:Int}(hf:0≤f)(hf2:f≤1000000)(hb:x.S.Serial<8000000000000000000)
include hx hm hf hf2 hb
def dre(p:Hp × Int):Int:=if p.1.Q.L.isEmpty then 0 else 12
theorem drain_eq:a3l x ps f=some ((dr ps (x,f)).1,(dn ps (x,f):Int),(dr ps (x,f)).2,dre (dr ps (x,f))):=by
 obtain⟨a1,a2,a3⟩:=c3Y ps (p:=(x,f)) hf;have all:=b76 ps (p:=(x,f)) hx hf (by show x.S.Serial+f<_;omega)
 unfold a3l;simp only[jn];dsimp only at a1;refine a2a (λk=>((dN ps k (x,f)).2,(dN ps k (x,f)).1,(k:Int),(dN ps k (x,f)).2,(dN ps k (x,f)).1)) rfl (dn ps (x,f)) (λ_=>True) (by omega) trivial (λk hk _=>.inl ⟨?_,trivial⟩) (λ_=>⟨((dn ps (x,f):Int),(dr ps (x,f)).2,(dr ps (x,f)).1),?_,?_⟩)
 ·obtain⟨b1,b2,b3,b4⟩:=all k;obtain⟨t,ts,e,c⟩:=a3 k hk;dsimp only at b2 b3 b4;have hc:=b1h ps t;rw[b8c,e,d7R];show (a1S _).bind _=_;rw[b9u,d7R];have e2:tnx (dN ps k (x,f)).1.Q=(⟨ts,(dN ps k (x,f)).1.Q.Cap⟩,t,0):=by unfold tnx;rw[e]
  rw[e2];dsimp only;rw[c3V hm,d7R,if_neg (by simp;omega),c8V b1 e hm (by omega),d7R,F2 (by omega) (by omega),l7,b4l,b1N ps e,if_pos c]
 ·rw[b8c,d7R];cases e:(dN ps (dn ps (x,f)) (x,f)).1.Q.L with
  | nil=>rfl
  | cons t ts=>
   have hc:¬cst ps t≤(dN ps (dn ps (x,f)) (x,f)).2:=λq=>a2 ((b97 ps e).2 q);show (a1S _).bind _=_;rw[b9u,d7R];have e2:tnx (dN ps (dn ps (x,f)) (x,f)).1.Q=(⟨ts,(dN ps (dn ps (x,f)) (x,f)).1.Q.Cap⟩,t,0):=by unfold tnx;rw[e]
   rw[e2];dsimp only;rw[c3V hm,d7R,if_pos (by simp;omega)]
   rfl
 ·dsimp only;rw[b8c,d7R];unfold dre;cases (dr ps (x,f)).1.Q.L.isEmpty <;> rfl
theorem c97:a6C (hO x) (psR ps) f=some (hO (dr ps (x,f)).1,(dn ps (x,f):Int),(dr ps (x,f)).2,dre (dr ps (x,f))):=by
 obtain⟨a1,a2,a3⟩:=c3Y ps (p:=(x,f)) hf;have all:=b76 ps (p:=(x,f)) hx hf (by show x.S.Serial+f<_;omega)
 unfold a6C;simp only[jn];dsimp only at a1;refine a2a (λk=>((dN ps k (x,f)).2,(k:Int),hO (dN ps k (x,f)).1)) rfl (dn ps (x,f)) (λ_=>True) (by omega) trivial (λk hk _=>.inl ⟨?_,trivial⟩) (λ_=>?_)
 ·obtain⟨b1,b2,b3,b4⟩:=all k;obtain⟨t,ts,e,c⟩:=a3 k hk;dsimp only at b2 b3 b4;have hc:=b1h ps t;rw[c3Z,e,d7R];have e2:ix (hO (dN ps k (x,f)).1).Q.L 0=some (tkR t):=by
   show ix ((dN ps k (x,f)).1.Q.L.map tkR) 0=_;rw[e];rfl
  show (ix (hO (dN ps k (x,f)).1).Q.L 0).bind _=_;rw[e2,d7R,show a6B (psR ps) (tkR t)=_ from c60 hm t,d7R,if_neg (by simp;omega),d4I b1 e hm (by omega),d7R,F2 (by omega) (by omega),l7,b4l,b1N ps e,if_pos c]
 ·cases e:(dN ps (dn ps (x,f)) (x,f)).1.Q.L with
  | nil=>
   refine⟨.inr ((dr ps (x,f)).2,(dn ps (x,f):Int),hO (dr ps (x,f)).1),?_,?_⟩
   ·rw[c3Z,e];rfl
   ·unfold dre;have e':(dr ps (x,f)).1.Q.L = []:=e;rw[e'];rfl
  | cons t ts=>
   have hc:¬cst ps t≤(dN ps (dn ps (x,f)) (x,f)).2:=λq=>a2 ((b97 ps e).2 q);refine⟨.inl (hO (dr ps (x,f)).1,(dn ps (x,f):Int),(dr ps (x,f)).2,12),?_,?_⟩
   ·rw[c3Z,e,d7R];have e2:ix (hO (dN ps (dn ps (x,f)) (x,f)).1).Q.L 0=some (tkR t):=by
     show ix ((dN ps (dn ps (x,f)) (x,f)).1.Q.L.map tkR) 0=_;rw[e];rfl
    show (ix (hO (dN ps (dn ps (x,f)) (x,f)).1).Q.L 0).bind _=_;rw[e2,d7R,show a6B (psR ps) (tkR t)=_ from c60 hm t,d7R,if_pos (by simp;omega)]
    rfl
   ·unfold dre;have e':(dr ps (x,f)).1.Q.L=t::ts:=e;rw[e'];rfl
end
end Go.Sh
namespace Go.Sh
theorem d5U{l:List (List g8)}(h:a7r l=true):Mp l∧l.length≤6:=by
 unfold a7r at h;rw[Bool.and_eq_true,decide_eq_true_iff,List.all_eq_true] at h;refine⟨λp hp=>?_,h.1⟩;have:=h.2 p hp;unfold b3z at this;rw[Bool.and_eq_true,decide_eq_true_iff] at this;exact this.1
end Go.Sh
namespace Go.Sh
theorem d5L(s:a7)(h:s.S.a8.length≤30):b4I s=some (sO s):=by
 unfold b4I;simp only[jn,b4J,d7R];have e:=a4I (b:=80) cO s.S.a8 (by omega) (by omega)
 simp only[cO,oo] at e;rw[e];rfl
theorem d1d(s:a7):a9Y s=some (decide (Sm s)):=by
 unfold a9Y;simp only[jn];refine V2 (min s.S.a8.length 30) (λk=>∀j (h:j<s.S.a8.length),j<k→s.S.a8[j].Val.Fields.length≤10) (by omega) (λ_ _ h=>by omega) (λk hk hP=>?_) (λhP=>?_)
 ·have hk1:k<s.S.a8.length:=by omega
  have hk2:k<30:=by omega
  have hc:((decide ((k:Int)<(s.S.a8.length:Int)))&&(decide ((k:Int)<30)))=true:=by simp;omega
  by_cases g:s.S.a8[k].Val.Fields.length≤10
  ·refine .inl ⟨?_,λj h hj=>?_⟩
   ·rw[hc];simp only[if_true,p8 hk1,d7R];rw[if_neg (by simp;omega),l7]
   ·rcases Nat.lt_or_ge j k with q | q
    ·exact hP j h q
    ·have:j=k:=by omega
     subst this;exact g
  ·refine .inr ⟨.inl false,?_,?_⟩
   ·rw[hc];simp only[if_true,p8 hk1,d7R];rw[if_pos (by simp;omega)]
   ·simp only;rw[decide_eq_false (λq:Sm s=>g (q.2 k hk1))]
 ·refine⟨.inr (),?_,?_⟩
  ·rw[show ((decide (((min s.S.a8.length 30:Nat):Int)<(s.S.a8.length:Int)))&&(decide (((min s.S.a8.length 30:Nat):Int)<30)))=false by
    rcases Nat.lt_or_ge s.S.a8.length 30 with q | q
    ·simp;omega
    ·simp;omega]
   rfl
  ·simp only;congr 1;rw[decide_eq_decide];constructor
   ·intro q;exact⟨by omega,λi h=>hP i h (by omega)⟩
   ·intro q;have:=q.1;omega
end Go.Sh
namespace Go.Sh
theorem d6v(t:Tb)(h:t.length≤1000):b4K t=some (t.map M0):=by
 unfold b4K;simp only[jn];have e:=a4I (b:=24) M0 t (by omega) (by omega)
 simp only[M0] at e;rw[e];rfl
end Go.Sh
namespace Go.Sh
theorem d5t(l:List g6)(h:l.length≤1000):a9W l=some (l.map wcR):=by
 unfold a9W;simp only[jn];have e:=a4I (b:=24) wcR l (by omega) (by omega)
 simp only[wcR] at e;rw[e];rfl
theorem d6w(q:TQ)(h:q.L.length≤1000):a9Z q=some (tqR q):=by
 unfold a9Z;simp only[jn];have e:=a4I (b:=24) tkR q.L (by omega) (by omega)
 simp only[tkR] at e;rw[e];rfl
theorem d3p{x:Hp}(h1:x.S.S.a8.length≤30)(h2:x.a8.length≤1000)(h3:x.T.length≤1000)(h4:x.Q.L.length≤1000):a40 x=some (hO x):=by
 unfold a40;rw[d5L x.S h1,d7R,d5t x.a8 h2,d7R,d6v x.T h3,d7R,d6w x.Q h4,d7R];rfl
theorem b8v{x:Hp}(h:HpS x):a40 x=some (hO x):=by
 have h1:=h.sr.len;have h2:=h.c6;have h3:=h.hr.l8;have h4:=h.q30;exact d3p (by omega) (by omega) (by omega) (by omega)
theorem c7g(x:Hp):b2C x=some (decide (b9R x)):=by
 unfold b2C;rw[d1d,d7R];congr 1;rw[Bool.eq_iff_iff];simp only[Bool.and_eq_true,decide_eq_true_iff];unfold b9R;constructor
 ·rintro⟨⟨⟨⟨a,b⟩,c⟩,d⟩,e⟩;exact⟨a,by omega,by omega,by omega,by omega⟩
 ·rintro⟨a,b,c,d,e⟩;exact⟨⟨⟨⟨a,by omega⟩,by omega⟩,by omega⟩,by omega⟩
theorem d5F{x:Hp}(h:HpS x):b2C x=some true:=by rw[c7g,decide_eq_true h.d7k]
end Go.Sh
namespace Go.Sh
noncomputable def eo(ps:List (List g8))(x:Hp)(o:g8):Hp × Int × Int:=
 if o.Kind=11 then (col x,cgn x-((btc x).length:Int),0)
 else if o.Kind=12 then ((dr ps (x,o.A)).1,(dn ps (x,o.A):Int),dre (dr ps (x,o.A)))
 else dov x o
noncomputable def er(ps:List (List g8))(x:Hp)(row:List Int):Hp × Int × Int:=if (a1d row).2≠0 then (x,0,(a1d row).2) else eo ps x (a1d row).1
noncomputable def ers(ps:List (List g8))(x:Hp)(rows:List (List Int)):Hp × List (Int × Int):=rows.foldl (λp r=>((er ps p.1 r).1,p.2 ++ [(er ps p.1 r).2])) (x,[])
theorem c7b(ps:List (List g8))(x:Hp)(l:List (List Int))(r:List Int):ers ps x (l ++ [r])=((er ps (ers ps x l).1 r).1,(ers ps x l).2 ++ [(er ps (ers ps x l).1 r).2]):=by
 unfold ers;rw[List.foldl_append];rfl
theorem b8g(ps:List (List g8)):∀(l:List (List Int)) (x:Hp) (a:List (Int × Int)),l.foldl (λp r=>((er ps p.1 r).1,p.2 ++ [(er ps p.1 r).2])) (x,a)=((ers ps x l).1,a++(ers ps x l).2)
 | [],x,a=>by simp[ers]
 | r::l,x,a=>by
  unfold ers;rw[List.foldl_cons,List.foldl_cons,b8g ps l,b8g ps l _ ([]++_)];simp
theorem c30(ps:List (List g8))(x:Hp)(l m:List (List Int)):ers ps x (l++m)=((ers ps (ers ps x l).1 m).1,(ers ps x l).2++(ers ps (ers ps x l).1 m).2):=by
 have:ers ps x (l++m)=m.foldl (λp r=>((er ps p.1 r).1,p.2 ++ [(er ps p.1 r).2])) (ers ps x l):=by
  unfold ers;rw[List.foldl_append]
 rw[this];exact b8g ps m (ers ps x l).1 (ers ps x l).2
theorem b8h(ps:List (List g8))(x:Hp)(l:List (List Int)):(ers ps x l).2.length=l.length:=by
 induction l generalizing x with
 | nil=>rfl
 | cons r l ih=>
  have:=c30 ps x [r] l;rw[List.singleton_append] at this;rw[this,List.length_append,ih];show 1+l.length=l.length+1;omega
theorem b77{row:List Int}(h:(a1d row).2=0):B7 (a1d row).1.Kind (a1d row).1.A (a1d row).1.B (a1d row).1.C=0:=by
 unfold a1d at h ⊢;rcases four row with ⟨k,a,b,c,rfl⟩ | hl
 ·rw[c3X,Option.getD_some] at h ⊢;by_cases q:B7 k a b c≠0
  ·rw[if_pos q] at h;exact absurd h q
  ·rw[if_neg q];exact Classical.not_not.1 q
 ·rw[(b78 hl).1,Option.getD_some] at h;exact absurd h (by decide)
theorem c6S{a b c:Int}(h:B7 12 a b c=0):0≤a∧a≤200:=in0 (by decide) (show M5 a 0 200 12=0 from h)
section
variable{ps:List (List g8)}(hm:Mp ps){x:Hp}(hx:Oh x)(hb:x.S.Serial<7000000000000000000)
include hm hx hb
theorem d5B{o:g8}(ho:o.Kind=12→0≤o.A∧o.A≤200):Oh (eo ps x o).1∧(eo ps x o).1.S.Serial≤x.S.Serial+201:=by
 unfold eo;split
 ·obtain⟨a,b,c⟩:=b73 hx.rt hx.sl hx.zr;refine⟨⟨a,b,c⟩,?_⟩;show (col x).S.Serial≤_;rw[c92 hx.rt hx.sl hx.zr];omega
 ·split
  ·rename_i h;obtain⟨h0,h2⟩:=ho h;obtain⟨a,b,c,d⟩:=d5A ps hx h0 (by omega)
   exact⟨a,by show (dr ps (x,o.A)).1.S.Serial≤_;omega⟩
  ·have n:=a7m hx.rt hx.sl hx.zr (by omega) o
   have:=n.ev.s2;exact⟨n.ok,by omega⟩
theorem d5C(row:List Int):Oh (er ps x row).1∧(er ps x row).1.S.Serial≤x.S.Serial+201:=by
 unfold er;split;·exact⟨hx,by show x.S.Serial≤_;omega⟩
 ·rename_i h;have hc:=b77 (Classical.not_not.1 h);refine d5B hm hx hb λhk=>?_;rw[hk] at hc;exact c6S hc
end
theorem b8i{ps:List (List g8)}(hm:Mp ps){x:Hp}(hx:Oh x):∀(l:List (List Int)),x.S.Serial+201*(l.length:Int)<7000000000000000000→Oh (ers ps x l).1∧(ers ps x l).1.S.Serial≤x.S.Serial+201*(l.length:Int):=by
 intro l;induction l generalizing x with
 | nil=>exact λ_=>⟨hx,by show x.S.Serial≤_;simp⟩
 | cons r l ih=>
  intro hb;rw[List.length_cons] at hb ⊢;obtain⟨a,b⟩:=d5C hm hx (by omega) r
  obtain⟨c,d⟩:=ih a (by omega)
  have e:=c30 ps x [r] l;rw[List.singleton_append] at e;rw[e];exact⟨c,by
   have:(ers ps (ers ps x [r]).1 l).1.S.Serial≤(er ps x r).1.S.Serial+201*(l.length:Int):=d;show (ers ps (ers ps x [r]).1 l).1.S.Serial≤_;omega⟩
end Go.Sh
namespace Go.Sh
def ctO(l:List b9)(k:Int):Nat:=l.countP λc=>c.State==k
theorem c62(l:List b9)(c:b9)(k:Int):ctO (l ++ [c]) k=ctO l k+if c.State=k then 1 else 0:=by
 unfold ctO;rw[List.countP_append];simp[List.countP_cons]
noncomputable def srs(x:Hp):List Int:=(lv x.S).map λh=>ser x h
theorem c7J{s:a7}(hR:SR s){h:Int}(hh:h∈lv s):sk s.S.a8 h=(ob s h).Serial:=by
 obtain⟨i,hi⟩:=(a3p hR).1 hh;rw[c6J hR hi,P2 hR hi]
theorem d4G{x:Hp}(hR:SR x.S):(srs x).Pairwise (· < ·):=by
 unfold srs;rw[List.pairwise_map];refine List.Pairwise.imp_of_mem (λ{a b} ha hb h=>?_) (a5u (w9.2 hR)).2.2;rw[c7J hR ha,c7J hR hb] at h;exact h
theorem c8Q{x:Hp}(hR:SR x.S):(srs x).mergeSort (λx y=>decide (x≤y))=srs x:=
 List.mergeSort_of_pairwise ((d4G hR).imp λh=>decide_eq_true (by omega))
theorem d1g{x:Hp}(hR:SR x.S):(srs x).length≤24:=by
 unfold srs;rw[List.length_map];exact G2 (w9.2 hR)
end Go.Sh
namespace Go.Sh
inductive Fm (x:Hp) (o:g8) (z:Hp) (v:Int):Prop
 | new (i:Nat) (hF:Fst x.S i) (hk:o.Kind=1) (ha:0≤o.A∧o.A≤5) (hn:o.B.toNat≤4) (hc : -1≤o.C∧o.C≤5) (hv:v=x.S.Serial+1) (hz:z=G5 (wS x (mkS x.S i o.B.toNat o.C)) o.A.toNat (hdl x.S i)):Fm x o z v
 | root (h:Int) (hk:o.Kind≠1) (ha:0≤o.A∧o.A≤5) (hh:h=0∨h∈lv x.S) (hz:z=G5 x o.A.toNat h):Fm x o z v
 | field (h:Int) (n:Nat) (u:Int) (hk:o.Kind=5) (hl:h∈lv x.S) (hn:n<(ob x.S h).Fields.length) (hu:u=0∨u∈lv x.S) (hz:z=a1u x h n u):Fm x o z v
 | weak (h:Int) (hk:o.Kind=6) (ha:0≤o.A∧o.A≤5) (hc : -1≤o.C∧o.C≤5) (hh:h=0∨h∈lv x.S) (hw:wts x.Q o.A=false) (hz:z=a2C x o.A.toNat h o.C):Fm x o z v
 | pair (h u:Int) (r:Tb × Int × Int) (hk:o.Kind=8) (hl:h∈lv x.S) (hu:u=0∨u∈lv x.S) (hr:U7 x.T h u=some r) (h0:r.2.2=0) (hz:z=a6m x u r.1 r.2.1):Fm x o z v
 | same (hk:o.Kind=10) (hz:z=x):Fm x o z v
theorem Fm.ks{x z:Hp}{o:g8}{v:Int}(hx:N9 x)(f:Fm x o z v)(hk:o.Kind≠1):Ks x.S z.S:=by
 have hR:=hx.sh.sr;cases f with
 | new i hF hk'=>exact absurd hk' hk
 | root h _ ha hh hz=>rw[hz];exact a1l hR _ _
 | field h n u _ hl hn hu hz=>rw[hz];exact b6T hR hl hn u
 | weak h _ ha hc hh hw hz=>rw[hz];exact c1J hx (by omega) h _
 | pair h u r _ hl hu hr h0 hz=>rw[hz];exact c0J hR u _ _
 | same _ hz=>rw[hz];exact Ks.refl hR
end Go.Sh
namespace Go.Sh
def anE(p:Int × Int):l6:=⟨p.1,p.2⟩
def anR(p:Int × Int):p7:=⟨p.1,p.2⟩
section
variable{ps:List (List g8)}(hm:Mp ps){x:Hp}(hx:Oh x)(hb:x.S.Serial<7000000000000000000)
include hm hx hb
theorem c6R : -24≤cgn x-((btc x).length:Int)∧cgn x-((btc x).length:Int)≤24:=by
 have h1:=b7Z hx.rt hx.sl hx.zr;have h2:(lv x.S).length≤24:=G2 (w9.2 hx.rt.sh.sr);obtain⟨c1,_,_⟩:=b73 hx.rt hx.sl hx.zr;have h3:(lv (col x).S).length≤24:=G2 (w9.2 c1.sh.sr);unfold cgn;split
 ·rename_i e;rw[e];simp;omega
 ·omega
theorem edo(row:List Int):a9v ⟨x,ps⟩ row=some (⟨(er ps x row).1,ps⟩,anE (er ps x row).2):=by
 unfold a9v;rw[(c0d row).1,d7R];unfold er;by_cases h:(a1d row).2=0
 ·rw[if_neg (show ¬(((a1d row).2 != 0)=true) by simp[h]),if_neg (show ¬((a1d row).2≠0) by simp[h])]
  have hc:=b77 h;generalize (a1d row).1=o at hc;unfold a69 eo;by_cases k11:o.Kind=11
  ·rw[if_pos (by simp[k11]),if_pos k11]
   refine Eq.trans (b:=(X6 x).bind λv4=>some (⟨v4.1,ps⟩,⟨x8 (v4.2.2-v4.2.1),0⟩)) rfl ?_;obtain⟨b1,b2⟩:=c6R hm hx hb;rw[d2N hx.rt hx.sl hx.zr,d7R];dsimp only;rw[F2 (by omega) (by omega)]
   rfl
  ·rw[if_neg (by simp[k11]),if_neg k11]
   by_cases k12:o.Kind=12
   ·rw[if_pos (by simp[k12]),if_pos k12]
    refine Eq.trans (b:=(a3l x ps o.A).bind λv5=>some (⟨v5.1,ps⟩,⟨v5.2.1,v5.2.2.2⟩)) rfl ?_;rw[k12] at hc;obtain⟨a0,a2⟩:=c6S hc;rw[drain_eq hx hm a0 (by omega) (by omega),d7R]
    rfl
   ·rw[if_neg (by simp[k12]),if_neg k12]
    refine Eq.trans (b:=(x6 x o).bind λv3=>some (⟨v3.1,ps⟩,⟨v3.2.1,v3.2.2⟩)) rfl ?_;rw[(a7m hx.rt hx.sl hx.zr (by omega) o).mc,d7R]
    rfl
 ·rw[if_pos (by simpa using h),if_pos h]
  rfl
theorem rdo(row:List Int):b86 ⟨hO x,psR ps⟩ row=some (⟨hO (er ps x row).1,psR ps⟩,anR (er ps x row).2):=by
 unfold b86;rw[(c0d row).2,d7R];unfold er;by_cases h:(a1d row).2=0
 ·rw[if_neg (show ¬(((a1d row).2 != 0)=true) by simp[h]),if_neg (show ¬((a1d row).2≠0) by simp[h])]
  have hc:=b77 h;generalize (a1d row).1=o at hc;unfold eo;by_cases k11:o.Kind=11
  ·rw[if_pos (by simp[k11,b31]),if_pos k11]
   obtain⟨b1,b2⟩:=c6R hm hx hb;dsimp only;rw[d5u hx.rt hx.sl hx.zr,d7R];dsimp only;rw[F2 (by omega) (by omega)]
   rfl
  ·rw[if_neg (by simp[k11,b31]),if_neg k11]
   by_cases k12:o.Kind=12
   ·rw[if_pos (by simp[k12,b31]),if_pos k12]
    rw[k12] at hc;obtain⟨a0,a2⟩:=c6S hc;refine Eq.trans (b:=(a6C (hO x) (psR ps) o.A).bind λv3=>some (⟨v3.1,psR ps⟩,⟨v3.2.1,v3.2.2.2⟩)) rfl ?_;rw[c97 hx hm a0 (by omega) (by omega),d7R]
    rfl
   ·rw[if_neg (by simp[k12,b31]),if_neg k12]
    refine Eq.trans (b:=(D2 (hO x) (opR o)).bind λv3=>some (⟨v3.1,psR ps⟩,⟨v3.2.1,v3.2.2⟩)) rfl ?_;rw[(a7m hx.rt hx.sl hx.zr (by omega) o).rf,d7R]
    rfl
 ·rw[if_pos (by simpa using h),if_pos h]
  rfl
end
section
variable{ps:List (List g8)}(hm:Mp ps){x:Hp}(hx:Oh x)
include hm hx
theorem c1x{rows:List (List Int)}{k:Nat}(hk:k<rows.length):ers ps x (rows.take (k+1))=((er ps (ers ps x (rows.take k)).1 rows[k]).1,(ers ps x (rows.take k)).2 ++ [(er ps (ers ps x (rows.take k)).1 rows[k]).2]):=by
 rw[List.take_succ_eq_append_getElem hk,c7b]
theorem d5D(rows:List (List Int))(hl:rows.length≤1000)(hb:x.S.Serial<6000000000000000000):a2I ⟨x,ps⟩ rows=some (⟨(ers ps x rows).1,ps⟩,(ers ps x rows).2.map anE):=by
 unfold a2I;simp only[jn];refine M7 rows.length (λk s=>s=((⟨(ers ps x (rows.take k)).1,ps⟩:p6),(ers ps x (rows.take k)).2.map anE)) (by omega) rfl (λk s hk hs=>.inl ⟨_,?_,rfl⟩) (λs hs=>⟨s,if_neg (by simp),by rw[hs,List.take_length]⟩)
 subst hs;obtain⟨o1,o2⟩:=b8i hm hx (rows.take k) (by simp;omega)
 have hlen:=b8h ps x (rows.take k);have hkl:(rows.take k).length=k:=by simp;omega
 dsimp only;rw[if_pos (by simpa using hk),p8 hk,d7R,edo hm o1 (by rw[hkl] at o2;omega),d7R,A7 (by omega) (by simp[hlen];omega),d7R,l7,c1x hm hx hk]
 simp
theorem d6s(rows:List (List Int))(hl:rows.length≤1000)(hb:x.S.Serial<6000000000000000000):a9K ⟨hO x,psR ps⟩ rows=some (⟨hO (ers ps x rows).1,psR ps⟩,(ers ps x rows).2.map anR):=by
 unfold a9K;simp only[jn];refine M7 rows.length (λk s=>s=((⟨hO (ers ps x (rows.take k)).1,psR ps⟩:w8),(ers ps x (rows.take k)).2.map anR)) (by omega) rfl (λk s hk hs=>.inl ⟨_,?_,rfl⟩) (λs hs=>⟨s,if_neg (by simp),by rw[hs,List.take_length]⟩)
 subst hs;obtain⟨o1,o2⟩:=b8i hm hx (rows.take k) (by simp;omega)
 have hlen:=b8h ps x (rows.take k);have hkl:(rows.take k).length=k:=by simp;omega
 dsimp only;rw[if_pos (by simpa using hk),p8 hk,d7R,rdo hm o1 (by rw[hkl] at o2;omega),d7R,A7 (by omega) (by simp[hlen];omega),d7R,l7,c1x hm hx hk]
 simp
end
def tal(x:Hp):A4:=⟨ctO x.S.S.a8 0,ctO x.S.S.a8 1,ctO x.S.S.a8 2,ctO x.S.S.a8 3⟩
theorem d1l{s:a7}(hR:SR s):R3 s.S=some ⟨ctO s.S.a8 0,ctO s.S.a8 1,ctO s.S.a8 2,ctO s.S.a8 3⟩:=by
 unfold R3;simp only[jn];have hlen:=hR.len;refine M7 s.S.a8.length (λk t=>t=⟨ctO (s.S.a8.take k) 0,ctO (s.S.a8.take k) 1,ctO (s.S.a8.take k) 2,ctO (s.S.a8.take k) 3⟩) (by omega) (by simp[ctO]) (λk t hk ht=>.inl ?_) (λt ht=>⟨_,by simp;rfl,by rw[ht,List.take_length]⟩)
 have hc:=hR.cell k hk;rw[E7 hk] at hc;subst ht;simp only[Int.ofNat_lt,hk,decide_true,if_true,p8 hk,d7R];have hle:∀j,ctO (s.S.a8.take k) j≤24:=λj=>Nat.le_trans List.countP_le_length (by simp;omega)
 have h0:=hle 0;have h1:=hle 1;have h2:=hle 2;have h3:=hle 3;rw[List.take_succ_eq_append_getElem hk];simp only[c62];refine⟨_,?_,rfl⟩;have hst:s.S.a8[k].State=0∨s.S.a8[k].State=1∨s.S.a8[k].State=2∨s.S.a8[k].State=3:=by omega
 rcases hst with e | e | e | e <;> rw[e] <;> simp[A4.ix,A4.l,A4.st,ix] <;> rw[l7,l7] <;> simp
section
variable{ps:List (List g8)}{x:Hp}(hx:N9 x)
include hx
theorem d7g:a32 ⟨x,ps⟩=some (tal x):=by
 unfold a32;dsimp only;rw[d1l hx.sh.sr,d7R];rfl
theorem d2T:a30 ⟨x,ps⟩=some (srs x):=by
 have hR:=hx.sh.sr;have l24:(lv x.S).length≤24:=G2 (w9.2 hR);unfold a30;simp only[jn];rw[a2b (w9.2 hR),d7R];refine M7 (lv x.S).length (λk l=>l=((lv x.S).take k).map λh=>ser x h) (by omega) rfl (λk l hk hl=>.inl ⟨_,?_,rfl⟩) (λl hl=>⟨l,if_neg (by simp),?_⟩)
 ·subst hl;dsimp only;have:=I0 hR (List.getElem_mem hk);rw[if_pos (by simpa using hk),p8 hk,d7R,c8M hx.sh (by omega),d7R,A7 (by omega) (by simp;omega),d7R,l7,List.take_succ_eq_append_getElem hk,List.map_append]
  rfl
 ·subst hl;rw[List.take_length];show (a9P (srs x)).bind _=_;have:=d1g (x:=x) hR;unfold a9P;rw[if_pos (by omega),c8Q hR]
  rfl
theorem d4t:b7n ⟨hO x,psR ps⟩=some (srs x):=by
 have hR:=hx.sh.sr;have l24:(lv x.S).length≤24:=G2 (w9.2 hR);unfold b7n;show (R1 (sO x.S)).bind _=_;rw[a8I (w9.2 hR),d7R];simp only[jn];refine M7 (lv x.S).length (λk l=>l=((lv x.S).take k).map λh=>ser x h) (by omega) rfl (λk l hk hl=>.inl ⟨_,?_,rfl⟩) (λl hl=>⟨l,if_neg (by simp),?_⟩)
 ·subst hl;dsimp only;have:=I0 hR (List.getElem_mem hk);rw[if_pos (by simpa using hk),p8 hk,d7R,c8L hx.sh (by omega),d7R,A7 (by omega) (by simp;omega),d7R,l7,List.take_succ_eq_append_getElem hk,List.map_append]
  rfl
 ·subst hl;rw[List.take_length];rfl
theorem d2V(hS:SL x):a31 ⟨x,ps⟩=some (x.Q.L.isEmpty&&decide (gbg x = [])):=by
 unfold a31;dsimp only;rw[b8c,d7R,d2M hx hS];cases x.Q.L.isEmpty <;> rfl
theorem d4w(hS:SL x):b7o ⟨hO x,psR ps⟩=some (x.Q.L.isEmpty&&decide (gbg x = [])):=by
 unfold b7o;dsimp only;rw[c3Z,d7R,d5s hx hS];cases x.Q.L.isEmpty <;> rfl
end
end Go.Sh
namespace Go.Sh
theorem Rs.oh{x:Hp}{n:Nat}(h:Rs x n):Oh x:=⟨h.rt,h.sl,h.zr⟩
theorem c1P{l:List (List g8)}(hl:l.length≤12)(hp:∀p∈l,p.length≤12):a9X l=some (psR l):=by
 unfold a9X;simp only[jn];refine M7 l.length (λk acc=>acc=(l.take k).map (List.map opR)) (by omega) (by simp) (λk acc hk hacc=>.inl ⟨_,?_,rfl⟩) (λacc hacc=>⟨_,if_neg (by simp),by rw[hacc,List.take_length]⟩)
 subst hacc;have hm:=hp _ (List.getElem_mem hk);dsimp only;rw[if_pos (by simpa using hk)]
 have e:=a4I (b:=32) opR l[k] (by omega) (by omega)
 simp only[opR] at e;simp only[p8 hk,d7R];rw[e,d7R,A7 (by omega) (by simp;omega),d7R,l7,List.take_succ_eq_append_getElem hk,List.map_append]
 rfl
theorem d4N(l:List (List g8)):∃b,a9j l=some b∧(b=true→l.length≤10∧∀p∈l,p.length≤10):=by
 unfold a9j;simp only[jn];refine d5w (Q:=λb=>b=true→l.length≤10∧(∀p∈l,p.length≤10)) (min l.length 10) (λk=>∀h:k<l.length,(l[k]).length≤10) (by have:min l.length 10≤10:=Nat.min_le_right ..;omega) (λk hk=>?_) ?_ (λhP=>?_) (λhP=>?_)
 ·have hkl:k<l.length:=by omega
  have hk10:k<10:=by omega
  have c:((decide (((k:Nat):Int)<(l.length:Int)))&&(decide (((k:Nat):Int)<10)))=true:=by simp;omega
  by_cases q:(l[k]).length≤10
  ·refine⟨_,?_,.inl ⟨λ_=>q,rfl⟩⟩;rw[if_pos c,p8 hkl,d7R,if_neg (by simp;omega),l7]
  ·refine⟨_,?_,.inr ⟨λh=>q (h hkl),rfl⟩⟩;rw[if_pos c,p8 hkl,d7R,if_pos (by simp;omega)]
 ·rw[if_neg (by simp;omega)]
 ·refine⟨_,rfl,λh=>?_⟩;have h10:l.length≤10:=by have:=of_decide_eq_true h;omega
  refine⟨h10,λp hp=>?_⟩;obtain⟨k,hk,rfl⟩:=List.getElem_of_mem hp;exact hP k (by omega) hk
 ·exact⟨false,rfl,λh=>by cases h⟩
theorem d1b(l:List (List Int))(m:Int):∃b,a2Z l m=some b∧(b=true→(l.length:Int)≤m):=by
 unfold a2Z;simp only[jn];refine d5w (Q:=λb=>b=true→(l.length:Int)≤m) (min l.length 200) (λk=>∀h:k<l.length,(l[k]).length≤10) (by have:min l.length 200≤200:=Nat.min_le_right ..;omega) (λk hk=>?_) ?_ (λhP=>?_) (λhP=>?_)
 ·have hkl:k<l.length:=by omega
  have hk10:k<200:=by omega
  have c:((decide (((k:Nat):Int)<(l.length:Int)))&&(decide (((k:Nat):Int)<200)))=true:=by simp;omega
  by_cases q:(l[k]).length≤10
  ·refine⟨_,?_,.inl ⟨λ_=>q,rfl⟩⟩;rw[if_pos c,p8 hkl,d7R,if_neg (by simp;omega),l7]
  ·refine⟨_,?_,.inr ⟨λh=>q (h hkl),rfl⟩⟩;rw[if_pos c,p8 hkl,d7R,if_pos (by simp;omega)]
 ·rw[if_neg (by simp;omega)]
 ·exact⟨_,rfl,λh=>of_decide_eq_true h⟩
 ·exact⟨false,rfl,λh=>by cases h⟩
theorem d5Z{n last places:Int}{ps:List (List g8)}(hl:ps.length≤12)(hp:∀p∈ps,p.length≤12) :
  (∃e,W7 n last places ps=some (⟨c7x,[]⟩,e)∧b87 n last places (psR ps)=some (⟨hO c7x,[]⟩,e)∧(e=13∨e=1∧¬((1≤n∧n≤24)∧(0≤last∧last≤9)∧1≤places∧places≤8))) ∨
  (∃k p:Nat,n=k∧places=p∧(1≤k∧k≤24)∧Mp ps∧Rs (nwH k last p) 0∧W7 n last places ps=some (⟨nwH k last p,ps⟩,0)∧b87 n last places (psR ps)=some (⟨hO (nwH k last p),psR ps⟩,0)):=by
 have e1:a4x ps=some (a7r ps):=c8l (by omega) hp
 have e2:a9I (psR ps)=some (a7r ps):=c2J (by omega) hp
 unfold W7 b87;rw[e1,e2,d7R,d7R];cases hq:a7r ps;·exact .inl ⟨13,rfl,rfl,.inl rfl⟩
 ·simp only[Bool.not_true,Bool.false_eq_true,if_false];by_cases h:(1≤n∧n≤24)∧(0≤last∧last≤9)∧1≤places∧places≤8
  ·right;obtain⟨h1,h2,h3⟩:=h;obtain⟨k,rfl⟩:∃k:Nat,n=k:=⟨n.toNat,by omega⟩
   obtain⟨p,rfl⟩:∃p:Nat,places=p:=⟨places.toNat,by omega⟩
   obtain⟨a1,a2,hx,hS,hz⟩:=c7v (k:=k) (p:=p) (l:=last) (by omega) h2 (by omega)
   refine⟨k,p,rfl,rfl,by omega,(d5U hq).1,⟨hx,hS,hz,Int.le_refl _⟩,?_,?_⟩
   ·rw[a1,d7R,hx.sh.r6];rfl
   ·rw[a2,d7R,show (hO (nwH k last p)).Roots.length=6 from hx.sh.r6];rfl
  ·left;have a1:a17 n last places=some c7x:=by
    unfold a17;rw[if_pos (by simp;omega)]
    rfl
   have a2:b2d n last places=some (hO c7x):=by
    unfold b2d;rw[if_pos (by simp;omega)]
    rfl
   refine⟨1,?_,?_,.inr ⟨rfl,h⟩⟩;·rw[a1];rfl
   ·rw[a2];rfl
theorem d4x{x:Hp}{n:Nat}(hx:Rs x n)(hn:n≤1000000){ps:List (List g8)}(hm:Mp ps){rows:List (List Int)}(hl:rows.length≤1000){r:w8 × List p7}(h:a9K ⟨hO x,psR ps⟩ rows=some r) :
  a2I ⟨x,ps⟩ rows=some (⟨hOI r.1.X,ps⟩,r.2.map λa=>⟨a.V,a.E⟩)∧Rs (hOI r.1.X) (n+201*rows.length)∧(ers ps x rows).1=hOI r.1.X∧(ers ps x rows).2=r.2.map λa=>(a.V,a.E):=by
 have hs:=hx.ser;have e:=d6s hm hx.oh rows hl (by omega)
 rw[h] at e;have e:=Option.some.inj e;obtain⟨o1,o2⟩:=b8i hm hx.oh rows (by omega)
 have a1:(ers ps x rows).1=hOI r.1.X:=by rw[e,d3m]
 have a2:(ers ps x rows).2=r.2.map λa=>(a.V,a.E):=by
  rw[e,List.map_map];conv=>lhs;rw[←List.map_id (ers ps x rows).2]
  exact List.map_congr_left λp _=>rfl
 refine⟨?_,⟨a1▸o1.rt,a1▸o1.sl,a1▸o1.zr,?_⟩,a1,a2⟩
 ·rw[d5D hm hx.oh rows hl (by omega),a1,a2,List.map_map]
  congr 1
 ·have:(hOI r.1.X).S.Serial≤x.S.Serial+201*(rows.length:Int):=a1▸o2;show (hOI r.1.X).S.Serial≤((n+201*rows.length:Nat):Int);omega
def c8D:List (List Int):=[[1,0,1,(-1)],[5,0,0,0],[3,0,0,0],[11,0,0,0],[11,0,0,0],[12,9,0,0],[2,0],[4,0,1,0]]
def d7z:w8 × List p7:=(a9K ⟨hO (nwH 4 5 8),[]⟩ c8D).getD (⟨hO c7x,[]⟩,[])
theorem d3G:Mp []:=λ_ h=>by cases h
theorem d1c:a20=some true:=by
 obtain⟨a1,a2⟩:=d4y (k:=4) (p:=8) (l:=5) (by decide) (by decide) (by decide)
 obtain⟨b1,b2,_,_⟩:=d4x a2 (by decide) d3G (rows:=c8D) (by decide) (r:=d7z) (by kernel_rfl)
 unfold a20;refine bnd (a:=((⟨nwH 4 5 8,[]⟩:p6),(0:Int))) (by unfold W7;refine bnd (a:=true) (by kernel_rfl) ?_;refine bnd a1 ?_;kernel_rfl) ?_
 refine bnd b1 ?_;dsimp only;rw[d2T b2.rt,d7g b2.rt,d2V b2.rt b2.sl,←d4t (ps:=[]) b2.rt,←d4w (ps:=[]) b2.rt b2.sl];kernel_rfl
end Go.Sh
namespace Go.Sh
end Go.Sh
namespace Go.Sh
theorem d5G{l:List (List g8)}{rows:List (List Int)}{m:Int}{K:Option Bool}(h:l.length≤10→(∀p∈l,p.length≤10)→(rows.length:Int)≤m→K=some true) :
  ((a9j l).bind λv1=>(u4 ((!v1)==false) false (a2Z rows m)).bind λv2=>(u4 (((!v1)||(!v2))==false) false a20).bind λv3=>if (((!v1)||(!v2))||(!v3)) then (a20).bind λv4=>some v4 else K)=some true:=by
 obtain⟨b,h1,h2⟩:=d4N l;obtain⟨c,h3,h4⟩:=d1b rows m;rw[h1,d7R,d1c];cases b;·rfl
 ·rw[show u4 ((!true)==false) false (a2Z rows m)=a2Z rows m from rfl,h3,d7R];cases c;·rfl
  ·exact h (h2 rfl).1 (h2 rfl).2 (h4 rfl)
theorem d4Q(l:List (Int × Int))(hl:l.length≤1000):a5J (l.map anE)=some (l.map anR):=by
 unfold a5J;simp only[jn];refine M7 l.length (λk acc=>acc=(l.take k).map anR) (by omega) (by simp) (λk acc hk hacc=>.inl ⟨_,?_,rfl⟩) (λacc hacc=>⟨_,if_neg (by simp),by rw[hacc,List.take_length]⟩)
 subst hacc;have hk':k<(l.map anE).length:=by simpa using hk
 dsimp only;rw[if_pos (by simpa using hk),p8 hk',d7R,List.getElem_map,A7 (by omega) (by simp;omega),d7R,l7,List.take_succ_eq_append_getElem hk,List.map_append]
 rfl
theorem d4l(l:List p7)(hl:l.length≤1000):a5F l l=some true:=by
 unfold a5F;rw[if_neg (by simp)]
 simp only[jn];refine V2 l.length (λ_=>True) (by omega) trivial (λk hk _=>.inl ⟨?_,trivial⟩) (λ_=>⟨.inr (),if_neg (by simp),rfl⟩)
 rw[if_pos (by simpa using hk),p8 hk,d7R,d7R,if_neg (by simp),l7]
theorem d3B{x:Hp}(hx:HpS x){ps:List (List g8)}(hl:ps.length≤12)(hp:∀p∈ps,p.length≤12):a9i ⟨x,ps⟩=some ⟨hO x,psR ps⟩:=by
 unfold a9i;dsimp only;first
 | rw[b8v hx,d7R,c1P hl hp,d7R]
 | rw[c1P hl hp,d7R,b8v hx,d7R]
theorem engineRuns{n last places:Int}{l:List (List g8)}{rows:List (List Int)}:a4Z n last places l rows=some true:=by
 unfold a4Z;refine d5G λhl hp hr=>?_;have hp12:∀p∈l,p.length≤12:=λp q=>by have:=hp p q;omega
 rcases d5Z (n:=n) (last:=last) (places:=places) (ps:=l) (by omega) hp12 with ⟨e,e1,e2,e3⟩ | ⟨k,p,rfl,rfl,hk,hm,hr0,e1,e2⟩
 ·rw[e1,d7R];dsimp only;rw[if_pos (by rcases e3 with h | ⟨h,_⟩ <;> rw[h] <;> rfl)]
  rfl
 ·have hs:=hr0.ser;obtain⟨o1,o2⟩:=b8i hm hr0.oh rows (by omega)
  rw[e1,d7R];dsimp only;rw[if_neg (by simp),d5D hm hr0.oh rows (by omega) (by omega),d7R,d3B hr0.rt.sh (by omega) hp12,d7R,d6s hm hr0.oh rows (by omega) (by omega),d7R]
  dsimp only;have hlen:=b8h l (nwH k last p) rows;rw[d5F o1.rt.sh,d7R,beq_self_eq_true,a0s,b8v o1.rt.sh,d7R,a0s,d4A o1.rt.sh,d7R];simp only[Bool.and_self,beq_self_eq_true,a0s];rw[d4Q _ (by omega),d7R,d4l _ (by simp;omega)]
  rfl
end Go.Sh
namespace Go.Sh
end Go.Sh
