/-
 More of the theory.
-/
import Derived.Test.YtjlokngooekbcaaGreatP21cT2
set_option linter.unusedVariables false
set_option linter.unusedSimpArgs false
set_option linter.unusedSectionVars false
namespace Go.Sh
noncomputable def hdx(x:Hp):List Int:=hld x.S x.T
noncomputable def Z5(x:Hp):List Int:=fls x.S x.T (hdx x)
theorem Z6{x:Hp}{h:Int}:h∈Z5 x↔h∈lv x.S∧¬W5 x.S x.T (hdx x) h:=by
 classical
 unfold Z5 fls;rw[List.mem_filter,decide_eq_true_iff]
section
variable{x:Hp}(hx:M3 x)
include hx
theorem a2w:(Z5 x).Nodup:=List.Pairwise.filter _ (b05 (u4.2 hx.sh.sr))
theorem a1S:∀d∈Z5 x,d∈lv x.S:=λd hd=>(Z6.1 hd).1
theorem c3P{h:Int}(hl:h∈lv x.S)(hs:(ob x.S h).Strong<12):rst x.S x.T h=(Z3 (otr x) h:Int):=c6l.2 hx.fair h hl hs
theorem b7G{h:Int}(hl:h∈lv x.S)(ho:h∈otr x):h∈hdx x:=by
 refine b0W.2 ⟨hl,?_⟩;by_cases hs:(ob x.S h).Strong<12
 ·left;rw[c3P hx hl hs];have:=a2c.2 ⟨λe=>a8d hx.sh.sr (e▸hl),ho⟩;omega
 ·exact .inr (by omega)
theorem c1t{h:Int}(hh:h∈hdx x):h∈lv x.S∧(h∈otr x∨12≤(ob x.S h).Strong):=by
 obtain⟨hl,hs⟩:=b0W.1 hh;refine⟨hl,?_⟩;by_cases q:(ob x.S h).Strong<12
 ·rcases hs with hs | hs
  ·rw[c3P hx hl q] at hs;exact .inl (a2c.1 (by omega)).2
  ·omega
 ·exact .inr (by omega)
theorem c9t:∀d∈Z5 x,d∉otr x:=λd hd q=>by
 obtain⟨a,b⟩:=Z6.1 hd;exact b (.base (b7G hx a q) a)
theorem c9s:∀h∈lv x.S,h∉Z5 x→∀v∈(ob x.S h).Fields,v∉Z5 x:=λh hh hn v hv q=>by
 obtain⟨a,b⟩:=Z6.1 q;have hr:W5 x.S x.T (hdx x) h:=Classical.byContradiction λr=>hn (Z6.2 ⟨hh,r⟩);exact b (.step hr (a6R.2 ⟨hv,λe=>a8d hx.sh.sr (e▸a)⟩) a)
theorem c9u:∀k v,Has x.T k v→k∉Z5 x→v∉Z5 x:=λk v hk hn q=>by
 obtain⟨a,b⟩:=Z6.1 q;have hr:W5 x.S x.T (hdx x) k:=Classical.byContradiction λr=>hn (Z6.2 ⟨(hx.sh.pr k v hk).1,r⟩);exact b (.pair hk hr a)
theorem X8:M3 (buH x (Z5 x)):=b58 hx (a2w hx) (a1S hx) (c9t hx) (c9s hx) (c9u hx)
end
theorem b49:∀(l:List Int) {x:Hp} (hR:SR x.S) {h:Int} (hh:h∈lv x.S) (hs:12≤(ob x.S h).Strong),12≤(ob (l.foldl Q2 x).S h).Strong
 | [],_,_,_,_,hs=>hs
 | v::l,x,hR,h,hh,hs=>by
  have k1:=F7 hR v (f:=a5E) λc=>N8;refine b49 l (x:=Q2 x v) k1.sr (by
   show h∈lv (stO x v a5E).S;rw[k1.lv];exact hh) ?_
  show 12≤(ob (stO x v a5E).S h).Strong;rw[b2C (x:=x) hR (h:=v) (f:=a5E) (λc=>N8) hh];split
  ·unfold a5E;rw[if_pos hs];omega
  ·exact hs
section
variable{x:Hp}(hx:M3 x)
include hx
theorem b4w{h:Int}:h∈lv (buH x (Z5 x)).S↔W5 x.S x.T (hdx x) h:=by
 rw[b7c hx.sh.sr (a2w hx) (a1S hx),List.mem_filter,decide_eq_true_iff,Z6];constructor
 ·rintro⟨a,b⟩;exact Classical.byContradiction λr=>b ⟨a,r⟩
 ·intro r;exact⟨r.live,λq=>q.2 r⟩
theorem d4I{h:Int}(hh:h∈lv (buH x (Z5 x)).S):(ob (buH x (Z5 x)).S h).Serial=(ob x.S h).Serial∧(ob (buH x (Z5 x)).S h).Prog=(ob x.S h).Prog∧(ob (buH x (Z5 x)).S h).Fields=(ob x.S h).Fields∧(ob (buH x (Z5 x)).S h).Started=(ob x.S h).Started:=by
 have r:=(b4w hx).1 hh;obtain⟨n,e⟩:=c07 hx.sh.sr (a2w hx) (a1S hx) r.live (λq=>(Z6.1 q).2 r);rw[e];exact⟨rfl,rfl,rfl,rfl⟩
theorem c6w{h:Int}(hh:h∈lv (buH x (Z5 x)).S)(hs:12≤(ob x.S h).Strong):12≤(ob (buH x (Z5 x)).S h).Strong:=by
 have r:=(b4w hx).1 hh;have g:=a1T (Z5 x) hx.sh.sr (a2w hx) (a1S hx);have hn:h∉Z5 x:=λq=>(Z6.1 q).2 r;refine b49 _ (x:=a3K x (Z5 x) (wot x.T (Z5 x)).1) g.sr ?_ ?_
 ·show h∈lv (gnL x.S (Z5 x));rw[g.lv,List.mem_filter];exact⟨r.live,by simpa using hn⟩
 ·show 12≤(ob (gnL x.S (Z5 x)) h).Strong;rw[g.ob h r.live hn];exact hs
theorem d2j:otr (buH x (Z5 x))=otr x:=by
 obtain⟨e1,_,_,e4⟩:=b0z hx.sh.sr (a2w hx) (a1S hx);unfold otr;rw[e1,e4,b4A _ _ _ λt ht=>by
  obtain⟨w,_,rfl,_⟩:=a3P.1 ht;simp]
theorem c9r{h:Int}(hh:W5 x.S x.T (hdx x) h):W5 (buH x (Z5 x)).S (buH x (Z5 x)).T (hdx (buH x (Z5 x))) h:=by
 have w:=X8 hx;obtain⟨_,_,e3,_⟩:=b0z hx.sh.sr (a2w hx) (a1S hx);have hlen:(Z5 x).length≤1000:=by
  have:=a4p (a2w hx) (a1S hx);have:=F3 (u4.2 hx.sh.sr);omega
 obtain⟨_,_,_,_,w5,_⟩:=a4F hx.sh.hr (Z5 x) hlen;induction hh with
 | base h1 h2=>
  have hl:=(b4w hx).2 (.base h1 h2);refine .base ?_ hl;rcases (c1t hx h1).2 with q | q
  ·exact b7G w hl (by rw[d2j hx];exact q)
  ·exact b0W.2 ⟨hl,.inr (c6w hx hl q)⟩
 | step q0 q1 q2 ih=>
  refine .step ih ?_ ((b4w hx).2 (.step q0 q1 q2));unfold outs at q1 ⊢;rw[(d4I hx ((b4w hx).2 q0)).2.2.1];exact q1
 | pair q1 q0 q2 ih=>
  refine .pair ?_ ih ((b4w hx).2 (.pair q1 q0 q2));rw[e3];exact (w5 _ _).2 ⟨λq=>(Z6.1 q).2 q0,q1⟩
theorem b4v:Z5 (buH x (Z5 x)) = []:=List.eq_nil_iff_forall_not_mem.2 λh hh=>by
 obtain⟨a,b⟩:=Z6.1 hh;exact b (c9r hx ((b4w hx).1 a))
end
theorem b9n{x:Hp}(hx:M3 x)(hg:Z5 x = []):zr x = []:=List.eq_nil_iff_forall_not_mem.2 λh hh=>by
 have hl:=(a1o.1 hh).1;have hs:=(a1o.1 hh).2;have hf:=b8W hx hh;have h0:h≠0:=λe=>a8d hx.sh.sr (e▸hl);have r:W5 x.S x.T (hdx x) h:=Classical.byContradiction λr=>by
  have:h∈Z5 x:=Z6.2 ⟨hl,r⟩;rw[hg] at this;cases this
 unfold nms at hf;cases r with
 | base h1 h2=>
  rcases (c1t hx h1).2 with q | q
  ·have:=a2c.2 ⟨h0,q⟩;omega
  ·omega
 | step q0 q1 q2=>
  have:=b7J (y:=h) q0.live;have h1:=a2c.2 ⟨h0,q1⟩;omega
 | pair q1 q0 q2=>
  have:=b7X q1 h0;omega
theorem b4x{x:Hp}(hx:M3 x):a1G (buH x (Z5 x))=buH x (Z5 x):=c0s (b9n (X8 hx) (b4v hx))
end Go.Sh
namespace Go.Sh
theorem c6F{c:Int}(h:0≤c):1≤U4 c:=by unfold U4;split <;> (try split) <;> omega
theorem c1N{x:Hp}(hR:SR x.S){h:Int}(hh:h∈lv x.S){k:Int}(hk:k∈lv x.S):(ob (quH x h).S k).Strong=if k=h then U4 (ob x.S k).Strong else (ob x.S k).Strong:=by
 have oko:=J5 hR hh;have ho:OkO x.S (srt (ob x.S h)):=⟨oko.s1,oko.s2,oko.st,oko.wk,oko.p1,oko.p2,oko.fl⟩;have r1:=a0T (o:=srt (ob x.S h)) hR hh rfl ho;have l1:lv (seO x.S h (srt (ob x.S h)))=lv x.S:=a3z (o:=srt (ob x.S h)) hR hh rfl ho;have hr:=G8 hR hk;have e1:(ob (seO x.S h (srt (ob x.S h))) k).Strong=(ob x.S k).Strong:=by
  rw[a2H (o:=srt (ob x.S h)) hR hh rfl ho (by omega)]
  split;·rename_i e;subst e;rfl
  ·rfl
 have:=b2C (x:=⟨seO x.S h (srt (ob x.S h)),x.Roots,x.a8,x.T,⟨x.Q.L ++ [qtk x h],x.Q.Cap⟩⟩) r1 (h:=h) (f:=U4) (λc=>D5) (k:=k) (by
  show k∈lv (seO x.S h (srt (ob x.S h)));rw[l1];exact hk)
 rw[show (ob (quH x h).S k).Strong=_ from this];show (if k=h then U4 (ob (seO x.S h (srt (ob x.S h))) k).Strong else (ob (seO x.S h (srt (ob x.S h))) k).Strong)=_
 rw[e1]
theorem d3o{x:Hp}(hx:M3 x)(hz:zr x = []){h:Int}(hh:h∈lv x.S):zr (quH x h) = []:=List.eq_nil_iff_forall_not_mem.2 λk hk=>by
 obtain⟨a,b⟩:=a1o.1 hk;rw[b71 hx.sh.sr hh] at a;rw[c1N hx.sh.sr hh a] at b;have h0:=(J5 hx.sh.sr a).st;have hn:(ob x.S k).Strong≠0:=λq=>by
  have:k∈zr x:=a1o.2 ⟨a,q⟩;rw[hz] at this;cases this
 split at b;·have:=c6F h0;omega
 ·exact hn b
structure Qd (x y:Hp) (l:List Int):Prop where
 rt:M3 y
 sl:SL y
 zr:zr y = []
 lv:lv y.S=lv x.S
 ob:∀k∈Sh.lv x.S,∃n,Sh.ob y.S k=stg (if k∈l then srt (Sh.ob x.S k) else Sh.ob x.S k) n
 ro:y.Roots=x.Roots
 ce:y.a8=x.a8
 t:y.T=x.T
 q:y.Q=⟨x.Q.L++l.map (qtk x),x.Q.Cap⟩
 ser:y.S.Serial=x.S.Serial
theorem d0c{x:Hp}(hR:SR x.S){h:Int}(hh:h∈lv x.S):(quH x h).S.Serial=x.S.Serial:=(a6W hR hh).1.ser
theorem c1O:∀(l:List Int) {x:Hp},M3 x→SL x→Sh.zr x = []→l.Nodup→(∀h∈l,h∈Sh.lv x.S∧due (Sh.ob x.S h)=true)→Qd x (l.foldl quH x) l
 | [],x,hx,hS,hz,_,_=>⟨hx,hS,hz,rfl,λk hk=>⟨(Sh.ob x.S k).Strong,by rw[if_neg (by simp)];rfl⟩,rfl,rfl,rfl,by simp,rfl⟩
 | h::l,x,hx,hS,hz,hn,hd=>by
  obtain⟨hl,hdu⟩:=hd h (List.mem_cons_self ..);have hR:=hx.sh.sr;rw[List.nodup_cons] at hn;have q2:=hdu;unfold due at q2;rw[Bool.and_eq_true,decide_eq_true_iff,Bool.not_eq_true'] at q2;have h1:=b2k hx hl q2.1 q2.2;have h2:=c7w hR hS hl;have h3:=d3o hx hz hl;have lq:=b71 hR hl;have oq:∀k∈Sh.lv x.S,k≠h→∃n,Sh.ob (quH x h).S k=stg (Sh.ob x.S k) n:=λk hk hne=>by
   obtain⟨n,e⟩:=b4U hR hl hk;rw[if_neg hne] at e;exact⟨n,e⟩
  have ih:=c1O l h1 h2 h3 hn.2 λk hk=>by
   obtain⟨a,b⟩:=hd k (List.mem_cons_of_mem _ hk);obtain⟨n,e⟩:=oq k a λe=>hn.1 (e▸hk);refine⟨by rw[lq];exact a,?_⟩
   rw[e];exact b
  obtain⟨_,k1,k2,k3,k4⟩:=a6W hR hl;refine⟨ih.rt,ih.sl,ih.zr,ih.lv.trans lq,λk hk=>?_,ih.ro.trans k1,ih.ce.trans k2,ih.t.trans k3,?_,ih.ser.trans (d0c hR hl)⟩
  ·obtain⟨n,e⟩:=ih.ob k (by rw[lq];exact hk)
   obtain⟨m,e2⟩:=b4U hR hl hk;refine⟨n,?_⟩;show Sh.ob (l.foldl quH (quH x h)).S k=_;rw[e];by_cases c:k=h
   ·subst c;rw[if_neg hn.1,if_pos (List.mem_cons_self ..),e2,if_pos rfl]
   ·rw[if_neg c] at e2;by_cases c2:k∈l
    ·rw[if_pos c2,if_pos (List.mem_cons_of_mem _ c2),e2]
    ·rw[if_neg c2,if_neg (λq=>by
      rcases List.mem_cons.1 q with r | r
      ·exact c r
      ·exact c2 r),e2]
  ·show (l.foldl quH (quH x h)).Q=_;rw[ih.q,k4];have:l.map (qtk (quH x h))=l.map (qtk x):=List.map_congr_left λk hk=>by
    obtain⟨a,_⟩:=hd k (List.mem_cons_of_mem _ hk);obtain⟨n,e⟩:=oq k a λe=>hn.1 (e▸hk);show (⟨1,k,(Sh.ob (quH x h).S k).Prog⟩:g9)=⟨1,k,(Sh.ob x.S k).Prog⟩;rw[e]
   rw[this];simp
noncomputable def btc(x:Hp):List Int:=(Z5 x).filter λh=>due (Sh.ob x.S h)
noncomputable def T9(x:Hp):Hp:=if btc x = [] then buH x (Z5 x) else (btc x).foldl quH x
theorem b7a{x:Hp}:∀h∈btc x,h∈Sh.lv x.S∧due (Sh.ob x.S h)=true:=λh hh=>by
 obtain⟨a,b⟩:=List.mem_filter.1 hh;exact⟨(Z6.1 a).1,b⟩
theorem c5W{x:Hp}(hx:M3 x):(btc x).Nodup:=List.Pairwise.filter _ (a2w hx)
theorem c06{x:Hp}(hx:M3 x)(hS:SL x)(hz:zr x = []):Qd x ((btc x).foldl quH x) (btc x):=c1O _ hx hS hz (c5W hx) b7a
theorem b4c{x:Hp}(hx:M3 x)(hS:SL x)(hz:zr x = []):M3 (T9 x)∧SL (T9 x)∧zr (T9 x) = []:=by
 unfold T9;split;·exact⟨X8 hx,c5X hx.sh.sr hS (a2w hx) (a1S hx),b9n (X8 hx) (b4v hx)⟩
 ·have q:=c06 hx hS hz;exact⟨q.rt,q.sl,q.zr⟩
end Go.Sh
namespace Go.Sh
theorem d0J(t:Tb):wot t []=(t,[]):=by
 unfold wot;have:O3 t []=some (t,[]):=by
  unfold O3;simp only[jn];refine c3j (λs=>s=(t,0,[])) (λ_=>0) rfl (by omega) λs h=>.inr ⟨(t,[]),?_,rfl⟩
  subst h;rfl
 rw[this];rfl
theorem b9C(c:c9):a27 [] c=false:=by unfold a27;simp
theorem c9f(l:List c9):clr l []=l:=by
 unfold clr;refine Eq.trans (List.map_congr_left λc _=>?_) (List.map_id l);unfold a7G;rw[b9C];rfl
theorem c9h(l:List c9):clt l [] = []:=by
 unfold clt cls;rw[List.map_eq_nil_iff,List.filter_eq_nil_iff];intro w _;rw[b9C];simp
theorem c9c(x:Hp):buH x []=x:=by
 unfold buH;rw[d0J];show a3K x [] x.T=x;unfold a3K;rw[c9f,c9h,List.append_nil];rfl
noncomputable def out(x:Hp):List Int:=otr x++(lv x.S).filter λh=>decide (12≤(ob x.S h).Strong)
theorem c1c{y:Hp}(h:btc y = []):T9 y=buH y (Z5 y):=by
 unfold T9;rw[if_pos h]
section
variable{x:Hp}(hx:M3 x)
include hx
theorem c93{h:Int}(hl:h∈lv x.S):h∈out x↔h∈hdx x:=by
 unfold out;rw[List.mem_append,List.mem_filter,decide_eq_true_iff];constructor
 ·rintro (q | ⟨_,q⟩);·exact b7G hx hl q
  ·exact b0W.2 ⟨hl,.inr q⟩
 ·intro q;rcases (c1t hx q).2 with r | r
  ·exact .inl r
  ·exact .inr ⟨hl,r⟩
theorem c4o(hb:btc x = []):Z5 (T9 x) = []∧btc (T9 x) = []∧T9 (T9 x)=T9 x:=by
 have e:T9 x=buH x (Z5 x):=by unfold T9;rw[if_pos hb]
 have g:Z5 (T9 x) = []:=by rw[e];exact b4v hx
 have b:btc (T9 x) = []:=by unfold btc;rw[g];rfl
 refine⟨g,b,?_⟩;rw[c1c b,g,c9c]
theorem d1S(hS:SL x)(hz:zr x = []):lv (T9 x).S=if btc x = [] then (lv x.S).filter (λh=>decide (h∉Z5 x)) else lv x.S:=by
 unfold T9;split;·exact b7c hx.sh.sr (a2w hx) (a1S hx)
 ·exact (c06 hx hS hz).lv
end
end Go.Sh
namespace Go.Sh
structure Rs (x:Hp) (n:Nat):Prop where
 rt:M3 x
 sl:SL x
 zr:zr x = []
 ser:x.S.Serial≤n
theorem c9w{k p:Nat}{l:Int}(hk:1≤k∧k≤24)(hl:0≤l∧l≤9)(hp:1≤p∧p≤8) :
  a1V k l p=some (nwH k l p)∧M3 (nwH k l p)∧SL (nwH k l p)∧zr (nwH k l p) = []:=by
 have e1:a1D k l=some (nwH k l p).S:=by
  unfold a1D P5;rw[if_neg (by simp;omega),a7z (by omega) (by omega)]
  rfl
 have h3:RtR (sO (nwH k l p).S):=by
  refine⟨by simp[sO,nwH];omega,hl.1,hl.2,by simp[sO,nwH],λi h=>?_,λi h=>?_,λi h q=>?_,λi h k hk q=>?_⟩
  ·simp[sO,cO,nwH];omega
  ·simp[sO,cO,oo,c0S,nwH]
  ·exfalso;simp[sO,cO,oo,Thr,nwH] at q
  ·exfalso;simp[sO,cO,oo,Thr,nwH] at q
 have hR:SR (nwH k l p).S:=u4.1 h3;have hce:∀i,ce (nwH k l p).S i=⟨0,0,z0⟩:=λi=>by
  unfold ce nwH;dsimp only;rw[List.getD_eq_getElem?_getD,List.getElem?_replicate];split <;> rfl
 have hlv:lv (nwH k l p).S = []:=List.eq_nil_iff_forall_not_mem.2 λh hh=>by
  obtain⟨i,q⟩:=(a28 hR).1 hh;have:=q.2.1;rw[hce] at this;cases this
 refine⟨?_,⟨⟨hR,(c74 (V:=Int) (λ_ _=>True) hp.1 hp.2).1,rfl,rfl,rfl,Nat.zero_le _,(λt ht=>nomatch ht),List.Pairwise.nil,(λh hh=>.inl (List.mem_replicate.1 hh).2),λh hh=>?_,λa v hv=>?_,λi hi=>?_⟩,λi hi ht=>?_,λh hh=>?_⟩,λh hh=>?_,?_⟩
 ·unfold a1V;rw[if_neg (by simp;omega),e1,d6X,show mk 8 6 (0:Int)=some (List.replicate 6 0) from rfl,d6X]
  refine bnd (a:=List.replicate 6 ⟨0,false,-1⟩) (by kernel_rfl) ?_
  rw[c63 hp.1 hp.2,d6X];refine bnd (a:=⟨[],30⟩) (by kernel_rfl) ?_
  rfl
 ·rw[hlv] at hh;cases hh
 ·obtain⟨i,hi,_⟩:=hv;have:=hi.2.1;rw[show (nwH k l p).T=List.replicate p ⟨0,0,0⟩ from rfl,b2j] at this;cases this
 ·have:(nwH k l p).a8[i]=⟨0,false,-1⟩:=List.getElem_replicate ..;rw[this];exact⟨by decide,by decide,λ_=>rfl,λh=>absurd rfl h,λh=>by cases h⟩
 ·rw[hce] at ht;rcases ht with h | h <;> cases h
 ·rw[hlv] at hh;cases hh
 ·rw[hlv] at hh;cases hh
 ·unfold zr;rw[hlv];rfl
theorem d3D{k p:Nat}{l:Int}(hk:1≤k∧k≤24)(hl:0≤l∧l≤9)(hp:1≤p∧p≤8):a1V k l p=some (nwH k l p)∧Rs (nwH k l p) 0:=by
 obtain⟨a,b,c,d⟩:=c9w hk hl hp;exact⟨a,b,c,d,Int.le_refl _⟩
end Go.Sh
namespace Go.Sh
section
variable{x:Hp}(hx:M3 x)(hS:SL x)
include hx hS
theorem c09:M7 x=some (Z5 x):=by
 have hB:=c6C hx hS;unfold M7;rw[c1o (u4.2 hx.sh.sr) hx.sh.hr hB.tb hB.fb hB.sb];rfl
theorem c5Z:a3j (hO x)=some (Z5 x):=by
 have hB:=c6C hx hS;unfold a3j;rw[show (hO x).S=sO x.S from rfl,show (hO x).T=x.T.map L3 from rfl,b7z (u4.2 hx.sh.sr) hx.sh.hr hB.tb hB.sb];rfl
theorem b0O:(Z5 x).length≤24:=Nat.le_trans (List.length_filter_le ..) (F3 (u4.2 hx.sh.sr))
theorem d1M:a2P x=some (btc x):=by
 have hR:=hx.sh.sr;have hl:=b0O hx hS;unfold a2P;rw[c09 hx hS,d6X];unfold G7;simp only[jn];refine bnd (a:=btc x) ?_ rfl;refine K9 (Z5 x).length (λk b=>b=((Z5 x).take k).filter λh=>due (Sh.ob x.S h)) (by omega) rfl (λk b hk hP=>?_) (λb hP=>?_)
 ·subst hP;have hm:=a1S hx _ (List.getElem_mem hk);have hle:(((Z5 x).take k).filter λh=>due (Sh.ob x.S h)).length≤24:=Nat.le_trans (List.length_filter_le ..) (by simp;omega)
  refine .inl ⟨_,?_,rfl⟩;rw[if_pos (by simpa using hk),o7 hk,d6X,J9 hk,List.filter_append]
  unfold a3q;rw[b18 hR hm,d6X,d6X];have e:(decide ((ob x.S (Z5 x)[k],(0:Int)).1.Prog≥0) && !(ob x.S (Z5 x)[k],(0:Int)).1.Started)=due (ob x.S (Z5 x)[k]):=rfl;rw[e];cases hd:due (ob x.S (Z5 x)[k])
  ·rw[if_neg (by simp),l6]
   simp[hd]
  ·rw[if_pos rfl,y9 (by omega) (by simp;omega),d6X,l6]
   simp[hd]
 ·subst hP;refine⟨_,if_neg (by simp),?_⟩
  rw[List.take_length];rfl
theorem d4q:b2r (hO x)=some (btc x):=by
 have hR:=hx.sh.sr;have hl:=b0O hx hS;unfold b2r;rw[c5Z hx hS,d6X];simp only[jn];refine K9 (Z5 x).length (λk b=>b=((Z5 x).take k).filter λh=>due (Sh.ob x.S h)) (by omega) rfl (λk b hk hP=>?_) (λb hP=>?_)
 ·subst hP;have hm:=a1S hx _ (List.getElem_mem hk);have hle:(((Z5 x).take k).filter λh=>due (Sh.ob x.S h)).length≤24:=Nat.le_trans (List.length_filter_le ..) (by simp;omega)
  refine .inl ⟨_,?_,rfl⟩;rw[if_pos (by simpa using hk),o7 hk,d6X,J9 hk,List.filter_append,c6c hx hS (a1Z hR hm),d6X,decide_eq_true hm,Bool.true_and]
  cases hd:due (ob x.S (Z5 x)[k])
  ·rw[if_neg (by simp),l6]
   simp[hd]
  ·rw[if_pos rfl,y9 (by omega) (by simp;omega),d6X,l6]
   simp[hd]
 ·subst hP;refine⟨_,if_neg (by simp),?_⟩
  rw[List.take_length];rfl
theorem d1Q:a2Q x=some (decide (Z5 x = [])):=by
 unfold a2Q;rw[c09 hx hS,d6X];congr 1;cases Z5 x <;> simp <;> omega
theorem d4s:b2s (hO x)=some (decide (Z5 x = [])):=by
 unfold b2s;rw[c5Z hx hS,d6X];congr 1;cases Z5 x <;> simp <;> omega
noncomputable def cgn(x:Hp):Int:=if btc x = [] then ((lv x.S).length:Int)-((lv (T9 x).S).length:Int) else 0
omit hx hS in
theorem c6S {l:List Int} (hn:l.Nodup) (hm:∀d∈l,d∈lv x.S):lvo x l=l:=by
 have key:∀(l b:List Int),(b++l).Nodup→(∀d∈l,d∈lv x.S)→l.foldl (λb h=>if h∈lv x.S∧h∉b then b ++ [h] else b) b=b++l:=by
  intro l;induction l with
  | nil=>intro b _ _;simp
  | cons a l ih=>
   intro b hn hm;rw[List.foldl_cons];have ha:a∉b:=λq=>by
    rw[List.nodup_append] at hn;exact hn.2.2 a q a (List.mem_cons_self ..) rfl
   rw[if_pos ⟨hm a (List.mem_cons_self ..),ha⟩,ih (b ++ [a]) (by simpa using hn) λd hd=>hm d (List.mem_cons_of_mem _ hd)]
   simp
 exact key l [] (by simpa using hn) hm
variable(hz:zr x = [])
include hz
theorem c3Z{k:Nat}(hk:k<(btc x).length):(((btc x).take k).foldl quH x)=(((btc x).take k).foldl quH x)∧M3 (((btc x).take k).foldl quH x)∧SL (((btc x).take k).foldl quH x)∧(btc x)[k]∈lv (((btc x).take k).foldl quH x).S∧due (ob (((btc x).take k).foldl quH x).S (btc x)[k])=true:=by
 have hn:=c5W hx;have q:=c1O ((btc x).take k) hx hS hz ((List.take_sublist ..).nodup hn) λh hh=>b7a h (List.mem_of_mem_take hh);obtain⟨a,b⟩:=b7a (btc x)[k] (List.getElem_mem hk);refine⟨rfl,q.rt,q.sl,by rw[q.lv];exact a,?_⟩
 obtain⟨n,e⟩:=q.ob _ a;have hnot:(btc x)[k]∉(btc x).take k:=λh=>by
  have:=J9 hk;have hs:((btc x).take (k+1)).Nodup:=(List.take_sublist ..).nodup hn;rw[this,List.nodup_append] at hs;exact hs.2.2 _ h _ (List.mem_singleton_self _) rfl
 rw[e,if_neg hnot];exact b
theorem b7b:(btc x).length≤24:=Nat.le_trans (List.length_filter_le ..) (b0O hx hS)
theorem d1R:W7 x=some (T9 x,((btc x).length:Int),cgn x):=by
 have hR:=hx.sh.sr;have hl:=b7b hx hS hz;obtain⟨c1,c2,c3⟩:=b4c hx hS hz;unfold W7;rw[d1M hx hS,d6X];simp only[jn];refine K9 (btc x).length (λk b=>b=((btc x).take k).foldl quH x) (by omega) rfl (λk b hk hP=>?_) (λb hP=>?_)
 ·subst hP;obtain⟨_,r1,r2,r3,r4⟩:=c3Z hx hS hz hk;refine .inl ⟨_,?_,rfl⟩;rw[if_pos (by simpa using hk),o7 hk,d6X,b6D r1 r2 (a1Z r1.sh.sr r3),d6X,l6,J9 hk,List.foldl_append]
  unfold quD;rw[if_pos ⟨r3,r4⟩];rfl
 ·subst hP;refine⟨_,if_neg (by simp),?_⟩
  rw[List.take_length];by_cases hb:btc x = []
  ·have e:T9 x=buH x (Z5 x):=c1c hb;rw[if_neg (by simp[hb])]
   unfold cgn;rw[if_pos hb,e,hb];have h1:=a2w hx;have h2:=a1S hx;have hlive:=a1Y (u4.2 hR);have hlive2:=a1Y (u4.2 (X8 hx).sh.sr);have l1:=F3 (u4.2 hR);have l2:=F3 (u4.2 (X8 hx).sh.sr);show (M7 x).bind _=_;rw[c09 hx hS,d6X,List.foldl_nil,c2X hx h1 h2 (c3N hx) (by rw[b03 hR _ (by have:=b0O hx hS;omega) λh hh=>a1Z hR (h2 h hh),c6S h1 h2]),d6X,a37 (X8 hx) (by rw[←e];exact c2),d6X,b4x hx,hlive,d6X,hlive2,d6X,D9 (by omega) (by omega)]
   rfl
  ·have:0<(btc x).length:=List.length_pos_iff.2 hb;rw[if_pos (by simp;omega)]
   unfold cgn T9;rw[if_neg hb,if_neg hb]
theorem d4u:a8t (hO x)=some (hO (T9 x),((btc x).length:Int),cgn x):=by
 have hR:=hx.sh.sr;have hl:=b7b hx hS hz;obtain⟨c1,c2,c3⟩:=b4c hx hS hz;unfold a8t;rw[d4q hx hS,d6X];simp only[jn];by_cases hb:btc x = []
 ·have e:T9 x=buH x (Z5 x):=c1c hb;rw[if_neg (by simp[hb])]
  unfold cgn;rw[if_pos hb,e,hb];have h1:=a2w hx;have h2:=a1S hx;have hlive:=a6M (u4.2 hR);have hlive2:=a6M (u4.2 (X8 hx).sh.sr);have l1:=F3 (u4.2 hR);have l2:=F3 (u4.2 (X8 hx).sh.sr);rw[c5Z hx hS,d6X,b59 hx h1 h2 (c3N hx) (by rw[c6d hR _ (by have:=b0O hx hS;omega) λh hh=>a1Z hR (h2 h hh),c6S h1 h2]),d6X,a6c (X8 hx) (by rw[←e];exact c2),d6X,b4x hx,show (hO x).S=sO x.S from rfl,hlive,d6X,show (hO (buH x (Z5 x))).S=sO (buH x (Z5 x)).S from rfl,hlive2,d6X,D9 (by omega) (by omega)]
  rfl
 ·have hp:0<(btc x).length:=List.length_pos_iff.2 hb;rw[if_pos (by simp;omega)]
  refine K9 (btc x).length (λk b=>b=hO (((btc x).take k).foldl quH x)) (by omega) rfl (λk b hk hP=>?_) (λb hP=>?_)
  ·subst hP;obtain⟨_,r1,r2,r3,r4⟩:=c3Z hx hS hz hk;refine .inl ⟨_,?_,rfl⟩;rw[if_pos (by simpa using hk),o7 hk,d6X,b92 r1 r2 (a1Z r1.sh.sr r3),d6X,l6,J9 hk,List.foldl_append]
   unfold quD;rw[if_pos ⟨r3,r4⟩];rfl
  ·subst hP;refine⟨_,if_neg (by simp),?_⟩
   rw[List.take_length];unfold cgn T9;rw[if_neg hb,if_neg hb]
end
end Go.Sh
namespace Go.Sh
theorem c2Z{x:Hp}(hx:M3 x)(hS:SL x)(hz:zr x = []):(T9 x).S.Serial=x.S.Serial:=by
 unfold T9;split
 ·have g:=a1T (Z5 x) hx.sh.sr (a2w hx) (a1S hx);exact (a4v ((Z5 x).flatMap (outs x.S)++(wot x.T (Z5 x)).2) (x:=a3K x (Z5 x) (wot x.T (Z5 x)).1) g.sr).1.ser.trans g.ser
 ·exact (c06 hx hS hz).ser
end Go.Sh
namespace Go.Sh
def Sv(s s':a7):Prop:=s'.S.a8.length=s.S.a8.length∧∀i,i<s.S.a8.length→(ce s i).Gen≤(ce s' i).Gen∧((ce s' i).Gen=(ce s i).Gen→((ce s i).State≠0→(ce s' i).State≠0)∧((ce s' i).State=1→(ce s i).State=0∨((ce s i).State=1∧((ce s i).Val.Started=true→(ce s' i).Val.Started=true))))
theorem Sv.refl(s:a7):Sv s s:=⟨rfl,λi _=>⟨Int.le_refl _,λ_=>⟨id,λh=>.inr ⟨h,id⟩⟩⟩⟩
theorem Sv.trans{a b c:a7}(h:Sv a b)(q:Sv b c):Sv a c:=by
 obtain⟨h1,h2⟩:=h;obtain⟨q1,q2⟩:=q;refine⟨q1.trans h1,λi hi=>?_⟩;obtain⟨a1,a2⟩:=h2 i hi;obtain⟨b1,b2⟩:=q2 i (by omega)
 refine⟨by omega,λe=>?_⟩
 obtain⟨a3,a4⟩:=a2 (by omega)
 obtain⟨b3,b4⟩:=b2 (by omega)
 refine⟨λh=>b3 (a3 h),λh=>?_⟩;rcases b4 h with r | ⟨r,r'⟩
 ·exact .inl (Classical.byContradiction λn=>a3 n r)
 ·rcases a4 r with k | ⟨k,k'⟩
  ·exact .inl k
  ·exact .inr ⟨k,λs=>r' (k' s)⟩
def c2x(s:a7)(h:Int):Prop:=∃(i:Nat) (g:Int),i<s.S.a8.length∧h=1+(i:Int)+32*g∧(g<(ce s i).Gen∨(g=(ce s i).Gen∧(ce s i).State≠0∧((ce s i).State=1→(ce s i).Val.Started=true)))
theorem Sv.d5w{s s':a7}(h:Sv s s'){k:Int}(q:c2x s k):c2x s' k:=by
 obtain⟨i,g,hi,e,q⟩:=q;obtain⟨h1,h2⟩:=h;obtain⟨a,b⟩:=h2 i hi;refine⟨i,g,by omega,e,?_⟩
 rcases q with q | ⟨q1,q2,q3⟩
 ·exact .inl (by omega)
 ·by_cases c:(ce s' i).Gen=(ce s i).Gen
  ·obtain⟨b1,b2⟩:=b c;refine .inr ⟨by omega,b1 q2,λr=>?_⟩
   rcases b2 r with k | ⟨k1,k2⟩
   ·exact absurd k q2
   ·exact k2 (q3 k1)
  ·exact .inl (by omega)
theorem c5a{s:a7}(hR:SR s){h:Int}(hh:h∈lv s)(hs:(ob s h).Started=false):¬c2x s h:=by
 rintro⟨i,g,hi,e,q⟩;obtain⟨j,hj⟩:=(a28 hR).1 hh;have hl:=hR.len;have hij:i=j:=by
  have:=hj.2.2;have:=hj.1;omega
 subst hij;have:=hj.2.2;rcases q with q | ⟨q1,q2,q3⟩
 ·omega
 ·rw[O8 hR hj,q3 hj.2.1] at hs;cases hs
theorem Kin.sv{s s':a7}(hR:SR s)(k:Kin s s'):Sv s s':=⟨k.len,λi hi=>by
 obtain⟨a,b,_,_,_⟩:=k.ce i hi;refine⟨by omega,λ_=>⟨by omega,λh=>.inr ⟨by omega,λq=>?_⟩⟩⟩
 have h1:At s (hdl s i) i:=⟨hi,by omega,rfl⟩
 have h2:At s' (hdl s i) i:=⟨by rw[k.len];exact hi,h,by rw[b];rfl⟩
 have hl:=G8 hR ((a28 hR).2 ⟨i,h1⟩);obtain⟨n,e⟩:=k.ob (hdl s i) (by omega)
 rw[O8 k.sr h2,O8 hR h1] at e;rw[e];exact q⟩
theorem c7T{s:a7}(hR:SR s){h:Int}(hh:h∈lv s){o:m7}(hs:o.Serial=(ob s h).Serial)(ho:OkO s o)(hst:(ob s h).Started=true→o.Started=true):Sv s (seO s h o):=⟨c3T s h o,λi hi=>by
 have q:=z6 hR hh;rw[b8v hR hh hs ho];split
 ·rename_i e;subst e;refine⟨Int.le_refl _,λ_=>⟨id,λr=>.inr ⟨q.2.1,λk=>hst ?_⟩⟩⟩;rw[O8 hR q];exact k
 ·exact⟨Int.le_refl _,λ_=>⟨id,λr=>.inr ⟨r,id⟩⟩⟩⟩
theorem c6W{s:a7}(hR:SR s){i:Nat}(hi:i<s.S.a8.length)(ht:Th (ce s i))(d:Int):Sv s (mkA s i d):=⟨M2 ..,λj hj=>by
 rw[a3u hR hi ht];split
 ·rename_i e;subst e;exact⟨Int.le_refl _,λ_=>⟨id,λr=>.inr ⟨r,id⟩⟩⟩
 ·exact⟨Int.le_refl _,λ_=>⟨id,λr=>.inr ⟨r,id⟩⟩⟩⟩
theorem d2q{s:a7}{i:Nat}(hi:i<s.S.a8.length):Sv s (gvA s i):=⟨X5 ..,λj hj=>by
 unfold gvA;rw[K5 hi];by_cases e:j=i
 ·subst e;rw[if_pos rfl];split;·exact⟨Int.le_refl _,λ_=>⟨λ_=>(by decide:(3:Int)≠0),λr=>absurd (show (3:Int)=1 from r) (by decide)⟩⟩
  ·refine⟨by show _≤(ce s j).Gen+1;omega,λr=>?_⟩
   have:(ce s j).Gen+1=(ce s j).Gen:=r;omega
 ·rw[if_neg e];exact⟨Int.le_refl _,λ_=>⟨id,λr=>.inr ⟨r,id⟩⟩⟩⟩
theorem Gn.sv{s s':a7}{ds:List Int}(g:Gn s s' ds):Sv s s':=⟨g.len,λj hj=>by
 rw[g.ce];split
 ·unfold gnC;split
  ·split;·exact⟨Int.le_refl _,λ_=>⟨λ_=>(by decide:(3:Int)≠0),λr=>absurd (show (3:Int)=1 from r) (by decide)⟩⟩
   ·refine⟨by show _≤(Sh.ce s j).Gen+1;omega,λr=>?_⟩
    have:(Sh.ce s j).Gen+1=(Sh.ce s j).Gen:=r;omega
  ·exact⟨Int.le_refl _,λ_=>⟨λ_=>(by decide:(2:Int)≠0),λr=>absurd (show (2:Int)=1 from r) (by decide)⟩⟩
 ·exact⟨Int.le_refl _,λ_=>⟨id,λr=>.inr ⟨r,id⟩⟩⟩⟩
theorem d4U{s:a7}(hR:SR s){i:Nat}(hi:i<s.S.a8.length)(h0:(ce s i).State=0){n:Nat}(hn:n≤4){p:Int}(hp : -1≤p∧p≤5):Sv s (mkS s i n p):=⟨a5s hR hi h0 hn hp,λj hj=>by
 rw[a7y hR hi h0 hn hp];split
 ·rename_i e;subst e;exact⟨Int.le_refl _,λ_=>⟨λr=>absurd h0 r,λ_=>.inl h0⟩⟩
 ·exact⟨Int.le_refl _,λ_=>⟨id,λr=>.inr ⟨r,id⟩⟩⟩⟩
theorem c2c{x:Hp}(hR:SR x.S)(h:Int):Sv x.S (C2 x h).S:=(F7 hR h (f:=U4) λc=>D5).sv hR
theorem b8p{x:Hp}(hR:SR x.S)(h:Int):Sv x.S (Q2 x h).S:=(F7 hR h (f:=a5E) λc=>N8).sv hR
theorem c0l{x:Hp}(hR:SR x.S)(r:Nat)(h:Int):Sv x.S (F6 x r h).S:=
 (c2c hR h).trans (b8p (x:=wR (C2 x h) (x.Roots.set r h)) (a3y hR h) _)
theorem c4v{x:Hp}(hR:SR x.S){h:Int}(hh:h∈lv x.S){n:Nat}(hn:n<(ob x.S h).Fields.length)(v:Int):Sv x.S (a1f x h n v).S:=by
 have k1:=b8s hR v;have hh1:h∈lv (C2 x v).S:=by rw[k1.lv];exact hh
 have hof:(ob (C2 x v).S h).Fields=(ob x.S h).Fields:=by
  obtain⟨n,e⟩:=(F7 hR v (f:=U4) λc=>D5).ob h (by have:=G8 hR hh;omega)
  show (ob (stO x v U4).S h).Fields=_;rw[e]
 have ho:OkO (C2 x v).S (flg (ob (C2 x v).S h) ((ob x.S h).Fields.set n v)):=by
  have:=J5 k1.sr hh1;refine⟨this.s1,this.s2,this.st,this.wk,this.p1,this.p2,?_⟩;have h4:=this.fl;rw[hof] at h4;simpa using h4
 have k2:=c7T (o:=flg (ob (C2 x v).S h) ((ob x.S h).Fields.set n v)) k1.sr hh1 rfl ho id;exact ((c2c hR v).trans k2).trans (b8p (x:=wS (C2 x v) (seO (C2 x v).S h (flg (ob (C2 x v).S h) ((ob x.S h).Fields.set n v)))) (a0T (o:=flg (ob (C2 x v).S h) ((ob x.S h).Fields.set n v)) k1.sr hh1 rfl ho) _)
theorem c7n{x:Hp}(hR:SR x.S)(v:Int)(t:Tb)(old:Int):Sv x.S (a5Q x v t old).S:=
 (c2c hR v).trans (b8p (x:=wT (C2 x v) t) (a3y hR v) old)
theorem d2J{x:Hp}(hR:SR x.S)(h d:Int):Sv x.S (mkd x h d).S:=by
 unfold mkd;split
 ·rename_i q;exact c6W hR q.1 q.2.1 d
 ·exact Sv.refl _
theorem d0C{x:Hp}(hR:SR x.S)(h:Int):Sv x.S (a8K x h).S:=by
 unfold a8K;split
 ·rename_i q;have k:=c6W hR q.1 q.2.1 (-1);split;·exact k.trans (d2q (by rw[k.1];exact q.1))
  ·exact k
 ·exact Sv.refl _
theorem c78{x:Hp}(hx:M3 x)(n:Nat)(h call:Int):Sv x.S (a2o x n h call).S:=by
 have hR:=hx.sh.sr;unfold a2o;have s1:Sv x.S (mkd (wC x (x.a8.set n (wcl h call))) h 1).S:=d2J (x:=wC x (x.a8.set n (wcl h call))) hR h 1;refine s1.trans (d0C ?_ _);unfold mkd;split
 ·rename_i q;have:=(hR.ok _ q.1 q.2.1).wk;exact b4M hR q.1 q.2.1 (by omega)
 ·exact hR
theorem d1N{x:Hp}(hR:SR x.S){ds:List Int}(hn:ds.Nodup)(hm:∀d∈ds,d∈lv x.S):Sv x.S (buH x ds).S:=by
 have g:=a1T ds hR hn hm;exact g.sv.trans ((a4v (ds.flatMap (outs x.S)++(wot x.T ds).2) (x:=a3K x ds (wot x.T ds).1) g.sr).1.sv g.sr)
theorem d3n{x:Hp}(hR:SR x.S){h:Int}(hh:h∈lv x.S):Sv x.S (quH x h).S:=by
 have oko:=J5 hR hh;have ho:OkO x.S (srt (ob x.S h)):=⟨oko.s1,oko.s2,oko.st,oko.wk,oko.p1,oko.p2,oko.fl⟩;exact (c7T (o:=srt (ob x.S h)) hR hh rfl ho λ_=>rfl).trans ((a6W hR hh).1.sv (a0T (o:=srt (ob x.S h)) hR hh rfl ho))
theorem d3Q{x:Hp}(hx:M3 x):Sv x.S (stp x).S:=by
 cases h:zr x with
 | nil=>rw[a9j h];exact Sv.refl _
 | cons z l=>
  have hz:z∈zr x:=by rw[h];exact List.mem_cons_self ..
  have hzl:=(a1o.1 hz).1;rw[a4B h];split;·exact d3n hx.sh.sr hzl
  ·exact d1N hx.sh.sr (by simp) (by simpa using hzl)
theorem d3M{x:Hp}(hx:M3 x)(n:Nat):Sv x.S (stN n x).S:=by
 induction n with
 | zero=>exact Sv.refl _
 | succ n ih=>rw[a2b];exact ih.trans (d3Q (a0F hx n))
theorem d0q{x:Hp}(hx:M3 x):Sv x.S (a1G x).S:=d3M hx 100
structure Fw (x y:Hp):Prop where
 sv:Sv x.S y.S
 q:∃l,y.Q=⟨x.Q.L++l,x.Q.Cap⟩∧∀t∈l,t.Kind=1→¬c2x x.S t.At
theorem Fw.of{x y:Hp}(h:Sv x.S y.S)(q:y.Q=x.Q):Fw x y:=⟨h,[],by rw[q,List.append_nil],λt ht=>by cases ht⟩
theorem Fw.refl(x:Hp):Fw x x:=Fw.of (Sv.refl _) rfl
theorem Fw.trans{x y z:Hp}(a:Fw x y)(b:Fw y z):Fw x z:=by
 obtain⟨l,q1,q2⟩:=a.q;obtain⟨m,r1,r2⟩:=b.q;refine⟨a.sv.trans b.sv,l++m,by rw[r1,q1,List.append_assoc],λt ht hk=>?_⟩
 rcases List.mem_append.1 ht with h | h
 ·exact q2 t h hk
 ·exact λs=>r2 t h hk (a.sv.d5w s)
theorem b8x{x:Hp}(hx:M3 x):Fw x (a1G x):=by
 obtain⟨l,q1,q2,_⟩:=(a8E hx).q;exact⟨d0q hx,l,q1,λt ht hk=>c5a hx.sh.sr (q2 t ht hk).1 (q2 t ht hk).2⟩
end Go.Sh
namespace Go.Sh
theorem a4w{x:Hp}(hR:SR x.S)(r:Nat)(h:Int):Fw x (F6 x r h):=Fw.of (c0l hR r h) (a4x x r h).2.2.2
theorem d4B{x:Hp}(hx:M3 x)(hS:SL x)(hz:zr x = [])(hb:x.S.Serial<9223372036854775807)(o:g6):(∃e,Er x o e)∨∃z v,Dn x o z v∧Fw x z:=by
 have hR:=hx.sh.sr;obtain⟨k,a,b,c⟩:=o;by_cases hc:B1 k a b c=0
 ·have:=c3g hc;have hk:k=1∨k=2∨k=3∨k=4∨k=5∨k=6∨k=7∨k=8∨k=9∨k=10∨k=11∨k=12:=by omega
  rcases hk with rfl | rfl | rfl | rfl | rfl | rfl | rfl | rfl | rfl | rfl | rfl | rfl
  ·rcases d1 hx hS hb hc with ⟨e,_,h⟩ | ⟨hn,hcc,i,hF,h⟩;·exact .inl ⟨e,h⟩
   ·obtain⟨hi,h0,_⟩:=hF;have k1:Fw x (wS x (mkS x.S i b.toNat c)):=Fw.of (d4U hR hi h0 hn hcc) rfl;exact .inr ⟨_,_,h,k1.trans (a4w (x:=wS x (mkS x.S i b.toNat c)) (b9O hR hi h0 hn hcc) _ _)⟩
  ·exact .inr ⟨_,_,d2 hx hS hc,a4w hR _ _⟩
  ·exact .inr ⟨_,_,d3 hx hS hc,a4w hR _ _⟩
  ·rcases d4 hx hS hc with ⟨_,h⟩ | ⟨e,_,h⟩ | ⟨_,n,_,_,h⟩;·exact .inl ⟨_,h⟩
   ·exact .inl ⟨_,h⟩
   ·exact .inr ⟨_,_,h,a4w hR _ _⟩
  ·rcases d5 hx hS hc with ⟨_,h⟩ | ⟨e,_,h⟩ | ⟨hl,n,_,hn,h⟩;·exact .inl ⟨_,h⟩
   ·exact .inl ⟨_,h⟩
   ·exact .inr ⟨_,_,h,Fw.of (c4v hR hl hn _) (a7X _ _ _ _).2.2.2⟩
  ·rcases d6 hx hS hc with ⟨_,h⟩ | ⟨e,_,h⟩ | ⟨_,h⟩;·exact .inl ⟨_,h⟩
   ·exact .inl ⟨_,h⟩
   ·exact .inr ⟨_,_,h,Fw.of (c78 hx _ _ _) (b5s _ _ _ _).2.2.2⟩
  ·obtain⟨_,⟨_,h⟩ | ⟨_,h⟩⟩:=d7 hx hS hc;·exact .inl ⟨_,h⟩
   ·exact .inr ⟨_,_,h,a4w hR _ _⟩
  ·rcases d8 hx hS hc with ⟨_,h⟩ | ⟨_,e,_,h⟩ | ⟨_,r,_,_,h⟩;·exact .inl ⟨_,h⟩
   ·exact .inl ⟨_,h⟩
   ·exact .inr ⟨_,_,h,Fw.of (c7n hR _ _ _) (b0c _ _ _ _).2.2.2⟩
  ·rcases d9 hx hS hc with ⟨_,h⟩ | ⟨_,_,h⟩ | ⟨_,v,_,h⟩;·exact .inl ⟨_,h⟩
   ·exact .inl ⟨_,h⟩
   ·exact .inr ⟨_,_,h,a4w hR _ _⟩
  ·exact .inr ⟨_,_,d10 hx hS hz hc,Fw.refl x⟩
  ·obtain⟨h1,h2⟩:=b7n (x:=x) (a:=a) (b:=b) (c:=c) (.inl rfl) hc;exact .inl ⟨14,by decide,h1,h2⟩
  ·obtain⟨h1,h2⟩:=b7n (x:=x) (a:=a) (b:=b) (c:=c) (.inr rfl) hc;exact .inl ⟨14,by decide,h1,h2⟩
 ·obtain⟨h1,h2⟩:=c6a (x:=x) (o:=⟨k,a,b,c⟩) hc;exact .inl ⟨_,hc,h1,h2⟩
theorem d1X{x:Hp}(hx:M3 x)(hS:SL x)(hz:zr x = [])(hb:x.S.Serial<9223372036854775807)(o:g6):Fw x (dov x o).1:=by
 rcases d4B hx hS hz hb o with ⟨e,_,h,_⟩ | ⟨z,v,d,f⟩
 ·have:dov x o=(x,0,e):=by unfold dov;rw[h];rfl
  rw[this];exact Fw.refl x
 ·have:dov x o=(a1G z,v,0):=by unfold dov;rw[d.mc];rfl
  rw[this];exact f.trans (b8x d.rt)
theorem d5t{x:Hp}(h1:HpS x)(h2:Wk x){L:List Int}(h3:a1p x L){r:Nat}(hr:r<6){h:Int}(hh:h=0∨h∈lv x.S):HpS (F6 x r h)∧Wk (F6 x r h)∧a1p (F6 x r h) L:=by
 have kin:=F7 h1.sr h (f:=U4) λc=>D5;have l1:lv (C2 x h).S=lv x.S:=kin.lv;have f1:a1p (C2 x h) (h::L):=c0n h1.sr h3 h;have s1:HpS (C2 x h):=h1.st h (f:=U4) λc=>D5;have s2:HpS (wR (C2 x h) (x.Roots.set r h)):=s1.roots (by rw[List.length_set];exact h1.r6) λv hv=>by
  rw[l1];rcases List.mem_or_eq_of_mem_set hv with q | q
  ·exact h1.rt v q
  ·exact q▸hh
 have w1:Wk (C2 x h):=h2.st h1.sr h (f:=U4) λc=>D5;have one:∀v k,Z3 [v] k=if v=k∧k≠0 then 1 else 0:=λv k=>by rw[G1,P9,Nat.zero_add]
 have f2:a1p (wR (C2 x h) (x.Roots.set r h)) (x.Roots.getD r 0::L):=f1.mv rfl (λ_ _=>rfl) λk hk=>by
  have:=b3R (l:=x.Roots) (r:=r) (by rw[h1.r6];exact hr) h k
  rw[one,one] at this;rw[b2w x h];unfold nms otr;dsimp only;rw[K0,K0,b2F,b2F,G1 h L,G1 (x.Roots.getD r 0) L];omega
 exact⟨s2.st _ λc=>N8,Wk.st (x:=wR (C2 x h) (x.Roots.set r h)) w1 s2.sr _ λc=>N8,b1y (x:=wR (C2 x h) (x.Roots.set r h)) s2.sr f2⟩
abbrev unq(x:Hp)(ts:List g9):Hp:=wQ x ⟨ts,x.Q.Cap⟩
noncomputable def b15(x:Hp)(ts:List g9)(h:Int):Hp:=Q2 (F6 (unq x ts) 5 h) h
section
variable{x:Hp}(hx:M3 x){t:g9}{ts:List g9}(hq:x.Q.L=t::ts)
include hx hq
theorem b8L:HpS (unq x ts):=by
 have h:=hx.sh;refine⟨h.sr,h.hr,h.r6,h.c6,h.cap,?_,λu hu=>h.tk u (by rw[hq];exact List.mem_cons_of_mem _ hu),?_,h.rt,h.fl,h.pr,λi hi=>?_⟩
 ·have:=h.q30;rw[hq,List.length_cons] at this;show ts.length≤30;omega
 ·have:=h.td;rw[hq,List.pairwise_cons] at this;exact this.2
 ·obtain⟨a,b,c,d,e⟩:=h.cl i hi;refine⟨a,b,c,d,λq=>⟨(e q).1,?_⟩⟩;have:=(e q).2;rw[Bool.eq_false_iff] at this ⊢;intro r;obtain⟨u,hu,k1,k2⟩:=a5h.1 r;exact this (a5h.2 ⟨u,by rw[hq];exact List.mem_cons_of_mem _ hu,k1,k2⟩)
theorem c0D:a1p (unq x ts) (if t.Kind=1 then [t.At] else []):=hx.fair.mv rfl (λ_ _=>rfl) λh _=>by
 unfold nms otr b4z;dsimp only;rw[hq,List.filter_cons];by_cases k:t.Kind=1
 ·rw[if_pos k,if_pos (by simpa using k),List.map_cons,K0,K0,G1 t.At (List.map _ _),G1 t.At [],P9]
  omega
 ·rw[if_neg k,if_neg (by simpa using k),P9]
theorem c08(hk:t.Kind≠1):M3 (unq x ts):=⟨b8L hx hq,hx.wk,by have:=c0D hx hq;rwa [if_neg hk] at this⟩
theorem c1i(hk:t.Kind=1):t.At∈lv x.S∧(ob x.S t.At).Started=true:=by
 rcases (hx.sh.tk t (by rw[hq];exact List.mem_cons_self ..)).2.2 with ⟨_,b,c⟩ | ⟨b,_⟩
 ·exact⟨b,c⟩
 ·omega
theorem a5F(hk:t.Kind=1):M3 (b15 x ts t.At):=by
 have f:=c0D hx hq;rw[if_pos hk] at f;obtain⟨a,b,c⟩:=d5t (b8L hx hq) (x:=unq x ts) hx.wk f (r:=5) (by decide) (.inr (c1i hx hq hk).1)
 exact⟨a.st _ λc=>N8,b.st a.sr _ λc=>N8,b1y a.sr c⟩
omit hq in
theorem c1j (hS:SL x) (h:Int):SL (b15 x ts h):=by
 have k:=a4y (x:=unq x ts) hx.sh.sr hS 5 h;exact b8n [h] (a06 (x:=unq x ts) hx.sh.sr 5 h).sr k
omit hq in
theorem d2c (h:Int):Ks x.S (b15 x ts h).S:=by
 have k:=a06 (x:=unq x ts) hx.sh.sr 5 h;exact k.trans (b8o k.sr h)
omit hq in
theorem c6r (h:Int):(b15 x ts h).Roots=x.Roots.set 5 h∧(b15 x ts h).a8=x.a8∧(b15 x ts h).T=x.T∧(b15 x ts h).Q=⟨ts,x.Q.Cap⟩:=by
 obtain⟨a,b,c,d⟩:=b5a (F6 (unq x ts) 5 h) h;obtain⟨a',b',c',d'⟩:=a4x (unq x ts) 5 h;exact⟨a.trans a',b.trans b',c.trans c',d.trans d'⟩
omit hq in
theorem d2b (h:Int):Fw (unq x ts) (b15 x ts h):=Fw.of ((c0l (x:=unq x ts) hx.sh.sr 5 h).trans (b8p (a06 (x:=unq x ts) hx.sh.sr 5 h).sr h)) (c6r hx h).2.2.2
end
def prg(ps:List (List g6))(n:Int):List g6:=if n<0∨(ps.length:Int)≤n then [] else ps.getD n.toNat []
noncomputable def pre(x:Hp)(t:g9)(ts:List g9):Hp:=if t.Kind=1 then a1G (b15 x ts t.At) else unq x ts
noncomputable def ran(ps:List (List g6))(x:Hp)(t:g9)(ts:List g9):Hp:=(runs (pre x t ts) (prg ps t.Prog)).1
noncomputable def dne(ps:List (List g6))(x:Hp)(t:g9)(ts:List g9):Hp:=if t.Kind=1 then a1G (F6 (ran ps x t ts) 5 0) else ran ps x t ts
structure Oh (x:Hp):Prop where
 rt:M3 x
 sl:SL x
 zr:zr x = []
theorem Nxt.ok{x y:Hp}{o:g6}{v e:Int}(n:Nxt x o y v e):Oh y:=⟨n.rt,n.sl,n.zr⟩
theorem c3V{x:Hp}(h:M3 x)(s:SL x):Oh (a1G x):=⟨a2I h,c3W h s,b6P h⟩
theorem c7Q{x:Hp}(hx:Oh x)(l:List g6)(hb:x.S.Serial+l.length<9223372036854775807):Oh (runs x l).1∧Fw x (runs x l).1∧(runs x l).1.S.Serial≤x.S.Serial+l.length∧(runs x l).2.length=l.length:=by
 have key:∀k,k≤l.length→Oh (runs x (l.take k)).1∧Fw x (runs x (l.take k)).1∧(runs x (l.take k)).1.S.Serial≤x.S.Serial+k∧(runs x (l.take k)).2.length=k:=by
  intro k;induction k with
  | zero=>exact λ_=>⟨hx,Fw.refl x,by show x.S.Serial≤_;omega,rfl⟩
  | succ k ih=>
   intro hk;obtain⟨a,b,c,d⟩:=ih (by omega)
   have hk':k<l.length:=by omega
   have n:=a6Q a.rt a.sl a.zr (by omega) l[k]
   rw[J9 hk',a9g];exact⟨n.ok,b.trans (d1X a.rt a.sl a.zr (by omega) _),by have:=n.ev.s2;show (dov _ _).1.S.Serial≤_;omega,by simp[d]⟩
 have:=key l.length (Nat.le_refl _);rwa [List.take_length] at this
section
variable{x:Hp}(hx:Oh x){t:g9}{ts:List g9}(hq:x.Q.L=t::ts)(ps:List (List g6))
include hx hq
theorem c1J:Oh (pre x t ts):=by
 unfold pre;split
 ·rename_i k;exact c3V (a5F hx.rt hq k) (c1j hx.rt hx.sl _)
 ·rename_i k;exact⟨c08 hx.rt hq k,hx.sl,hx.zr⟩
theorem d3f:Fw (unq x ts) (pre x t ts):=by
 unfold pre;split
 ·rename_i k;exact (d2b hx.rt _).trans (b8x (a5F hx.rt hq k))
 ·exact Fw.refl _
theorem b7Y:(pre x t ts).S.Serial=x.S.Serial:=by
 unfold pre;split
 ·rename_i k;rw[(a8E (a5F hx.rt hq k)).ser,(d2c hx.rt _).ser]
 ·rfl
variable(hb:x.S.Serial+(prg ps t.Prog).length<9223372036854775807)
include hb
theorem b8i:Oh (ran ps x t ts)∧Fw (unq x ts) (ran ps x t ts)∧(ran ps x t ts).S.Serial≤x.S.Serial+(prg ps t.Prog).length:=by
 have e:=b7Y hx hq;obtain⟨a,b,c,_⟩:=c7Q (c1J hx hq) (prg ps t.Prog) (by rw[e];exact hb)
 exact⟨a,(d3f hx hq).trans b,by rw[e] at c;exact c⟩
theorem c9l:Oh (dne ps x t ts)∧Fw (unq x ts) (dne ps x t ts)∧(dne ps x t ts).S.Serial≤x.S.Serial+(prg ps t.Prog).length∧(t.Kind=1→sd (dne ps x t ts) 5=0):=by
 obtain⟨a,b,c⟩:=b8i hx hq ps hb;unfold dne;split
 ·have hz:=a0l a.rt (r:=5) (by decide) (h:=0) (.inl rfl)
  have k:=a06 a.rt.sh.sr 5 0;refine⟨c3V hz (a4y a.rt.sh.sr a.sl 5 0),(b.trans (a4w a.rt.sh.sr 5 0)).trans (b8x hz),?_,λ_=>(a9e a.rt (a:=5) (by decide) (h:=0) (.inl rfl)).1⟩
  rw[(a8E hz).ser,k.ser];exact c
 ·exact⟨a,b,c,λq=>absurd q (by assumption)⟩
end
end Go.Sh
namespace Go.Sh
def cst(ps:List (List g6))(t:g9):Int:=1+((prg ps t.Prog).length:Int)
def can(ps:List (List g6))(p:Hp × Int):Prop:=∃t ts,p.1.Q.L=t::ts∧cst ps t≤p.2
noncomputable def nxd(ps:List (List g6))(p:Hp × Int):Hp × Int:=match p.1.Q.L with
 | []=>p
 | t::ts=>if cst ps t≤p.2 then (dne ps p.1 t ts,p.2-cst ps t) else p
noncomputable def dN(ps:List (List g6)):Nat→Hp × Int→Hp × Int
 | 0,p=>p
 | n+1,p=>dN ps n (nxd ps p)
section
variable(ps:List (List g6))
theorem b3x(n:Nat)(p:Hp × Int):dN ps (n+1) p=nxd ps (dN ps n p):=by
 induction n generalizing p with
 | zero=>rfl
 | succ n ih=>exact ih (nxd ps p)
theorem c9Q{p:Hp × Int}(h:p.1.Q.L = []):nxd ps p=p:=by unfold nxd;rw[h]
theorem b1a{p:Hp × Int}{t:g9}{ts:List g9}(h:p.1.Q.L=t::ts):nxd ps p=if cst ps t≤p.2 then (dne ps p.1 t ts,p.2-cst ps t) else p:=by unfold nxd;rw[h]
theorem b9l{p:Hp × Int}{t:g9}{ts:List g9}(h:p.1.Q.L=t::ts):can ps p↔cst ps t≤p.2:=by
 constructor
 ·rintro⟨u,us,e,c⟩;rw[h] at e;injection e with e1 e2
  rw[e1];exact c
 ·exact λc=>⟨t,ts,h,c⟩
theorem b0E(t:g9):1≤cst ps t:=by unfold cst;omega
theorem c21{p:Hp × Int}(hb:0≤p.2):∃n:Nat,(n:Int)≤p.2∧¬can ps (dN ps n p)∧∀j,j<n→can ps (dN ps j p):=by
 have key:∀m:Nat,(∃n:Nat,n≤m∧¬can ps (dN ps n p))∨((dN ps m p).2+m≤p.2∧0≤(dN ps m p).2):=by
  intro m;induction m with
  | zero=>exact .inr ⟨by show p.2+((0:Nat):Int)≤_;omega,hb⟩
  | succ m ih=>
   rcases ih with ⟨n,h1,h2⟩ | ⟨h1,h2⟩;·exact .inl ⟨n,by omega,h2⟩
   ·by_cases q:can ps (dN ps m p)
    ·right;obtain⟨t,ts,e,c⟩:=q;have:=b0E ps t;rw[b3x,b1a ps e,if_pos c];dsimp only;omega
    ·exact .inl ⟨m,by omega,q⟩
 have hex:∃n:Nat,(n:Int)≤p.2∧¬can ps (dN ps n p):=by
  rcases key (p.2.toNat+1) with ⟨n,h1,h2⟩ | ⟨h1,h2⟩
  ·rcases Nat.lt_or_ge n (p.2.toNat+1) with q | q
   ·exact⟨n,by omega,h2⟩
   ·have hn:n=p.2.toNat+1:=by omega
    rcases key p.2.toNat with ⟨n,h1,h2⟩ | ⟨h1,h3⟩;·exact⟨n,by omega,h2⟩
    ·refine⟨p.2.toNat,by omega,λ⟨t,ts,e,c⟩=>?_⟩
     have:=b0E ps t;omega
  ·omega
 obtain⟨n,⟨hn,hz⟩,hmin⟩:=a1e hex;refine⟨n,hn,hz,λj hj=>Classical.byContradiction λq=>?_⟩;have:=hmin j ⟨by omega,q⟩
 omega
theorem b7i{p:Hp × Int}(hx:Oh p.1)(hb:0≤p.2)(hs:p.1.S.Serial+p.2<9223372036854775807):∀n,Oh (dN ps n p).1∧0≤(dN ps n p).2∧(dN ps n p).2≤p.2∧(dN ps n p).1.S.Serial+(dN ps n p).2≤p.1.S.Serial+p.2
 | 0=>⟨hx,hb,Int.le_refl _,Int.le_refl _⟩
 | n+1=>by
  obtain⟨a,b,c,d⟩:=b7i hx hb hs n;rw[b3x];cases e:(dN ps n p).1.Q.L with
  | nil=>rw[c9Q ps e];exact⟨a,b,c,d⟩
  | cons t ts=>
   rw[b1a ps e];split
   ·rename_i q;have q2:=q;unfold cst at q2;obtain⟨r1,_,r3,_⟩:=c9l a e ps (by omega)
    refine⟨r1,?_,?_,?_⟩;·dsimp only;omega
    ·have:=b0E ps t;dsimp only;omega
    ·dsimp only;unfold cst;omega
   ·exact⟨a,b,c,d⟩
end
noncomputable def dn(ps:List (List g6))(p:Hp × Int):Nat:=if h:0≤p.2 then Classical.choose (c21 ps h) else 0
theorem b7m(ps:List (List g6)){p:Hp × Int}(h:0≤p.2):(dn ps p:Int)≤p.2∧¬can ps (dN ps (dn ps p) p)∧∀j,j<dn ps p→can ps (dN ps j p):=by
 unfold dn;rw[dif_pos h];exact Classical.choose_spec (c21 ps h)
noncomputable def dr(ps:List (List g6))(p:Hp × Int):Hp × Int:=dN ps (dn ps p) p
theorem d4C(ps:List (List g6)){x:Hp}{f:Int}(hx:Oh x)(hf:0≤f)(hs:x.S.Serial+f<9223372036854775807):Oh (dr ps (x,f)).1∧0≤(dr ps (x,f)).2∧(dr ps (x,f)).2≤f∧(dr ps (x,f)).1.S.Serial+(dr ps (x,f)).2≤x.S.Serial+f:=b7i ps (p:=(x,f)) hx hf hs _
end Go.Sh
namespace Go.Sh
section
variable{x:Hp}(hx:HpS x)(hS:∀k∈lv x.S,(ob x.S k).Strong≤9223372036854775807)
include hx hS
theorem c6O{h:Int}(hh:h=0∨h∈lv x.S):h≤9223372036854775807:=by
 rcases hh with q | q
 ·omega
 ·have:=G8 hx.sr q;omega
theorem c7L(k:Int){h:Int}(hh:h≤9223372036854775807):a0x x k h=some (if k<0∨5<k then (x,6) else if h=0∨h∈lv x.S then (F6 x k.toNat h,0) else (x,3)):=by
 have hR:=hx.sr;have r6:=hx.r6;unfold a0x;by_cases hk:k<0∨5<k
 ·rw[if_pos hk,if_pos (by rw[r6];simp;omega)]
 ·rw[if_neg hk,if_neg (by rw[r6];simp;omega),a2A hR hh,d6X]
  by_cases hn:h=0∨h∈lv x.S
  ·rw[if_pos hn,decide_eq_true hn,if_neg (by simp)]
   obtain⟨n,rfl⟩:∃n:Nat,k=n:=⟨k.toNat,by omega⟩
   have hn6:n<6:=by omega
   have hnl:n<x.Roots.length:=by omega
   have old:x.Roots[n]≤9223372036854775807:=c6O hx hS (hx.rt _ (List.getElem_mem hnl));have e1:=a58 x h;have hn2:n<(C2 x h).Roots.length:=by rw[e1.1];exact hnl
   rw[o7 hnl,d6X];unfold E7 O9 L9;rw[a56 hR hh hS,d6X];dsimp only;rw[K4 (by omega) (by rw[e1.1];omega),d6X,o7 hn2,d6X,d6X]
   have hrel:=a2F (x:=wR (C2 x h) (x.Roots.set n h)) (a3y hR h) old;rw[Int.toNat_natCast,e1.1,show C4 ⟨(C2 x h).S,x.Roots.set n h,(C2 x h).a8,(C2 x h).T,(C2 x h).Q⟩ x.Roots[n]=_ from hrel];unfold F6;rw[List.getD_eq_getElem?_getD,List.getElem?_eq_getElem hnl];rfl
  ·rw[if_neg hn,decide_eq_false hn,if_pos (by simp)]
theorem d0j(k:Int){h:Int}(hh:h≤9223372036854775807):X4 (hO x) k h=some (if k<0∨5<k then (hO x,6) else if h=0∨h∈lv x.S then (hO (F6 x k.toNat h),0) else (hO x,3)):=by
 have hR:=hx.sr;have r6:=hx.r6;unfold X4;by_cases hk:k<0∨5<k
 ·rw[if_pos hk,if_pos (by simp;omega)]
 ·rw[if_neg hk,if_neg (by simp;omega),b07 hR hh,d6X]
  by_cases hn:h=0∨h∈lv x.S
  ·rw[if_pos hn,decide_eq_true hn,if_neg (by simp)]
   obtain⟨n,rfl⟩:∃n:Nat,k=n:=⟨k.toNat,by omega⟩
   have hnl:n<x.Roots.length:=by omega
   have hnl':n<(hO x).Roots.length:=hnl;have old:x.Roots[n]≤9223372036854775807:=c6O hx hS (hx.rt _ (List.getElem_mem hnl));have e1:=a58 x h;have r6':(hO x).Roots.length=6:=r6;rw[o7 hnl',d6X,a8y hR hh hS,d6X,K4 (by omega) (by rw[r6'];omega),d6X,o7 hnl',d6X]
   have hrel:=a36 (x:=wR (C2 x h) (x.Roots.set n h)) (a3y hR h) old;rw[Int.toNat_natCast];rw[show F0 ⟨(hO (C2 x h)).S,(hO x).Roots.set n h,(hO (C2 x h)).a8,(hO (C2 x h)).T,(hO (C2 x h)).Q⟩ (hO x).Roots[n]=_ from hrel];unfold F6;rw[List.getD_eq_getElem?_getD,List.getElem?_eq_getElem hnl];rfl
  ·rw[if_neg hn,decide_eq_false hn,if_pos (by simp)]
end
theorem c1K(ps:List (List g6))(n:Int):a4f ps n=some (prg ps n):=by
 unfold a4f prg;by_cases h:n<0∨(ps.length:Int)≤n
 ·rw[if_pos (by simpa using h),if_pos h]
 ·rw[if_neg (by simpa using h),if_neg h]
  obtain⟨k,rfl⟩:∃k:Nat,n=k:=⟨n.toNat,by omega⟩
  have hk:k<ps.length:=by omega
  rw[o7 hk,d6X,Int.toNat_natCast,List.getD_eq_getElem?_getD,List.getElem?_eq_getElem hk];rfl
abbrev psR(ps:List (List g6)):List (List r9):=ps.map (List.map opR)
theorem c7s(ps:List (List g6))(n:Int):a8v (psR ps) n=some ((prg ps n).map opR):=by
 unfold a8v prg;rw[List.length_map];by_cases h:n<0∨(ps.length:Int)≤n
 ·rw[if_pos (by simpa using h),if_pos h]
  rfl
 ·rw[if_neg (by simpa using h),if_neg h]
  obtain⟨k,rfl⟩:∃k:Nat,n=k:=⟨n.toNat,by omega⟩
  have hk:k<ps.length:=by omega
  have hk2:k<(psR ps).length:=by simpa using hk
  rw[o7 hk2,d6X,Int.toNat_natCast,List.getD_eq_getElem?_getD,List.getElem?_eq_getElem hk];simp[psR]
def Mp(ps:List (List g6)):Prop:=∀p∈ps,p.length≤6
theorem b3F{ps:List (List g6)}(h:Mp ps)(n:Int):(prg ps n).length≤6:=by
 unfold prg;split;·simp
 ·rename_i q;have hk:n.toNat<ps.length:=by omega
  rw[List.getD_eq_getElem?_getD,List.getElem?_eq_getElem hk];exact h _ (List.getElem_mem hk)
theorem c20{ps:List (List g6)}(h:Mp ps)(t:g9):a6z ps t=some (cst ps t):=by
 have:=b3F h t.Prog;unfold a6z cst;rw[c1K,d6X,D9 (by omega) (by omega)]
theorem c57{ps:List (List g6)}(h:Mp ps)(t:g9):a8u (psR ps) ⟨t.Kind,t.At,t.Prog⟩=some (cst ps t):=by
 have:=b3F h t.Prog;unfold a8u cst;show (a8v (psR ps) t.Prog).bind _=_;rw[c7s,d6X,List.length_map,D9 (by omega) (by omega)]
theorem b7p(x:Hp):a1q x=some (x.Q.L.isEmpty):=by
 unfold a1q;rw[b8G,d6X];unfold tnx;cases x.Q.L <;> rfl
theorem c24(x:Hp):a9c (hO x)=some (x.Q.L.isEmpty):=by
 unfold a9c;show some ((((x.Q.L.map _).length:Nat):Int)==0)=_;cases x.Q.L with
 | nil=>rfl
 | cons a l=>simp;omega
section
variable{x:Hp}(hx:Oh x){t:g9}{ts:List g9}(hq:x.Q.L=t::ts){ps:List (List g6)}(hm:Mp ps)(hb:x.S.Serial<9000000000000000000)
include hx hq hm hb
theorem c75:a6A x ps=some (dne ps x t ts,t,0):=by
 have L3:=b3F hm t.Prog;have pok:=c1J hx hq;have pser:=b7Y hx hq;obtain⟨rok,_,_⟩:=b8i hx hq ps (by omega)
 have hrun:=(run_eq pok.rt pok.sl pok.zr (prg ps t.Prog) (by omega) (by rw[pser];omega)).1
 have hrun':a29 (pre x t ts) (prg ps t.Prog)=some (ran ps x t ts,(runs (pre x t ts) (prg ps t.Prog)).2):=hrun;have hz:=a0l rok.rt (r:=5) (by decide) (h:=0) (.inl rfl)
 have zS:=a4y rok.rt.sh.sr rok.sl 5 0;unfold a6A;rw[b8G,d6X];have e:tnx x.Q=(⟨ts,x.Q.Cap⟩,t,0):=by unfold tnx;rw[hq]
 rw[e];dsimp only;rw[if_neg (by simp)]
 simp only[jn];by_cases k:t.Kind=1
 ·have hk:(t.Kind==1)=true:=by simpa using k
  have hat:=(c1i hx.rt hq k).1;have ush:=b8L hx.rt hq;have hm1:=a1Z hx.rt.sh.sr hat;have e1:a0x ⟨x.S,x.Roots,x.a8,x.T,⟨ts,x.Q.Cap⟩⟩ 5 t.At=some (F6 (unq x ts) 5 t.At,0):=by
   have:=c7L (x:=unq x ts) ush hx.sl 5 hm1;rw[if_neg (by omega),if_pos (.inr hat)] at this
   exact this
  have e2:C4 (F6 (unq x ts) 5 t.At) t.At=some (b15 x ts t.At):=a2F (a06 (x:=unq x ts) hx.rt.sh.sr 5 t.At).sr hm1;have e3:=a37 (a5F hx.rt hq k) (c1j hx.rt hx.sl t.At);have e4:pre x t ts=a1G (b15 x ts t.At):=by unfold pre;rw[if_pos k]
  have e5:=c3O rok.rt rok.sl 5 (h:=0) (by decide)
  rw[if_neg (by omega),if_pos (.inl rfl)] at e5
  rw[if_pos hk,e1,d6X];dsimp only;rw[e2,d6X,e3,d6X,c1K,d6X,←e4,hrun',d6X,if_pos hk];dsimp only;rw[e5,d6X];refine bnd (a37 hz zS) ?_;unfold dne;rw[if_pos k];rfl
 ·have hk:¬(t.Kind==1)=true:=by simpa using k
  have e4:pre x t ts=unq x ts:=by unfold pre;rw[if_neg k]
  rw[if_neg hk,c1K,d6X,show (⟨x.S,x.Roots,x.a8,x.T,⟨ts,x.Q.Cap⟩⟩:b6)=pre x t ts from e4.symm,hrun',d6X,if_neg hk];unfold dne;rw[if_neg k]
theorem d3N:b43 (hO x) (psR ps)=some (hO (dne ps x t ts),tkR t,0):=by
 have L3:=b3F hm t.Prog;have pok:=c1J hx hq;have pser:=b7Y hx hq;obtain⟨rok,_,_⟩:=b8i hx hq ps (by omega)
 have hrun:=(run_eq pok.rt pok.sl pok.zr (prg ps t.Prog) (by omega) (by rw[pser];omega)).2
 have hrun':b3M (hO (pre x t ts)) ((prg ps t.Prog).map opR)=some (hO (ran ps x t ts),(runs (pre x t ts) (prg ps t.Prog)).2):=hrun;have hz:=a0l rok.rt (r:=5) (by decide) (h:=0) (.inl rfl)
 have zS:=a4y rok.rt.sh.sr rok.sl 5 0;unfold b43;rw[show (hO x).Q=tqR x.Q from rfl,d3p,d6X];have e:tnx x.Q=(⟨ts,x.Q.Cap⟩,t,0):=by unfold tnx;rw[hq]
 rw[e];dsimp only;rw[if_neg (by simp)]
 simp only[jn];have hkk:(tkR t).Kind=t.Kind:=rfl;have hka:(tkR t).At=t.At:=rfl;have hkp:(tkR t).Prog=t.Prog:=rfl;rw[hkk,hka,hkp];by_cases k:t.Kind=1
 ·have hk:(t.Kind==1)=true:=by simpa using k
  have hat:=(c1i hx.rt hq k).1;have ush:=b8L hx.rt hq;have hm1:=a1Z hx.rt.sh.sr hat;have e1:X4 (hO (unq x ts)) 5 t.At=some (hO (F6 (unq x ts) 5 t.At),0):=by
   have:=d0j (x:=unq x ts) ush hx.sl 5 hm1;rw[if_neg (by omega),if_pos (.inr hat)] at this
   exact this
  have e2:F0 (hO (F6 (unq x ts) 5 t.At)) t.At=some (hO (b15 x ts t.At)):=a36 (a06 (x:=unq x ts) hx.rt.sh.sr 5 t.At).sr hm1;have e3:=a6c (a5F hx.rt hq k) (c1j hx.rt hx.sl t.At);have e4:pre x t ts=a1G (b15 x ts t.At):=by unfold pre;rw[if_pos k]
  have e5:=c18 rok.rt rok.sl 5 (h:=0) (by decide)
  rw[if_neg (by omega),if_pos (.inl rfl)] at e5
  rw[if_pos hk,show (⟨(hO x).S,(hO x).Roots,(hO x).a8,(hO x).T,tqR ⟨ts,x.Q.Cap⟩⟩:g7)=hO (unq x ts) from rfl,e1,d6X];dsimp only;rw[e2,d6X,e3,d6X,c7s,d6X,←e4,hrun',d6X,if_pos hk];dsimp only;rw[e5,d6X];refine bnd (a6c hz zS) ?_;unfold dne;rw[if_pos k];rfl
 ·have hk:¬(t.Kind==1)=true:=by simpa using k
  have e4:pre x t ts=unq x ts:=by unfold pre;rw[if_neg k]
  rw[if_neg hk,c7s,d6X,show (⟨(hO x).S,(hO x).Roots,(hO x).a8,(hO x).T,tqR ⟨ts,x.Q.Cap⟩⟩:g7)=hO (pre x t ts) by rw[e4];rfl,hrun',d6X,if_neg hk]
  unfold dne;rw[if_neg k]
end
section
variable{x:Hp}(hx:Oh x){ps:List (List g6)}(hm:Mp ps){f:Int}(hf:0≤f)(hf2:f≤1000000)(hb:x.S.Serial<8000000000000000000)
include hx hm hf hf2 hb
def dre(p:Hp × Int):Int:=if p.1.Q.L.isEmpty then 0 else 12
theorem drain_eq:a21 x ps f=some ((dr ps (x,f)).1,(dn ps (x,f):Int),(dr ps (x,f)).2,dre (dr ps (x,f))):=by
 obtain⟨a1,a2,a3⟩:=b7m ps (p:=(x,f)) hf;have all:=b7i ps (p:=(x,f)) hx hf (by show x.S.Serial+f<_;omega)
 unfold a21;simp only[jn];dsimp only at a1;refine a00 (λk=>((dN ps k (x,f)).2,(dN ps k (x,f)).1,(k:Int),(dN ps k (x,f)).2,(dN ps k (x,f)).1)) rfl (dn ps (x,f)) (λ_=>True) (by omega) trivial (λk hk _=>.inl ⟨?_,trivial⟩) (λ_=>⟨((dn ps (x,f):Int),(dr ps (x,f)).2,(dr ps (x,f)).1),?_,?_⟩)
 ·obtain⟨b1,b2,b3,b4⟩:=all k;obtain⟨t,ts,e,c⟩:=a3 k hk;dsimp only at b2 b3 b4;have hc:=b0E ps t;rw[b7p,e,d6X];show (a1E _).bind _=_;rw[b8G,d6X];have e2:tnx (dN ps k (x,f)).1.Q=(⟨ts,(dN ps k (x,f)).1.Q.Cap⟩,t,0):=by unfold tnx;rw[e]
  rw[e2];dsimp only;rw[c20 hm,d6X,if_neg (by simp;omega),c75 b1 e hm (by omega),d6X,D9 (by omega) (by omega),l6,b3x,b1a ps e,if_pos c]
 ·rw[b7p,d6X];cases e:(dN ps (dn ps (x,f)) (x,f)).1.Q.L with
  | nil=>rfl
  | cons t ts=>
   have hc:¬cst ps t≤(dN ps (dn ps (x,f)) (x,f)).2:=λq=>a2 ((b9l ps e).2 q);show (a1E _).bind _=_;rw[b8G,d6X];have e2:tnx (dN ps (dn ps (x,f)) (x,f)).1.Q=(⟨ts,(dN ps (dn ps (x,f)) (x,f)).1.Q.Cap⟩,t,0):=by unfold tnx;rw[e]
   rw[e2];dsimp only;rw[c20 hm,d6X,if_pos (by simp;omega)]
   rfl
 ·dsimp only;rw[b7p,d6X];unfold dre;cases (dr ps (x,f)).1.Q.L.isEmpty <;> rfl
theorem c9n:a9b (hO x) (psR ps) f=some (hO (dr ps (x,f)).1,(dn ps (x,f):Int),(dr ps (x,f)).2,dre (dr ps (x,f))):=by
 obtain⟨a1,a2,a3⟩:=b7m ps (p:=(x,f)) hf;have all:=b7i ps (p:=(x,f)) hx hf (by show x.S.Serial+f<_;omega)
 unfold a9b;simp only[jn];dsimp only at a1;refine a00 (λk=>((dN ps k (x,f)).2,(k:Int),hO (dN ps k (x,f)).1)) rfl (dn ps (x,f)) (λ_=>True) (by omega) trivial (λk hk _=>.inl ⟨?_,trivial⟩) (λ_=>?_)
 ·obtain⟨b1,b2,b3,b4⟩:=all k;obtain⟨t,ts,e,c⟩:=a3 k hk;dsimp only at b2 b3 b4;have hc:=b0E ps t;rw[c24,e,d6X];have e2:ix (hO (dN ps k (x,f)).1).Q.L 0=some (tkR t):=by
   show ix ((dN ps k (x,f)).1.Q.L.map tkR) 0=_;rw[e];rfl
  show (ix (hO (dN ps k (x,f)).1).Q.L 0).bind _=_;rw[e2,d6X,show a8u (psR ps) (tkR t)=_ from c57 hm t,d6X,if_neg (by simp;omega),d3N b1 e hm (by omega),d6X,D9 (by omega) (by omega),l6,b3x,b1a ps e,if_pos c]
 ·cases e:(dN ps (dn ps (x,f)) (x,f)).1.Q.L with
  | nil=>
   refine⟨.inr ((dr ps (x,f)).2,(dn ps (x,f):Int),hO (dr ps (x,f)).1),?_,?_⟩
   ·rw[c24,e];rfl
   ·unfold dre;have e':(dr ps (x,f)).1.Q.L = []:=e;rw[e'];rfl
  | cons t ts=>
   have hc:¬cst ps t≤(dN ps (dn ps (x,f)) (x,f)).2:=λq=>a2 ((b9l ps e).2 q);refine⟨.inl (hO (dr ps (x,f)).1,(dn ps (x,f):Int),(dr ps (x,f)).2,12),?_,?_⟩
   ·rw[c24,e,d6X];have e2:ix (hO (dN ps (dn ps (x,f)) (x,f)).1).Q.L 0=some (tkR t):=by
     show ix ((dN ps (dn ps (x,f)) (x,f)).1.Q.L.map tkR) 0=_;rw[e];rfl
    show (ix (hO (dN ps (dn ps (x,f)) (x,f)).1).Q.L 0).bind _=_;rw[e2,d6X,show a8u (psR ps) (tkR t)=_ from c57 hm t,d6X,if_pos (by simp;omega)]
    rfl
   ·unfold dre;have e':(dr ps (x,f)).1.Q.L=t::ts:=e;rw[e'];rfl
end
end Go.Sh
namespace Go.Sh
theorem d4V{l:List (List g6)}(h:a6V l=true):Mp l∧l.length≤6:=by
 unfold a6V at h;rw[Bool.and_eq_true,decide_eq_true_iff,List.all_eq_true] at h;refine⟨λp hp=>?_,h.1⟩;have:=h.2 p hp;unfold b2P at this;rw[Bool.and_eq_true,decide_eq_true_iff] at this;exact this.1
end Go.Sh
namespace Go.Sh
theorem d4M(s:a7)(h:s.S.a8.length≤30):b3V s=some (sO s):=by
 unfold b3V;simp only[jn,b3W,d6X];have e:=a4n (b:=80) cO s.S.a8 (by omega) (by omega)
 simp only[cO,oo] at e;rw[e];rfl
theorem d0r(s:a7):a9q s=some (decide (Sm s)):=by
 unfold a9q;simp only[jn];refine U5 (min s.S.a8.length 30) (λk=>∀j (h:j<s.S.a8.length),j<k→s.S.a8[j].Val.Fields.length≤10) (by omega) (λ_ _ h=>by omega) (λk hk hP=>?_) (λhP=>?_)
 ·have hk1:k<s.S.a8.length:=by omega
  have hk2:k<30:=by omega
  have hc:((decide ((k:Int)<(s.S.a8.length:Int)))&&(decide ((k:Int)<30)))=true:=by simp;omega
  by_cases g:s.S.a8[k].Val.Fields.length≤10
  ·refine .inl ⟨?_,λj h hj=>?_⟩
   ·rw[hc];simp only[if_true,o7 hk1,d6X];rw[if_neg (by simp;omega),l6]
   ·rcases Nat.lt_or_ge j k with q | q
    ·exact hP j h q
    ·have:j=k:=by omega
     subst this;exact g
  ·refine .inr ⟨.inl false,?_,?_⟩
   ·rw[hc];simp only[if_true,o7 hk1,d6X];rw[if_pos (by simp;omega)]
   ·simp only;rw[decide_eq_false (λq:Sm s=>g (q.2 k hk1))]
 ·refine⟨.inr (),?_,?_⟩
  ·rw[show ((decide (((min s.S.a8.length 30:Nat):Int)<(s.S.a8.length:Int)))&&(decide (((min s.S.a8.length 30:Nat):Int)<30)))=false by
    rcases Nat.lt_or_ge s.S.a8.length 30 with q | q
    ·simp;omega
    ·simp;omega]
   rfl
  ·simp only;congr 1;rw[decide_eq_decide];constructor
   ·intro q;exact⟨by omega,λi h=>hP i h (by omega)⟩
   ·intro q;have:=q.1;omega
end Go.Sh
namespace Go.Sh
theorem d5x(t:Tb)(h:t.length≤1000):b3X t=some (t.map L3):=by
 unfold b3X;simp only[jn];have e:=a4n (b:=24) L3 t (by omega) (by omega)
 simp only[L3] at e;rw[e];rfl
end Go.Sh
namespace Go.Sh
theorem d4t(l:List c9)(h:l.length≤1000):a9o l=some (l.map wcR):=by
 unfold a9o;simp only[jn];have e:=a4n (b:=24) wcR l (by omega) (by omega)
 simp only[wcR] at e;rw[e];rfl
theorem d5y(q:TQ)(h:q.L.length≤1000):a9r q=some (tqR q):=by
 unfold a9r;simp only[jn];have e:=a4n (b:=24) tkR q.L (by omega) (by omega)
 simp only[tkR] at e;rw[e];rfl
theorem d2u{x:Hp}(h1:x.S.S.a8.length≤30)(h2:x.a8.length≤1000)(h3:x.T.length≤1000)(h4:x.Q.L.length≤1000):a3m x=some (hO x):=by
 unfold a3m;rw[d4M x.S h1,d6X,d4t x.a8 h2,d6X,d5x x.T h3,d6X,d5y x.Q h4,d6X];rfl
theorem c3a{x:Hp}(h:HpS x):a3m x=some (hO x):=by
 have h1:=h.sr.len;have h2:=h.c6;have h3:=h.hr.l8;have h4:=h.q30;exact d2u (by omega) (by omega) (by omega) (by omega)
theorem c6o(x:Hp):a7l x=some (decide (b82 x)):=by
 unfold a7l;rw[d0r,d6X];congr 1;rw[Bool.eq_iff_iff];simp only[Bool.and_eq_true,decide_eq_true_iff];unfold b82;constructor
 ·rintro⟨⟨⟨⟨a,b⟩,c⟩,d⟩,e⟩;exact⟨a,by omega,by omega,by omega,by omega⟩
 ·rintro⟨a,b,c,d,e⟩;exact⟨⟨⟨⟨a,by omega⟩,by omega⟩,by omega⟩,by omega⟩
theorem d0V{x:Hp}(h:HpS x):a7l x=some true:=by rw[c6o,decide_eq_true h.d6m]
end Go.Sh
namespace Go.Sh
noncomputable def eo(ps:List (List g6))(x:Hp)(o:g6):Hp × Int × Int:=
 if o.Kind=11 then (T9 x,cgn x-((btc x).length:Int),0)
 else if o.Kind=12 then ((dr ps (x,o.A)).1,(dn ps (x,o.A):Int),dre (dr ps (x,o.A)))
 else dov x o
noncomputable def er(ps:List (List g6))(x:Hp)(row:List Int):Hp × Int × Int:=if (Q4 row).2≠0 then (x,0,(Q4 row).2) else eo ps x (Q4 row).1
noncomputable def ers(ps:List (List g6))(x:Hp)(rows:List (List Int)):Hp × List (Int × Int):=rows.foldl (λp r=>((er ps p.1 r).1,p.2 ++ [(er ps p.1 r).2])) (x,[])
theorem c6j(ps:List (List g6))(x:Hp)(l:List (List Int))(r:List Int):ers ps x (l ++ [r])=((er ps (ers ps x l).1 r).1,(ers ps x l).2 ++ [(er ps (ers ps x l).1 r).2]):=by
 unfold ers;rw[List.foldl_append];rfl
theorem b7s(ps:List (List g6)):∀(l:List (List Int)) (x:Hp) (a:List (Int × Int)),l.foldl (λp r=>((er ps p.1 r).1,p.2 ++ [(er ps p.1 r).2])) (x,a)=((ers ps x l).1,a++(ers ps x l).2)
 | [],x,a=>by simp[ers]
 | r::l,x,a=>by
  unfold ers;rw[List.foldl_cons,List.foldl_cons,b7s ps l,b7s ps l _ ([]++_)];simp
theorem c25(ps:List (List g6))(x:Hp)(l m:List (List Int)):ers ps x (l++m)=((ers ps (ers ps x l).1 m).1,(ers ps x l).2++(ers ps (ers ps x l).1 m).2):=by
 have:ers ps x (l++m)=m.foldl (λp r=>((er ps p.1 r).1,p.2 ++ [(er ps p.1 r).2])) (ers ps x l):=by
  unfold ers;rw[List.foldl_append]
 rw[this];exact b7s ps m (ers ps x l).1 (ers ps x l).2
theorem b7t(ps:List (List g6))(x:Hp)(l:List (List Int)):(ers ps x l).2.length=l.length:=by
 induction l generalizing x with
 | nil=>rfl
 | cons r l ih=>
  have:=c25 ps x [r] l;rw[List.singleton_append] at this;rw[this,List.length_append,ih];show 1+l.length=l.length+1;omega
theorem b7j{row:List Int}(h:(Q4 row).2=0):B1 (Q4 row).1.Kind (Q4 row).1.A (Q4 row).1.B (Q4 row).1.C=0:=by
 unfold Q4 at h ⊢;rcases four row with ⟨k,a,b,c,rfl⟩ | hl
 ·rw[c23,Option.getD_some] at h ⊢;by_cases q:B1 k a b c≠0
  ·rw[if_pos q] at h;exact absurd h q
  ·rw[if_neg q];exact Classical.not_not.1 q
 ·rw[(b7k hl).1,Option.getD_some] at h;exact absurd h (by decide)
theorem c50{a b c:Int}(h:B1 12 a b c=0):0≤a∧a≤200:=in0 (by decide) (show M1 a 0 200 12=0 from h)
section
variable{ps:List (List g6)}(hm:Mp ps){x:Hp}(hx:Oh x)(hb:x.S.Serial<7000000000000000000)
include hm hx hb
theorem d4D{o:g6}(ho:o.Kind=12→0≤o.A∧o.A≤200):Oh (eo ps x o).1∧(eo ps x o).1.S.Serial≤x.S.Serial+201:=by
 unfold eo;split
 ·obtain⟨a,b,c⟩:=b4c hx.rt hx.sl hx.zr;refine⟨⟨a,b,c⟩,?_⟩;show (T9 x).S.Serial≤_;rw[c2Z hx.rt hx.sl hx.zr];omega
 ·split
  ·rename_i h;obtain⟨h0,h2⟩:=ho h;obtain⟨a,b,c,d⟩:=d4C ps hx h0 (by omega)
   exact⟨a,by show (dr ps (x,o.A)).1.S.Serial≤_;omega⟩
  ·have n:=a6Q hx.rt hx.sl hx.zr (by omega) o
   have:=n.ev.s2;exact⟨n.ok,by omega⟩
theorem d4E(row:List Int):Oh (er ps x row).1∧(er ps x row).1.S.Serial≤x.S.Serial+201:=by
 unfold er;split;·exact⟨hx,by show x.S.Serial≤_;omega⟩
 ·rename_i h;have hc:=b7j (Classical.not_not.1 h);refine d4D hm hx hb λhk=>?_;rw[hk] at hc;exact c50 hc
end
theorem b14{ps:List (List g6)}(hm:Mp ps){x:Hp}(hx:Oh x):∀(l:List (List Int)),x.S.Serial+201*(l.length:Int)<7000000000000000000→Oh (ers ps x l).1∧(ers ps x l).1.S.Serial≤x.S.Serial+201*(l.length:Int):=by
 intro l;induction l generalizing x with
 | nil=>exact λ_=>⟨hx,by show x.S.Serial≤_;simp⟩
 | cons r l ih=>
  intro hb;rw[List.length_cons] at hb ⊢;obtain⟨a,b⟩:=d4E hm hx (by omega) r
  obtain⟨c,d⟩:=ih a (by omega)
  have e:=c25 ps x [r] l;rw[List.singleton_append] at e;rw[e];exact⟨c,by
   have:(ers ps (ers ps x [r]).1 l).1.S.Serial≤(er ps x r).1.S.Serial+201*(l.length:Int):=d;show (ers ps (ers ps x [r]).1 l).1.S.Serial≤_;omega⟩
end Go.Sh
namespace Go.Sh
def ctO(l:List b7)(k:Int):Nat:=l.countP λc=>c.State==k
theorem b9p(l:List b7)(c:b7)(k:Int):ctO (l ++ [c]) k=ctO l k+if c.State=k then 1 else 0:=by
 unfold ctO;rw[List.countP_append];simp[List.countP_cons]
noncomputable def srs(x:Hp):List Int:=(lv x.S).map λh=>ser x h
theorem c6Q{s:a7}(hR:SR s){h:Int}(hh:h∈lv s):sk s.S.a8 h=(ob s h).Serial:=by
 obtain⟨i,hi⟩:=(a28 hR).1 hh;rw[c5T hR hi,O8 hR hi]
theorem d3L{x:Hp}(hR:SR x.S):(srs x).Pairwise (· < ·):=by
 unfold srs;rw[List.pairwise_map];refine List.Pairwise.imp_of_mem (λ{a b} ha hb h=>?_) (a42 (u4.2 hR)).2.2;rw[c6Q hR ha,c6Q hR hb] at h;exact h
theorem c7Z{x:Hp}(hR:SR x.S):(srs x).mergeSort (λx y=>decide (x≤y))=srs x:=
 List.mergeSort_of_pairwise ((d3L hR).imp λh=>decide_eq_true (by omega))
theorem d0u{x:Hp}(hR:SR x.S):(srs x).length≤24:=by
 unfold srs;rw[List.length_map];exact F3 (u4.2 hR)
end Go.Sh
namespace Go.Sh
inductive Fm (x:Hp) (o:g6) (z:Hp) (v:Int):Prop
 | new (i:Nat) (hF:Fst x.S i) (hk:o.Kind=1) (ha:0≤o.A∧o.A≤5) (hn:o.B.toNat≤4) (hc : -1≤o.C∧o.C≤5) (hv:v=x.S.Serial+1) (hz:z=F6 (wS x (mkS x.S i o.B.toNat o.C)) o.A.toNat (hdl x.S i)):Fm x o z v
 | root (h:Int) (hk:o.Kind≠1) (ha:0≤o.A∧o.A≤5) (hh:h=0∨h∈lv x.S) (hz:z=F6 x o.A.toNat h):Fm x o z v
 | field (h:Int) (n:Nat) (u:Int) (hk:o.Kind=5) (hl:h∈lv x.S) (hn:n<(ob x.S h).Fields.length) (hu:u=0∨u∈lv x.S) (hz:z=a1f x h n u):Fm x o z v
 | weak (h:Int) (hk:o.Kind=6) (ha:0≤o.A∧o.A≤5) (hc : -1≤o.C∧o.C≤5) (hh:h=0∨h∈lv x.S) (hw:wts x.Q o.A=false) (hz:z=a2o x o.A.toNat h o.C):Fm x o z v
 | pair (h u:Int) (r:Tb × Int × Int) (hk:o.Kind=8) (hl:h∈lv x.S) (hu:u=0∨u∈lv x.S) (hr:U0 x.T h u=some r) (h0:r.2.2=0) (hz:z=a5Q x u r.1 r.2.1):Fm x o z v
 | same (hk:o.Kind=10) (hz:z=x):Fm x o z v
theorem Fm.ks{x z:Hp}{o:g6}{v:Int}(hx:M3 x)(f:Fm x o z v)(hk:o.Kind≠1):Ks x.S z.S:=by
 have hR:=hx.sh.sr;cases f with
 | new i hF hk'=>exact absurd hk' hk
 | root h _ ha hh hz=>rw[hz];exact a06 hR _ _
 | field h n u _ hl hn hu hz=>rw[hz];exact b6d hR hl hn u
 | weak h _ ha hc hh hw hz=>rw[hz];exact c0F hx (by omega) h _
 | pair h u r _ hl hu hr h0 hz=>rw[hz];exact b9U hR u _ _
 | same _ hz=>rw[hz];exact Ks.refl hR
end Go.Sh
namespace Go.Sh
def anE(p:Int × Int):k9:=⟨p.1,p.2⟩
def anR(p:Int × Int):p8:=⟨p.1,p.2⟩
section
variable{ps:List (List g6)}(hm:Mp ps){x:Hp}(hx:Oh x)(hb:x.S.Serial<7000000000000000000)
include hm hx hb
theorem c1a : -24≤cgn x-((btc x).length:Int)∧cgn x-((btc x).length:Int)≤24:=by
 have h1:=b7b hx.rt hx.sl hx.zr;have h2:(lv x.S).length≤24:=F3 (u4.2 hx.rt.sh.sr);obtain⟨c1,_,_⟩:=b4c hx.rt hx.sl hx.zr;have h3:(lv (T9 x).S).length≤24:=F3 (u4.2 c1.sh.sr);unfold cgn;split
 ·rename_i e;rw[e];simp;omega
 ·omega
theorem edo(row:List Int):a0u ⟨x,ps⟩ row=some (⟨(er ps x row).1,ps⟩,anE (er ps x row).2):=by
 unfold a0u;rw[(b0F row).1,d6X];unfold er;by_cases h:(Q4 row).2=0
 ·rw[if_neg (show ¬(((Q4 row).2 != 0)=true) by simp[h]),if_neg (show ¬((Q4 row).2≠0) by simp[h])]
  have hc:=b7j h;generalize (Q4 row).1=o at hc;unfold a6B eo;by_cases k11:o.Kind=11
  ·rw[if_pos (by simp[k11]),if_pos k11]
   refine Eq.trans (b:=(W7 x).bind λv4=>some (⟨v4.1,ps⟩,⟨u6 (v4.2.2-v4.2.1),0⟩)) rfl ?_;obtain⟨b1,b2⟩:=c1a hm hx hb;rw[d1R hx.rt hx.sl hx.zr,d6X];dsimp only;rw[D9 (by omega) (by omega)]
   rfl
  ·rw[if_neg (by simp[k11]),if_neg k11]
   by_cases k12:o.Kind=12
   ·rw[if_pos (by simp[k12]),if_pos k12]
    refine Eq.trans (b:=(a21 x ps o.A).bind λv5=>some (⟨v5.1,ps⟩,⟨v5.2.1,v5.2.2.2⟩)) rfl ?_;rw[k12] at hc;obtain⟨a0,a2⟩:=c50 hc;rw[drain_eq hx hm a0 (by omega) (by omega),d6X]
    rfl
   ·rw[if_neg (by simp[k12]),if_neg k12]
    refine Eq.trans (b:=(u7 x o).bind λv3=>some (⟨v3.1,ps⟩,⟨v3.2.1,v3.2.2⟩)) rfl ?_;rw[(a6Q hx.rt hx.sl hx.zr (by omega) o).mc,d6X]
    rfl
 ·rw[if_pos (by simpa using h),if_pos h]
  rfl
theorem rdo(row:List Int):c13 ⟨hO x,psR ps⟩ row=some (⟨hO (er ps x row).1,psR ps⟩,anR (er ps x row).2):=by
 unfold c13;rw[(b0F row).2,d6X];unfold er;by_cases h:(Q4 row).2=0
 ·rw[if_neg (show ¬(((Q4 row).2 != 0)=true) by simp[h]),if_neg (show ¬((Q4 row).2≠0) by simp[h])]
  have hc:=b7j h;generalize (Q4 row).1=o at hc;unfold eo;by_cases k11:o.Kind=11
  ·rw[if_pos (by simp[k11,b3c]),if_pos k11]
   obtain⟨b1,b2⟩:=c1a hm hx hb;dsimp only;rw[d4u hx.rt hx.sl hx.zr,d6X];dsimp only;rw[D9 (by omega) (by omega)]
   rfl
  ·rw[if_neg (by simp[k11,b3c]),if_neg k11]
   by_cases k12:o.Kind=12
   ·rw[if_pos (by simp[k12,b3c]),if_pos k12]
    rw[k12] at hc;obtain⟨a0,a2⟩:=c50 hc;refine Eq.trans (b:=(a9b (hO x) (psR ps) o.A).bind λv3=>some (⟨v3.1,psR ps⟩,⟨v3.2.1,v3.2.2.2⟩)) rfl ?_;rw[c9n hx hm a0 (by omega) (by omega),d6X]
    rfl
   ·rw[if_neg (by simp[k12,b3c]),if_neg k12]
    refine Eq.trans (b:=(C9 (hO x) (opR o)).bind λv3=>some (⟨v3.1,psR ps⟩,⟨v3.2.1,v3.2.2⟩)) rfl ?_;rw[(a6Q hx.rt hx.sl hx.zr (by omega) o).rf,d6X]
    rfl
 ·rw[if_pos (by simpa using h),if_pos h]
  rfl
end
section
variable{ps:List (List g6)}(hm:Mp ps){x:Hp}(hx:Oh x)
include hm hx
theorem c0v{rows:List (List Int)}{k:Nat}(hk:k<rows.length):ers ps x (rows.take (k+1))=((er ps (ers ps x (rows.take k)).1 rows[k]).1,(ers ps x (rows.take k)).2 ++ [(er ps (ers ps x (rows.take k)).1 rows[k]).2]):=by
 rw[List.take_succ_eq_append_getElem hk,c6j]
theorem c9o(rows:List (List Int))(hl:rows.length≤1000)(hb:x.S.Serial<6000000000000000000):W0 ⟨x,ps⟩ rows=some (⟨(ers ps x rows).1,ps⟩,(ers ps x rows).2.map anE):=by
 unfold W0;simp only[jn];refine K9 rows.length (λk s=>s=((⟨(ers ps x (rows.take k)).1,ps⟩:n7),(ers ps x (rows.take k)).2.map anE)) (by omega) rfl (λk s hk hs=>.inl ⟨_,?_,rfl⟩) (λs hs=>⟨s,if_neg (by simp),by rw[hs,List.take_length]⟩)
 subst hs;obtain⟨o1,o2⟩:=b14 hm hx (rows.take k) (by simp;omega)
 have hlen:=b7t ps x (rows.take k);have hkl:(rows.take k).length=k:=by simp;omega
 dsimp only;rw[if_pos (by simpa using hk),o7 hk,d6X,edo hm o1 (by rw[hkl] at o2;omega),d6X,y9 (by omega) (by simp[hlen];omega),d6X,l6,c0v hm hx hk]
 simp
theorem d6E(rows:List (List Int))(hl:rows.length≤1000)(hb:x.S.Serial<6000000000000000000):b3N ⟨hO x,psR ps⟩ rows=some (⟨hO (ers ps x rows).1,psR ps⟩,(ers ps x rows).2.map anR):=by
 unfold b3N;simp only[jn];refine K9 rows.length (λk s=>s=((⟨hO (ers ps x (rows.take k)).1,psR ps⟩:A2),(ers ps x (rows.take k)).2.map anR)) (by omega) rfl (λk s hk hs=>.inl ⟨_,?_,rfl⟩) (λs hs=>⟨s,if_neg (by simp),by rw[hs,List.take_length]⟩)
 subst hs;obtain⟨o1,o2⟩:=b14 hm hx (rows.take k) (by simp;omega)
 have hlen:=b7t ps x (rows.take k);have hkl:(rows.take k).length=k:=by simp;omega
 dsimp only;rw[if_pos (by simpa using hk),o7 hk,d6X,rdo hm o1 (by rw[hkl] at o2;omega),d6X,y9 (by omega) (by simp[hlen];omega),d6X,l6,c0v hm hx hk]
 simp
end
def tal(x:Hp):A4:=⟨ctO x.S.S.a8 0,ctO x.S.S.a8 1,ctO x.S.S.a8 2,ctO x.S.S.a8 3⟩
theorem d0z{s:a7}(hR:SR s):Q8 s.S=some ⟨ctO s.S.a8 0,ctO s.S.a8 1,ctO s.S.a8 2,ctO s.S.a8 3⟩:=by
 unfold Q8;simp only[jn];have hlen:=hR.len;refine K9 s.S.a8.length (λk t=>t=⟨ctO (s.S.a8.take k) 0,ctO (s.S.a8.take k) 1,ctO (s.S.a8.take k) 2,ctO (s.S.a8.take k) 3⟩) (by omega) (by simp[ctO]) (λk t hk ht=>.inl ?_) (λt ht=>⟨_,by simp;rfl,by rw[ht,List.take_length]⟩)
 have hc:=hR.cell k hk;rw[D2 hk] at hc;subst ht;simp only[Int.ofNat_lt,hk,decide_true,if_true,o7 hk,d6X];have hle:∀j,ctO (s.S.a8.take k) j≤24:=λj=>Nat.le_trans List.countP_le_length (by simp;omega)
 have h0:=hle 0;have h1:=hle 1;have h2:=hle 2;have h3:=hle 3;rw[List.take_succ_eq_append_getElem hk];simp only[b9p];refine⟨_,?_,rfl⟩;have hst:s.S.a8[k].State=0∨s.S.a8[k].State=1∨s.S.a8[k].State=2∨s.S.a8[k].State=3:=by omega
 rcases hst with e | e | e | e <;> rw[e] <;> simp[A4.ix,A4.l,A4.st,ix] <;> rw[l6,l6] <;> simp
section
variable{ps:List (List g6)}{x:Hp}(hx:M3 x)
include hx
theorem d4F:a1P ⟨x,ps⟩=some (tal x):=by
 unfold a1P;dsimp only;rw[d0z hx.sh.sr,d6X];rfl
theorem d1Y:a3N ⟨x,ps⟩=some (srs x):=by
 have hR:=hx.sh.sr;have l24:(lv x.S).length≤24:=F3 (u4.2 hR);unfold a3N;simp only[jn];rw[a1Y (u4.2 hR),d6X];refine K9 (lv x.S).length (λk l=>l=((lv x.S).take k).map λh=>ser x h) (by omega) rfl (λk l hk hl=>.inl ⟨_,?_,rfl⟩) (λl hl=>⟨l,if_neg (by simp),?_⟩)
 ·subst hl;dsimp only;have:=G8 hR (List.getElem_mem hk);rw[if_pos (by simpa using hk),o7 hk,d6X,c7V hx.sh (by omega),d6X,y9 (by omega) (by simp;omega),d6X,l6,List.take_succ_eq_append_getElem hk,List.map_append]
  rfl
 ·subst hl;rw[List.take_length];show (a9h (srs x)).bind _=_;have:=d0u (x:=x) hR;unfold a9h;rw[if_pos (by omega),c7Z hR]
  rfl
theorem d3y:b6F ⟨hO x,psR ps⟩=some (srs x):=by
 have hR:=hx.sh.sr;have l24:(lv x.S).length≤24:=F3 (u4.2 hR);unfold b6F;show (P3 (sO x.S)).bind _=_;rw[a6M (u4.2 hR),d6X];simp only[jn];refine K9 (lv x.S).length (λk l=>l=((lv x.S).take k).map λh=>ser x h) (by omega) rfl (λk l hk hl=>.inl ⟨_,?_,rfl⟩) (λl hl=>⟨l,if_neg (by simp),?_⟩)
 ·subst hl;dsimp only;have:=G8 hR (List.getElem_mem hk);rw[if_pos (by simpa using hk),o7 hk,d6X,c7U hx.sh (by omega),d6X,y9 (by omega) (by simp;omega),d6X,l6,List.take_succ_eq_append_getElem hk,List.map_append]
  rfl
 ·subst hl;rw[List.take_length];rfl
theorem c6h(hS:SL x):a1O ⟨x,ps⟩=some (x.Q.L.isEmpty&&decide (Z5 x = [])):=by
 unfold a1O;dsimp only;rw[b7p,d6X,d1Q hx hS];cases x.Q.L.isEmpty <;> rfl
theorem d3B(hS:SL x):b6G ⟨hO x,psR ps⟩=some (x.Q.L.isEmpty&&decide (Z5 x = [])):=by
 unfold b6G;dsimp only;rw[c24,d6X,d4s hx hS];cases x.Q.L.isEmpty <;> rfl
end
end Go.Sh
namespace Go.Sh
theorem Rs.oh{x:Hp}{n:Nat}(h:Rs x n):Oh x:=⟨h.rt,h.sl,h.zr⟩
theorem c0L{l:List (List g6)}(hl:l.length≤12)(hp:∀p∈l,p.length≤12):a9p l=some (psR l):=by
 unfold a9p;simp only[jn];refine K9 l.length (λk acc=>acc=(l.take k).map (List.map opR)) (by omega) (by simp) (λk acc hk hacc=>.inl ⟨_,?_,rfl⟩) (λacc hacc=>⟨_,if_neg (by simp),by rw[hacc,List.take_length]⟩)
 subst hacc;have hm:=hp _ (List.getElem_mem hk);dsimp only;rw[if_pos (by simpa using hk)]
 have e:=a4n (b:=32) opR l[k] (by omega) (by omega)
 simp only[opR] at e;simp only[o7 hk,d6X];rw[e,d6X,y9 (by omega) (by simp;omega),d6X,l6,List.take_succ_eq_append_getElem hk,List.map_append]
 rfl
theorem c2j(l:List (List g6)):∃b,a4D l=some b∧(b=true→l.length≤10∧∀p∈l,p.length≤10):=by
 unfold a4D;simp only[jn];refine d4y (Q:=λb=>b=true→l.length≤10∧(∀p∈l,p.length≤10)) (min l.length 10) (λk=>∀h:k<l.length,(l[k]).length≤10) (by have:min l.length 10≤10:=Nat.min_le_right ..;omega) (λk hk=>?_) ?_ (λhP=>?_) (λhP=>?_)
 ·have hkl:k<l.length:=by omega
  have hk10:k<10:=by omega
  have c:((decide (((k:Nat):Int)<(l.length:Int)))&&(decide (((k:Nat):Int)<10)))=true:=by simp;omega
  by_cases q:(l[k]).length≤10
  ·refine⟨_,?_,.inl ⟨λ_=>q,rfl⟩⟩;rw[if_pos c,o7 hkl,d6X,if_neg (by simp;omega),l6]
  ·refine⟨_,?_,.inr ⟨λh=>q (h hkl),rfl⟩⟩;rw[if_pos c,o7 hkl,d6X,if_pos (by simp;omega)]
 ·rw[if_neg (by simp;omega)]
 ·refine⟨_,rfl,λh=>?_⟩;have h10:l.length≤10:=by have:=of_decide_eq_true h;omega
  refine⟨h10,λp hp=>?_⟩;obtain⟨k,hk,rfl⟩:=List.getElem_of_mem hp;exact hP k (by omega) hk
 ·exact⟨false,rfl,λh=>by cases h⟩
theorem b8y(l:List (List Int))(m:Int):∃b,a0H l m=some b∧(b=true→(l.length:Int)≤m):=by
 unfold a0H;simp only[jn];refine d4y (Q:=λb=>b=true→(l.length:Int)≤m) (min l.length 200) (λk=>∀h:k<l.length,(l[k]).length≤10) (by have:min l.length 200≤200:=Nat.min_le_right ..;omega) (λk hk=>?_) ?_ (λhP=>?_) (λhP=>?_)
 ·have hkl:k<l.length:=by omega
  have hk10:k<200:=by omega
  have c:((decide (((k:Nat):Int)<(l.length:Int)))&&(decide (((k:Nat):Int)<200)))=true:=by simp;omega
  by_cases q:(l[k]).length≤10
  ·refine⟨_,?_,.inl ⟨λ_=>q,rfl⟩⟩;rw[if_pos c,o7 hkl,d6X,if_neg (by simp;omega),l6]
  ·refine⟨_,?_,.inr ⟨λh=>q (h hkl),rfl⟩⟩;rw[if_pos c,o7 hkl,d6X,if_pos (by simp;omega)]
 ·rw[if_neg (by simp;omega)]
 ·exact⟨_,rfl,λh=>of_decide_eq_true h⟩
 ·exact⟨false,rfl,λh=>by cases h⟩
theorem d09{n last places:Int}{ps:List (List g6)}(hl:ps.length≤12)(hp:∀p∈ps,p.length≤12) :
  (∃e,J2 n last places ps=some (⟨b4D,[]⟩,e)∧b1u n last places (psR ps)=some (⟨hO b4D,[]⟩,e)∧(e=13∨e=1∧¬((1≤n∧n≤24)∧(0≤last∧last≤9)∧1≤places∧places≤8))) ∨
  (∃k p:Nat,n=k∧places=p∧(1≤k∧k≤24)∧Mp ps∧Rs (nwH k last p) 0∧J2 n last places ps=some (⟨nwH k last p,ps⟩,0)∧b1u n last places (psR ps)=some (⟨hO (nwH k last p),psR ps⟩,0)):=by
 have e1:a4c ps=some (a6V ps):=c7t (by omega) hp
 have e2:a51 (psR ps)=some (a6V ps):=c1L (by omega) hp
 unfold J2 b1u;rw[e1,e2,d6X,d6X];cases hq:a6V ps;·exact .inl ⟨13,rfl,rfl,.inl rfl⟩
 ·simp only[Bool.not_true,Bool.false_eq_true,if_false];by_cases h:(1≤n∧n≤24)∧(0≤last∧last≤9)∧1≤places∧places≤8
  ·right;obtain⟨h1,h2,h3⟩:=h;obtain⟨k,rfl⟩:∃k:Nat,n=k:=⟨n.toNat,by omega⟩
   obtain⟨p,rfl⟩:∃p:Nat,places=p:=⟨places.toNat,by omega⟩
   obtain⟨a1,a2,hx,hS,hz⟩:=c6D (k:=k) (p:=p) (l:=last) (by omega) h2 (by omega)
   refine⟨k,p,rfl,rfl,by omega,(d4V hq).1,⟨hx,hS,hz,Int.le_refl _⟩,?_,?_⟩
   ·rw[a1,d6X,hx.sh.r6];rfl
   ·rw[a2,d6X,show (hO (nwH k last p)).Roots.length=6 from hx.sh.r6];rfl
  ·left;have a1:a1V n last places=some b4D:=by
    unfold a1V;rw[if_pos (by simp;omega)]
    rfl
   have a2:a89 n last places=some (hO b4D):=by
    unfold a89;rw[if_pos (by simp;omega)]
    rfl
   refine⟨1,?_,?_,.inr ⟨rfl,h⟩⟩;·rw[a1];rfl
   ·rw[a2];rfl
theorem d3C{x:Hp}{n:Nat}(hx:Rs x n)(hn:n≤1000000){ps:List (List g6)}(hm:Mp ps){rows:List (List Int)}(hl:rows.length≤1000){r:A2 × List p8}(h:b3N ⟨hO x,psR ps⟩ rows=some r) :
  W0 ⟨x,ps⟩ rows=some (⟨hOI r.1.X,ps⟩,r.2.map λa=>⟨a.V,a.E⟩)∧Rs (hOI r.1.X) (n+201*rows.length)∧(ers ps x rows).1=hOI r.1.X∧(ers ps x rows).2=r.2.map λa=>(a.V,a.E):=by
 have hs:=hx.ser;have e:=d6E hm hx.oh rows hl (by omega)
 rw[h] at e;have e:=Option.some.inj e;obtain⟨o1,o2⟩:=b14 hm hx.oh rows (by omega)
 have a1:(ers ps x rows).1=hOI r.1.X:=by rw[e,d2r]
 have a2:(ers ps x rows).2=r.2.map λa=>(a.V,a.E):=by
  rw[e,List.map_map];conv=>lhs;rw[←List.map_id (ers ps x rows).2]
  exact List.map_congr_left λp _=>rfl
 refine⟨?_,⟨a1▸o1.rt,a1▸o1.sl,a1▸o1.zr,?_⟩,a1,a2⟩
 ·rw[c9o hm hx.oh rows hl (by omega),a1,a2,List.map_map]
  congr 1
 ·have:(hOI r.1.X).S.Serial≤x.S.Serial+201*(rows.length:Int):=a1▸o2;show (hOI r.1.X).S.Serial≤((n+201*rows.length:Nat):Int);omega
def c7M:List (List Int):=[[1,0,1,(-1)],[5,0,0,0],[3,0,0,0],[11,0,0,0],[11,0,0,0],[12,9,0,0],[2,0],[4,0,1,0]]
def d6D:A2 × List p8:=(b3N ⟨hO (nwH 4 5 8),[]⟩ c7M).getD (⟨hO b4D,[]⟩,[])
theorem d2K:Mp []:=λ_ h=>by cases h
theorem b8z:V3=some true:=by
 obtain⟨a1,a2⟩:=d3D (k:=4) (p:=8) (l:=5) (by decide) (by decide) (by decide)
 obtain⟨b1,b2,_,_⟩:=d3C a2 (by decide) d2K (rows:=c7M) (by decide) (r:=d6D) (by kernel_rfl)
 unfold V3;refine bnd (a:=((⟨nwH 4 5 8,[]⟩:n7),(0:Int))) (by unfold J2;refine bnd (a:=true) (by kernel_rfl) ?_;refine bnd a1 ?_;kernel_rfl) ?_
 refine bnd b1 ?_;dsimp only;rw[d1Y b2.rt,d4F b2.rt,c6h b2.rt b2.sl,←d3y (ps:=[]) b2.rt,←d3B (ps:=[]) b2.rt b2.sl];kernel_rfl
end Go.Sh
namespace Go.Sh
end Go.Sh
namespace Go.Sh
theorem d6o:a7l b4D=some true:=by kernel_rfl
theorem d6p:a3m b4D=some (hO b4D):=by kernel_rfl
theorem d6F:a8p (hO b4D) (hO b4D)=some true:=by kernel_rfl
theorem d5A{n:Int}(h0:0≤n)(h1:n≤255):u6 n=n:=D9 (by omega) (by omega)
theorem d4H{l:List (List g6)}{rows:List (List Int)}{m:Int}{K:Option Bool}(h:l.length≤10→(∀p∈l,p.length≤10)→(rows.length:Int)≤m→K=some true) :
  ((a4D l).bind λv1=>(p9 ((!v1)==false) false (a0H rows m)).bind λv2=>(p9 (((!v1)||(!v2))==false) false V3).bind λv3=>if (((!v1)||(!v2))||(!v3)) then (V3).bind λv4=>some v4 else K)=some true:=by
 obtain⟨b,h1,h2⟩:=c2j l;obtain⟨c,h3,h4⟩:=b8y rows m;rw[h1,d6X,b8z];cases b;·rfl
 ·rw[show p9 ((!true)==false) false (a0H rows m)=a0H rows m from rfl,h3,d6X];cases c;·rfl
  ·exact h (h2 rfl).1 (h2 rfl).2 (h4 rfl)
theorem engineNew{n last places:Int}{l:List (List g6)}:a5x n last places l=some true:=by
 unfold a5x;obtain⟨b,h1,h2⟩:=c2j l;rw[h1,d6X,b8z];cases b;·rfl
 ·obtain⟨hl,hp⟩:=h2 rfl;have hp12:∀p∈l,p.length≤12:=λp q=>by have:=hp p q;omega
  simp only[Bool.not_true,beq_self_eq_true,Q6,d6X,Bool.or_self,Bool.false_eq_true,if_false];rcases d09 (n:=n) (last:=last) (places:=places) (ps:=l) (by omega) hp12 with ⟨e,e1,e2,_⟩ | ⟨k,p,rfl,rfl,hk,hm,hr,e1,e2⟩
  ·rw[e1,d6X,c0L (by omega) hp12,d6X,e2,d6X]
   dsimp only;rw[d6o,d6X,beq_self_eq_true,Bool.and_self,beq_self_eq_true,Q6,d6p,d6X,Q6,d6F,d6X];rfl
  ·rw[e1,d6X,c0L (by omega) hp12,d6X,e2,d6X]
   dsimp only;rw[d0V hr.rt.sh,d6X,beq_self_eq_true,Bool.and_self,beq_self_eq_true,Q6,c3a hr.rt.sh,d6X,Q6,d3F hr.rt.sh,d6X];simp[psR]
theorem d3T(l:List (Int × Int))(hl:l.length≤1000):a3l (l.map anE)=some (l.map anR):=by
 unfold a3l;simp only[jn];refine K9 l.length (λk acc=>acc=(l.take k).map anR) (by omega) (by simp) (λk acc hk hacc=>.inl ⟨_,?_,rfl⟩) (λacc hacc=>⟨_,if_neg (by simp),by rw[hacc,List.take_length]⟩)
 subst hacc;have hk':k<(l.map anE).length:=by simpa using hk
 dsimp only;rw[if_pos (by simpa using hk),o7 hk',d6X,List.getElem_map,y9 (by omega) (by simp;omega),d6X,l6,List.take_succ_eq_append_getElem hk,List.map_append]
 rfl
theorem d3r(l:List p8)(hl:l.length≤1000):a5c l l=some true:=by
 unfold a5c;rw[if_neg (by simp)]
 simp only[jn];refine U5 l.length (λ_=>True) (by omega) trivial (λk hk _=>.inl ⟨?_,trivial⟩) (λ_=>⟨.inr (),if_neg (by simp),rfl⟩)
 rw[if_pos (by simpa using hk),o7 hk,d6X,d6X,if_neg (by simp),l6]
theorem d5a{n last:Int}(h0:0≤n)(h1:n≤255){ps:List (List g6)}(hl:ps.length≤12)(hp:∀p∈ps,p.length≤12)(hL:0≤last∧last≤9) :
  (J2 (u6 (1+n % 24)) last 8 ps=some (⟨b4D,[]⟩,13))∨(∃k:Nat,1+n % 24=k∧(1≤k∧k≤24)∧Mp ps∧Rs (nwH k last 8) 0∧J2 (u6 (1+n % 24)) last 8 ps=some (⟨nwH k last 8,ps⟩,0)):=by
 have hw:u6 (1+n % 24)=1+n % 24:=D9 (by omega) (by omega)
 rw[hw];rcases d09 (n:=1+n % 24) (last:=last) (places:=8) (ps:=ps) hl hp with ⟨e,e1,_,e3⟩ | ⟨k,p,hk,hpp,hk2,hm,hr,e1,_⟩
 ·rcases e3 with rfl | ⟨_,h⟩
  ·exact .inl e1
  ·exact absurd ⟨by omega,hL,by omega,by omega⟩ h
 ·obtain rfl:p=8:=by omega
  exact .inr ⟨k,hk,hk2,hm,hr,e1⟩
theorem c7C{n:Int}(h0:0≤n)(h1:n≤255){b:Int}(hb:0<b):rem (u6 n) b=some (n % b):=by rw[d5A h0 h1,a9d h0 hb]
theorem engineWrong{n:Int}{l:List (List g6)}{rows more:List (List Int)}{bad:List Int}(h0:0≤n)(h1:n≤255):a3C n l rows bad more=some true:=by
 unfold a3C;obtain⟨b,b1,b2⟩:=c2j l;obtain⟨c,c1,c2⟩:=b8y rows 40;obtain⟨d,d1,d2⟩:=b8y more 40;rw[b1,d6X,b8z,c1,d1];cases b;·rfl
 cases c;·rfl
 cases d;·rfl
 cases hd:decide ((bad.length:Int) > 10);case true=>simp[p9]
 obtain⟨hl,hp⟩:=b2 rfl;have hr:=c2 rfl;have hr2:=d2 rfl;have hp12:∀p∈l,p.length≤12:=λp q=>by have:=hp p q;omega
 simp only[Bool.not_true,Bool.or_self,beq_self_eq_true,Q6,d6X,Bool.false_eq_true,if_false];rw[c7C h0 h1 (by decide),d6X]
 rcases d5a (last:=3) h0 h1 (ps:=l) (by omega) hp12 (by omega) with e1 | ⟨k,hk,hk2,hm,hr0,e1⟩
 ·rw[e1,d6X,(b0F bad).2,d6X];rfl
 ·have hs:=hr0.ser;obtain⟨o1,o2⟩:=b14 hm hr0.oh rows (by omega)
  obtain⟨p1,p2⟩:=b14 hm o1 more (by omega)
  rw[e1,d6X,(b0F bad).2,d6X];dsimp only;by_cases he:(Q4 bad).2=0
  ·rw[if_pos (by simp[he])]
   rfl
  ·rw[if_neg (by simp[he])]
   have hlen:=b7t l (ers l (nwH k 3 8) rows).1 more;have ed:=edo hm o1 (by omega) bad
   have eq:er l (ers l (nwH k 3 8) rows).1 bad=((ers l (nwH k 3 8) rows).1,0,(Q4 bad).2):=by unfold er;rw[if_pos he]
   rw[eq] at ed;rw[c9o hm hr0.oh rows (by omega) (by omega),d6X]
   dsimp only;rw[ed,d6X];dsimp only;rw[c9o hm o1 more (by omega) (by omega),d6X,d6X]
   have ea:(((anE (0,(Q4 bad).2)).V==0)&&(((anE (0,(Q4 bad).2)).E==(Q4 bad).2)&&true))=true:=by simp[anE]
   rw[ea,beq_self_eq_true];simp only[Q6];rw[d3T _ (by omega),d6X,d6X,d3r _ (by simp;omega)]
   rfl
end Go.Sh
namespace Go.Sh
theorem d2a(ps:List (List g6))(x:Hp):er ps x [11,0,0,0]=(T9 x,cgn x-((btc x).length:Int),0):=by
 have:Q4 [11,0,0,0]=(⟨11,0,0,0⟩,0):=by kernel_rfl
 unfold er;rw[this,if_neg (by simp)]
 rfl
theorem c6i(ps:List (List g6))(x:Hp){f:Int}(hd:Q4 [12,f,0,0]=(⟨12,f,0,0⟩,0)):er ps x [12,f,0,0]=((dr ps (x,f)).1,(dn ps (x,f):Int),dre (dr ps (x,f))):=by
 unfold er;rw[hd,if_neg (by simp)]
 rfl
theorem c9m(ps:List (List g6))(x:Hp):dn ps (x,0)=0∧dr ps (x,0)=(x,0):=by
 have h:=(b7m ps (p:=(x,0)) (Int.le_refl _)).1;have h0:dn ps (x,0)=0:=by dsimp only at h;omega
 refine⟨h0,?_⟩;unfold dr;rw[h0];rfl
theorem c19{x:Hp}(hx:M3 x)(hq:x.Q.L = []){h:Int}:W5 x.S x.T (x.Roots++(lv x.S).filter λh=>decide (12≤(ob x.S h).Strong)) h↔W5 x.S x.T (hdx x) h:=by
 have key:∀y,y∈lv x.S→(y∈x.Roots++((lv x.S).filter λh=>decide (12≤(ob x.S h).Strong))↔y∈hdx x):=λy hy=>by
  rw[←c93 hx hy];have h0:y≠0:=λe=>a8d hx.sh.sr (e▸hy);unfold out otr b4z;rw[hq];simp[nz,h0]
 exact⟨W5.mono (λ_ _ q=>q) λy hy hl=>.base ((key y hl).1 hy) hl,W5.mono (λ_ _ q=>q) λy hy hl=>.base ((key y hl).2 hy) hl⟩
theorem c9q{x:Hp}(hx:M3 x)(hg:Z5 x = []):frc x.S x.T (hdx x)=lv x.S:=by
 classical
 unfold frc;rw[List.filter_eq_self];intro h hh;refine decide_eq_true (Classical.not_not.1 λq=>?_);have:h∈Z5 x:=Z6.2 ⟨hh,q⟩;rw[hg] at this;cases this
theorem engineQuiet{n last:Int}{l:List (List g6)}{rows:List (List Int)}(h0:0≤n)(h1:n≤255)(g0:0≤last)(g1:last≤255):a3B n last l rows=some true:=by
 unfold a3B;refine d4H λhl hp hr=>?_;have hp12:∀p∈l,p.length≤12:=λp q=>by have:=hp p q;omega
 rw[c7C h0 h1 (by decide),d6X,c7C g0 g1 (by decide),d6X]
 rcases d5a (last:=last % 10) h0 h1 (ps:=l) (by omega) hp12 (by omega) with e1 | ⟨k,hk,hk2,hm,hr0,e1⟩
 ·rw[e1,d6X];rfl
 ·have hs:=hr0.ser;obtain⟨o1,o2⟩:=b14 hm hr0.oh rows (by omega)
  rw[e1,d6X];dsimp only;rw[if_neg (by simp),c9o hm hr0.oh rows (by omega) (by omega),d6X]
  dsimp only;generalize (ers l (nwH k (last % 10) 8) rows).1=x at o1 o2;obtain⟨c1,c2,c3⟩:=b4c o1.rt o1.sl o1.zr;have oc:Oh (T9 x):=⟨c1,c2,c3⟩;have sc:=c2Z o1.rt o1.sl o1.zr;have ed1:a0u ⟨x,l⟩ [11,0,0,0]=some (⟨T9 x,l⟩,⟨cgn x-((btc x).length:Int),0⟩):=by rw[edo hm o1 (by omega),d2a];rfl
  rw[ed1,d6X];dsimp only;have hd0:Q4 [12,0,0,0]=(⟨12,0,0,0⟩,0):=by kernel_rfl
  obtain⟨z1,z2⟩:=c9m l (T9 x);have ed2:a0u ⟨T9 x,l⟩ [12,0,0,0]=some (⟨T9 x,l⟩,⟨0,dre (T9 x,0)⟩):=by rw[edo hm oc (by omega),c6i l (T9 x) hd0,z1,z2];rfl
  rw[ed2,d6X];dsimp only;have hde:dre (T9 x,0)=if (T9 x).Q.L.isEmpty then 0 else 12:=rfl
  by_cases hb:btc x = []
  ·have hV:¬(cgn x-((btc x).length:Int)<0):=by
    obtain⟨b1,b2⟩:=c1a hm o1 (by omega)
    have hle:(lv (T9 x).S).length≤(lv x.S).length:=by
     rw[d1S o1.rt o1.sl o1.zr,if_pos hb];exact List.length_filter_le ..
    unfold cgn;rw[if_pos hb,hb];simp;omega
   have hD:∀i:Decidable (cgn x-((btc x).length:Int)<0),@decide _ i=false:=λi=>by simp[hV]
   rw[hD,Bool.false_or];cases hQ:(T9 x).Q.L with
   | cons t ts=>
    have:dre (T9 x,0)=12:=by rw[hde,hQ];rfl
    rw[this];rfl
   | nil=>
    have hd:dre (T9 x,0)=0:=by rw[hde,hQ];rfl
    have hg:=(c4o o1.rt hb).1;rw[hd];have q:∀ {α:Type} (d:α) (z:Option α),p9 (((0:Int) != 0)==false) d z=z:=λ_ _=>rfl;rw[q,d0V c1.sh,d6X,if_neg (by simp),c3a c1.sh,d6X]
    have r6:=c1.sh.r6;have hR:=c1.sh.sr;have l24:=hR.len;have lv24:(lv (T9 x).S).length≤24:=F3 (u4.2 hR);have hBx:=c6C c1 c2;have t8:=c1.sh.hr.l8;rw[show (hO (T9 x)).Roots=(T9 x).Roots from rfl,K4 (by omega) (by omega),d6X,show (hO (T9 x)).S=sO (T9 x).S from rfl,a6M (u4.2 hR),d6X]
    simp only[jn];refine K9 (lv (T9 x).S).length (λj b=>b=(T9 x).Roots++((lv (T9 x).S).take j).filter λh=>decide (12≤(ob (T9 x).S h).Strong)) (by omega) (by simp) (λj b hj hP=>?_) (λb hP=>?_)
    ·subst hP;have hmm:=List.getElem_mem hj;have hle:(((lv (T9 x).S).take j).filter λh=>decide (12≤(ob (T9 x).S h).Strong)).length≤24:=Nat.le_trans (List.length_filter_le ..) (by simp;omega)
     refine .inl ⟨_,?_,rfl⟩;rw[if_pos (by simpa using hj),o7 hj,d6X,a71 hR hmm,d6X,J9 hj,List.filter_append]
     have e:V0 (oo (ob (T9 x).S (lv (T9 x).S)[j]),(0:Int)).1.Strong=some (decide (12≤(ob (T9 x).S (lv (T9 x).S)[j]).Strong)):=rfl;rw[e,d6X];by_cases hd:12≤(ob (T9 x).S (lv (T9 x).S)[j]).Strong
     ·rw[decide_eq_true hd,if_pos rfl,y9 (by omega) (by simp;omega),d6X,l6]
      simp[hd]
     ·rw[decide_eq_false hd,if_neg (by simp),l6]
      simp[hd]
    ·subst hP;refine⟨_,if_neg (by simp),?_⟩
     rw[List.take_length];have hcl:(sO (T9 x).S).a8.length=(T9 x).S.S.a8.length:=by simp[sO]
     refine a00 (λj=>(((ctO ((T9 x).S.S.a8.take j) 2:Nat):Int),(j:Int))) rfl (T9 x).S.S.a8.length (λ_=>True) (by omega) trivial (λj hj _=>.inl ⟨?_,trivial⟩) (λ_=>⟨.inr ((ctO (T9 x).S.S.a8 2:Nat):Int),?_,?_⟩)
     ·have hj':j<(sO (T9 x).S).a8.length:=by rw[hcl];exact hj
      have ec:(sO (T9 x).S).a8[j]=cO (T9 x).S.S.a8[j]:=by simp[sO]
      have hle:ctO ((T9 x).S.S.a8.take j) 2≤24:=Nat.le_trans List.countP_le_length (by simp;omega)
      dsimp only;rw[if_pos (by rw[hcl];simpa using hj),o7 hj',d6X,ec,List.take_succ_eq_append_getElem hj,b9p]
      have es:(cO (T9 x).S.S.a8[j]).State=(T9 x).S.S.a8[j].State:=rfl;rw[es];by_cases h2:(T9 x).S.S.a8[j].State=2
      ·have hw:=(c1.wk j hj (by unfold Th;rw[D2 hj];exact .inr h2)).2 (by rw[D2 hj];exact h2)
       rw[D2 hj] at hw;have ew:(cO (T9 x).S.S.a8[j]).Val.Weak=(T9 x).S.S.a8[j].Val.Weak:=rfl;rw[if_neg (by simp[h2]),ew,if_neg (by simp;omega),if_pos h2,D9 (by omega) (by omega),l6]
       simp
      ·rw[if_pos (by simpa using h2),if_neg h2,l6]
       simp
     ·dsimp only;rw[if_neg (by rw[hcl];simp),List.take_length]
     ·dsimp only;have outl:((T9 x).Roots++(lv (T9 x).S).filter λh=>decide (12≤(ob (T9 x).S h).Strong)).length≤3000:=by
       rw[List.length_append];have:=List.length_filter_le (λh=>decide (12≤(ob (T9 x).S h).Strong)) (lv (T9 x).S);omega
      rw[show (hO (T9 x)).T=(T9 x).T.map L3 from rfl,b4n (u4.2 hR) c1.sh.hr hBx.tb (by omega),d6X,c4w (m:=hdx (T9 x)) (u:=(T9 x).T) (λh=>c19 c1 hQ),c9q c1 hg,b4E (by omega),d6X]
      simp only[beq_self_eq_true,Q6];rw[c6h c1 c2,d6X,hQ,hg];simp only[List.isEmpty_nil,decide_true,Bool.and_self,beq_self_eq_true,Q6];rw[d4F c1,d6X];simp[tal]
  ·have hV:cgn x-((btc x).length:Int)<0:=by
    have:0<(btc x).length:=List.length_pos_iff.2 hb;unfold cgn;rw[if_neg hb];omega
   have hD:∀i:Decidable (cgn x-((btc x).length:Int)<0),@decide _ i=true:=λi=>by simp[hV]
   rw[hD];rfl
end Go.Sh
