/-
 More of the theory.
-/
import Derived.Test.YtjpgbnlcefhaiaaGreatW24aT2
set_option linter.unusedVariables false
set_option linter.unusedSimpArgs false
set_option linter.unusedSectionVars false
namespace Go.Sh
theorem c3t{c:Int}(h:0≤c):1≤R1 c:=by unfold R1;split <;> (try split) <;> omega
theorem b9u{x:Hp}(hR:SR x.S){h:Int}(hh:h∈lv x.S){k:Int}(hk:k∈lv x.S):(ob (quH x h).S k).Strong=if k=h then R1 (ob x.S k).Strong else (ob x.S k).Strong:=by
 have oko:=F5 hR hh;have ho:OkO x.S (srt (ob x.S h)):=⟨oko.s1,oko.s2,oko.st,oko.wk,oko.p1,oko.p2,oko.fl⟩;have r1:=a0x (o:=srt (ob x.S h)) hR hh rfl ho;have l1:lv (seO x.S h (srt (ob x.S h)))=lv x.S:=a23 (o:=srt (ob x.S h)) hR hh rfl ho;have hr:=F6 hR hk;have e1:(ob (seO x.S h (srt (ob x.S h))) k).Strong=(ob x.S k).Strong:=by
  rw[a2h (o:=srt (ob x.S h)) hR hh rfl ho (by omega)]
  split;·rename_i e;subst e;rfl
  ·rfl
 have:=b1t (x:=⟨seO x.S h (srt (ob x.S h)),x.Roots,x.a8,x.T,⟨x.Q.L ++ [qtk x h],x.Q.Cap⟩⟩) r1 (h:=h) (f:=R1) (λc=>B3) (k:=k) (by
  show k∈lv (seO x.S h (srt (ob x.S h)));rw[l1];exact hk)
 rw[show (ob (quH x h).S k).Strong=_ from this];show (if k=h then R1 (ob (seO x.S h (srt (ob x.S h))) k).Strong else (ob (seO x.S h (srt (ob x.S h))) k).Strong)=_
 rw[e1]
theorem c9w{x:Hp}(hx:K5 x)(hz:zr x = []){h:Int}(hh:h∈lv x.S):zr (quH x h) = []:=List.eq_nil_iff_forall_not_mem.2 λk hk=>by
 obtain⟨a,b⟩:=a05.1 hk;rw[b6k hx.sh.sr hh] at a;rw[b9u hx.sh.sr hh a] at b;have h0:=(F5 hx.sh.sr a).st;have hn:(ob x.S k).Strong≠0:=λq=>by
  have:k∈zr x:=a05.2 ⟨a,q⟩;rw[hz] at this;cases this
 split at b;·have:=c3t h0;omega
 ·exact hn b
structure Qd (x y:Hp) (l:List Int):Prop where
 rt:K5 y
 sl:SL y
 zr:zr y = []
 lv:lv y.S=lv x.S
 ob:∀k∈Sh.lv x.S,∃n,Sh.ob y.S k=stg (if k∈l then srt (Sh.ob x.S k) else Sh.ob x.S k) n
 ro:y.Roots=x.Roots
 ce:y.a8=x.a8
 t:y.T=x.T
 q:y.Q=⟨x.Q.L++l.map (qtk x),x.Q.Cap⟩
 P7:y.S.Serial=x.S.Serial
theorem c6B{x:Hp}(hR:SR x.S){h:Int}(hh:h∈lv x.S):(quH x h).S.Serial=x.S.Serial:=(a6a hR hh).1.P7
theorem b9v:∀(l:List Int) {x:Hp},K5 x→SL x→Sh.zr x = []→l.Nodup→(∀h∈l,h∈Sh.lv x.S∧due (Sh.ob x.S h)=true)→Qd x (l.foldl quH x) l
 | [],x,hx,hS,hz,_,_=>⟨hx,hS,hz,rfl,λk hk=>⟨(Sh.ob x.S k).Strong,by rw[if_neg (by simp)];rfl⟩,rfl,rfl,rfl,by simp,rfl⟩
 | h::l,x,hx,hS,hz,hn,hd=>by
  obtain⟨hl,hdu⟩:=hd h (List.mem_cons_self ..);have hR:=hx.sh.sr;rw[List.nodup_cons] at hn;have q2:=hdu;unfold due at q2;rw[Bool.and_eq_true,decide_eq_true_iff,Bool.not_eq_true'] at q2;have h1:=b1a hx hl q2.1 q2.2;have h2:=c4m hR hS hl;have h3:=c9w hx hz hl;have lq:=b6k hR hl;have oq:∀k∈Sh.lv x.S,k≠h→∃n,Sh.ob (quH x h).S k=stg (Sh.ob x.S k) n:=λk hk hne=>by
   obtain⟨n,e⟩:=b3r hR hl hk;rw[if_neg hne] at e;exact⟨n,e⟩
  have ih:=b9v l h1 h2 h3 hn.2 λk hk=>by
   obtain⟨a,b⟩:=hd k (List.mem_cons_of_mem _ hk);obtain⟨n,e⟩:=oq k a λe=>hn.1 (e▸hk);refine⟨by rw[lq];exact a,?_⟩
   rw[e];exact b
  obtain⟨_,k1,k2,k3,k4⟩:=a6a hR hl;refine⟨ih.rt,ih.sl,ih.zr,ih.lv.trans lq,λk hk=>?_,ih.ro.trans k1,ih.ce.trans k2,ih.t.trans k3,?_,ih.P7.trans (c6B hR hl)⟩
  ·obtain⟨n,e⟩:=ih.ob k (by rw[lq];exact hk)
   obtain⟨m,e2⟩:=b3r hR hl hk;refine⟨n,?_⟩;show Sh.ob (l.foldl quH (quH x h)).S k=_;rw[e];by_cases c:k=h
   ·subst c;rw[if_neg hn.1,if_pos (List.mem_cons_self ..),e2,if_pos rfl]
   ·rw[if_neg c] at e2;by_cases c2:k∈l
    ·rw[if_pos c2,if_pos (List.mem_cons_of_mem _ c2),e2]
    ·rw[if_neg c2,if_neg (λq=>by
      rcases List.mem_cons.1 q with r | r
      ·exact c r
      ·exact c2 r),e2]
  ·show (l.foldl quH (quH x h)).Q=_;rw[ih.q,k4];have:l.map (qtk (quH x h))=l.map (qtk x):=List.map_congr_left λk hk=>by
    obtain⟨a,_⟩:=hd k (List.mem_cons_of_mem _ hk);obtain⟨n,e⟩:=oq k a λe=>hn.1 (e▸hk);show (⟨1,k,(Sh.ob (quH x h).S k).Prog⟩:g9)=⟨1,k,(Sh.ob x.S k).Prog⟩;rw[e]
   rw[this];simp
noncomputable def btc(x:Hp):List Int:=(gbg x).filter λh=>due (Sh.ob x.S h)
noncomputable def col(x:Hp):Hp:=if btc x = [] then buH x (gbg x) else (btc x).foldl quH x
theorem b5x{x:Hp}:∀h∈btc x,h∈Sh.lv x.S∧due (Sh.ob x.S h)=true:=λh hh=>by
 obtain⟨a,b⟩:=List.mem_filter.1 hh;exact⟨(a0a.1 a).1,b⟩
theorem c2I{x:Hp}(hx:K5 x):(btc x).Nodup:=List.Pairwise.filter _ (a2T hx)
theorem c2J{x:Hp}(hx:K5 x)(hS:SL x)(hz:zr x = []):Qd x ((btc x).foldl quH x) (btc x):=b9v _ hx hS hz (c2I hx) b5x
theorem b5C{x:Hp}(hx:K5 x)(hS:SL x)(hz:zr x = []):K5 (col x)∧SL (col x)∧zr (col x) = []:=by
 unfold col;split;·exact⟨V3 hx,c2K hx.sh.sr hS (a2T hx) (a16 hx),b7h (V3 hx) (b7t hx)⟩
 ·have q:=c2J hx hS hz;exact⟨q.rt,q.sl,q.zr⟩
end Go.Sh
namespace Go.Sh
theorem c2U{y:Hp}(h:btc y = []):col y=buH y (gbg y):=by
 unfold col;rw[if_pos h]
section
variable{x:Hp}(hx:K5 x)
include hx
end
end Go.Sh
namespace Go.Sh
structure Rs (x:Hp) (n:Nat):Prop where
 rt:K5 x
 sl:SL x
 zr:zr x = []
 P7:x.S.Serial≤n
end Go.Sh
namespace Go.Sh
section
variable{x:Hp}(hx:K5 x)(hS:SL x)
include hx hS
theorem c2M:N5 x=some (gbg x):=by
 have hB:=c7p hx hS;unfold N5;rw[b87 (p7.2 hx.sh.sr) hx.sh.hr hB.tb hB.fb hB.sb];rfl
theorem c7g:a4u (hO x)=some (gbg x):=by
 have hB:=c7p hx hS;unfold a4u;rw[show (hO x).S=sO x.S from rfl,show (hO x).T=x.T.map J9 from rfl,b5R (p7.2 hx.sh.sr) hx.sh.hr hB.tb hB.sb];rfl
theorem a9T:(gbg x).length≤24:=Nat.le_trans (List.length_filter_le ..) (D6 (p7.2 hx.sh.sr))
theorem c8j:a2n x=some (btc x):=by
 have hR:=hx.sh.sr;have hl:=a9T hx hS;unfold a2n;rw[c2M hx hS,d2d];unfold E5;simp only[jn];refine bnd (a:=btc x) ?_ rfl;refine N8 (gbg x).length (λk b=>b=((gbg x).take k).filter λh=>due (Sh.ob x.S h)) (by omega) rfl (λk b hk hP=>?_) (λb hP=>?_)
 ·subst hP;have hm:=a16 hx _ (List.getElem_mem hk);have hle:(((gbg x).take k).filter λh=>due (Sh.ob x.S h)).length≤24:=Nat.le_trans (List.length_filter_le ..) (by simp;omega)
  refine .inl ⟨_,?_,rfl⟩;rw[if_pos (by simpa using hk),n7 hk,d2d,K1 hk,List.filter_append]
  unfold a2S;rw[b0Y hR hm,d2d,d2d];have e:(decide ((ob x.S (gbg x)[k],(0:Int)).1.Prog≥0) && !(ob x.S (gbg x)[k],(0:Int)).1.Started)=due (ob x.S (gbg x)[k]):=rfl;rw[e];cases hd:due (ob x.S (gbg x)[k])
  ·rw[if_neg (by simp),k8]
   simp[hd]
  ·rw[if_pos rfl,x6 (by omega) (by simp;omega),d2d,k8]
   simp[hd]
 ·subst hP;refine⟨_,if_neg (by simp),?_⟩
  rw[List.take_length];rfl
theorem d0f:b1i (hO x)=some (btc x):=by
 have hR:=hx.sh.sr;have hl:=a9T hx hS;unfold b1i;rw[c7g hx hS,d2d];simp only[jn];refine N8 (gbg x).length (λk b=>b=((gbg x).take k).filter λh=>due (Sh.ob x.S h)) (by omega) rfl (λk b hk hP=>?_) (λb hP=>?_)
 ·subst hP;have hm:=a16 hx _ (List.getElem_mem hk);have hle:(((gbg x).take k).filter λh=>due (Sh.ob x.S h)).length≤24:=Nat.le_trans (List.length_filter_le ..) (by simp;omega)
  refine .inl ⟨_,?_,rfl⟩;rw[if_pos (by simpa using hk),n7 hk,d2d,K1 hk,List.filter_append,c21 hx hS (a1z hR hm),d2d,decide_eq_true hm,Bool.true_and]
  cases hd:due (ob x.S (gbg x)[k])
  ·rw[if_neg (by simp),k8]
   simp[hd]
  ·rw[if_pos rfl,x6 (by omega) (by simp;omega),d2d,k8]
   simp[hd]
 ·subst hP;refine⟨_,if_neg (by simp),?_⟩
  rw[List.take_length];rfl
noncomputable def cgn(x:Hp):Int:=if btc x = [] then ((lv x.S).length:Int)-((lv (col x).S).length:Int) else 0
omit hx hS in
theorem c3G {l:List Int} (hn:l.Nodup) (hm:∀d∈l,d∈lv x.S):lvo x l=l:=by
 have key:∀(l b:List Int),(b++l).Nodup→(∀d∈l,d∈lv x.S)→l.foldl (λb h=>if h∈lv x.S∧h∉b then b ++ [h] else b) b=b++l:=by
  intro l;induction l with
  | nil=>intro b _ _;simp
  | cons a l ih=>
   intro b hn hm;rw[List.foldl_cons];have ha:a∉b:=λq=>by
    rw[List.nodup_append] at hn;exact hn.2.2 a q a (List.mem_cons_self ..) rfl
   rw[if_pos ⟨hm a (List.mem_cons_self ..),ha⟩,ih (b ++ [a]) (by simpa using hn) λd hd=>hm d (List.mem_cons_of_mem _ hd)]
   simp
 exact key l [] (by simpa using hn) hm
variable(hz:zr x = [])
include hz
theorem c1c{k:Nat}(hk:k<(btc x).length):(((btc x).take k).foldl quH x)=(((btc x).take k).foldl quH x)∧K5 (((btc x).take k).foldl quH x)∧SL (((btc x).take k).foldl quH x)∧(btc x)[k]∈lv (((btc x).take k).foldl quH x).S∧due (ob (((btc x).take k).foldl quH x).S (btc x)[k])=true:=by
 have hn:=c2I hx;have q:=b9v ((btc x).take k) hx hS hz ((List.take_sublist ..).nodup hn) λh hh=>b5x h (List.mem_of_mem_take hh);obtain⟨a,b⟩:=b5x (btc x)[k] (List.getElem_mem hk);refine⟨rfl,q.rt,q.sl,by rw[q.lv];exact a,?_⟩
 obtain⟨n,e⟩:=q.ob _ a;have hnot:(btc x)[k]∉(btc x).take k:=λh=>by
  have:=K1 hk;have hs:((btc x).take (k+1)).Nodup:=(List.take_sublist ..).nodup hn;rw[this,List.nodup_append] at hs;exact hs.2.2 _ h _ (List.mem_singleton_self _) rfl
 rw[e,if_neg hnot];exact b
theorem b5y:(btc x).length≤24:=Nat.le_trans (List.length_filter_le ..) (a9T hx hS)
theorem c8n:U1 x=some (col x,((btc x).length:Int),cgn x):=by
 have hR:=hx.sh.sr;have hl:=b5y hx hS hz;obtain⟨c1,c2,c3⟩:=b5C hx hS hz;unfold U1;rw[c8j hx hS,d2d];simp only[jn];refine N8 (btc x).length (λk b=>b=((btc x).take k).foldl quH x) (by omega) rfl (λk b hk hP=>?_) (λb hP=>?_)
 ·subst hP;obtain⟨_,r1,r2,r3,r4⟩:=c1c hx hS hz hk;refine .inl ⟨_,?_,rfl⟩;rw[if_pos (by simpa using hk),n7 hk,d2d,b49 r1 r2 (a1z r1.sh.sr r3),d2d,k8,K1 hk,List.foldl_append]
  unfold quD;rw[if_pos ⟨r3,r4⟩];rfl
 ·subst hP;refine⟨_,if_neg (by simp),?_⟩
  rw[List.take_length];by_cases hb:btc x = []
  ·have e:col x=buH x (gbg x):=c2U hb;rw[if_neg (by simp[hb])]
   unfold cgn;rw[if_pos hb,e,hb];have h1:=a2T hx;have h2:=a16 hx;have hlive:=a1y (p7.2 hR);have hlive2:=a1y (p7.2 (V3 hx).sh.sr);have l1:=D6 (p7.2 hR);have l2:=D6 (p7.2 (V3 hx).sh.sr);show (N5 x).bind _=_;rw[c2M hx hS,d2d,List.foldl_nil,c0d hx h1 h2 (c00 hx) (by rw[a98 hR _ (by have:=a9T hx hS;omega) λh hh=>a1z hR (h2 h hh),c3G h1 h2]),d2d,a3w (V3 hx) (by rw[←e];exact c2),d2d,b26 hx,hlive,d2d,hlive2,d2d,A9 (by omega) (by omega)]
   rfl
  ·have:0<(btc x).length:=List.length_pos_iff.2 hb;rw[if_pos (by simp;omega)]
   unfold cgn col;rw[if_neg hb,if_neg hb]
theorem d0m:a7t (hO x)=some (hO (col x),((btc x).length:Int),cgn x):=by
 have hR:=hx.sh.sr;have hl:=b5y hx hS hz;obtain⟨c1,c2,c3⟩:=b5C hx hS hz;unfold a7t;rw[d0f hx hS,d2d];simp only[jn];by_cases hb:btc x = []
 ·have e:col x=buH x (gbg x):=c2U hb;rw[if_neg (by simp[hb])]
  unfold cgn;rw[if_pos hb,e,hb];have h1:=a2T hx;have h2:=a16 hx;have hlive:=a9h (p7.2 hR);have hlive2:=a9h (p7.2 (V3 hx).sh.sr);have l1:=D6 (p7.2 hR);have l2:=D6 (p7.2 (V3 hx).sh.sr);rw[c7g hx hS,d2d,b4E hx h1 h2 (c00 hx) (by rw[c22 hR _ (by have:=a9T hx hS;omega) λh hh=>a1z hR (h2 h hh),c3G h1 h2]),d2d,a5p (V3 hx) (by rw[←e];exact c2),d2d,b26 hx,show (hO x).S=sO x.S from rfl,hlive,d2d,show (hO (buH x (gbg x))).S=sO (buH x (gbg x)).S from rfl,hlive2,d2d,A9 (by omega) (by omega)]
  rfl
 ·have hp:0<(btc x).length:=List.length_pos_iff.2 hb;rw[if_pos (by simp;omega)]
  refine N8 (btc x).length (λk b=>b=hO (((btc x).take k).foldl quH x)) (by omega) rfl (λk b hk hP=>?_) (λb hP=>?_)
  ·subst hP;obtain⟨_,r1,r2,r3,r4⟩:=c1c hx hS hz hk;refine .inl ⟨_,?_,rfl⟩;rw[if_pos (by simpa using hk),n7 hk,d2d,b7Y r1 r2 (a1z r1.sh.sr r3),d2d,k8,K1 hk,List.foldl_append]
   unfold quD;rw[if_pos ⟨r3,r4⟩];rfl
  ·subst hP;refine⟨_,if_neg (by simp),?_⟩
   rw[List.take_length];unfold cgn col;rw[if_neg hb,if_neg hb]
end
end Go.Sh
namespace Go.Sh
theorem c0g{x:Hp}(hx:K5 x)(hS:SL x)(hz:zr x = []):(col x).S.Serial=x.S.Serial:=by
 unfold col;split
 ·have g:=a1u (gbg x) hx.sh.sr (a2T hx) (a16 hx);exact (a3S ((gbg x).flatMap (outs x.S)++(wot x.T (gbg x)).2) (x:=a34 x (gbg x) (wot x.T (gbg x)).1) g.sr).1.P7.trans g.P7
 ·exact (c2J hx hS hz).P7
end Go.Sh
namespace Go.Sh
def Sv(s s':a7):Prop:=s'.S.a8.length=s.S.a8.length∧∀i,i<s.S.a8.length→(ce s i).Gen≤(ce s' i).Gen∧((ce s' i).Gen=(ce s i).Gen→((ce s i).State≠0→(ce s' i).State≠0)∧((ce s' i).State=1→(ce s i).State=0∨((ce s i).State=1∧((ce s i).Val.Started=true→(ce s' i).Val.Started=true))))
theorem Sv.refl(s:a7):Sv s s:=⟨rfl,λi _=>⟨Int.le_refl _,λ_=>⟨id,λh=>.inr ⟨h,id⟩⟩⟩⟩
theorem Sv.trans{a b c:a7}(h:Sv a b)(q:Sv b c):Sv a c:=by
 obtain⟨h1,h2⟩:=h;obtain⟨q1,q2⟩:=q;refine⟨q1.trans h1,λi hi=>?_⟩;obtain⟨a1,a2⟩:=h2 i hi;obtain⟨b1,b2⟩:=q2 i (by omega)
 refine⟨by omega,λe=>?_⟩
 obtain⟨a3,a4⟩:=a2 (by omega)
 obtain⟨b3,b4⟩:=b2 (by omega)
 refine⟨λh=>b3 (a3 h),λh=>?_⟩;rcases b4 h with r | ⟨r,r'⟩
 ·exact .inl (Classical.byContradiction λn=>a3 n r)
 ·rcases a4 r with k | ⟨k,k'⟩
  ·exact .inl k
  ·exact .inr ⟨k,λs=>r' (k' s)⟩
def b91(s:a7)(h:Int):Prop:=∃(i:Nat) (g:Int),i<s.S.a8.length∧h=1+(i:Int)+32*g∧(g<(ce s i).Gen∨(g=(ce s i).Gen∧(ce s i).State≠0∧((ce s i).State=1→(ce s i).Val.Started=true)))
theorem Sv.d02{s s':a7}(h:Sv s s'){k:Int}(q:b91 s k):b91 s' k:=by
 obtain⟨i,g,hi,e,q⟩:=q;obtain⟨h1,h2⟩:=h;obtain⟨a,b⟩:=h2 i hi;refine⟨i,g,by omega,e,?_⟩
 rcases q with q | ⟨q1,q2,q3⟩
 ·exact .inl (by omega)
 ·by_cases c:(ce s' i).Gen=(ce s i).Gen
  ·obtain⟨b1,b2⟩:=b c;refine .inr ⟨by omega,b1 q2,λr=>?_⟩
   rcases b2 r with k | ⟨k1,k2⟩
   ·exact absurd k q2
   ·exact k2 (q3 k1)
  ·exact .inl (by omega)
theorem c12{s:a7}(hR:SR s){h:Int}(hh:h∈lv s)(hs:(ob s h).Started=false):¬b91 s h:=by
 rintro⟨i,g,hi,e,q⟩;obtain⟨j,hj⟩:=(a1U hR).1 hh;have hl:=hR.len;have hij:i=j:=by
  have:=hj.2.2;have:=hj.1;omega
 subst hij;have:=hj.2.2;rcases q with q | ⟨q1,q2,q3⟩
 ·omega
 ·rw[K6 hR hj,q3 hj.2.1] at hs;cases hs
theorem Kin.sv{s s':a7}(hR:SR s)(k:Kin s s'):Sv s s':=⟨k.len,λi hi=>by
 obtain⟨a,b,_,_,_⟩:=k.ce i hi;refine⟨by omega,λ_=>⟨by omega,λh=>.inr ⟨by omega,λq=>?_⟩⟩⟩
 have h1:At s (hdl s i) i:=⟨hi,by omega,rfl⟩
 have h2:At s' (hdl s i) i:=⟨by rw[k.len];exact hi,h,by rw[b];rfl⟩
 have hl:=F6 hR ((a1U hR).2 ⟨i,h1⟩);obtain⟨n,e⟩:=k.ob (hdl s i) (by omega)
 rw[K6 k.sr h2,K6 hR h1] at e;rw[e];exact q⟩
theorem c4G{s:a7}(hR:SR s){h:Int}(hh:h∈lv s){o:l6}(hs:o.Serial=(ob s h).Serial)(ho:OkO s o)(hst:(ob s h).Started=true→o.Started=true):Sv s (seO s h o):=⟨c06 s h o,λi hi=>by
 have q:=u9 hR hh;rw[b6G hR hh hs ho];split
 ·rename_i e;subst e;refine⟨Int.le_refl _,λ_=>⟨id,λr=>.inr ⟨q.2.1,λk=>hst ?_⟩⟩⟩;rw[K6 hR q];exact k
 ·exact⟨Int.le_refl _,λ_=>⟨id,λr=>.inr ⟨r,id⟩⟩⟩⟩
theorem c3K{s:a7}(hR:SR s){i:Nat}(hi:i<s.S.a8.length)(ht:Th (ce s i))(d:Int):Sv s (mkA s i d):=⟨K0 ..,λj hj=>by
 rw[a2X hR hi ht];split
 ·rename_i e;subst e;exact⟨Int.le_refl _,λ_=>⟨id,λr=>.inr ⟨r,id⟩⟩⟩
 ·exact⟨Int.le_refl _,λ_=>⟨id,λr=>.inr ⟨r,id⟩⟩⟩⟩
theorem c8M{s:a7}{i:Nat}(hi:i<s.S.a8.length):Sv s (gvA s i):=⟨U9 ..,λj hj=>by
 unfold gvA;rw[I1 hi];by_cases e:j=i
 ·subst e;rw[if_pos rfl];split;·exact⟨Int.le_refl _,λ_=>⟨λ_=>(by decide:(3:Int)≠0),λr=>absurd (show (3:Int)=1 from r) (by decide)⟩⟩
  ·refine⟨by show _≤(ce s j).Gen+1;omega,λr=>?_⟩
   have:(ce s j).Gen+1=(ce s j).Gen:=r;omega
 ·rw[if_neg e];exact⟨Int.le_refl _,λ_=>⟨id,λr=>.inr ⟨r,id⟩⟩⟩⟩
theorem Gn.sv{s s':a7}{ds:List Int}(g:Gn s s' ds):Sv s s':=⟨g.len,λj hj=>by
 rw[g.ce];split
 ·unfold gnC;split
  ·split;·exact⟨Int.le_refl _,λ_=>⟨λ_=>(by decide:(3:Int)≠0),λr=>absurd (show (3:Int)=1 from r) (by decide)⟩⟩
   ·refine⟨by show _≤(Sh.ce s j).Gen+1;omega,λr=>?_⟩
    have:(Sh.ce s j).Gen+1=(Sh.ce s j).Gen:=r;omega
  ·exact⟨Int.le_refl _,λ_=>⟨λ_=>(by decide:(2:Int)≠0),λr=>absurd (show (2:Int)=1 from r) (by decide)⟩⟩
 ·exact⟨Int.le_refl _,λ_=>⟨id,λr=>.inr ⟨r,id⟩⟩⟩⟩
theorem d0I{s:a7}(hR:SR s){i:Nat}(hi:i<s.S.a8.length)(h0:(ce s i).State=0){n:Nat}(hn:n≤4){p:Int}(hp : -1≤p∧p≤5):Sv s (mkS s i n p):=⟨a4M hR hi h0 hn hp,λj hj=>by
 rw[a6G hR hi h0 hn hp];split
 ·rename_i e;subst e;exact⟨Int.le_refl _,λ_=>⟨λr=>absurd h0 r,λ_=>.inl h0⟩⟩
 ·exact⟨Int.le_refl _,λ_=>⟨id,λr=>.inr ⟨r,id⟩⟩⟩⟩
theorem b9G{x:Hp}(hR:SR x.S)(h:Int):Sv x.S (A3 x h).S:=(D4 hR h (f:=R1) λc=>B3).sv hR
theorem b6A{x:Hp}(hR:SR x.S)(h:Int):Sv x.S (N4 x h).S:=(D4 hR h (f:=a4Z) λc=>L3).sv hR
theorem b78{x:Hp}(hR:SR x.S)(r:Nat)(h:Int):Sv x.S (D2 x r h).S:=
 (b9G hR h).trans (b6A (x:=wR (A3 x h) (x.Roots.set r h)) (a21 hR h) _)
theorem c1y{x:Hp}(hR:SR x.S){h:Int}(hh:h∈lv x.S){n:Nat}(hn:n<(ob x.S h).Fields.length)(v:Int):Sv x.S (a0U x h n v).S:=by
 have k1:=b6D hR v;have hh1:h∈lv (A3 x v).S:=by rw[k1.lv];exact hh
 have hof:(ob (A3 x v).S h).Fields=(ob x.S h).Fields:=by
  obtain⟨n,e⟩:=(D4 hR v (f:=R1) λc=>B3).ob h (by have:=F6 hR hh;omega)
  show (ob (stO x v R1).S h).Fields=_;rw[e]
 have ho:OkO (A3 x v).S (flg (ob (A3 x v).S h) ((ob x.S h).Fields.set n v)):=by
  have:=F5 k1.sr hh1;refine⟨this.s1,this.s2,this.st,this.wk,this.p1,this.p2,?_⟩;have h4:=this.fl;rw[hof] at h4;simpa using h4
 have k2:=c4G (o:=flg (ob (A3 x v).S h) ((ob x.S h).Fields.set n v)) k1.sr hh1 rfl ho id;exact ((b9G hR v).trans k2).trans (b6A (x:=wS (A3 x v) (seO (A3 x v).S h (flg (ob (A3 x v).S h) ((ob x.S h).Fields.set n v)))) (a0x (o:=flg (ob (A3 x v).S h) ((ob x.S h).Fields.set n v)) k1.sr hh1 rfl ho) _)
theorem c4d{x:Hp}(hR:SR x.S)(v:Int)(t:Tb)(old:Int):Sv x.S (a5e x v t old).S:=
 (b9G hR v).trans (b6A (x:=wT (A3 x v) t) (a21 hR v) old)
theorem c84{x:Hp}(hR:SR x.S)(h d:Int):Sv x.S (mkd x h d).S:=by
 unfold mkd;split
 ·rename_i q;exact c3K hR q.1 q.2.1 d
 ·exact Sv.refl _
theorem c63{x:Hp}(hR:SR x.S)(h:Int):Sv x.S (a7K x h).S:=by
 unfold a7K;split
 ·rename_i q;have k:=c3K hR q.1 q.2.1 (-1);split;·exact k.trans (c8M (by rw[k.1];exact q.1))
  ·exact k
 ·exact Sv.refl _
theorem c4U{x:Hp}(hx:K5 x)(n:Nat)(h call:Int):Sv x.S (a1Z x n h call).S:=by
 have hR:=hx.sh.sr;unfold a1Z;have s1:Sv x.S (mkd (wC x (x.a8.set n (wcl h call))) h 1).S:=c84 (x:=wC x (x.a8.set n (wcl h call))) hR h 1;refine s1.trans (c63 ?_ _);unfold mkd;split
 ·rename_i q;have:=(hR.ok _ q.1 q.2.1).wk;exact b3j hR q.1 q.2.1 (by omega)
 ·exact hR
theorem c8k{x:Hp}(hR:SR x.S){ds:List Int}(hn:ds.Nodup)(hm:∀d∈ds,d∈lv x.S):Sv x.S (buH x ds).S:=by
 have g:=a1u ds hR hn hm;exact g.sv.trans ((a3S (ds.flatMap (outs x.S)++(wot x.T ds).2) (x:=a34 x ds (wot x.T ds).1) g.sr).1.sv g.sr)
theorem c9v{x:Hp}(hR:SR x.S){h:Int}(hh:h∈lv x.S):Sv x.S (quH x h).S:=by
 have oko:=F5 hR hh;have ho:OkO x.S (srt (ob x.S h)):=⟨oko.s1,oko.s2,oko.st,oko.wk,oko.p1,oko.p2,oko.fl⟩;exact (c4G (o:=srt (ob x.S h)) hR hh rfl ho λ_=>rfl).trans ((a6a hR hh).1.sv (a0x (o:=srt (ob x.S h)) hR hh rfl ho))
theorem c9R{x:Hp}(hx:K5 x):Sv x.S (stp x).S:=by
 cases h:zr x with
 | nil=>rw[a8n h];exact Sv.refl _
 | cons z l=>
  have hz:z∈zr x:=by rw[h];exact List.mem_cons_self ..
  have hzl:=(a05.1 hz).1;rw[a3Z h];split;·exact c9v hx.sh.sr hzl
  ·exact c8k hx.sh.sr (by simp) (by simpa using hzl)
theorem c9N{x:Hp}(hx:K5 x)(n:Nat):Sv x.S (stN n x).S:=by
 induction n with
 | zero=>exact Sv.refl _
 | succ n ih=>rw[a1M];exact ih.trans (c9R (a0l hx n))
theorem c6T{x:Hp}(hx:K5 x):Sv x.S (a0j x).S:=c9N hx 100
structure Fw (x y:Hp):Prop where
 sv:Sv x.S y.S
 q:∃l,y.Q=⟨x.Q.L++l,x.Q.Cap⟩∧∀t∈l,t.Kind=1→¬b91 x.S t.At
theorem Fw.of{x y:Hp}(h:Sv x.S y.S)(q:y.Q=x.Q):Fw x y:=⟨h,[],by rw[q,List.append_nil],λt ht=>by cases ht⟩
theorem Fw.refl(x:Hp):Fw x x:=Fw.of (Sv.refl _) rfl
theorem Fw.trans{x y z:Hp}(a:Fw x y)(b:Fw y z):Fw x z:=by
 obtain⟨l,q1,q2⟩:=a.q;obtain⟨m,r1,r2⟩:=b.q;refine⟨a.sv.trans b.sv,l++m,by rw[r1,q1,List.append_assoc],λt ht hk=>?_⟩
 rcases List.mem_append.1 ht with h | h
 ·exact q2 t h hk
 ·exact λs=>r2 t h hk (a.sv.d02 s)
theorem b6I{x:Hp}(hx:K5 x):Fw x (a0j x):=by
 obtain⟨l,q1,q2,_⟩:=(a3Y hx).q;exact⟨c6T hx,l,q1,λt ht hk=>c12 hx.sh.sr (q2 t ht hk).1 (q2 t ht hk).2⟩
end Go.Sh
namespace Go.Sh
theorem a3T{x:Hp}(hR:SR x.S)(r:Nat)(h:Int):Fw x (D2 x r h):=Fw.of (b78 hR r h) (a3U x r h).2.2.2
theorem d0t{x:Hp}(hx:K5 x)(hS:SL x)(hz:zr x = [])(hb:x.S.Serial<9223372036854775807)(o:c9):(∃e,Er x o e)∨∃z v,Dn x o z v∧Fw x z:=by
 have hR:=hx.sh.sr;obtain⟨k,a,b,c⟩:=o;by_cases hc:w9 k a b c=0
 ·have:=b53 hc;have hk:k=1∨k=2∨k=3∨k=4∨k=5∨k=6∨k=7∨k=8∨k=9∨k=10∨k=11∨k=12:=by omega
  rcases hk with rfl | rfl | rfl | rfl | rfl | rfl | rfl | rfl | rfl | rfl | rfl | rfl
  ·rcases d1 hx hS hb hc with ⟨e,_,h⟩ | ⟨hn,hcc,i,hF,h⟩;·exact .inl ⟨e,h⟩
   ·obtain⟨hi,h0,_⟩:=hF;have k1:Fw x (wS x (mkS x.S i b.toNat c)):=Fw.of (d0I hR hi h0 hn hcc) rfl;exact .inr ⟨_,_,h,k1.trans (a3T (x:=wS x (mkS x.S i b.toNat c)) (b42 hR hi h0 hn hcc) _ _)⟩
  ·exact .inr ⟨_,_,d2 hx hS hc,a3T hR _ _⟩
  ·exact .inr ⟨_,_,d3 hx hS hc,a3T hR _ _⟩
  ·rcases d4 hx hS hc with ⟨_,h⟩ | ⟨e,_,h⟩ | ⟨_,n,_,_,h⟩;·exact .inl ⟨_,h⟩
   ·exact .inl ⟨_,h⟩
   ·exact .inr ⟨_,_,h,a3T hR _ _⟩
  ·rcases d5 hx hS hc with ⟨_,h⟩ | ⟨e,_,h⟩ | ⟨hl,n,_,hn,h⟩;·exact .inl ⟨_,h⟩
   ·exact .inl ⟨_,h⟩
   ·exact .inr ⟨_,_,h,Fw.of (c1y hR hl hn _) (a64 _ _ _ _).2.2.2⟩
  ·rcases d6 hx hS hc with ⟨_,h⟩ | ⟨e,_,h⟩ | ⟨_,h⟩;·exact .inl ⟨_,h⟩
   ·exact .inl ⟨_,h⟩
   ·exact .inr ⟨_,_,h,Fw.of (c4U hx _ _ _) (b30 _ _ _ _).2.2.2⟩
  ·obtain⟨_,⟨_,h⟩ | ⟨_,h⟩⟩:=d7 hx hS hc;·exact .inl ⟨_,h⟩
   ·exact .inr ⟨_,_,h,a3T hR _ _⟩
  ·rcases d8 hx hS hc with ⟨_,h⟩ | ⟨_,e,_,h⟩ | ⟨_,r,_,_,h⟩;·exact .inl ⟨_,h⟩
   ·exact .inl ⟨_,h⟩
   ·exact .inr ⟨_,_,h,Fw.of (c4d hR _ _ _) (a9l _ _ _ _).2.2.2⟩
  ·rcases d9 hx hS hc with ⟨_,h⟩ | ⟨_,_,h⟩ | ⟨_,v,_,h⟩;·exact .inl ⟨_,h⟩
   ·exact .inl ⟨_,h⟩
   ·exact .inr ⟨_,_,h,a3T hR _ _⟩
  ·exact .inr ⟨_,_,d10 hx hS hz hc,Fw.refl x⟩
  ·obtain⟨h1,h2⟩:=b0Q (x:=x) (a:=a) (b:=b) (c:=c) (.inl rfl) hc;exact .inl ⟨14,by decide,h1,h2⟩
  ·obtain⟨h1,h2⟩:=b0Q (x:=x) (a:=a) (b:=b) (c:=c) (.inr rfl) hc;exact .inl ⟨14,by decide,h1,h2⟩
 ·obtain⟨h1,h2⟩:=b8T (x:=x) (o:=⟨k,a,b,c⟩) hc;exact .inl ⟨_,hc,h1,h2⟩
theorem c8s{x:Hp}(hx:K5 x)(hS:SL x)(hz:zr x = [])(hb:x.S.Serial<9223372036854775807)(o:c9):Fw x (dov x o).1:=by
 rcases d0t hx hS hz hb o with ⟨e,_,h,_⟩ | ⟨z,v,d,f⟩
 ·have:dov x o=(x,0,e):=by unfold dov;rw[h];rfl
  rw[this];exact Fw.refl x
 ·have:dov x o=(a0j z,v,0):=by unfold dov;rw[d.mc];rfl
  rw[this];exact f.trans (b6I d.rt)
theorem d0Z{x:Hp}(h1:HpS x)(h2:Wk x){L:List Int}(h3:a06 x L){r:Nat}(hr:r<6){h:Int}(hh:h=0∨h∈lv x.S):HpS (D2 x r h)∧Wk (D2 x r h)∧a06 (D2 x r h) L:=by
 have kin:=D4 h1.sr h (f:=R1) λc=>B3;have l1:lv (A3 x h).S=lv x.S:=kin.lv;have f1:a06 (A3 x h) (h::L):=b8a h1.sr h3 h;have s1:HpS (A3 x h):=h1.st h (f:=R1) λc=>B3;have s2:HpS (wR (A3 x h) (x.Roots.set r h)):=s1.roots (by rw[List.length_set];exact h1.r6) λv hv=>by
  rw[l1];rcases List.mem_or_eq_of_mem_set hv with q | q
  ·exact h1.rt v q
  ·exact q▸hh
 have w1:Wk (A3 x h):=h2.st h1.sr h (f:=R1) λc=>B3;have one:∀v k,W9 [v] k=if v=k∧k≠0 then 1 else 0:=λv k=>by rw[D7,N2,Nat.zero_add]
 have f2:a06 (wR (A3 x h) (x.Roots.set r h)) (x.Roots.getD r 0::L):=f1.mv rfl (λ_ _=>rfl) λk hk=>by
  have:=b2A (l:=x.Roots) (r:=r) (by rw[h1.r6];exact hr) h k
  rw[one,one] at this;rw[b1n x h];unfold nms otr;dsimp only;rw[H9,H9,b1w,b1w,D7 h L,D7 (x.Roots.getD r 0) L];omega
 exact⟨s2.st _ λc=>L3,Wk.st (x:=wR (A3 x h) (x.Roots.set r h)) w1 s2.sr _ λc=>L3,b0s (x:=wR (A3 x h) (x.Roots.set r h)) s2.sr f2⟩
abbrev unq(x:Hp)(ts:List g9):Hp:=wQ x ⟨ts,x.Q.Cap⟩
noncomputable def b0V(x:Hp)(ts:List g9)(h:Int):Hp:=N4 (D2 (unq x ts) 5 h) h
section
variable{x:Hp}(hx:K5 x){t:g9}{ts:List g9}(hq:x.Q.L=t::ts)
include hx hq
theorem b6U:HpS (unq x ts):=by
 have h:=hx.sh;refine⟨h.sr,h.hr,h.r6,h.c6,h.cap,?_,λu hu=>h.tk u (by rw[hq];exact List.mem_cons_of_mem _ hu),?_,h.rt,h.fl,h.pr,λi hi=>?_⟩
 ·have:=h.q30;rw[hq,List.length_cons] at this;show ts.length≤30;omega
 ·have:=h.td;rw[hq,List.pairwise_cons] at this;exact this.2
 ·obtain⟨a,b,c,d,e⟩:=h.cl i hi;refine⟨a,b,c,d,λq=>⟨(e q).1,?_⟩⟩;have:=(e q).2;rw[Bool.eq_false_iff] at this ⊢;intro r;obtain⟨u,hu,k1,k2⟩:=a4B.1 r;exact this (a4B.2 ⟨u,by rw[hq];exact List.mem_cons_of_mem _ hu,k1,k2⟩)
theorem b8p:a06 (unq x ts) (if t.Kind=1 then [t.At] else []):=hx.fair.mv rfl (λ_ _=>rfl) λh _=>by
 unfold nms otr b4k;dsimp only;rw[hq,List.filter_cons];by_cases k:t.Kind=1
 ·rw[if_pos k,if_pos (by simpa using k),List.map_cons,H9,H9,D7 t.At (List.map _ _),D7 t.At [],N2]
  omega
 ·rw[if_neg k,if_neg (by simpa using k),N2]
theorem b8Q(hk:t.Kind≠1):K5 (unq x ts):=⟨b6U hx hq,hx.wk,by have:=b8p hx hq;rwa [if_neg hk] at this⟩
theorem b81(hk:t.Kind=1):t.At∈lv x.S∧(ob x.S t.At).Started=true:=by
 rcases (hx.sh.tk t (by rw[hq];exact List.mem_cons_self ..)).2.2 with ⟨_,b,c⟩ | ⟨b,_⟩
 ·exact⟨b,c⟩
 ·omega
theorem a40(hk:t.Kind=1):K5 (b0V x ts t.At):=by
 have f:=b8p hx hq;rw[if_pos hk] at f;obtain⟨a,b,c⟩:=d0Z (b6U hx hq) (x:=unq x ts) hx.wk f (r:=5) (by decide) (.inr (b81 hx hq hk).1)
 exact⟨a.st _ λc=>L3,b.st a.sr _ λc=>L3,b0s a.sr c⟩
omit hq in
theorem b82 (hS:SL x) (h:Int):SL (b0V x ts h):=by
 have k:=a3V (x:=unq x ts) hx.sh.sr hS 5 h;exact b6y [h] (U8 (x:=unq x ts) hx.sh.sr 5 h).sr k
omit hq in
theorem c8z (h:Int):Ks x.S (b0V x ts h).S:=by
 have k:=U8 (x:=unq x ts) hx.sh.sr 5 h;exact k.trans (b6z k.sr h)
omit hq in
theorem c3e (h:Int):(b0V x ts h).Roots=x.Roots.set 5 h∧(b0V x ts h).a8=x.a8∧(b0V x ts h).T=x.T∧(b0V x ts h).Q=⟨ts,x.Q.Cap⟩:=by
 obtain⟨a,b,c,d⟩:=b3H (D2 (unq x ts) 5 h) h;obtain⟨a',b',c',d'⟩:=a3U (unq x ts) 5 h;exact⟨a.trans a',b.trans b',c.trans c',d.trans d'⟩
omit hq in
theorem c8y (h:Int):Fw (unq x ts) (b0V x ts h):=Fw.of ((b78 (x:=unq x ts) hx.sh.sr 5 h).trans (b6A (U8 (x:=unq x ts) hx.sh.sr 5 h).sr h)) (c3e hx h).2.2.2
end
def prg(ps:List (List c9))(n:Int):List c9:=if n<0∨(ps.length:Int)≤n then [] else ps.getD n.toNat []
noncomputable def pre(x:Hp)(t:g9)(ts:List g9):Hp:=if t.Kind=1 then a0j (b0V x ts t.At) else unq x ts
noncomputable def ran(ps:List (List c9))(x:Hp)(t:g9)(ts:List g9):Hp:=(runs (pre x t ts) (prg ps t.Prog)).1
noncomputable def dne(ps:List (List c9))(x:Hp)(t:g9)(ts:List g9):Hp:=if t.Kind=1 then a0j (D2 (ran ps x t ts) 5 0) else ran ps x t ts
structure Oh (x:Hp):Prop where
 rt:K5 x
 sl:SL x
 zr:zr x = []
theorem Nxt.ok{x y:Hp}{o:c9}{v e:Int}(n:Nxt x o y v e):Oh y:=⟨n.rt,n.sl,n.zr⟩
theorem c07{x:Hp}(h:K5 x)(s:SL x):Oh (a0j x):=⟨a2i h,c08 h s,b5k h⟩
theorem c4D{x:Hp}(hx:Oh x)(l:List c9)(hb:x.S.Serial+l.length<9223372036854775807):Oh (runs x l).1∧Fw x (runs x l).1∧(runs x l).1.S.Serial≤x.S.Serial+l.length∧(runs x l).2.length=l.length:=by
 have key:∀k,k≤l.length→Oh (runs x (l.take k)).1∧Fw x (runs x (l.take k)).1∧(runs x (l.take k)).1.S.Serial≤x.S.Serial+k∧(runs x (l.take k)).2.length=k:=by
  intro k;induction k with
  | zero=>exact λ_=>⟨hx,Fw.refl x,by show x.S.Serial≤_;omega,rfl⟩
  | succ k ih=>
   intro hk;obtain⟨a,b,c,d⟩:=ih (by omega)
   have hk':k<l.length:=by omega
   have n:=a52 a.rt a.sl a.zr (by omega) l[k]
   rw[K1 hk',a8k];exact⟨n.ok,b.trans (c8s a.rt a.sl a.zr (by omega) _),by have:=n.ev.s2;show (dov _ _).1.S.Serial≤_;omega,by simp[d]⟩
 have:=key l.length (Nat.le_refl _);rwa [List.take_length] at this
section
variable{x:Hp}(hx:Oh x){t:g9}{ts:List g9}(hq:x.Q.L=t::ts)(ps:List (List c9))
include hx hq
theorem b6g:Oh (pre x t ts):=by
 unfold pre;split
 ·rename_i k;exact c07 (a40 hx.rt hq k) (b82 hx.rt hx.sl _)
 ·rename_i k;exact⟨b8Q hx.rt hq k,hx.sl,hx.zr⟩
theorem c9o:Fw (unq x ts) (pre x t ts):=by
 unfold pre;split
 ·rename_i k;exact (c8y hx.rt _).trans (b6I (a40 hx.rt hq k))
 ·exact Fw.refl _
theorem b2m:(pre x t ts).S.Serial=x.S.Serial:=by
 unfold pre;split
 ·rename_i k;rw[(a3Y (a40 hx.rt hq k)).P7,(c8z hx.rt _).P7]
 ·rfl
variable(hb:x.S.Serial+(prg ps t.Prog).length<9223372036854775807)
include hb
theorem b6u:Oh (ran ps x t ts)∧Fw (unq x ts) (ran ps x t ts)∧(ran ps x t ts).S.Serial≤x.S.Serial+(prg ps t.Prog).length:=by
 have e:=b2m hx hq;obtain⟨a,b,c,_⟩:=c4D (b6g hx hq) (prg ps t.Prog) (by rw[e];exact hb)
 exact⟨a,(c9o hx hq).trans b,by rw[e] at c;exact c⟩
theorem c5K:Oh (dne ps x t ts)∧Fw (unq x ts) (dne ps x t ts)∧(dne ps x t ts).S.Serial≤x.S.Serial+(prg ps t.Prog).length∧(t.Kind=1→sd (dne ps x t ts) 5=0):=by
 obtain⟨a,b,c⟩:=b6u hx hq ps hb;unfold dne;split
 ·have hz:=T1 a.rt (r:=5) (by decide) (h:=0) (.inl rfl)
  have k:=U8 a.rt.sh.sr 5 0;refine⟨c07 hz (a3V a.rt.sh.sr a.sl 5 0),(b.trans (a3T a.rt.sh.sr 5 0)).trans (b6I hz),?_,λ_=>(a8h a.rt (a:=5) (by decide) (h:=0) (.inl rfl)).1⟩
  rw[(a3Y hz).P7,k.P7];exact c
 ·exact⟨a,b,c,λq=>absurd q (by assumption)⟩
end
end Go.Sh
namespace Go.Sh
def cst(ps:List (List c9))(t:g9):Int:=1+((prg ps t.Prog).length:Int)
def can(ps:List (List c9))(p:Hp × Int):Prop:=∃t ts,p.1.Q.L=t::ts∧cst ps t≤p.2
noncomputable def nxd(ps:List (List c9))(p:Hp × Int):Hp × Int:=match p.1.Q.L with
 | []=>p
 | t::ts=>if cst ps t≤p.2 then (dne ps p.1 t ts,p.2-cst ps t) else p
noncomputable def dN(ps:List (List c9)):Nat→Hp × Int→Hp × Int
 | 0,p=>p
 | n+1,p=>dN ps n (nxd ps p)
section
variable(ps:List (List c9))
theorem a9K(n:Nat)(p:Hp × Int):dN ps (n+1) p=nxd ps (dN ps n p):=by
 induction n generalizing p with
 | zero=>rfl
 | succ n ih=>exact ih (nxd ps p)
theorem c0C{p:Hp × Int}(h:p.1.Q.L = []):nxd ps p=p:=by unfold nxd;rw[h]
theorem a5a{p:Hp × Int}{t:g9}{ts:List g9}(h:p.1.Q.L=t::ts):nxd ps p=if cst ps t≤p.2 then (dne ps p.1 t ts,p.2-cst ps t) else p:=by unfold nxd;rw[h]
theorem b2L{p:Hp × Int}{t:g9}{ts:List g9}(h:p.1.Q.L=t::ts):can ps p↔cst ps t≤p.2:=by
 constructor
 ·rintro⟨u,us,e,c⟩;rw[h] at e;injection e with e1 e2
  rw[e1];exact c
 ·exact λc=>⟨t,ts,h,c⟩
theorem c6f{p:Hp × Int}(h:¬can ps p):nxd ps p=p:=by
 cases e:p.1.Q.L with
 | nil=>exact c0C ps e
 | cons t ts=>rw[a5a ps e,if_neg (λq=>h ((b2L ps e).2 q))]
theorem a9J(t:g9):1≤cst ps t:=by unfold cst;omega
theorem c0i{p:Hp × Int}(hb:0≤p.2):∃n:Nat,(n:Int)≤p.2∧¬can ps (dN ps n p)∧∀j,j<n→can ps (dN ps j p):=by
 have key:∀m:Nat,(∃n:Nat,n≤m∧¬can ps (dN ps n p))∨((dN ps m p).2+m≤p.2∧0≤(dN ps m p).2):=by
  intro m;induction m with
  | zero=>exact .inr ⟨by show p.2+((0:Nat):Int)≤_;omega,hb⟩
  | succ m ih=>
   rcases ih with ⟨n,h1,h2⟩ | ⟨h1,h2⟩;·exact .inl ⟨n,by omega,h2⟩
   ·by_cases q:can ps (dN ps m p)
    ·right;obtain⟨t,ts,e,c⟩:=q;have:=a9J ps t;rw[a9K,a5a ps e,if_pos c];dsimp only;omega
    ·exact .inl ⟨m,by omega,q⟩
 have hex:∃n:Nat,(n:Int)≤p.2∧¬can ps (dN ps n p):=by
  rcases key (p.2.toNat+1) with ⟨n,h1,h2⟩ | ⟨h1,h2⟩
  ·rcases Nat.lt_or_ge n (p.2.toNat+1) with q | q
   ·exact⟨n,by omega,h2⟩
   ·have hn:n=p.2.toNat+1:=by omega
    rcases key p.2.toNat with ⟨n,h1,h2⟩ | ⟨h1,h3⟩;·exact⟨n,by omega,h2⟩
    ·refine⟨p.2.toNat,by omega,λ⟨t,ts,e,c⟩=>?_⟩
     have:=a9J ps t;omega
  ·omega
 obtain⟨n,⟨hn,hz⟩,hmin⟩:=a0T hex;refine⟨n,hn,hz,λj hj=>Classical.byContradiction λq=>?_⟩;have:=hmin j ⟨by omega,q⟩
 omega
theorem b2P{p:Hp × Int}(hx:Oh p.1)(hb:0≤p.2)(hs:p.1.S.Serial+p.2<9223372036854775807):∀n,Oh (dN ps n p).1∧0≤(dN ps n p).2∧(dN ps n p).2≤p.2∧(dN ps n p).1.S.Serial+(dN ps n p).2≤p.1.S.Serial+p.2
 | 0=>⟨hx,hb,Int.le_refl _,Int.le_refl _⟩
 | n+1=>by
  obtain⟨a,b,c,d⟩:=b2P hx hb hs n;rw[a9K];cases e:(dN ps n p).1.Q.L with
  | nil=>rw[c0C ps e];exact⟨a,b,c,d⟩
  | cons t ts=>
   rw[a5a ps e];split
   ·rename_i q;have q2:=q;unfold cst at q2;obtain⟨r1,_,r3,_⟩:=c5K a e ps (by omega)
    refine⟨r1,?_,?_,?_⟩;·dsimp only;omega
    ·have:=a9J ps t;dsimp only;omega
    ·dsimp only;unfold cst;omega
   ·exact⟨a,b,c,d⟩
end
noncomputable def dn(ps:List (List c9))(p:Hp × Int):Nat:=if h:0≤p.2 then Classical.choose (c0i ps h) else 0
theorem c0j(ps:List (List c9)){p:Hp × Int}(h:0≤p.2):(dn ps p:Int)≤p.2∧¬can ps (dN ps (dn ps p) p)∧∀j,j<dn ps p→can ps (dN ps j p):=by
 unfold dn;rw[dif_pos h];exact Classical.choose_spec (c0i ps h)
noncomputable def dr(ps:List (List c9))(p:Hp × Int):Hp × Int:=dN ps (dn ps p) p
theorem d0u(ps:List (List c9)){x:Hp}{f:Int}(hx:Oh x)(hf:0≤f)(hs:x.S.Serial+f<9223372036854775807):Oh (dr ps (x,f)).1∧0≤(dr ps (x,f)).2∧(dr ps (x,f)).2≤f∧(dr ps (x,f)).1.S.Serial+(dr ps (x,f)).2≤x.S.Serial+f:=b2P ps (p:=(x,f)) hx hf hs _
end Go.Sh
namespace Go.Sh
section
variable{x:Hp}(hx:HpS x)(hS:∀k∈lv x.S,(ob x.S k).Strong≤9223372036854775807)
include hx hS
theorem c3C{h:Int}(hh:h=0∨h∈lv x.S):h≤9223372036854775807:=by
 rcases hh with q | q
 ·omega
 ·have:=F6 hx.sr q;omega
theorem c4y(k:Int){h:Int}(hh:h≤9223372036854775807):a0c x k h=some (if k<0∨5<k then (x,6) else if h=0∨h∈lv x.S then (D2 x k.toNat h,0) else (x,3)):=by
 have hR:=hx.sr;have r6:=hx.r6;unfold a0c;by_cases hk:k<0∨5<k
 ·rw[if_pos hk,if_pos (by rw[r6];simp;omega)]
 ·rw[if_neg hk,if_neg (by rw[r6];simp;omega),a2a hR hh,d2d]
  by_cases hn:h=0∨h∈lv x.S
  ·rw[if_pos hn,decide_eq_true hn,if_neg (by simp)]
   obtain⟨n,rfl⟩:∃n:Nat,k=n:=⟨k.toNat,by omega⟩
   have hn6:n<6:=by omega
   have hnl:n<x.Roots.length:=by omega
   have old:x.Roots[n]≤9223372036854775807:=c3C hx hS (hx.rt _ (List.getElem_mem hnl));have e1:=a5m x h;have hn2:n<(A3 x h).Roots.length:=by rw[e1.1];exact hnl
   rw[n7 hnl,d2d];unfold C9 M1 J4;rw[a5k hR hh hS,d2d];dsimp only;rw[J8 (by omega) (by rw[e1.1];omega),d2d,n7 hn2,d2d,d2d]
   have hrel:=a2f (x:=wR (A3 x h) (x.Roots.set n h)) (a21 hR h) old;rw[Int.toNat_natCast,e1.1,show A6 ⟨(A3 x h).S,x.Roots.set n h,(A3 x h).a8,(A3 x h).T,(A3 x h).Q⟩ x.Roots[n]=_ from hrel];unfold D2;rw[List.getD_eq_getElem?_getD,List.getElem?_eq_getElem hnl];rfl
  ·rw[if_neg hn,decide_eq_false hn,if_pos (by simp)]
theorem c6L(k:Int){h:Int}(hh:h≤9223372036854775807):U7 (hO x) k h=some (if k<0∨5<k then (hO x,6) else if h=0∨h∈lv x.S then (hO (D2 x k.toNat h),0) else (hO x,3)):=by
 have hR:=hx.sr;have r6:=hx.r6;unfold U7;by_cases hk:k<0∨5<k
 ·rw[if_pos hk,if_pos (by simp;omega)]
 ·rw[if_neg hk,if_neg (by simp;omega),b0c hR hh,d2d]
  by_cases hn:h=0∨h∈lv x.S
  ·rw[if_pos hn,decide_eq_true hn,if_neg (by simp)]
   obtain⟨n,rfl⟩:∃n:Nat,k=n:=⟨k.toNat,by omega⟩
   have hnl:n<x.Roots.length:=by omega
   have hnl':n<(hO x).Roots.length:=hnl;have old:x.Roots[n]≤9223372036854775807:=c3C hx hS (hx.rt _ (List.getElem_mem hnl));have e1:=a5m x h;have r6':(hO x).Roots.length=6:=r6;rw[n7 hnl',d2d,a7y hR hh hS,d2d,J8 (by omega) (by rw[r6'];omega),d2d,n7 hnl',d2d]
   have hrel:=a3v (x:=wR (A3 x h) (x.Roots.set n h)) (a21 hR h) old;rw[Int.toNat_natCast];rw[show D1 ⟨(hO (A3 x h)).S,(hO x).Roots.set n h,(hO (A3 x h)).a8,(hO (A3 x h)).T,(hO (A3 x h)).Q⟩ (hO x).Roots[n]=_ from hrel];unfold D2;rw[List.getD_eq_getElem?_getD,List.getElem?_eq_getElem hnl];rfl
  ·rw[if_neg hn,decide_eq_false hn,if_pos (by simp)]
end
theorem b9r(ps:List (List c9))(n:Int):a3B ps n=some (prg ps n):=by
 unfold a3B prg;by_cases h:n<0∨(ps.length:Int)≤n
 ·rw[if_pos (by simpa using h),if_pos h]
 ·rw[if_neg (by simpa using h),if_neg h]
  obtain⟨k,rfl⟩:∃k:Nat,n=k:=⟨n.toNat,by omega⟩
  have hk:k<ps.length:=by omega
  rw[n7 hk,d2d,Int.toNat_natCast,List.getD_eq_getElem?_getD,List.getElem?_eq_getElem hk];rfl
abbrev psR(ps:List (List c9)):List (List M6):=ps.map (List.map opR)
theorem c4i(ps:List (List c9))(n:Int):a7v (psR ps) n=some ((prg ps n).map opR):=by
 unfold a7v prg;rw[List.length_map];by_cases h:n<0∨(ps.length:Int)≤n
 ·rw[if_pos (by simpa using h),if_pos h]
  rfl
 ·rw[if_neg (by simpa using h),if_neg h]
  obtain⟨k,rfl⟩:∃k:Nat,n=k:=⟨n.toNat,by omega⟩
  have hk:k<ps.length:=by omega
  have hk2:k<(psR ps).length:=by simpa using hk
  rw[n7 hk2,d2d,Int.toNat_natCast,List.getD_eq_getElem?_getD,List.getElem?_eq_getElem hk];simp[psR]
def Mp(ps:List (List c9)):Prop:=∀p∈ps,p.length≤6
theorem b2n{ps:List (List c9)}(h:Mp ps)(n:Int):(prg ps n).length≤6:=by
 unfold prg;split;·simp
 ·rename_i q;have hk:n.toNat<ps.length:=by omega
  rw[List.getD_eq_getElem?_getD,List.getElem?_eq_getElem hk];exact h _ (List.getElem_mem hk)
theorem c0h{ps:List (List c9)}(h:Mp ps)(t:g9):a5L ps t=some (cst ps t):=by
 have:=b2n h t.Prog;unfold a5L cst;rw[b9r,d2d,A9 (by omega) (by omega)]
theorem c2V{ps:List (List c9)}(h:Mp ps)(t:g9):a7u (psR ps) ⟨t.Kind,t.At,t.Prog⟩=some (cst ps t):=by
 have:=b2n h t.Prog;unfold a7u cst;show (a7v (psR ps) t.Prog).bind _=_;rw[c4i,d2d,List.length_map,A9 (by omega) (by omega)]
theorem b8V(x:Hp):a2x x=some (x.Q.L.isEmpty):=by
 unfold a2x;rw[b6Q,d2d];unfold tnx;cases x.Q.L <;> rfl
theorem c24(x:Hp):b1j (hO x)=some (x.Q.L.isEmpty):=by
 unfold b1j;show some ((((x.Q.L.map _).length:Nat):Int)==0)=_;cases x.Q.L with
 | nil=>rfl
 | cons a l=>simp;omega
section
variable{x:Hp}(hx:Oh x){t:g9}{ts:List g9}(hq:x.Q.L=t::ts){ps:List (List c9)}(hm:Mp ps)(hb:x.S.Serial<9000000000000000000)
include hx hq hm hb
theorem c4R:a5M x ps=some (dne ps x t ts,t,0):=by
 have J9:=b2n hm t.Prog;have pok:=b6g hx hq;have pser:=b2m hx hq;obtain⟨rok,_,_⟩:=b6u hx hq ps (by omega)
 have hrun:=(run_eq pok.rt pok.sl pok.zr (prg ps t.Prog) (by omega) (by rw[pser];omega)).1
 have hrun':a2B (pre x t ts) (prg ps t.Prog)=some (ran ps x t ts,(runs (pre x t ts) (prg ps t.Prog)).2):=hrun;have hz:=T1 rok.rt (r:=5) (by decide) (h:=0) (.inl rfl)
 have zS:=a3V rok.rt.sh.sr rok.sl 5 0;unfold a5M;rw[b6Q,d2d];have e:tnx x.Q=(⟨ts,x.Q.Cap⟩,t,0):=by unfold tnx;rw[hq]
 rw[e];dsimp only;rw[if_neg (by simp)]
 simp only[jn];by_cases k:t.Kind=1
 ·have hk:(t.Kind==1)=true:=by simpa using k
  have hat:=(b81 hx.rt hq k).1;have ush:=b6U hx.rt hq;have hm1:=a1z hx.rt.sh.sr hat;have e1:a0c ⟨x.S,x.Roots,x.a8,x.T,⟨ts,x.Q.Cap⟩⟩ 5 t.At=some (D2 (unq x ts) 5 t.At,0):=by
   have:=c4y (x:=unq x ts) ush hx.sl 5 hm1;rw[if_neg (by omega),if_pos (.inr hat)] at this
   exact this
  have e2:A6 (D2 (unq x ts) 5 t.At) t.At=some (b0V x ts t.At):=a2f (U8 (x:=unq x ts) hx.rt.sh.sr 5 t.At).sr hm1;have e3:=a3w (a40 hx.rt hq k) (b82 hx.rt hx.sl t.At);have e4:pre x t ts=a0j (b0V x ts t.At):=by unfold pre;rw[if_pos k]
  have e5:=c01 rok.rt rok.sl 5 (h:=0) (by decide)
  rw[if_neg (by omega),if_pos (.inl rfl)] at e5
  rw[if_pos hk,e1,d2d];dsimp only;rw[e2,d2d,e3,d2d,b9r,d2d,←e4,hrun',d2d,if_pos hk];dsimp only;rw[e5,d2d];refine bnd (a3w hz zS) ?_;unfold dne;rw[if_pos k];rfl
 ·have hk:¬(t.Kind==1)=true:=by simpa using k
  have e4:pre x t ts=unq x ts:=by unfold pre;rw[if_neg k]
  rw[if_neg hk,b9r,d2d,show (⟨x.S,x.Roots,x.a8,x.T,⟨ts,x.Q.Cap⟩⟩:b6)=pre x t ts from e4.symm,hrun',d2d,if_neg hk];unfold dne;rw[if_neg k]
theorem c9O:b3B (hO x) (psR ps)=some (hO (dne ps x t ts),tkR t,0):=by
 have J9:=b2n hm t.Prog;have pok:=b6g hx hq;have pser:=b2m hx hq;obtain⟨rok,_,_⟩:=b6u hx hq ps (by omega)
 have hrun:=(run_eq pok.rt pok.sl pok.zr (prg ps t.Prog) (by omega) (by rw[pser];omega)).2
 have hrun':b2u (hO (pre x t ts)) ((prg ps t.Prog).map opR)=some (hO (ran ps x t ts),(runs (pre x t ts) (prg ps t.Prog)).2):=hrun;have hz:=T1 rok.rt (r:=5) (by decide) (h:=0) (.inl rfl)
 have zS:=a3V rok.rt.sh.sr rok.sl 5 0;unfold b3B;rw[show (hO x).Q=tqR x.Q from rfl,c9x,d2d];have e:tnx x.Q=(⟨ts,x.Q.Cap⟩,t,0):=by unfold tnx;rw[hq]
 rw[e];dsimp only;rw[if_neg (by simp)]
 simp only[jn];have hkk:(tkR t).Kind=t.Kind:=rfl;have hka:(tkR t).At=t.At:=rfl;have hkp:(tkR t).Prog=t.Prog:=rfl;rw[hkk,hka,hkp];by_cases k:t.Kind=1
 ·have hk:(t.Kind==1)=true:=by simpa using k
  have hat:=(b81 hx.rt hq k).1;have ush:=b6U hx.rt hq;have hm1:=a1z hx.rt.sh.sr hat;have e1:U7 (hO (unq x ts)) 5 t.At=some (hO (D2 (unq x ts) 5 t.At),0):=by
   have:=c6L (x:=unq x ts) ush hx.sl 5 hm1;rw[if_neg (by omega),if_pos (.inr hat)] at this
   exact this
  have e2:D1 (hO (D2 (unq x ts) 5 t.At)) t.At=some (hO (b0V x ts t.At)):=a3v (U8 (x:=unq x ts) hx.rt.sh.sr 5 t.At).sr hm1;have e3:=a5p (a40 hx.rt hq k) (b82 hx.rt hx.sl t.At);have e4:pre x t ts=a0j (b0V x ts t.At):=by unfold pre;rw[if_pos k]
  have e5:=b9D rok.rt rok.sl 5 (h:=0) (by decide)
  rw[if_neg (by omega),if_pos (.inl rfl)] at e5
  rw[if_pos hk,show (⟨(hO x).S,(hO x).Roots,(hO x).a8,(hO x).T,tqR ⟨ts,x.Q.Cap⟩⟩:g6)=hO (unq x ts) from rfl,e1,d2d];dsimp only;rw[e2,d2d,e3,d2d,c4i,d2d,←e4,hrun',d2d,if_pos hk];dsimp only;rw[e5,d2d];refine bnd (a5p hz zS) ?_;unfold dne;rw[if_pos k];rfl
 ·have hk:¬(t.Kind==1)=true:=by simpa using k
  have e4:pre x t ts=unq x ts:=by unfold pre;rw[if_neg k]
  rw[if_neg hk,c4i,d2d,show (⟨(hO x).S,(hO x).Roots,(hO x).a8,(hO x).T,tqR ⟨ts,x.Q.Cap⟩⟩:g6)=hO (pre x t ts) by rw[e4];rfl,hrun',d2d,if_neg hk]
  unfold dne;rw[if_neg k]
end
section
variable{x:Hp}(hx:Oh x){ps:List (List c9)}(hm:Mp ps){f:Int}(hf:0≤f)(hf2:f≤1000000)(hb:x.S.Serial<8000000000000000000)
include hx hm hf hf2 hb
def dre(p:Hp × Int):Int:=if p.1.Q.L.isEmpty then 0 else 12
theorem drain_eq:a2w x ps f=some ((dr ps (x,f)).1,(dn ps (x,f):Int),(dr ps (x,f)).2,dre (dr ps (x,f))):=by
 obtain⟨a1,a2,a3⟩:=c0j ps (p:=(x,f)) hf;have all:=b2P ps (p:=(x,f)) hx hf (by show x.S.Serial+f<_;omega)
 unfold a2w;simp only[jn];dsimp only at a1;refine a0F (λk=>((dN ps k (x,f)).2,(dN ps k (x,f)).1,(k:Int),(dN ps k (x,f)).2,(dN ps k (x,f)).1)) rfl (dn ps (x,f)) (λ_=>True) (by omega) trivial (λk hk _=>.inl ⟨?_,trivial⟩) (λ_=>⟨((dn ps (x,f):Int),(dr ps (x,f)).2,(dr ps (x,f)).1),?_,?_⟩)
 ·obtain⟨b1,b2,b3,b4⟩:=all k;obtain⟨t,ts,e,c⟩:=a3 k hk;dsimp only at b2 b3 b4;have hc:=a9J ps t;rw[b8V,e,d2d];show (a1j _).bind _=_;rw[b6Q,d2d];have e2:tnx (dN ps k (x,f)).1.Q=(⟨ts,(dN ps k (x,f)).1.Q.Cap⟩,t,0):=by unfold tnx;rw[e]
  rw[e2];dsimp only;rw[c0h hm,d2d,if_neg (by simp;omega),c4R b1 e hm (by omega),d2d,A9 (by omega) (by omega),k8,a9K,a5a ps e,if_pos c]
 ·rw[b8V,d2d];cases e:(dN ps (dn ps (x,f)) (x,f)).1.Q.L with
  | nil=>rfl
  | cons t ts=>
   have hc:¬cst ps t≤(dN ps (dn ps (x,f)) (x,f)).2:=λq=>a2 ((b2L ps e).2 q);show (a1j _).bind _=_;rw[b6Q,d2d];have e2:tnx (dN ps (dn ps (x,f)) (x,f)).1.Q=(⟨ts,(dN ps (dn ps (x,f)) (x,f)).1.Q.Cap⟩,t,0):=by unfold tnx;rw[e]
   rw[e2];dsimp only;rw[c0h hm,d2d,if_pos (by simp;omega)]
   rfl
 ·dsimp only;rw[b8V,d2d];unfold dre;cases (dr ps (x,f)).1.Q.L.isEmpty <;> rfl
theorem c5N:a8d (hO x) (psR ps) f=some (hO (dr ps (x,f)).1,(dn ps (x,f):Int),(dr ps (x,f)).2,dre (dr ps (x,f))):=by
 obtain⟨a1,a2,a3⟩:=c0j ps (p:=(x,f)) hf;have all:=b2P ps (p:=(x,f)) hx hf (by show x.S.Serial+f<_;omega)
 unfold a8d;simp only[jn];dsimp only at a1;refine a0F (λk=>((dN ps k (x,f)).2,(k:Int),hO (dN ps k (x,f)).1)) rfl (dn ps (x,f)) (λ_=>True) (by omega) trivial (λk hk _=>.inl ⟨?_,trivial⟩) (λ_=>?_)
 ·obtain⟨b1,b2,b3,b4⟩:=all k;obtain⟨t,ts,e,c⟩:=a3 k hk;dsimp only at b2 b3 b4;have hc:=a9J ps t;rw[c24,e,d2d];have e2:ix (hO (dN ps k (x,f)).1).Q.L 0=some (tkR t):=by
   show ix ((dN ps k (x,f)).1.Q.L.map tkR) 0=_;rw[e];rfl
  show (ix (hO (dN ps k (x,f)).1).Q.L 0).bind _=_;rw[e2,d2d,show a7u (psR ps) (tkR t)=_ from c2V hm t,d2d,if_neg (by simp;omega),c9O b1 e hm (by omega),d2d,A9 (by omega) (by omega),k8,a9K,a5a ps e,if_pos c]
 ·cases e:(dN ps (dn ps (x,f)) (x,f)).1.Q.L with
  | nil=>
   refine⟨.inr ((dr ps (x,f)).2,(dn ps (x,f):Int),hO (dr ps (x,f)).1),?_,?_⟩
   ·rw[c24,e];rfl
   ·unfold dre;have e':(dr ps (x,f)).1.Q.L = []:=e;rw[e'];rfl
  | cons t ts=>
   have hc:¬cst ps t≤(dN ps (dn ps (x,f)) (x,f)).2:=λq=>a2 ((b2L ps e).2 q);refine⟨.inl (hO (dr ps (x,f)).1,(dn ps (x,f):Int),(dr ps (x,f)).2,12),?_,?_⟩
   ·rw[c24,e,d2d];have e2:ix (hO (dN ps (dn ps (x,f)) (x,f)).1).Q.L 0=some (tkR t):=by
     show ix ((dN ps (dn ps (x,f)) (x,f)).1.Q.L.map tkR) 0=_;rw[e];rfl
    show (ix (hO (dN ps (dn ps (x,f)) (x,f)).1).Q.L 0).bind _=_;rw[e2,d2d,show a7u (psR ps) (tkR t)=_ from c2V hm t,d2d,if_pos (by simp;omega)]
    rfl
   ·unfold dre;have e':(dr ps (x,f)).1.Q.L=t::ts:=e;rw[e'];rfl
end
end Go.Sh
namespace Go.Sh
theorem d0J{l:List (List c9)}(h:a59 l=true):Mp l∧l.length≤6:=by
 unfold a59 at h;rw[Bool.and_eq_true,decide_eq_true_iff,List.all_eq_true] at h;refine⟨λp hp=>?_,h.1⟩;have:=h.2 p hp;unfold b1H at this;rw[Bool.and_eq_true,decide_eq_true_iff] at this;exact this.1
end Go.Sh
namespace Go.Sh
end Go.Sh
namespace Go.Sh
end Go.Sh
namespace Go.Sh
end Go.Sh
namespace Go.Sh
noncomputable def eo(ps:List (List c9))(x:Hp)(o:c9):Hp × Int × Int:=
 if o.Kind=11 then (col x,cgn x-((btc x).length:Int),0)
 else if o.Kind=12 then ((dr ps (x,o.A)).1,(dn ps (x,o.A):Int),dre (dr ps (x,o.A)))
 else dov x o
noncomputable def er(ps:List (List c9))(x:Hp)(row:List Int):Hp × Int × Int:=if (H0 row).2≠0 then (x,0,(H0 row).2) else eo ps x (H0 row).1
noncomputable def ers(ps:List (List c9))(x:Hp)(rows:List (List Int)):Hp × List (Int × Int):=rows.foldl (λp r=>((er ps p.1 r).1,p.2 ++ [(er ps p.1 r).2])) (x,[])
theorem c27(ps:List (List c9))(x:Hp)(l:List (List Int))(r:List Int):ers ps x (l ++ [r])=((er ps (ers ps x l).1 r).1,(ers ps x l).2 ++ [(er ps (ers ps x l).1 r).2]):=by
 unfold ers;rw[List.foldl_append];rfl
theorem b5K(ps:List (List c9)):∀(l:List (List Int)) (x:Hp) (a:List (Int × Int)),l.foldl (λp r=>((er ps p.1 r).1,p.2 ++ [(er ps p.1 r).2])) (x,a)=((ers ps x l).1,a++(ers ps x l).2)
 | [],x,a=>by simp[ers]
 | r::l,x,a=>by
  unfold ers;rw[List.foldl_cons,List.foldl_cons,b5K ps l,b5K ps l _ ([]++_)];simp
theorem c0k(ps:List (List c9))(x:Hp)(l m:List (List Int)):ers ps x (l++m)=((ers ps (ers ps x l).1 m).1,(ers ps x l).2++(ers ps (ers ps x l).1 m).2):=by
 have:ers ps x (l++m)=m.foldl (λp r=>((er ps p.1 r).1,p.2 ++ [(er ps p.1 r).2])) (ers ps x l):=by
  unfold ers;rw[List.foldl_append]
 rw[this];exact b5K ps m (ers ps x l).1 (ers ps x l).2
theorem b5L(ps:List (List c9))(x:Hp)(l:List (List Int)):(ers ps x l).2.length=l.length:=by
 induction l generalizing x with
 | nil=>rfl
 | cons r l ih=>
  have:=c0k ps x [r] l;rw[List.singleton_append] at this;rw[this,List.length_append,ih];show 1+l.length=l.length+1;omega
theorem b2b{row:List Int}(h:(H0 row).2=0):w9 (H0 row).1.Kind (H0 row).1.A (H0 row).1.B (H0 row).1.C=0:=by
 unfold H0 at h ⊢;rcases four row with ⟨k,a,b,c,rfl⟩ | hl
 ·rw[b2c,Option.getD_some] at h ⊢;by_cases q:w9 k a b c≠0
  ·rw[if_pos q] at h;exact absurd h q
  ·rw[if_neg q];exact Classical.not_not.1 q
 ·rw[(b2d hl).1,Option.getD_some] at h;exact absurd h (by decide)
theorem c0f{a b c:Int}(h:w9 12 a b c=0):0≤a∧a≤200:=in0 (by decide) (show H5 a 0 200 12=0 from h)
section
variable{ps:List (List c9)}(hm:Mp ps){x:Hp}(hx:Oh x)(hb:x.S.Serial<7000000000000000000)
include hm hx hb
theorem d0v{o:c9}(ho:o.Kind=12→0≤o.A∧o.A≤200):Oh (eo ps x o).1∧(eo ps x o).1.S.Serial≤x.S.Serial+201:=by
 unfold eo;split
 ·obtain⟨a,b,c⟩:=b5C hx.rt hx.sl hx.zr;refine⟨⟨a,b,c⟩,?_⟩;show (col x).S.Serial≤_;rw[c0g hx.rt hx.sl hx.zr];omega
 ·split
  ·rename_i h;obtain⟨h0,h2⟩:=ho h;obtain⟨a,b,c,d⟩:=d0u ps hx h0 (by omega)
   exact⟨a,by show (dr ps (x,o.A)).1.S.Serial≤_;omega⟩
  ·have n:=a52 hx.rt hx.sl hx.zr (by omega) o
   have:=n.ev.s2;exact⟨n.ok,by omega⟩
theorem c7l(row:List Int):Oh (er ps x row).1∧(er ps x row).1.S.Serial≤x.S.Serial+201:=by
 unfold er;split;·exact⟨hx,by show x.S.Serial≤_;omega⟩
 ·rename_i h;have hc:=b2b (Classical.not_not.1 h);refine d0v hm hx hb λhk=>?_;rw[hk] at hc;exact c0f hc
end
theorem a9c{ps:List (List c9)}(hm:Mp ps){x:Hp}(hx:Oh x):∀(l:List (List Int)),x.S.Serial+201*(l.length:Int)<7000000000000000000→Oh (ers ps x l).1∧(ers ps x l).1.S.Serial≤x.S.Serial+201*(l.length:Int):=by
 intro l;induction l generalizing x with
 | nil=>exact λ_=>⟨hx,by show x.S.Serial≤_;simp⟩
 | cons r l ih=>
  intro hb;rw[List.length_cons] at hb ⊢;obtain⟨a,b⟩:=c7l hm hx (by omega) r
  obtain⟨c,d⟩:=ih a (by omega)
  have e:=c0k ps x [r] l;rw[List.singleton_append] at e;rw[e];exact⟨c,by
   have:(ers ps (ers ps x [r]).1 l).1.S.Serial≤(er ps x r).1.S.Serial+201*(l.length:Int):=d;show (ers ps (ers ps x [r]).1 l).1.S.Serial≤_;omega⟩
end Go.Sh
namespace Go.Sh
def ctO(l:List b7)(k:Int):Nat:=l.countP λc=>c.State==k
theorem c2X(l:List b7)(c:b7)(k:Int):ctO (l ++ [c]) k=ctO l k+if c.State=k then 1 else 0:=by
 unfold ctO;rw[List.countP_append];simp[List.countP_cons]
noncomputable def srs(x:Hp):List Int:=(lv x.S).map λh=>P7 x h
theorem c3E{s:a7}(hR:SR s){h:Int}(hh:h∈lv s):sk s.S.a8 h=(ob s h).Serial:=by
 obtain⟨i,hi⟩:=(a1U hR).1 hh;rw[c2G hR hi,K6 hR hi]
theorem c4M{x:Hp}(hR:SR x.S):(srs x).Pairwise (· < ·):=by
 unfold srs;rw[List.pairwise_map];refine List.Pairwise.imp_of_mem (λ{a b} ha hb h=>?_) (a4n (p7.2 hR)).2.2;rw[c3E hR ha,c3E hR hb] at h;exact h
theorem c4L{x:Hp}(hR:SR x.S):(srs x).mergeSort (λx y=>decide (x≤y))=srs x:=
 List.mergeSort_of_pairwise ((c4M hR).imp λh=>decide_eq_true (by omega))
theorem b2x{x:Hp}(hR:SR x.S):(srs x).length≤24:=by
 unfold srs;rw[List.length_map];exact D6 (p7.2 hR)
end Go.Sh
namespace Go.Sh
inductive Fm (x:Hp) (o:c9) (z:Hp) (v:Int):Prop
 | new (i:Nat) (hF:Fst x.S i) (hk:o.Kind=1) (ha:0≤o.A∧o.A≤5) (hn:o.B.toNat≤4) (hc : -1≤o.C∧o.C≤5) (hv:v=x.S.Serial+1) (hz:z=D2 (wS x (mkS x.S i o.B.toNat o.C)) o.A.toNat (hdl x.S i)):Fm x o z v
 | root (h:Int) (hk:o.Kind≠1) (ha:0≤o.A∧o.A≤5) (hh:h=0∨h∈lv x.S) (hz:z=D2 x o.A.toNat h):Fm x o z v
 | field (h:Int) (n:Nat) (u:Int) (hk:o.Kind=5) (hl:h∈lv x.S) (hn:n<(ob x.S h).Fields.length) (hu:u=0∨u∈lv x.S) (hz:z=a0U x h n u):Fm x o z v
 | weak (h:Int) (hk:o.Kind=6) (ha:0≤o.A∧o.A≤5) (hc : -1≤o.C∧o.C≤5) (hh:h=0∨h∈lv x.S) (hw:wts x.Q o.A=false) (hz:z=a1Z x o.A.toNat h o.C):Fm x o z v
 | pair (h u:Int) (r:Tb × Int × Int) (hk:o.Kind=8) (hl:h∈lv x.S) (hu:u=0∨u∈lv x.S) (hr:Q6 x.T h u=some r) (h0:r.2.2=0) (hz:z=a5e x u r.1 r.2.1):Fm x o z v
 | same (hk:o.Kind=10) (hz:z=x):Fm x o z v
theorem d0s{x:Hp}(hx:K5 x)(hS:SL x)(hz:zr x = [])(hb:x.S.Serial<9223372036854775807)(o:c9):(∃e,Er x o e)∨∃z v,Dn x o z v∧Fm x o z v:=by
 obtain⟨k,a,b,c⟩:=o;have sl:=a7E hx.sh;by_cases hc:w9 k a b c=0
 ·have:=b53 hc;have hk:k=1∨k=2∨k=3∨k=4∨k=5∨k=6∨k=7∨k=8∨k=9∨k=10∨k=11∨k=12:=by omega
  rcases hk with rfl | rfl | rfl | rfl | rfl | rfl | rfl | rfl | rfl | rfl | rfl | rfl
  ·rcases d1 hx hS hb hc with ⟨e,_,h⟩ | ⟨hn,hcc,i,hF,h⟩;·exact .inl ⟨e,h⟩
   ·exact .inr ⟨_,_,h,.new i hF rfl (d0g hc).1 hn hcc rfl rfl⟩
  ·exact .inr ⟨_,_,d2 hx hS hc,.root _ (show (2:Int)≠1 by decide) (c5E hc).1 (sl b) rfl⟩
  ·exact .inr ⟨_,_,d3 hx hS hc,.root 0 (show (3:Int)≠1 by decide) (d0i hc) (.inl rfl) rfl⟩
  ·rcases d4 hx hS hc with ⟨_,h⟩ | ⟨e,_,h⟩ | ⟨hl,n,_,hn,h⟩;·exact .inl ⟨_,h⟩
   ·exact .inl ⟨_,h⟩
   ·exact .inr ⟨_,_,h,.root _ (show (4:Int)≠1 by decide) (d0j hc).1 (hx.sh.fl _ hl _ (List.getElem_mem hn)) rfl⟩
  ·rcases d5 hx hS hc with ⟨_,h⟩ | ⟨e,_,h⟩ | ⟨hl,n,_,hn,h⟩;·exact .inl ⟨_,h⟩
   ·exact .inl ⟨_,h⟩
   ·exact .inr ⟨_,_,h,.field _ n _ rfl hl hn (sl c) rfl⟩
  ·rcases d6 hx hS hc with ⟨_,h⟩ | ⟨e,_,h⟩ | ⟨hw,h⟩;·exact .inl ⟨_,h⟩
   ·exact .inl ⟨_,h⟩
   ·exact .inr ⟨_,_,h,.weak _ rfl (c8m hc).1 (c8m hc).2.2 (sl b) hw rfl⟩
  ·obtain⟨hl,⟨_,h⟩ | ⟨hI,h⟩⟩:=d7 hx hS hc;·exact .inl ⟨_,h⟩
   ·exact .inr ⟨_,_,h,.root _ (show (7:Int)≠1 by decide) (d0k hc).1 (.inr ((hx.sh.cl _ hl).2.2.2.2 hI).1) rfl⟩
  ·rcases d8 hx hS hc with ⟨_,h⟩ | ⟨_,e,_,h⟩ | ⟨hl,r,h1,h2,h⟩;·exact .inl ⟨_,h⟩
   ·exact .inl ⟨_,h⟩
   ·exact .inr ⟨_,_,h,.pair _ _ r rfl hl (sl b) h1 h2 rfl⟩
  ·rcases d9 hx hS hc with ⟨_,h⟩ | ⟨_,_,h⟩ | ⟨_,v,hv,h⟩;·exact .inl ⟨_,h⟩
   ·exact .inl ⟨_,h⟩
   ·exact .inr ⟨_,_,h,.root _ (show (9:Int)≠1 by decide) (d0l hc).1 (.inr (hx.sh.pr _ _ hv).2) rfl⟩
  ·exact .inr ⟨_,_,d10 hx hS hz hc,.same rfl rfl⟩
  ·obtain⟨h1,h2⟩:=b0Q (x:=x) (a:=a) (b:=b) (c:=c) (.inl rfl) hc;exact .inl ⟨14,by decide,h1,h2⟩
  ·obtain⟨h1,h2⟩:=b0Q (x:=x) (a:=a) (b:=b) (c:=c) (.inr rfl) hc;exact .inl ⟨14,by decide,h1,h2⟩
 ·obtain⟨h1,h2⟩:=b8T (x:=x) (o:=⟨k,a,b,c⟩) hc;exact .inl ⟨_,hc,h1,h2⟩
theorem Fm.ks{x z:Hp}{o:c9}{v:Int}(hx:K5 x)(f:Fm x o z v)(hk:o.Kind≠1):Ks x.S z.S:=by
 have hR:=hx.sh.sr;cases f with
 | new i hF hk'=>exact absurd hk' hk
 | root h _ ha hh hz=>rw[hz];exact U8 hR _ _
 | field h n u _ hl hn hu hz=>rw[hz];exact b4H hR hl hn u
 | weak h _ ha hc hh hw hz=>rw[hz];exact b8r hx (by omega) h _
 | pair h u r _ hl hu hr h0 hz=>rw[hz];exact b7Q hR u _ _
 | same _ hz=>rw[hz];exact Ks.refl hR
theorem c5M{x:Hp}(hx:Oh x)(hb:x.S.Serial<9223372036854775807)(o:c9):((dov x o).2.2=0∧o.Kind=1∧(dov x o).2.1=x.S.Serial+1∧(dov x o).1.S.Serial=x.S.Serial+1)∨(¬((dov x o).2.2=0∧o.Kind=1)∧(dov x o).1.S.Serial=x.S.Serial∧∀h∈lv (dov x o).1.S,h∈lv x.S∧(ob (dov x o).1.S h).Serial=(ob x.S h).Serial):=by
 rcases d0s hx.rt hx.sl hx.zr hb o with ⟨e,he,h,_⟩ | ⟨z,v,d,f⟩
 ·have:dov x o=(x,0,e):=by unfold dov;rw[h];rfl
  rw[this];exact .inr ⟨λq=>he q.1,rfl,λh hh=>⟨hh,rfl⟩⟩
 ·have e:dov x o=(a0j z,v,0):=by unfold dov;rw[d.mc];rfl
  have st:=a3Y d.rt;rw[e];by_cases hk:o.Kind=1
  ·left;cases f with
   | new i hF _ ha hn hc hv hz=>
    obtain⟨hi,h0,_⟩:=hF;refine⟨rfl,hk,hv,?_⟩;show (a0j z).S.Serial=_;rw[st.P7,hz];exact (U8 (x:=wS x (mkS x.S i o.B.toNat o.C)) (b42 hx.rt.sh.sr hi h0 hn hc) _ _).P7
   | root h hk'=>exact absurd hk hk'
   | field h n u hk'=>rw[hk] at hk';exact absurd hk' (by decide)
   | weak h hk'=>rw[hk] at hk';exact absurd hk' (by decide)
   | pair h u r hk'=>rw[hk] at hk';exact absurd hk' (by decide)
   | same hk'=>rw[hk] at hk';exact absurd hk' (by decide)
  ·right;have k:=f.ks hx.rt hk;refine⟨λq=>hk q.2,by show (a0j z).S.Serial=_;rw[st.P7,k.P7],λh hh=>?_⟩
   have h1:=st.lv h hh;rw[k.lv] at h1;exact⟨h1,(st.ob h hh).1.trans (k.ob h h1)⟩
end Go.Sh
namespace Go.Sh
def anE(p:Int × Int):k9:=⟨p.1,p.2⟩
def anR(p:Int × Int):H6:=⟨p.1,p.2⟩
section
variable{ps:List (List c9)}(hm:Mp ps){x:Hp}(hx:Oh x)(hb:x.S.Serial<7000000000000000000)
include hm hx hb
theorem c2N : -24≤cgn x-((btc x).length:Int)∧cgn x-((btc x).length:Int)≤24:=by
 have h1:=b5y hx.rt hx.sl hx.zr;have h2:(lv x.S).length≤24:=D6 (p7.2 hx.rt.sh.sr);obtain⟨c1,_,_⟩:=b5C hx.rt hx.sl hx.zr;have h3:(lv (col x).S).length≤24:=D6 (p7.2 c1.sh.sr);unfold cgn;split
 ·rename_i e;rw[e];simp;omega
 ·omega
theorem edo(row:List Int):V1 ⟨x,ps⟩ row=some (⟨(er ps x row).1,ps⟩,anE (er ps x row).2):=by
 unfold V1;rw[(b2Q row).1,d2d];unfold er;by_cases h:(H0 row).2=0
 ·rw[if_neg (show ¬(((H0 row).2 != 0)=true) by simp[h]),if_neg (show ¬((H0 row).2≠0) by simp[h])]
  have hc:=b2b h;generalize (H0 row).1=o at hc;unfold a5N eo;by_cases k11:o.Kind=11
  ·rw[if_pos (by simp[k11]),if_pos k11]
   refine Eq.trans (b:=(U1 x).bind λv4=>some (⟨v4.1,ps⟩,⟨r7 (v4.2.2-v4.2.1),0⟩)) rfl ?_;obtain⟨b1,b2⟩:=c2N hm hx hb;rw[c8n hx.rt hx.sl hx.zr,d2d];dsimp only;rw[A9 (by omega) (by omega)]
   rfl
  ·rw[if_neg (by simp[k11]),if_neg k11]
   by_cases k12:o.Kind=12
   ·rw[if_pos (by simp[k12]),if_pos k12]
    refine Eq.trans (b:=(a2w x ps o.A).bind λv5=>some (⟨v5.1,ps⟩,⟨v5.2.1,v5.2.2.2⟩)) rfl ?_;rw[k12] at hc;obtain⟨a0,a2⟩:=c0f hc;rw[drain_eq hx hm a0 (by omega) (by omega),d2d]
    rfl
   ·rw[if_neg (by simp[k12]),if_neg k12]
    refine Eq.trans (b:=(p6 x o).bind λv3=>some (⟨v3.1,ps⟩,⟨v3.2.1,v3.2.2⟩)) rfl ?_;rw[(a52 hx.rt hx.sl hx.zr (by omega) o).mc,d2d]
    rfl
 ·rw[if_pos (by simpa using h),if_pos h]
  rfl
theorem rdo(row:List Int):b9y ⟨hO x,psR ps⟩ row=some (⟨hO (er ps x row).1,psR ps⟩,anR (er ps x row).2):=by
 unfold b9y;rw[(b2Q row).2,d2d];unfold er;by_cases h:(H0 row).2=0
 ·rw[if_neg (show ¬(((H0 row).2 != 0)=true) by simp[h]),if_neg (show ¬((H0 row).2≠0) by simp[h])]
  have hc:=b2b h;generalize (H0 row).1=o at hc;unfold eo;by_cases k11:o.Kind=11
  ·rw[if_pos (by simp[k11,b1X]),if_pos k11]
   obtain⟨b1,b2⟩:=c2N hm hx hb;dsimp only;rw[d0m hx.rt hx.sl hx.zr,d2d];dsimp only;rw[A9 (by omega) (by omega)]
   rfl
  ·rw[if_neg (by simp[k11,b1X]),if_neg k11]
   by_cases k12:o.Kind=12
   ·rw[if_pos (by simp[k12,b1X]),if_pos k12]
    rw[k12] at hc;obtain⟨a0,a2⟩:=c0f hc;refine Eq.trans (b:=(a8d (hO x) (psR ps) o.A).bind λv3=>some (⟨v3.1,psR ps⟩,⟨v3.2.1,v3.2.2.2⟩)) rfl ?_;rw[c5N hx hm a0 (by omega) (by omega),d2d]
    rfl
   ·rw[if_neg (by simp[k12,b1X]),if_neg k12]
    refine Eq.trans (b:=(A8 (hO x) (opR o)).bind λv3=>some (⟨v3.1,psR ps⟩,⟨v3.2.1,v3.2.2⟩)) rfl ?_;rw[(a52 hx.rt hx.sl hx.zr (by omega) o).rf,d2d]
    rfl
 ·rw[if_pos (by simpa using h),if_pos h]
  rfl
end
section
variable{ps:List (List c9)}(hm:Mp ps){x:Hp}(hx:Oh x)
include hm hx
theorem b3R{rows:List (List Int)}{k:Nat}(hk:k<rows.length):ers ps x (rows.take (k+1))=((er ps (ers ps x (rows.take k)).1 rows[k]).1,(ers ps x (rows.take k)).2 ++ [(er ps (ers ps x (rows.take k)).1 rows[k]).2]):=by
 rw[List.take_succ_eq_append_getElem hk,c27]
theorem c5O(rows:List (List Int))(hl:rows.length≤1000)(hb:x.S.Serial<6000000000000000000):T5 ⟨x,ps⟩ rows=some (⟨(ers ps x rows).1,ps⟩,(ers ps x rows).2.map anE):=by
 unfold T5;simp only[jn];refine N8 rows.length (λk s=>s=((⟨(ers ps x (rows.take k)).1,ps⟩:k7),(ers ps x (rows.take k)).2.map anE)) (by omega) rfl (λk s hk hs=>.inl ⟨_,?_,rfl⟩) (λs hs=>⟨s,if_neg (by simp),by rw[hs,List.take_length]⟩)
 subst hs;obtain⟨o1,o2⟩:=a9c hm hx (rows.take k) (by simp;omega)
 have hlen:=b5L ps x (rows.take k);have hkl:(rows.take k).length=k:=by simp;omega
 dsimp only;rw[if_pos (by simpa using hk),n7 hk,d2d,edo hm o1 (by rw[hkl] at o2;omega),d2d,x6 (by omega) (by simp[hlen];omega),d2d,k8,b3R hm hx hk]
 simp
theorem d1M(rows:List (List Int))(hl:rows.length≤1000)(hb:x.S.Serial<6000000000000000000):b2v ⟨hO x,psR ps⟩ rows=some (⟨hO (ers ps x rows).1,psR ps⟩,(ers ps x rows).2.map anR):=by
 unfold b2v;simp only[jn];refine N8 rows.length (λk s=>s=((⟨hO (ers ps x (rows.take k)).1,psR ps⟩:C3),(ers ps x (rows.take k)).2.map anR)) (by omega) rfl (λk s hk hs=>.inl ⟨_,?_,rfl⟩) (λs hs=>⟨s,if_neg (by simp),by rw[hs,List.take_length]⟩)
 subst hs;obtain⟨o1,o2⟩:=a9c hm hx (rows.take k) (by simp;omega)
 have hlen:=b5L ps x (rows.take k);have hkl:(rows.take k).length=k:=by simp;omega
 dsimp only;rw[if_pos (by simpa using hk),n7 hk,d2d,rdo hm o1 (by rw[hkl] at o2;omega),d2d,x6 (by omega) (by simp[hlen];omega),d2d,k8,b3R hm hx hk]
 simp
end
def tal(x:Hp):A4:=⟨ctO x.S.S.a8 0,ctO x.S.S.a8 1,ctO x.S.S.a8 2,ctO x.S.S.a8 3⟩
theorem c60{s:a7}(hR:SR s):O3 s.S=some ⟨ctO s.S.a8 0,ctO s.S.a8 1,ctO s.S.a8 2,ctO s.S.a8 3⟩:=by
 unfold O3;simp only[jn];have hlen:=hR.len;refine N8 s.S.a8.length (λk t=>t=⟨ctO (s.S.a8.take k) 0,ctO (s.S.a8.take k) 1,ctO (s.S.a8.take k) 2,ctO (s.S.a8.take k) 3⟩) (by omega) (by simp[ctO]) (λk t hk ht=>.inl ?_) (λt ht=>⟨_,by simp;rfl,by rw[ht,List.take_length]⟩)
 have hc:=hR.cell k hk;rw[C7 hk] at hc;subst ht;simp only[Int.ofNat_lt,hk,decide_true,if_true,n7 hk,d2d];have hle:∀j,ctO (s.S.a8.take k) j≤24:=λj=>Nat.le_trans List.countP_le_length (by simp;omega)
 have h0:=hle 0;have h1:=hle 1;have h2:=hle 2;have h3:=hle 3;rw[List.take_succ_eq_append_getElem hk];simp only[c2X];refine⟨_,?_,rfl⟩;have hst:s.S.a8[k].State=0∨s.S.a8[k].State=1∨s.S.a8[k].State=2∨s.S.a8[k].State=3:=by omega
 rcases hst with e | e | e | e <;> rw[e] <;> simp[A4.ix,A4.l,A4.st,ix] <;> rw[k8,k8] <;> simp
section
variable{ps:List (List c9)}{x:Hp}(hx:K5 x)
include hx
theorem c8x:N7 ⟨x,ps⟩=some (tal x):=by
 unfold N7;dsimp only;rw[c60 hx.sh.sr,d2d];rfl
theorem b5H:L4 ⟨x,ps⟩=some (srs x):=by
 have hR:=hx.sh.sr;have l24:(lv x.S).length≤24:=D6 (p7.2 hR);unfold L4;simp only[jn];rw[a1y (p7.2 hR),d2d];refine N8 (lv x.S).length (λk l=>l=((lv x.S).take k).map λh=>P7 x h) (by omega) rfl (λk l hk hl=>.inl ⟨_,?_,rfl⟩) (λl hl=>⟨l,if_neg (by simp),?_⟩)
 ·subst hl;dsimp only;have:=F6 hR (List.getElem_mem hk);rw[if_pos (by simpa using hk),n7 hk,d2d,c4H hx.sh (by omega),d2d,x6 (by omega) (by simp;omega),d2d,k8,List.take_succ_eq_append_getElem hk,List.map_append]
  rfl
 ·subst hl;rw[List.take_length];show (a8l (srs x)).bind _=_;have:=b2x (x:=x) hR;unfold a8l;rw[if_pos (by omega),c4L hR]
  rfl
end
end Go.Sh
namespace Go.Sh
theorem Rs.oh{x:Hp}{n:Nat}(h:Rs x n):Oh x:=⟨h.rt,h.sl,h.zr⟩
theorem c7A{n last places:Int}{ps:List (List c9)}(hl:ps.length≤12)(hp:∀p∈ps,p.length≤12) :
  (∃e,a0S n last places ps=some (⟨b9b,[]⟩,e)∧b6s n last places (psR ps)=some (⟨hO b9b,[]⟩,e)∧(e=13∨e=1∧¬((1≤n∧n≤24)∧(0≤last∧last≤9)∧1≤places∧places≤8))) ∨
  (∃k p:Nat,n=k∧places=p∧(1≤k∧k≤24)∧Mp ps∧Rs (nwH k last p) 0∧a0S n last places ps=some (⟨nwH k last p,ps⟩,0)∧b6s n last places (psR ps)=some (⟨hO (nwH k last p),psR ps⟩,0)):=by
 have e1:a12 ps=some (a59 ps):=c4j (by omega) hp
 have e2:a8c (psR ps)=some (a59 ps):=b9s (by omega) hp
 unfold a0S b6s;rw[e1,e2,d2d,d2d];cases hq:a59 ps;·exact .inl ⟨13,rfl,rfl,.inl rfl⟩
 ·simp only[Bool.not_true,Bool.false_eq_true,if_false];by_cases h:(1≤n∧n≤24)∧(0≤last∧last≤9)∧1≤places∧places≤8
  ·right;obtain⟨h1,h2,h3⟩:=h;obtain⟨k,rfl⟩:∃k:Nat,n=k:=⟨n.toNat,by omega⟩
   obtain⟨p,rfl⟩:∃p:Nat,places=p:=⟨places.toNat,by omega⟩
   obtain⟨a1,a2,hx,hS,hz⟩:=c3r (k:=k) (p:=p) (l:=last) (by omega) h2 (by omega)
   refine⟨k,p,rfl,rfl,by omega,(d0J hq).1,⟨hx,hS,hz,Int.le_refl _⟩,?_,?_⟩
   ·rw[a1,d2d,hx.sh.r6];rfl
   ·rw[a2,d2d,show (hO (nwH k last p)).Roots.length=6 from hx.sh.r6];rfl
  ·left;have a1:a3H n last places=some b9b:=by
    unfold a3H;rw[if_pos (by simp;omega)]
    rfl
   have a2:b0m n last places=some (hO b9b):=by
    unfold b0m;rw[if_pos (by simp;omega)]
    rfl
   refine⟨1,?_,?_,.inr ⟨rfl,h⟩⟩;·rw[a1];rfl
   ·rw[a2];rfl
theorem c9G{x:Hp}{n:Nat}(hx:Rs x n)(hn:n≤1000000){ps:List (List c9)}(hm:Mp ps){rows:List (List Int)}(hl:rows.length≤1000){r:C3 × List H6}(h:b2v ⟨hO x,psR ps⟩ rows=some r) :
  T5 ⟨x,ps⟩ rows=some (⟨hOI r.1.X,ps⟩,r.2.map λa=>⟨a.V,a.E⟩)∧Rs (hOI r.1.X) (n+201*rows.length)∧(ers ps x rows).1=hOI r.1.X∧(ers ps x rows).2=r.2.map λa=>(a.V,a.E):=by
 have hs:=hx.P7;have e:=d1M hm hx.oh rows hl (by omega)
 rw[h] at e;have e:=Option.some.inj e;obtain⟨o1,o2⟩:=a9c hm hx.oh rows (by omega)
 have a1:(ers ps x rows).1=hOI r.1.X:=by rw[e,c8N]
 have a2:(ers ps x rows).2=r.2.map λa=>(a.V,a.E):=by
  rw[e,List.map_map];conv=>lhs;rw[←List.map_id (ers ps x rows).2]
  exact List.map_congr_left λp _=>rfl
 refine⟨?_,⟨a1▸o1.rt,a1▸o1.sl,a1▸o1.zr,?_⟩,a1,a2⟩
 ·rw[c5O hm hx.oh rows hl (by omega),a1,a2,List.map_map]
  congr 1
 ·have:(hOI r.1.X).S.Serial≤x.S.Serial+201*(rows.length:Int):=a1▸o2;show (hOI r.1.X).S.Serial≤((n+201*rows.length:Nat):Int);omega
theorem a4N:Mp []:=λ_ h=>by cases h
end Go.Sh
namespace Go.Sh
end Go.Sh
namespace Go.Sh
theorem d05(a b c d:Int):a1P a b c d=some [a,b,c,d]:=by
 unfold a1P;rfl
def en(x:Hp):k7:=⟨x,[]⟩
theorem c4Z{k:Nat}{l:Int}(hk:1≤k∧k≤24)(hl:0≤l∧l≤9):a33 k l=some (en (nwH k l 8))∧Rs (nwH k l 8) 0:=by
 rcases c7A (n:=(k:Int)) (last:=l) (places:=8) (ps:=[]) (by decide) (λp h=>by cases h) with ⟨e,_,_,h | ⟨_,h⟩⟩ | ⟨k',p,h1,h2,_,_,hr,e1,_⟩
 ·exfalso;rename_i e1 e2;subst h;have hq:a12 []=some true:=by kernel_rfl
  unfold a0S at e1;rw[hq,d2d] at e1;simp only[Bool.not_true,Bool.false_eq_true,if_false] at e1;cases hn:a3H k l 8 with
  | none=>rw[hn] at e1;cases e1
  | some y=>
   rw[hn,d2d] at e1;split at e1
   ·have:(1:Int)=13:=congrArg (λz=>(z.getD (⟨b9b,[]⟩,0)).2) e1;exact absurd this (by decide)
   ·have:(0:Int)=13:=congrArg (λz=>(z.getD (⟨b9b,[]⟩,0)).2) e1;exact absurd this (by decide)
 ·exact absurd ⟨by omega,hl,by omega,by omega⟩ h
 ·obtain rfl:k=k':=by omega
  obtain rfl:p=8:=by omega
  refine⟨?_,hr⟩;unfold a33;rw[e1];rfl
theorem c1i{n:Int}(h0:0≤n)(h1:n≤255){l:Int}(hl:0≤l∧l≤9):∃k:Nat,1+n % 24=k∧(1≤k∧k≤24)∧a33 (r7 (1+n % 24)) l=some (en (nwH k l 8))∧Rs (nwH k l 8) 0:=by
 obtain⟨k,hk⟩:∃k:Nat,1+n % 24=k:=⟨(1+n % 24).toNat,by omega⟩
 have hw:r7 (1+n % 24)=(k:Int):=by rw[A9 (by omega) (by omega)];exact hk
 rw[hw];exact⟨k,hk,by omega,c4Z (by omega) hl⟩
theorem d04{n:Int}(h0:0≤n)(h1:n≤255):r7 n=n:=A9 (by omega) (by omega)
theorem b5b{n:Int}(h0:0≤n)(h1:n≤255){b:Int}(hb:0<b):rem (r7 n) b=some (n % b):=by rw[d04 h0 h1,a8g h0 hb]
theorem b9N(l:List (List c9))(rows:List (List Int))(m:Int):∃b,a4A l rows m=some b∧(b=true→l.length≤10∧(∀p∈l,p.length≤10)∧(rows.length:Int)≤m):=by
 unfold a4A;simp only[jn];refine d0p (Q:=λb=>b=true→l.length≤10∧(∀p∈l,p.length≤10)∧(rows.length:Int)≤m) (min l.length 10) (λk=>∀h:k<l.length,(l[k]).length≤10) (by have:min l.length 10≤10:=Nat.min_le_right ..;omega) (λk hk=>?_) ?_ (λhP=>?_) (λhP=>?_)
 ·have hkl:k<l.length:=by omega
  have hk10:k<10:=by omega
  have c:((decide (((k:Nat):Int)<(l.length:Int)))&&(decide (((k:Nat):Int)<10)))=true:=by simp;omega
  by_cases q:(l[k]).length≤10
  ·refine⟨_,?_,.inl ⟨λ_=>q,rfl⟩⟩;rw[if_pos c,n7 hkl,d2d,if_neg (by simp;omega),k8]
  ·refine⟨_,?_,.inr ⟨λh=>q (h hkl),rfl⟩⟩;rw[if_pos c,n7 hkl,d2d,if_pos (by simp;omega)]
 ·rw[if_neg (by simp;omega)]
 ·dsimp only;refine d0p (Q:=λb=>b=true→l.length≤10∧(∀p∈l,p.length≤10)∧(rows.length:Int)≤m) (min rows.length 200) (λk=>∀h:k<rows.length,(rows[k]).length≤10) (by have:min rows.length 200≤200:=Nat.min_le_right ..;omega) (λk hk=>?_) ?_ (λhP2=>?_) (λhP2=>?_)
  ·have hkl:k<rows.length:=by omega
   have hk10:k<200:=by omega
   have c:((decide (((k:Nat):Int)<(rows.length:Int)))&&(decide (((k:Nat):Int)<200)))=true:=by simp;omega
   by_cases q:(rows[k]).length≤10
   ·refine⟨_,?_,.inl ⟨λ_=>q,rfl⟩⟩;rw[if_pos c,n7 hkl,d2d,if_neg (by simp;omega),k8]
   ·refine⟨_,?_,.inr ⟨λh=>q (h hkl),rfl⟩⟩;rw[if_pos c,n7 hkl,d2d,if_pos (by simp;omega)]
  ·rw[if_neg (by simp;omega)]
  ·refine⟨_,rfl,λh=>?_⟩;rw[Bool.and_eq_true,decide_eq_true_iff,decide_eq_true_iff] at h;refine⟨by omega,λp hp=>?_,h.2⟩
   obtain⟨k,hk,rfl⟩:=List.getElem_of_mem hp;exact hP k (by omega) hk
  ·exact⟨false,rfl,λh=>by cases h⟩
 ·exact⟨false,rfl,λh=>by cases h⟩
def c4z:List (List Int):=[[1,0,1,(-1)],[5,0,0,0],[3,0,0,0],[11,0,0,0],[1,0,0,(-1)],[1,1,0,(-1)],[1,2,0,(-1)]]
def d1L:C3 × List H6:=(b2v ⟨hO (nwH 2 3 8),[]⟩ c4z).getD (⟨hO b9b,[]⟩,[])
theorem c09:Z6=some true:=by
 obtain⟨a1,a2⟩:=c4Z (k:=2) (l:=3) (by decide) (by decide)
 obtain⟨b1,b2,_,_⟩:=c9G a2 (by decide) a4N (rows:=c4z) (by decide) (r:=d1L) (by kernel_rfl)
 unfold Z6;refine bnd a1 ?_;simp only[d05,d2d];refine bnd b1 ?_;dsimp only;rw[c8x b2.rt];kernel_rfl
theorem c3j{l:List (List c9)}{rows:List (List Int)}{m:Int}{K:Option Bool}(h:l.length≤10→(∀p∈l,p.length≤10)→(rows.length:Int)≤m→K=some true) :
  ((a4A l rows m).bind λv1=>(r8 ((!v1)==false) false Z6).bind λv2=>if ((!v1)||(!v2)) then (Z6).bind λv3=>some v3 else K)=some true:=by
 obtain⟨b,h1,h2⟩:=b9N l rows m;rw[h1,d2d,c09];cases b;·rfl
 ·obtain⟨a,c,d⟩:=h2 rfl;exact h a c d
end Go.Sh
namespace Go.Sh
theorem c8r{x:Hp}{o:c9}{e:Int}(h:Er x o e):dov x o=(x,0,e):=by unfold dov;rw[h.2.1];rfl
theorem b8U{x z:Hp}{o:c9}{v:Int}(h:Dn x o z v):dov x o=(a0j z,v,0):=by unfold dov;rw[h.mc];rfl
theorem c8v{ps:List (List c9)}{x:Hp}(hx:Oh x)(hb:x.S.Serial<7000000000000000000){row:List Int}(he:(er ps x row).2.2≠0):((er ps x row).1=x∧(er ps x row).2.1=0)∨((er ps x row).2.2=12∧∃a b c,row = [12,a,b,c]):=by
 unfold er at he ⊢;by_cases h:(H0 row).2=0
 ·have hrow:=b7m h;rw[if_neg (show ¬((H0 row).2≠0) by simp[h])] at he ⊢
  unfold eo at he ⊢;by_cases k11:(H0 row).1.Kind=11
  ·rw[if_pos k11] at he;exact absurd rfl he
  ·rw[if_neg k11] at he ⊢;by_cases k12:(H0 row).1.Kind=12
   ·right;rw[if_pos k12] at he ⊢;refine⟨?_,_,_,_,by rw[←k12];exact hrow.symm⟩
    unfold dre at he ⊢;split at he;·exact absurd rfl he
    ·rename_i q;rw[if_neg q]
   ·left;rw[if_neg k12] at he ⊢;rcases c20 hx.rt hx.sl hx.zr (by omega) (H0 row).1 with ⟨e,d⟩ | ⟨z,v,d⟩
    ·rw[c8r d];exact⟨rfl,rfl⟩
    ·rw[b8U d] at he;exact absurd rfl he
 ·rw[if_pos h];exact .inl ⟨rfl,rfl⟩
theorem topErrors{n:Int}{l:List (List c9)}{rows more:List (List Int)}{bad:List Int}(h0:0≤n)(h1:n≤255):a6w n l rows bad more=some true:=by
 unfold a6w;obtain⟨b,b1,b2⟩:=b9N l rows 40;obtain⟨d,d1,d2⟩:=b9N [] more 40;rw[b1,d2d,c09,d1];cases b;·rfl
 cases d;·rfl
 cases hd:decide ((bad.length:Int) > 10);case true=>rfl
 obtain⟨hl,hp,hr⟩:=b2 rfl;obtain⟨_,_,hr2⟩:=d2 rfl;have hp12:∀p∈l,p.length≤12:=λp q=>by have:=hp p q;omega
 simp only[Bool.not_true,Bool.or_self,beq_self_eq_true,a0G,d2d,Bool.false_eq_true,if_false];rw[b5b h0 h1 (by decide),d2d,A9 (n:=1+n % 24) (by omega) (by omega)]
 rcases c7A (n:=1+n % 24) (last:=3) (places:=4) (ps:=l) (by omega) hp12 with ⟨e,e1,_,e3⟩ | ⟨k,p,hk,hpp,hk2,hm,hr0,e1,_⟩
 ·rcases e3 with rfl | ⟨_,h⟩
  ·rw[e1,d2d];rfl
  ·exact absurd ⟨by omega,by omega,by omega,by omega⟩ h
 ·have hs:=hr0.P7;obtain⟨o1,o2⟩:=a9c hm hr0.oh rows (by omega)
  rw[e1,d2d];dsimp only;rw[if_neg (by simp),c5O hm hr0.oh rows (by omega) (by omega),d2d]
  dsimp only;generalize (ers l (nwH k 3 p) rows).1=x at o1 o2;have ed:=edo hm o1 (by omega) bad
  by_cases he:(er l x bad).2.2=0
  ·rw[ed,d2d];have:(anE (er l x bad).2).E=0:=he;dsimp only;rw[this];rfl
  ·rcases c8v o1 (by omega) he with ⟨q1,q2⟩ | ⟨q1,a,b,c,q2⟩
   ·have ed2:V1 ⟨x,l⟩ bad=some (⟨x,l⟩,⟨0,(er l x bad).2.2⟩):=by
     rw[ed,q1];show some ((⟨x,l⟩:k7),(⟨(er l x bad).2.1,(er l x bad).2.2⟩:k9))=_;rw[q2]
    rw[ed2,d2d];dsimp only;obtain⟨v9,hv9⟩:∃v9,r8 ((((er l x bad).2.2==0)==false)&&((((er l x bad).2.2==12)&&((bad.length:Int)==4))==true)) (0:Int) (ix bad 0)=some v9:=by
     by_cases h4:bad.length=4
     ·obtain⟨v,hv⟩:∃v,ix bad 0=some v:=⟨bad[0]'(by omega),(show ix bad ((0:Nat):Int)=_ from n7 (by omega))⟩
      rw[hv];unfold r8;split <;> exact⟨_,rfl⟩
     ·have:((((er l x bad).2.2==0)==false)&&((((er l x bad).2.2==12)&&((bad.length:Int)==4))==true))=false:=by simp;intro _ _;omega
      rw[this];exact⟨_,rfl⟩
    rw[hv9,d2d];split;·rfl
    ·obtain⟨p1,p2⟩:=a9c hm o1 more (by omega)
     have hsl:=b2x (x:=x) o1.rt.sh.sr;have hsl2:=b2x (x:=(ers l x more).1) p1.rt.sh.sr;have hlen:=b5L l x more;rw[c5O hm o1 more (by omega) (by omega),d2d,d2d]
     dsimp only;have c1:(((0:Int) != 0)||((((ers l x more).2.map anE).length:Int) != (((ers l x more).2.map anE).length:Int)))=false:=by simp
     rw[c1];simp only[beq_self_eq_true,a0G];rw[c8x p1.rt,d2d,d2d];have c2:(false||(!(((tal (ers l x more).1).a==(tal (ers l x more).1).a)&&(((tal (ers l x more).1).b==(tal (ers l x more).1).b)&&(((tal (ers l x more).1).c==(tal (ers l x more).1).c)&&(((tal (ers l x more).1).d==(tal (ers l x more).1).d)&&true))))))=false:=by simp
     rw[c2];simp only[beq_self_eq_true,a0G];rw[b5H p1.rt,d2d,d2d,b3b (by omega),d2d]
     simp only[Bool.not_true,Bool.or_self,Bool.false_eq_true,if_false,jn];refine a0s ((ers l x more).2.map anE).length (λ_=>True) (by simp;omega) trivial (λj hj _=>.inl ⟨?_,trivial⟩) (λ_=>⟨.inr (),if_neg (by simp),?_⟩)
     ·have hj':j<(ers l x more).2.length:=by simpa using hj
      rw[if_pos (by simpa using hj),n7 hj,d2d,d2d,if_neg (by simp),k8 (by omega)]
     ·show (L4 _).bind _=_;rw[b5H o1.rt,d2d,d2d,b3b (by omega),d2d]
      simp only[beq_self_eq_true,a0G];rw[c8x o1.rt,d2d,d2d];simp
   ·have hE:(anE (er l x bad).2).E=12:=q1;rw[ed,d2d];dsimp only;rw[hE,q2];rfl
theorem c6R{x:Hp}(hx:HpS x){h k:Int}(a:h=0∨h∈lv x.S)(b:k=0∨k∈lv x.S)(e:P7 x h=P7 x k):h=k:=by
 have hR:=hx.sr;have z:∀ {y},y∈lv x.S→1≤P7 x y:=λhy=>(F5 hR hy).s1;rcases a with rfl | a <;> rcases b with rfl | b
 ·rfl
 ·have:=z b;rw[←e,b5j hx] at this;omega
 ·have:=z a;rw[e,b5j hx] at this;omega
 ·obtain⟨i,hi⟩:=(a1U hR).1 a;obtain⟨j,hj⟩:=(a1U hR).1 b;unfold P7 at e;rw[K6 hR hi,K6 hR hj] at e;have:=hR.dif i j hi.1 hj.1 (.inl hi.2.1) (.inl hj.2.1) e;subst this;rw[hi.2.2,hj.2.2]
theorem d0o{p q:Int}(hp:0≤p∧p≤5)(hq:0≤q∧q≤5)(k:Int)(hk:k=2∨k=10):H0 [k,p,q,0]=(⟨k,p,q,0⟩,0)∧w9 k p q 0=0:=by
 have hc:w9 k p q 0=0:=by
  have:X6 (H5 p 0 5 6) (H5 q 0 5 6) 0=0:=by
   unfold X6 H5;rw[if_neg (by omega),if_neg (by omega)]
  rcases hk with rfl | rfl <;> exact this
 have:=b2c k p q 0;rw[if_neg (by rw[hc];simp)] at this
 have e:=(b2Q [k,p,q,0]).1;rw[this] at e;exact⟨(Option.some.inj e).symm,hc⟩
theorem topSame{n p q:Int}{rows:List (List Int)}(h0:0≤n)(h1:n≤255)(p0:0≤p)(p1:p≤255)(q0:0≤q)(q1:q≤255):a9w n rows p q=some true:=by
 unfold a9w;refine c3j λhl hp hr=>?_;rw[b5b h0 h1 (by decide),d2d]
 obtain⟨k,hk,hk2,e1,hr0⟩:=c1i h0 h1 (l:=9) (by decide)
 have hs:=hr0.P7;obtain⟨o1,o2⟩:=a9c a4N hr0.oh rows (by omega)
 rw[e1,d2d];unfold en;rw[c5O a4N hr0.oh rows (by omega) (by omega),d2d,b5b p0 p1 (by decide),d2d,b5b q0 q1 (by decide),d2d]
 simp only[d05,d2d];generalize (ers [] (nwH k 9 8) rows).1=x at o1 o2;have hpp:0≤p % 6∧p % 6≤5:=by omega
 have hqq:0≤q % 6∧q % 6≤5:=by omega
 generalize p % 6=a at hpp;generalize q % 6=b at hqq;have er2:∀a,0≤a∧a≤5→(er [] x [2,a,a,0]).2=(P7 x (sd x a),0):=λa ha=>by
  obtain⟨d1,c1⟩:=d0o ha ha 2 (.inl rfl);unfold er;rw[d1,if_neg (by simp)]
  unfold eo;rw[if_neg (show ¬((2:Int)=11) by decide),if_neg (show ¬((2:Int)=12) by decide),b8U (d2 o1.rt o1.sl c1)]
 have er10:(er [] x [10,a,b,0]).2=(if sd x a=sd x b then 1 else 0,0):=by
  obtain⟨d1,c1⟩:=d0o hpp hqq 10 (.inr rfl);unfold er;rw[d1,if_neg (by simp)]
  unfold eo;rw[if_neg (show ¬((10:Int)=11) by decide),if_neg (show ¬((10:Int)=12) by decide),b8U (d10 o1.rt o1.sl o1.zr c1)]
 rw[edo a4N o1 (by omega),d2d,edo a4N o1 (by omega),d2d,edo a4N o1 (by omega),d2d]
 dsimp only;rw[er2 a hpp,er2 b hqq,er10];simp only[anE];by_cases e:sd x a=sd x b
 ·rw[e];simp
 ·have:P7 x (sd x a)≠P7 x (sd x b):=λq=>e (c6R o1.rt.sh (a7E o1.rt.sh a) (a7E o1.rt.sh b) q);simp[e,this]
end Go.Sh
namespace Go.Sh
theorem c6x(n:Int):prg [] n = []:=by unfold prg;split <;> rfl
theorem c5L{x:Hp}(hx:Oh x){t:g9}{ts:List g9}(hq:x.Q.L=t::ts):(dne [] x t ts).S.Serial=x.S.Serial:=by
 have hp:=b2m hx hq;have hr:ran [] x t ts=pre x t ts:=by unfold ran;rw[c6x];rfl
 unfold dne;rw[hr];split
 ·have o:=b6g hx hq;have hR:=o.rt.sh.sr;have k:=U8 (x:=pre x t ts) hR 5 0;have hz:K5 (D2 (pre x t ts) 5 0):=T1 o.rt (by decide) (.inl rfl)
  rw[(a3Y hz).P7,k.P7,hp]
 ·exact hp
theorem c8o{p:Hp × Int}(hx:Oh p.1)(hb:0≤p.2)(hs:p.1.S.Serial+p.2<9223372036854775807):∀n,(dN [] n p).1.S.Serial=p.1.S.Serial:=by
 intro n;induction n with
 | zero=>rfl
 | succ n ih=>
  obtain⟨a1,a2,a3,a4⟩:=b2P [] hx hb hs n;rw[a9K];by_cases c:can [] (dN [] n p)
  ·obtain⟨t,ts,e,q⟩:=c;rw[a5a [] e,if_pos q];show (dne [] _ t ts).S.Serial=_;rw[c5L a1 e,ih]
  ·rw[c6f [] c,ih]
theorem c8w{x:Hp}(hx:Oh x)(hb:x.S.Serial<7000000000000000000)(row:List Int):((er [] x row).2.2=0∧(∃a b c,row = [1,a,b,c])∧(er [] x row).2.1=x.S.Serial+1∧(er [] x row).1.S.Serial=x.S.Serial+1)∨(¬((er [] x row).2.2=0∧∃a b c,row = [1,a,b,c])∧(er [] x row).1.S.Serial=x.S.Serial):=by
 unfold er;by_cases h:(H0 row).2=0
 ·have hrow:=b7m h;have hc:=b2b h;rw[if_neg (show ¬((H0 row).2≠0) by simp[h])]
  have hk1:(∃a b c,row = [1,a,b,c])↔(H0 row).1.Kind=1:=⟨λ⟨a,b,c,e⟩=>(List.cons.inj (hrow.trans e)).1,λe=>⟨_,_,_,by rw[←e];exact hrow.symm⟩⟩
  rw[hk1];generalize (H0 row).1=o at hc;unfold eo;by_cases k11:o.Kind=11
  ·right;rw[if_pos k11,k11];exact⟨by simp,c0g hx.rt hx.sl hx.zr⟩
  ·rw[if_neg k11];by_cases k12:o.Kind=12
   ·right;rw[if_pos k12];rw[k12] at hc ⊢;obtain⟨a0,a2⟩:=c0f hc;exact⟨by simp,c8o (p:=(x,o.A)) hx a0 (by show x.S.Serial+o.A<_;omega) _⟩
   ·rw[if_neg k12];rcases c5M hx (by omega) o with ⟨a,b,c,d⟩ | ⟨a,b,_⟩
    ·exact .inl ⟨a,b,c,d⟩
    ·exact .inr ⟨a,b⟩
 ·right;rw[if_pos h];exact⟨λq=>h q.1,rfl⟩
theorem c9M{x:Hp}(hR:SR x.S):∀v∈srs x,1≤v∧v≤x.S.Serial:=λv hv=>by
 obtain⟨h,hh,rfl⟩:=List.mem_map.1 hv;have:=F5 hR hh;exact⟨this.s1,this.s2⟩
theorem topSerials{n last:Int}{rows:List (List Int)}(h0:0≤n)(h1:n≤255)(g0:0≤last)(g1:last≤255):a4S n last rows=some true:=by
 unfold a4S;refine c3j λhl hp hr=>?_;rw[b5b h0 h1 (by decide),d2d,b5b g0 g1 (by decide),d2d]
 obtain⟨k,hk,hk2,e1,hr0⟩:=c1i h0 h1 (l:=last % 10) (by omega)
 have hs:(nwH k (last % 10) 8).S.Serial=0:=rfl;rw[e1,d2d];unfold en;simp only[jn];refine a0F (λj=>((ers [] (nwH k (last % 10) 8) (rows.take j)).1.S.Serial,(j:Int),(⟨(ers [] (nwH k (last % 10) 8) (rows.take j)).1,[]⟩:k7))) rfl rows.length (λ_=>True) (by omega) trivial (λj hj _=>.inl ⟨?_,trivial⟩) (λ_=>⟨.inr (),if_neg (by simp),rfl⟩)
 obtain⟨o1,o2⟩:=a9c a4N hr0.oh (rows.take j) (by simp;omega)
 have hjl:(rows.take j).length=j:=by simp;omega
 rw[hjl,hs] at o2;dsimp only;rw[if_pos (by simpa using hj),n7 hj,d2d,b3R a4N hr0.oh hj]
 generalize (ers [] (nwH k (last % 10) 8) (rows.take j)).1=x at o1 o2;obtain⟨p1,p2⟩:=c7l a4N o1 (by omega) rows[j]
 have hR:=p1.rt.sh.sr;have hsx:0≤x.S.Serial:=o1.rt.sh.sr.P7;rw[edo a4N o1 (by omega),d2d]
 dsimp only;have loop:∀(m:Int),(er [] x rows[j]).1.S.Serial=m→((lp (S:=Int) (E:=Bool ⊕ Unit) (λ(s100:Int)=>
        if ((decide (s100<((srs (er [] x rows[j]).1).length:Int)))&&(decide (s100<30))) then
         (ix (srs (er [] x rows[j]).1) s100).bind λv102=>
         (r8 ((((decide (v102<1))||(decide (v102 > m)))==false)&&((decide (s100 > 0))==true)) (0:Int) (ix (srs (er [] x rows[j]).1) (r7 (s100-1)))).bind λv103=>
         if (((decide (v102<1))||(decide (v102 > m)))||((decide (s100 > 0))&&(decide (v102≤v103)))) then
          some (.inr (.inl false))
         else
         some (.inl (r7 (s100+1)))
        else
        some (.inr (.inr ()))) 0)=some (.inr ())):=λm hm=>by
  have hsl:=b2x (x:=(er [] x rows[j]).1) hR;have:=a0s (κ:=λe=>some e) (r:=(.inr ():Bool ⊕ Unit)) (f:=λ(s100:Int)=>
        if ((decide (s100<((srs (er [] x rows[j]).1).length:Int)))&&(decide (s100<30))) then
         (ix (srs (er [] x rows[j]).1) s100).bind λv102=>
         (r8 ((((decide (v102<1))||(decide (v102 > m)))==false)&&((decide (s100 > 0))==true)) (0:Int) (ix (srs (er [] x rows[j]).1) (r7 (s100-1)))).bind λv103=>
         if (((decide (v102<1))||(decide (v102 > m)))||((decide (s100 > 0))&&(decide (v102≤v103)))) then
          some (.inr (.inl false))
         else
         some (.inl (r7 (s100+1)))
        else
        some (.inr (.inr ()))) (srs (er [] x rows[j]).1).length (λ_=>True) (by omega) trivial (λi hi _=>.inl ⟨?_,trivial⟩) (λ_=>⟨.inr (),if_neg (by simp),rfl⟩)
  ·have h2:∀ {α:Type} (x:Option α),x.bind (λe=>some e)=x:=λx=>by cases x <;> rfl
   rw[h2] at this;exact this
  ·have hv:=c9M hR _ (List.getElem_mem hi);rw[if_pos (by simp;omega),n7 hi,d2d]
   have c1:((decide ((srs (er [] x rows[j]).1)[i]<1))||(decide ((srs (er [] x rows[j]).1)[i] > m)))=false:=by simp;omega
   rw[c1];rcases Nat.eq_zero_or_pos i with rfl | hpos
   ·rw[show r8 ((false==false)&&((decide (((0:Nat):Int) > 0))==true)) (0:Int) (ix (srs (er [] x rows[j]).1) (r7 (((0:Nat):Int)-1)))=some 0 from rfl,d2d,if_neg (by simp),k8]
   ·have c2:((false==false)&&((decide ((i:Int) > 0))==true))=true:=by simp;omega
    have e2:r7 ((i:Int)-1)=((i-1:Nat):Int):=by rw[A9 (by omega) (by omega)];omega
    have hlt:=List.pairwise_iff_getElem.1 (c4M (x:=(er [] x rows[j]).1) hR) (i-1) i (by omega) hi (by omega)
    rw[c2,a0G,e2,n7 (by omega),d2d,if_neg (by simp;omega),k8]
 rcases c8w o1 (by omega) rows[j] with ⟨q1,⟨a,b,c,q2⟩,q3,q4⟩ | ⟨q1,q2⟩
 ·have hE:(anE (er [] x rows[j]).2).E=0:=q1;have hV:(anE (er [] x rows[j]).2).V=x.S.Serial+1:=q3;have hl4:(rows[j].length:Int)=4:=by rw[q2];rfl
  have hix:ix rows[j] 0=some 1:=by rw[q2];rfl
  rw[hE,hl4,hix];simp only[beq_self_eq_true,Bool.and_self,a0G,d2d,if_true];rw[hV,A9 (n:=x.S.Serial+1) (by omega) (by omega),if_neg (by simp),b5H p1.rt,d2d,loop _ q4,d2d]
  dsimp only;rw[q4,k8]
 ·have hno:(((((anE (er [] x rows[j]).2).E==0)&&((rows[j].length:Int)==4))=true)→∀v,ix rows[j] 0=some v→v≠1):=λhc v hv e=>by
   rw[Bool.and_eq_true,beq_iff_eq,beq_iff_eq] at hc;refine q1 ⟨hc.1,?_⟩;have h4:rows[j].length=4:=by omega
   rcases four rows[j] with ⟨k',a,b,c,e'⟩ | h
   ·rw[e'] at hv;have:k'=v:=Option.some.inj hv;exact⟨a,b,c,by rw[e',this,e]⟩
   ·exact absurd h4 h
  obtain⟨v,hv⟩:∃v,r8 (((((anE (er [] x rows[j]).2).E==0)&&((rows[j].length:Int)==4)))==true) (0:Int) (ix rows[j] 0)=some v∧(((((anE (er [] x rows[j]).2).E==0)&&((rows[j].length:Int)==4))&&(v==1))=false):=by
   cases hc:(((anE (er [] x rows[j]).2).E==0)&&((rows[j].length:Int)==4));·exact⟨0,rfl,rfl⟩
   ·have h4:rows[j].length=4:=by rw[Bool.and_eq_true,beq_iff_eq,beq_iff_eq] at hc;omega
    have hx0:ix rows[j] 0=some (rows[j][0]'(by omega)):=(show ix rows[j] ((0:Nat):Int)=_ from n7 (by omega))
    refine⟨rows[j][0]'(by omega),by rw[beq_self_eq_true,a0G];exact hx0,?_⟩
    have:=hno hc _ hx0;simpa using this
  rw[hv.1,d2d,hv.2];simp only[Bool.false_eq_true,if_false];rw[b5H p1.rt,d2d,loop _ q2,d2d];dsimp only;rw[q2,k8]
end Go.Sh
namespace Go.Sh
end Go.Sh
namespace Go.Sh
end Go.Sh
namespace Go.Sh
end Go.Sh
