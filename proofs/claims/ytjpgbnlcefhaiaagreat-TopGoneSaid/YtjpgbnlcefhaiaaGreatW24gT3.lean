/-
 More of the theory.
-/
import Derived.Test.YtjpgbnlcefhaiaaGreatW24gT2
set_option linter.unusedVariables false
set_option linter.unusedSimpArgs false
set_option linter.unusedSectionVars false
namespace Go.Sh
theorem c3x{c:Int}(h:0≤c):1≤N3 c:=by unfold N3;split <;> (try split) <;> omega
theorem b9A{x:Hp}(hR:SR x.S){h:Int}(hh:h∈lv x.S){k:Int}(hk:k∈lv x.S):(ob (quH x h).S k).Strong=if k=h then N3 (ob x.S k).Strong else (ob x.S k).Strong:=by
 have oko:=H2 hR hh;have ho:OkO x.S (srt (ob x.S h)):=⟨oko.s1,oko.s2,oko.st,oko.wk,oko.p1,oko.p2,oko.fl⟩;have r1:=a0q (o:=srt (ob x.S h)) hR hh rfl ho;have l1:lv (seO x.S h (srt (ob x.S h)))=lv x.S:=a2V (o:=srt (ob x.S h)) hR hh rfl ho;have hr:=D5 hR hk;have e1:(ob (seO x.S h (srt (ob x.S h))) k).Strong=(ob x.S k).Strong:=by
  rw[a2d (o:=srt (ob x.S h)) hR hh rfl ho (by omega)];split;·rename_i e;subst e;rfl
  ·rfl
 have:=a7y (x:=⟨seO x.S h (srt (ob x.S h)),x.Roots,x.a8,x.T,⟨x.Q.L ++ [qtk x h],x.Q.Cap⟩⟩) r1 (h:=h) (f:=N3) (λc=>A5) (k:=k) (by
  show k∈lv (seO x.S h (srt (ob x.S h)));rw[l1];exact hk)
 rw[show (ob (quH x h).S k).Strong=_ from this];show (if k=h then N3 (ob (seO x.S h (srt (ob x.S h))) k).Strong else (ob (seO x.S h (srt (ob x.S h))) k).Strong)=_;rw[e1]
theorem c9U{x:Hp}(hx:H7 x)(hz:zr x = []){h:Int}(hh:h∈lv x.S):zr (quH x h) = []:=List.eq_nil_iff_forall_not_mem.2 λk hk=>by
 obtain⟨a,b⟩:=Z0.1 hk;rw[b3w hx.sh.sr hh] at a;rw[b9A hx.sh.sr hh a] at b;have h0:=(H2 hx.sh.sr a).st;have hn:(ob x.S k).Strong≠0:=λq=>by
  have:k∈zr x:=Z0.2 ⟨a,q⟩;rw[hz] at this;cases this
 split at b;·have:=c3x h0;omega
 ·exact hn b
structure Qd (x y:Hp) (l:List Int):Prop where
 rt:H7 y
 sl:SL y
 zr:zr y = []
 lv:lv y.S=lv x.S
 ob:∀k∈Sh.lv x.S,∃n,Sh.ob y.S k=stg (if k∈l then srt (Sh.ob x.S k) else Sh.ob x.S k) n
 ro:y.Roots=x.Roots
 ce:y.a8=x.a8
 t:y.T=x.T
 q:y.Q=⟨x.Q.L++l.map (qtk x),x.Q.Cap⟩
 T3:y.S.Serial=x.S.Serial
theorem c6R{x:Hp}(hR:SR x.S){h:Int}(hh:h∈lv x.S):(quH x h).S.Serial=x.S.Serial:=(a29 hR hh).1.T3
theorem b9B:∀(l:List Int) {x:Hp},H7 x→SL x→Sh.zr x = []→l.Nodup→(∀h∈l,h∈Sh.lv x.S∧due (Sh.ob x.S h)=true)→Qd x (l.foldl quH x) l
 | [],x,hx,hS,hz,_,_=>⟨hx,hS,hz,rfl,λk hk=>⟨(Sh.ob x.S k).Strong,by rw[if_neg (by simp)];rfl⟩,rfl,rfl,rfl,by simp,rfl⟩
 | h::l,x,hx,hS,hz,hn,hd=>by
  obtain⟨hl,hdu⟩:=hd h (List.mem_cons_self ..);have hR:=hx.sh.sr;rw[List.nodup_cons] at hn;have q2:=hdu;unfold due at q2;rw[Bool.and_eq_true,decide_eq_true_iff,Bool.not_eq_true'] at q2;have h1:=b1a hx hl q2.1 q2.2;have h2:=c4r hR hS hl;have h3:=c9U hx hz hl;have lq:=b3w hR hl;have oq:∀k∈Sh.lv x.S,k≠h→∃n,Sh.ob (quH x h).S k=stg (Sh.ob x.S k) n:=λk hk hne=>by
   obtain⟨n,e⟩:=b3x hR hl hk;rw[if_neg hne] at e;exact⟨n,e⟩
  have ih:=b9B l h1 h2 h3 hn.2 λk hk=>by
   obtain⟨a,b⟩:=hd k (List.mem_cons_of_mem _ hk);obtain⟨n,e⟩:=oq k a λe=>hn.1 (e▸hk);refine⟨by rw[lq];exact a,?_⟩;rw[e];exact b
  obtain⟨_,k1,k2,k3,k4⟩:=a29 hR hl;refine⟨ih.rt,ih.sl,ih.zr,ih.lv.trans lq,λk hk=>?_,ih.ro.trans k1,ih.ce.trans k2,ih.t.trans k3,?_,ih.T3.trans (c6R hR hl)⟩
  ·obtain⟨n,e⟩:=ih.ob k (by rw[lq];exact hk);obtain⟨m,e2⟩:=b3x hR hl hk;refine⟨n,?_⟩;show Sh.ob (l.foldl quH (quH x h)).S k=_;rw[e];by_cases c:k=h
   ·subst c;rw[if_neg hn.1,if_pos (List.mem_cons_self ..),e2,if_pos rfl]
   ·rw[if_neg c] at e2;by_cases c2:k∈l
    ·rw[if_pos c2,if_pos (List.mem_cons_of_mem _ c2),e2]
    ·rw[if_neg c2,if_neg (λq=>by
      rcases List.mem_cons.1 q with r | r
      ·exact c r
      ·exact c2 r),e2]
  ·show (l.foldl quH (quH x h)).Q=_;rw[ih.q,k4];have:l.map (qtk (quH x h))=l.map (qtk x):=List.map_congr_left λk hk=>by
    obtain⟨a,_⟩:=hd k (List.mem_cons_of_mem _ hk);obtain⟨n,e⟩:=oq k a λe=>hn.1 (e▸hk);show (⟨1,k,(Sh.ob (quH x h).S k).Prog⟩:g8)=⟨1,k,(Sh.ob x.S k).Prog⟩;rw[e]
   rw[this];simp
noncomputable def btc(x:Hp):List Int:=(X8 x).filter λh=>due (Sh.ob x.S h)
noncomputable def col(x:Hp):Hp:=if btc x = [] then buH x (X8 x) else (btc x).foldl quH x
theorem b2a{x:Hp}:∀h∈btc x,h∈Sh.lv x.S∧due (Sh.ob x.S h)=true:=λh hh=>by
 obtain⟨a,b⟩:=List.mem_filter.1 hh;exact⟨(W4.1 a).1,b⟩
theorem c2P{x:Hp}(hx:H7 x):(btc x).Nodup:=List.Pairwise.filter _ (a0M hx)
theorem b5E{x:Hp}(hx:H7 x)(hS:SL x)(hz:zr x = []):Qd x ((btc x).foldl quH x) (btc x):=b9B _ hx hS hz (c2P hx) b2a
theorem b2R{x:Hp}(hx:H7 x)(hS:SL x)(hz:zr x = []):H7 (col x)∧SL (col x)∧zr (col x) = []:=by
 unfold col;split;·exact⟨U3 hx,c2Q hx.sh.sr hS (a0M hx) (X9 hx),b7l (U3 hx) (b7x hx)⟩
 ·have q:=b5E hx hS hz;exact⟨q.rt,q.sl,q.zr⟩
end Go.Sh
namespace Go.Sh
theorem c7p(t:Tb):wot t []=(t,[]):=by
 unfold wot;have:L6 t []=some (t,[]):=by
  unfold L6;simp only[jn];refine c0G (λs=>s=(t,0,[])) (λ_=>0) rfl (by omega) λs h=>.inr ⟨(t,[]),?_,rfl⟩;subst h;rfl
 rw[this];rfl
theorem b7D(c:c5):Z4 [] c=false:=by unfold Z4;simp
theorem c5O(l:List c5):clr l []=l:=by
 unfold clr;refine Eq.trans (List.map_congr_left λc _=>?_) (List.map_id l);unfold a3v;rw[b7D];rfl
theorem c5R(l:List c5):clt l [] = []:=by
 unfold clt cls;rw[List.map_eq_nil_iff,List.filter_eq_nil_iff];intro w _;rw[b7D];simp
theorem c5K(x:Hp):buH x []=x:=by
 unfold buH;rw[c7p];show a23 x [] x.T=x;unfold a23;rw[c5O,c5R,List.append_nil];rfl
theorem b2Q{y:Hp}(h:btc y = []):col y=buH y (X8 y):=by
 unfold col;rw[if_pos h]
section
variable{x:Hp}(hx:H7 x)
include hx
theorem c8G(hS:SL x)(hz:zr x = []):lv (col x).S=if btc x = [] then (lv x.S).filter (λh=>decide (h∉X8 x)) else lv x.S:=by
 unfold col;split;·exact b2N hx.sh.sr (a0M hx) (X9 hx)
 ·exact (b5E hx hS hz).lv
end
end Go.Sh
namespace Go.Sh
structure Rs (x:Hp) (n:Nat):Prop where
 rt:H7 x
 sl:SL x
 zr:zr x = []
 T3:x.S.Serial≤n
end Go.Sh
namespace Go.Sh
section
variable{x:Hp}(hx:H7 x)(hS:SL x)
include hx hS
theorem c2S:N6 x=some (X8 x):=by
 have hB:=c7H hx hS;unfold N6;rw[b9c (p6.2 hx.sh.sr) hx.sh.hr hB.tb hB.fb hB.sb];rfl
theorem c7y:a4r (hO x)=some (X8 x):=by
 have hB:=c7H hx hS;unfold a4r;rw[show (hO x).S=sO x.S from rfl,show (hO x).T=x.T.map J9 from rfl,b5X (p6.2 hx.sh.sr) hx.sh.hr hB.tb hB.sb];rfl
theorem a9P:(X8 x).length≤24:=Nat.le_trans (List.length_filter_le ..) (D4 (p6.2 hx.sh.sr))
theorem c8A:a2i x=some (btc x):=by
 have hR:=hx.sh.sr;have hl:=a9P hx hS;unfold a2i;rw[c2S hx hS,d2P];unfold E6;simp only[jn];refine bnd (a:=btc x) ?_ rfl;refine L1 (X8 x).length (λk b=>b=((X8 x).take k).filter λh=>due (Sh.ob x.S h)) (by omega) rfl (λk b hk hP=>?_) (λb hP=>?_)
 ·subst hP;have hm:=X9 hx _ (List.getElem_mem hk);have hle:(((X8 x).take k).filter λh=>due (Sh.ob x.S h)).length≤24:=Nat.le_trans (List.length_filter_le ..) (by simp;omega);refine .inl ⟨_,?_,rfl⟩;rw[if_pos (by simpa using hk),n8 hk,d2P,K1 hk,List.filter_append];unfold a2N;rw[b0Y hR hm,d2P,d2P];have e:(decide ((ob x.S (X8 x)[k],(0:Int)).1.Prog≥0) && !(ob x.S (X8 x)[k],(0:Int)).1.Started)=due (ob x.S (X8 x)[k]):=rfl;rw[e];cases hd:due (ob x.S (X8 x)[k])
  ·rw[if_neg (by simp),k8];simp[hd]
  ·rw[if_pos rfl,x4 (by omega) (by simp;omega),d2P,k8];simp[hd]
 ·subst hP;refine⟨_,if_neg (by simp),?_⟩;rw[List.take_length];rfl
theorem d0G:b1i (hO x)=some (btc x):=by
 have hR:=hx.sh.sr;have hl:=a9P hx hS;unfold b1i;rw[c7y hx hS,d2P];simp only[jn];refine L1 (X8 x).length (λk b=>b=((X8 x).take k).filter λh=>due (Sh.ob x.S h)) (by omega) rfl (λk b hk hP=>?_) (λb hP=>?_)
 ·subst hP;have hm:=X9 hx _ (List.getElem_mem hk);have hle:(((X8 x).take k).filter λh=>due (Sh.ob x.S h)).length≤24:=Nat.le_trans (List.length_filter_le ..) (by simp;omega);refine .inl ⟨_,?_,rfl⟩;rw[if_pos (by simpa using hk),n8 hk,d2P,K1 hk,List.filter_append,c26 hx hS (a1s hR hm),d2P,decide_eq_true hm,Bool.true_and];cases hd:due (ob x.S (X8 x)[k])
  ·rw[if_neg (by simp),k8];simp[hd]
  ·rw[if_pos rfl,x4 (by omega) (by simp;omega),d2P,k8];simp[hd]
 ·subst hP;refine⟨_,if_neg (by simp),?_⟩;rw[List.take_length];rfl
noncomputable def cgn(x:Hp):Int:=if btc x = [] then ((lv x.S).length:Int)-((lv (col x).S).length:Int) else 0
omit hx hS in
theorem c3K {l:List Int} (hn:l.Nodup) (hm:∀d∈l,d∈lv x.S):lvo x l=l:=by
 have key:∀(l b:List Int),(b++l).Nodup→(∀d∈l,d∈lv x.S)→l.foldl (λb h=>if h∈lv x.S∧h∉b then b ++ [h] else b) b=b++l:=by
  intro l;induction l with
  | nil=>intro b _ _;simp
  | cons a l ih=>
   intro b hn hm;rw[List.foldl_cons];have ha:a∉b:=λq=>by
    rw[List.nodup_append] at hn;exact hn.2.2 a q a (List.mem_cons_self ..) rfl
   rw[if_pos ⟨hm a (List.mem_cons_self ..),ha⟩,ih (b ++ [a]) (by simpa using hn) λd hd=>hm d (List.mem_cons_of_mem _ hd)];simp
 exact key l [] (by simpa using hn) hm
variable(hz:zr x = [])
include hz
theorem c1l{k:Nat}(hk:k<(btc x).length):(((btc x).take k).foldl quH x)=(((btc x).take k).foldl quH x)∧H7 (((btc x).take k).foldl quH x)∧SL (((btc x).take k).foldl quH x)∧(btc x)[k]∈lv (((btc x).take k).foldl quH x).S∧due (ob (((btc x).take k).foldl quH x).S (btc x)[k])=true:=by
 have hn:=c2P hx;have q:=b9B ((btc x).take k) hx hS hz ((List.take_sublist ..).nodup hn) λh hh=>b2a h (List.mem_of_mem_take hh);obtain⟨a,b⟩:=b2a (btc x)[k] (List.getElem_mem hk);refine⟨rfl,q.rt,q.sl,by rw[q.lv];exact a,?_⟩;obtain⟨n,e⟩:=q.ob _ a;have hnot:(btc x)[k]∉(btc x).take k:=λh=>by
  have:=K1 hk;have hs:((btc x).take (k+1)).Nodup:=(List.take_sublist ..).nodup hn;rw[this,List.nodup_append] at hs;exact hs.2.2 _ h _ (List.mem_singleton_self _) rfl
 rw[e,if_neg hnot];exact b
theorem b5D:(btc x).length≤24:=Nat.le_trans (List.length_filter_le ..) (a9P hx hS)
theorem c8F:T7 x=some (col x,((btc x).length:Int),cgn x):=by
 have hR:=hx.sh.sr;have hl:=b5D hx hS hz;obtain⟨c1,c2,c3⟩:=b2R hx hS hz;unfold T7;rw[c8A hx hS,d2P];simp only[jn];refine L1 (btc x).length (λk b=>b=((btc x).take k).foldl quH x) (by omega) rfl (λk b hk hP=>?_) (λb hP=>?_)
 ·subst hP;obtain⟨_,r1,r2,r3,r4⟩:=c1l hx hS hz hk;refine .inl ⟨_,?_,rfl⟩;rw[if_pos (by simpa using hk),n8 hk,d2P,b5f r1 r2 (a1s r1.sh.sr r3),d2P,k8,K1 hk,List.foldl_append];unfold quD;rw[if_pos ⟨r3,r4⟩];rfl
 ·subst hP;refine⟨_,if_neg (by simp),?_⟩;rw[List.take_length];by_cases hb:btc x = []
  ·have e:col x=buH x (X8 x):=b2Q hb;rw[if_neg (by simp[hb])];unfold cgn;rw[if_pos hb,e,hb];have h1:=a0M hx;have h2:=X9 hx;have hlive:=a1r (p6.2 hR);have hlive2:=a1r (p6.2 (U3 hx).sh.sr);have l1:=D4 (p6.2 hR);have l2:=D4 (p6.2 (U3 hx).sh.sr);show (N6 x).bind _=_;rw[c2S hx hS,d2P,List.foldl_nil,c0k hx h1 h2 (c1a hx) (by rw[a94 hR _ (by have:=a9P hx hS;omega) λh hh=>a1s hR (h2 h hh),c3K h1 h2]),d2P,a3r (U3 hx) (by rw[←e];exact c2),d2P,b29 hx,hlive,d2P,hlive2,d2P,B0 (by omega) (by omega)];rfl
  ·have:0<(btc x).length:=List.length_pos_iff.2 hb;rw[if_pos (by simp;omega)];unfold cgn col;rw[if_neg hb,if_neg hb]
theorem d0N:a7l (hO x)=some (hO (col x),((btc x).length:Int),cgn x):=by
 have hR:=hx.sh.sr;have hl:=b5D hx hS hz;obtain⟨c1,c2,c3⟩:=b2R hx hS hz;unfold a7l;rw[d0G hx hS,d2P];simp only[jn];by_cases hb:btc x = []
 ·have e:col x=buH x (X8 x):=b2Q hb;rw[if_neg (by simp[hb])];unfold cgn;rw[if_pos hb,e,hb];have h1:=a0M hx;have h2:=X9 hx;have hlive:=a89 (p6.2 hR);have hlive2:=a89 (p6.2 (U3 hx).sh.sr);have l1:=D4 (p6.2 hR);have l2:=D4 (p6.2 (U3 hx).sh.sr);rw[c7y hx hS,d2P,b4I hx h1 h2 (c1a hx) (by rw[c27 hR _ (by have:=a9P hx hS;omega) λh hh=>a1s hR (h2 h hh),c3K h1 h2]),d2P,a5e (U3 hx) (by rw[←e];exact c2),d2P,b29 hx,show (hO x).S=sO x.S from rfl,hlive,d2P,show (hO (buH x (X8 x))).S=sO (buH x (X8 x)).S from rfl,hlive2,d2P,B0 (by omega) (by omega)];rfl
 ·have hp:0<(btc x).length:=List.length_pos_iff.2 hb;rw[if_pos (by simp;omega)];refine L1 (btc x).length (λk b=>b=hO (((btc x).take k).foldl quH x)) (by omega) rfl (λk b hk hP=>?_) (λb hP=>?_)
  ·subst hP;obtain⟨_,r1,r2,r3,r4⟩:=c1l hx hS hz hk;refine .inl ⟨_,?_,rfl⟩;rw[if_pos (by simpa using hk),n8 hk,d2P,b75 r1 r2 (a1s r1.sh.sr r3),d2P,k8,K1 hk,List.foldl_append];unfold quD;rw[if_pos ⟨r3,r4⟩];rfl
  ·subst hP;refine⟨_,if_neg (by simp),?_⟩;rw[List.take_length];unfold cgn col;rw[if_neg hb,if_neg hb]
end
end Go.Sh
namespace Go.Sh
theorem b5J{x:Hp}(hx:H7 x)(hS:SL x)(hz:zr x = []):(col x).S.Serial=x.S.Serial:=by
 unfold col;split
 ·have g:=a1l (X8 x) hx.sh.sr (a0M hx) (X9 hx);exact (a3R ((X8 x).flatMap (outs x.S)++(wot x.T (X8 x)).2) (x:=a23 x (X8 x) (wot x.T (X8 x)).1) g.sr).1.T3.trans g.T3
 ·exact (b5E hx hS hz).T3
end Go.Sh
namespace Go.Sh
def Sv(s s':a7):Prop:=s'.S.a8.length=s.S.a8.length∧∀i,i<s.S.a8.length→(ce s i).Gen≤(ce s' i).Gen∧((ce s' i).Gen=(ce s i).Gen→((ce s i).State≠0→(ce s' i).State≠0)∧((ce s' i).State=1→(ce s i).State=0∨((ce s i).State=1∧((ce s i).Val.Started=true→(ce s' i).Val.Started=true))))
theorem Sv.refl(s:a7):Sv s s:=⟨rfl,λi _=>⟨Int.le_refl _,λ_=>⟨id,λh=>.inr ⟨h,id⟩⟩⟩⟩
theorem Sv.trans{a b c:a7}(h:Sv a b)(q:Sv b c):Sv a c:=by
 obtain⟨h1,h2⟩:=h;obtain⟨q1,q2⟩:=q;refine⟨q1.trans h1,λi hi=>?_⟩;obtain⟨a1,a2⟩:=h2 i hi;obtain⟨b1,b2⟩:=q2 i (by omega);refine⟨by omega,λe=>?_⟩;obtain⟨a3,a4⟩:=a2 (by omega);obtain⟨b3,b4⟩:=b2 (by omega);refine⟨λh=>b3 (a3 h),λh=>?_⟩;rcases b4 h with r | ⟨r,r'⟩
 ·exact .inl (Classical.byContradiction λn=>a3 n r)
 ·rcases a4 r with k | ⟨k,k'⟩
  ·exact .inl k
  ·exact .inr ⟨k,λs=>r' (k' s)⟩
def b98(s:a7)(h:Int):Prop:=∃(i:Nat) (g:Int),i<s.S.a8.length∧h=1+(i:Int)+32*g∧(g<(ce s i).Gen∨(g=(ce s i).Gen∧(ce s i).State≠0∧((ce s i).State=1→(ce s i).Val.Started=true)))
theorem Sv.d1x{s s':a7}(h:Sv s s'){k:Int}(q:b98 s k):b98 s' k:=by
 obtain⟨i,g,hi,e,q⟩:=q;obtain⟨h1,h2⟩:=h;obtain⟨a,b⟩:=h2 i hi;refine⟨i,g,by omega,e,?_⟩;rcases q with q | ⟨q1,q2,q3⟩
 ·exact .inl (by omega)
 ·by_cases c:(ce s' i).Gen=(ce s i).Gen
  ·obtain⟨b1,b2⟩:=b c;refine .inr ⟨by omega,b1 q2,λr=>?_⟩;rcases b2 r with k | ⟨k1,k2⟩
   ·exact absurd k q2
   ·exact k2 (q3 k1)
  ·exact .inl (by omega)
theorem c2c{s:a7}(hR:SR s){h:Int}(hh:h∈lv s)(hs:(ob s h).Started=false):¬b98 s h:=by
 rintro⟨i,g,hi,e,q⟩;obtain⟨j,hj⟩:=(a1q hR).1 hh;have hl:=hR.len;have hij:i=j:=by
  have:=hj.2.2;have:=hj.1;omega
 subst hij;have:=hj.2.2;rcases q with q | ⟨q1,q2,q3⟩
 ·omega
 ·rw[L5 hR hj,q3 hj.2.1] at hs;cases hs
theorem Kin.sv{s s':a7}(hR:SR s)(k:Kin s s'):Sv s s':=⟨k.len,λi hi=>by
 obtain⟨a,b,_,_,_⟩:=k.ce i hi;refine⟨by omega,λ_=>⟨by omega,λh=>.inr ⟨by omega,λq=>?_⟩⟩⟩;have h1:At s (hdl s i) i:=⟨hi,by omega,rfl⟩;have h2:At s' (hdl s i) i:=⟨by rw[k.len];exact hi,h,by rw[b];rfl⟩;have hl:=D5 hR ((a1q hR).2 ⟨i,h1⟩);obtain⟨n,e⟩:=k.ob (hdl s i) (by omega);rw[L5 k.sr h2,L5 hR h1] at e;rw[e];exact q⟩
theorem c4M{s:a7}(hR:SR s){h:Int}(hh:h∈lv s){o:l4}(hs:o.Serial=(ob s h).Serial)(ho:OkO s o)(hst:(ob s h).Started=true→o.Started=true):Sv s (seO s h o):=⟨c1g s h o,λi hi=>by
 have q:=u6 hR hh;rw[b6K hR hh hs ho];split
 ·rename_i e;subst e;refine⟨Int.le_refl _,λ_=>⟨id,λr=>.inr ⟨q.2.1,λk=>hst ?_⟩⟩⟩;rw[L5 hR q];exact k
 ·exact⟨Int.le_refl _,λ_=>⟨id,λr=>.inr ⟨r,id⟩⟩⟩⟩
theorem c3O{s:a7}(hR:SR s){i:Nat}(hi:i<s.S.a8.length)(ht:Th (ce s i))(d:Int):Sv s (mkA s i d):=⟨K0 ..,λj hj=>by
 rw[a2Q hR hi ht];split
 ·rename_i e;subst e;exact⟨Int.le_refl _,λ_=>⟨id,λr=>.inr ⟨r,id⟩⟩⟩
 ·exact⟨Int.le_refl _,λ_=>⟨id,λr=>.inr ⟨r,id⟩⟩⟩⟩
theorem c89{s:a7}{i:Nat}(hi:i<s.S.a8.length):Sv s (gvA s i):=⟨U1 ..,λj hj=>by
 unfold gvA;rw[H9 hi];by_cases e:j=i
 ·subst e;rw[if_pos rfl];split;·exact⟨Int.le_refl _,λ_=>⟨λ_=>(by decide:(3:Int)≠0),λr=>absurd (show (3:Int)=1 from r) (by decide)⟩⟩
  ·refine⟨by show _≤(ce s j).Gen+1;omega,λr=>?_⟩;have:(ce s j).Gen+1=(ce s j).Gen:=r;omega
 ·rw[if_neg e];exact⟨Int.le_refl _,λ_=>⟨id,λr=>.inr ⟨r,id⟩⟩⟩⟩
theorem Gn.sv{s s':a7}{ds:List Int}(g:Gn s s' ds):Sv s s':=⟨g.len,λj hj=>by
 rw[g.ce];split
 ·unfold gnC;split
  ·split;·exact⟨Int.le_refl _,λ_=>⟨λ_=>(by decide:(3:Int)≠0),λr=>absurd (show (3:Int)=1 from r) (by decide)⟩⟩
   ·refine⟨by show _≤(Sh.ce s j).Gen+1;omega,λr=>?_⟩;have:(Sh.ce s j).Gen+1=(Sh.ce s j).Gen:=r;omega
  ·exact⟨Int.le_refl _,λ_=>⟨λ_=>(by decide:(2:Int)≠0),λr=>absurd (show (2:Int)=1 from r) (by decide)⟩⟩
 ·exact⟨Int.le_refl _,λ_=>⟨id,λr=>.inr ⟨r,id⟩⟩⟩⟩
theorem d1b{s:a7}(hR:SR s){i:Nat}(hi:i<s.S.a8.length)(h0:(ce s i).State=0){n:Nat}(hn:n≤4){p:Int}(hp : -1≤p∧p≤5):Sv s (mkS s i n p):=⟨a4H hR hi h0 hn hp,λj hj=>by
 rw[a6t hR hi h0 hn hp];split
 ·rename_i e;subst e;exact⟨Int.le_refl _,λ_=>⟨λr=>absurd h0 r,λ_=>.inl h0⟩⟩
 ·exact⟨Int.le_refl _,λ_=>⟨id,λr=>.inr ⟨r,id⟩⟩⟩⟩
theorem b9M{x:Hp}(hR:SR x.S)(h:Int):Sv x.S (A0 x h).S:=(B7 hR h (f:=N3) λc=>A5).sv hR
theorem b6E{x:Hp}(hR:SR x.S)(h:Int):Sv x.S (N5 x h).S:=(B7 hR h (f:=a2r) λc=>F1).sv hR
theorem b8f{x:Hp}(hR:SR x.S)(r:Nat)(h:Int):Sv x.S (A3 x r h).S:=
 (b9M hR h).trans (b6E (x:=wR (A0 x h) (x.Roots.set r h)) (a2U hR h) _)
theorem c1G{x:Hp}(hR:SR x.S){h:Int}(hh:h∈lv x.S){n:Nat}(hn:n<(ob x.S h).Fields.length)(v:Int):Sv x.S (a0K x h n v).S:=by
 have k1:=b6H hR v;have hh1:h∈lv (A0 x v).S:=by rw[k1.lv];exact hh
 have hof:(ob (A0 x v).S h).Fields=(ob x.S h).Fields:=by
  obtain⟨n,e⟩:=(B7 hR v (f:=N3) λc=>A5).ob h (by have:=D5 hR hh;omega);show (ob (stO x v N3).S h).Fields=_;rw[e]
 have ho:OkO (A0 x v).S (flg (ob (A0 x v).S h) ((ob x.S h).Fields.set n v)):=by
  have:=H2 k1.sr hh1;refine⟨this.s1,this.s2,this.st,this.wk,this.p1,this.p2,?_⟩;have h4:=this.fl;rw[hof] at h4;simpa using h4
 have k2:=c4M (o:=flg (ob (A0 x v).S h) ((ob x.S h).Fields.set n v)) k1.sr hh1 rfl ho id;exact ((b9M hR v).trans k2).trans (b6E (x:=wS (A0 x v) (seO (A0 x v).S h (flg (ob (A0 x v).S h) ((ob x.S h).Fields.set n v)))) (a0q (o:=flg (ob (A0 x v).S h) ((ob x.S h).Fields.set n v)) k1.sr hh1 rfl ho) _)
theorem c4i{x:Hp}(hR:SR x.S)(v:Int)(t:Tb)(old:Int):Sv x.S (a41 x v t old).S:=
 (b9M hR v).trans (b6E (x:=wT (A0 x v) t) (a2U hR v) old)
theorem c9r{x:Hp}(hR:SR x.S)(h d:Int):Sv x.S (mkd x h d).S:=by
 unfold mkd;split
 ·rename_i q;exact c3O hR q.1 q.2.1 d
 ·exact Sv.refl _
theorem c7i{x:Hp}(hR:SR x.S)(h:Int):Sv x.S (a7C x h).S:=by
 unfold a7C;split
 ·rename_i q;have k:=c3O hR q.1 q.2.1 (-1);split;·exact k.trans (c89 (by rw[k.1];exact q.1))
  ·exact k
 ·exact Sv.refl _
theorem c41{x:Hp}(hx:H7 x)(n:Nat)(h call:Int):Sv x.S (a1R x n h call).S:=by
 have hR:=hx.sh.sr;unfold a1R;have s1:Sv x.S (mkd (wC x (x.a8.set n (wcl h call))) h 1).S:=c9r (x:=wC x (x.a8.set n (wcl h call))) hR h 1;refine s1.trans (c7i ?_ _);unfold mkd;split
 ·rename_i q;have:=(hR.ok _ q.1 q.2.1).wk;exact b3m hR q.1 q.2.1 (by omega)
 ·exact hR
theorem c8B{x:Hp}(hR:SR x.S){ds:List Int}(hn:ds.Nodup)(hm:∀d∈ds,d∈lv x.S):Sv x.S (buH x ds).S:=by
 have g:=a1l ds hR hn hm;exact g.sv.trans ((a3R (ds.flatMap (outs x.S)++(wot x.T ds).2) (x:=a23 x ds (wot x.T ds).1) g.sr).1.sv g.sr)
theorem c9T{x:Hp}(hR:SR x.S){h:Int}(hh:h∈lv x.S):Sv x.S (quH x h).S:=by
 have oko:=H2 hR hh;have ho:OkO x.S (srt (ob x.S h)):=⟨oko.s1,oko.s2,oko.st,oko.wk,oko.p1,oko.p2,oko.fl⟩;exact (c4M (o:=srt (ob x.S h)) hR hh rfl ho λ_=>rfl).trans ((a29 hR hh).1.sv (a0q (o:=srt (ob x.S h)) hR hh rfl ho))
theorem d0g{x:Hp}(hx:H7 x):Sv x.S (stp x).S:=by
 cases h:zr x with
 | nil=>rw[a6e h];exact Sv.refl _
 | cons z l=>
  have hz:z∈zr x:=by rw[h];exact List.mem_cons_self ..
  have hzl:=(Z0.1 hz).1;rw[a1G h];split;·exact c9T hx.sh.sr hzl
  ·exact c8B hx.sh.sr (by simp) (by simpa using hzl)
theorem d0c{x:Hp}(hx:H7 x)(n:Nat):Sv x.S (stN n x).S:=by
 induction n with
 | zero=>exact Sv.refl _
 | succ n ih=>rw[a0A];exact ih.trans (d0g (U9 hx n))
theorem c67{x:Hp}(hx:H7 x):Sv x.S (V9 x).S:=d0c hx 100
structure Fw (x y:Hp):Prop where
 sv:Sv x.S y.S
 q:∃l,y.Q=⟨x.Q.L++l,x.Q.Cap⟩∧∀t∈l,t.Kind=1→¬b98 x.S t.At
theorem Fw.of{x y:Hp}(h:Sv x.S y.S)(q:y.Q=x.Q):Fw x y:=⟨h,[],by rw[q,List.append_nil],λt ht=>by cases ht⟩
theorem Fw.refl(x:Hp):Fw x x:=Fw.of (Sv.refl _) rfl
theorem Fw.trans{x y z:Hp}(a:Fw x y)(b:Fw y z):Fw x z:=by
 obtain⟨l,q1,q2⟩:=a.q;obtain⟨m,r1,r2⟩:=b.q;refine⟨a.sv.trans b.sv,l++m,by rw[r1,q1,List.append_assoc],λt ht hk=>?_⟩;rcases List.mem_append.1 ht with h | h
 ·exact q2 t h hk
 ·exact λs=>r2 t h hk (a.sv.d1x s)
theorem b6M{x:Hp}(hx:H7 x):Fw x (V9 x):=by
 obtain⟨l,q1,q2,_⟩:=(a3V hx).q;exact⟨c67 hx,l,q1,λt ht hk=>c2c hx.sh.sr (q2 t ht hk).1 (q2 t ht hk).2⟩
end Go.Sh
namespace Go.Sh
theorem a3S{x:Hp}(hR:SR x.S)(r:Nat)(h:Int):Fw x (A3 x r h):=Fw.of (b8f hR r h) (P1 x r h).2.2.2
theorem d0T{x:Hp}(hx:H7 x)(hS:SL x)(hz:zr x = [])(hb:x.S.Serial<9223372036854775807)(o:c9):(∃e,Er x o e)∨∃z v,Dn x o z v∧Fw x z:=by
 have hR:=hx.sh.sr;obtain⟨k,a,b,c⟩:=o;by_cases hc:w8 k a b c=0
 ·have:=b59 hc;have hk:k=1∨k=2∨k=3∨k=4∨k=5∨k=6∨k=7∨k=8∨k=9∨k=10∨k=11∨k=12:=by omega
  rcases hk with rfl | rfl | rfl | rfl | rfl | rfl | rfl | rfl | rfl | rfl | rfl | rfl
  ·rcases d1 hx hS hb hc with ⟨e,_,h⟩ | ⟨hn,hcc,i,hF,h⟩;·exact .inl ⟨e,h⟩
   ·obtain⟨hi,h0,_⟩:=hF;have k1:Fw x (wS x (mkS x.S i b.toNat c)):=Fw.of (d1b hR hi h0 hn hcc) rfl;exact .inr ⟨_,_,h,k1.trans (a3S (x:=wS x (mkS x.S i b.toNat c)) (b48 hR hi h0 hn hcc) _ _)⟩
  ·exact .inr ⟨_,_,d2 hx hS hc,a3S hR _ _⟩
  ·exact .inr ⟨_,_,d3 hx hS hc,a3S hR _ _⟩
  ·rcases d4 hx hS hc with ⟨_,h⟩ | ⟨e,_,h⟩ | ⟨_,n,_,_,h⟩;·exact .inl ⟨_,h⟩
   ·exact .inl ⟨_,h⟩
   ·exact .inr ⟨_,_,h,a3S hR _ _⟩
  ·rcases d5 hx hS hc with ⟨_,h⟩ | ⟨e,_,h⟩ | ⟨hl,n,_,hn,h⟩;·exact .inl ⟨_,h⟩
   ·exact .inl ⟨_,h⟩
   ·exact .inr ⟨_,_,h,Fw.of (c1G hR hl hn _) (a6W _ _ _ _).2.2.2⟩
  ·rcases d6 hx hS hc with ⟨_,h⟩ | ⟨e,_,h⟩ | ⟨_,h⟩;·exact .inl ⟨_,h⟩
   ·exact .inl ⟨_,h⟩
   ·exact .inr ⟨_,_,h,Fw.of (c41 hx _ _ _) (a9o _ _ _ _).2.2.2⟩
  ·obtain⟨_,⟨_,h⟩ | ⟨_,h⟩⟩:=d7 hx hS hc;·exact .inl ⟨_,h⟩
   ·exact .inr ⟨_,_,h,a3S hR _ _⟩
  ·rcases d8 hx hS hc with ⟨_,h⟩ | ⟨_,e,_,h⟩ | ⟨_,r,_,_,h⟩;·exact .inl ⟨_,h⟩
   ·exact .inl ⟨_,h⟩
   ·exact .inr ⟨_,_,h,Fw.of (c4i hR _ _ _) (a9d _ _ _ _).2.2.2⟩
  ·rcases d9 hx hS hc with ⟨_,h⟩ | ⟨_,_,h⟩ | ⟨_,v,_,h⟩;·exact .inl ⟨_,h⟩
   ·exact .inl ⟨_,h⟩
   ·exact .inr ⟨_,_,h,a3S hR _ _⟩
  ·exact .inr ⟨_,_,d10 hx hS hz hc,Fw.refl x⟩
  ·obtain⟨h1,h2⟩:=b0P (x:=x) (a:=a) (b:=b) (c:=c) (.inl rfl) hc;exact .inl ⟨14,by decide,h1,h2⟩
  ·obtain⟨h1,h2⟩:=b0P (x:=x) (a:=a) (b:=b) (c:=c) (.inr rfl) hc;exact .inl ⟨14,by decide,h1,h2⟩
 ·obtain⟨h1,h2⟩:=b8Y (x:=x) (o:=⟨k,a,b,c⟩) hc;exact .inl ⟨_,hc,h1,h2⟩
theorem c8O{x:Hp}(hx:H7 x)(hS:SL x)(hz:zr x = [])(hb:x.S.Serial<9223372036854775807)(o:c9):Fw x (dov x o).1:=by
 rcases d0T hx hS hz hb o with ⟨e,_,h,_⟩ | ⟨z,v,d,f⟩
 ·have:dov x o=(x,0,e):=by unfold dov;rw[h];rfl
  rw[this];exact Fw.refl x
 ·have:dov x o=(V9 z,v,0):=by unfold dov;rw[d.mc];rfl
  rw[this];exact f.trans (b6M d.rt)
theorem d1u{x:Hp}(h1:HpS x)(h2:Wk x){L:List Int}(h3:a0X x L){r:Nat}(hr:r<6){h:Int}(hh:h=0∨h∈lv x.S):HpS (A3 x r h)∧Wk (A3 x r h)∧a0X (A3 x r h) L:=by
 have kin:=B7 h1.sr h (f:=N3) λc=>A5;have l1:lv (A0 x h).S=lv x.S:=kin.lv;have f1:a0X (A0 x h) (h::L):=b8h h1.sr h3 h;have s1:HpS (A0 x h):=h1.st h (f:=N3) λc=>A5;have s2:HpS (wR (A0 x h) (x.Roots.set r h)):=s1.roots (by rw[List.length_set];exact h1.r6) λv hv=>by
  rw[l1];rcases List.mem_or_eq_of_mem_set hv with q | q
  ·exact h1.rt v q
  ·exact q▸hh
 have w1:Wk (A0 x h):=h2.st h1.sr h (f:=N3) λc=>A5;have one:∀v k,W0 [v] k=if v=k∧k≠0 then 1 else 0:=λv k=>by rw[D8,M9,Nat.zero_add]
 have f2:a0X (wR (A0 x h) (x.Roots.set r h)) (x.Roots.getD r 0::L):=f1.mv rfl (λ_ _=>rfl) λk hk=>by
  have:=b2B (l:=x.Roots) (r:=r) (by rw[h1.r6];exact hr) h k;rw[one,one] at this;rw[b1n x h];unfold nms otr;dsimp only;rw[H6,H6,b1v,b1v,D8 h L,D8 (x.Roots.getD r 0) L];omega
 exact⟨s2.st _ λc=>F1,Wk.st (x:=wR (A0 x h) (x.Roots.set r h)) w1 s2.sr _ λc=>F1,b0o (x:=wR (A0 x h) (x.Roots.set r h)) s2.sr f2⟩
abbrev unq(x:Hp)(ts:List g8):Hp:=wQ x ⟨ts,x.Q.Cap⟩
noncomputable def a5D(x:Hp)(ts:List g8)(h:Int):Hp:=N5 (A3 (unq x ts) 5 h) h
section
variable{x:Hp}(hx:H7 x){t:g8}{ts:List g8}(hq:x.Q.L=t::ts)
include hx hq
theorem b6X:HpS (unq x ts):=by
 have h:=hx.sh;refine⟨h.sr,h.hr,h.r6,h.c6,h.cap,?_,λu hu=>h.tk u (by rw[hq];exact List.mem_cons_of_mem _ hu),?_,h.rt,h.fl,h.pr,λi hi=>?_⟩
 ·have:=h.q30;rw[hq,List.length_cons] at this;show ts.length≤30;omega
 ·have:=h.td;rw[hq,List.pairwise_cons] at this;exact this.2
 ·obtain⟨a,b,c,d,e⟩:=h.cl i hi;refine⟨a,b,c,d,λq=>⟨(e q).1,?_⟩⟩;have:=(e q).2;rw[Bool.eq_false_iff] at this ⊢;intro r;obtain⟨u,hu,k1,k2⟩:=a4x.1 r;exact this (a4x.2 ⟨u,by rw[hq];exact List.mem_cons_of_mem _ hu,k1,k2⟩)
theorem b8z:a0X (unq x ts) (if t.Kind=1 then [t.At] else []):=hx.fair.mv rfl (λ_ _=>rfl) λh _=>by
 unfold nms otr b3b;dsimp only;rw[hq,List.filter_cons];by_cases k:t.Kind=1
 ·rw[if_pos k,if_pos (by simpa using k),List.map_cons,H6,H6,D8 t.At (List.map _ _),D8 t.At [],M9];omega
 ·rw[if_neg k,if_neg (by simpa using k),M9]
theorem b8V(hk:t.Kind≠1):H7 (unq x ts):=⟨b6X hx hq,hx.wk,by have:=b8z hx hq;rwa [if_neg hk] at this⟩
theorem b86(hk:t.Kind=1):t.At∈lv x.S∧(ob x.S t.At).Started=true:=by
 rcases (hx.sh.tk t (by rw[hq];exact List.mem_cons_self ..)).2.2 with ⟨_,b,c⟩ | ⟨b,_⟩;·exact⟨b,c⟩
 ·omega
theorem a3h(hk:t.Kind=1):H7 (a5D x ts t.At):=by
 have f:=b8z hx hq;rw[if_pos hk] at f;obtain⟨a,b,c⟩:=d1u (b6X hx hq) (x:=unq x ts) hx.wk f (r:=5) (by decide) (.inr (b86 hx hq hk).1);exact⟨a.st _ λc=>F1,b.st a.sr _ λc=>F1,b0o a.sr c⟩
omit hq in
theorem b87 (hS:SL x) (h:Int):SL (a5D x ts h):=by
 have k:=a2J (x:=unq x ts) hx.sh.sr hS 5 h;exact b6C [h] (R3 (x:=unq x ts) hx.sh.sr 5 h).sr k
omit hq in
theorem c8V (h:Int):Ks x.S (a5D x ts h).S:=by
 have k:=R3 (x:=unq x ts) hx.sh.sr 5 h;exact k.trans (b6D k.sr h)
omit hq in
theorem b7s (h:Int):(a5D x ts h).Roots=x.Roots.set 5 h∧(a5D x ts h).a8=x.a8∧(a5D x ts h).T=x.T∧(a5D x ts h).Q=⟨ts,x.Q.Cap⟩:=by
 obtain⟨a,b,c,d⟩:=b0p (A3 (unq x ts) 5 h) h;obtain⟨a',b',c',d'⟩:=P1 (unq x ts) 5 h;exact⟨a.trans a',b.trans b',c.trans c',d.trans d'⟩
omit hq in
theorem c8U (h:Int):Fw (unq x ts) (a5D x ts h):=Fw.of ((b8f (x:=unq x ts) hx.sh.sr 5 h).trans (b6E (R3 (x:=unq x ts) hx.sh.sr 5 h).sr h)) (b7s hx h).2.2.2
end
def prg(ps:List (List c9))(n:Int):List c9:=if n<0∨(ps.length:Int)≤n then [] else ps.getD n.toNat []
noncomputable def pre(x:Hp)(t:g8)(ts:List g8):Hp:=if t.Kind=1 then V9 (a5D x ts t.At) else unq x ts
noncomputable def ran(ps:List (List c9))(x:Hp)(t:g8)(ts:List g8):Hp:=(runs (pre x t ts) (prg ps t.Prog)).1
noncomputable def dne(ps:List (List c9))(x:Hp)(t:g8)(ts:List g8):Hp:=if t.Kind=1 then V9 (A3 (ran ps x t ts) 5 0) else ran ps x t ts
structure Oh (x:Hp):Prop where
 rt:H7 x
 sl:SL x
 zr:zr x = []
theorem Nxt.ok{x y:Hp}{o:c9}{v e:Int}(n:Nxt x o y v e):Oh y:=⟨n.rt,n.sl,n.zr⟩
theorem c1i{x:Hp}(h:H7 x)(s:SL x):Oh (V9 x):=⟨a2e h,c1j h s,b5o h⟩
theorem c4J{x:Hp}(hx:Oh x)(l:List c9)(hb:x.S.Serial+l.length<9223372036854775807):Oh (runs x l).1∧Fw x (runs x l).1∧(runs x l).1.S.Serial≤x.S.Serial+l.length∧(runs x l).2.length=l.length:=by
 have key:∀k,k≤l.length→Oh (runs x (l.take k)).1∧Fw x (runs x (l.take k)).1∧(runs x (l.take k)).1.S.Serial≤x.S.Serial+k∧(runs x (l.take k)).2.length=k:=by
  intro k;induction k with
  | zero=>exact λ_=>⟨hx,Fw.refl x,by show x.S.Serial≤_;omega,rfl⟩
  | succ k ih=>
   intro hk;obtain⟨a,b,c,d⟩:=ih (by omega);have hk':k<l.length:=by omega
   have n:=a5R a.rt a.sl a.zr (by omega) l[k];rw[K1 hk',a8d];exact⟨n.ok,b.trans (c8O a.rt a.sl a.zr (by omega) _),by have:=n.ev.s2;show (dov _ _).1.S.Serial≤_;omega,by simp[d]⟩
 have:=key l.length (Nat.le_refl _);rwa [List.take_length] at this
section
variable{x:Hp}(hx:Oh x){t:g8}{ts:List g8}(hq:x.Q.L=t::ts)(ps:List (List c9))
include hx hq
theorem b3s:Oh (pre x t ts):=by
 unfold pre;split
 ·rename_i k;exact c1i (a3h hx.rt hq k) (b87 hx.rt hx.sl _)
 ·rename_i k;exact⟨b8V hx.rt hq k,hx.sl,hx.zr⟩
theorem c9M:Fw (unq x ts) (pre x t ts):=by
 unfold pre;split
 ·rename_i k;exact (c8U hx.rt _).trans (b6M (a3h hx.rt hq k))
 ·exact Fw.refl _
theorem b2n:(pre x t ts).S.Serial=x.S.Serial:=by
 unfold pre;split
 ·rename_i k;rw[(a3V (a3h hx.rt hq k)).T3,(c8V hx.rt _).T3]
 ·rfl
variable(hb:x.S.Serial+(prg ps t.Prog).length<9223372036854775807)
include hb
theorem b6y:Oh (ran ps x t ts)∧Fw (unq x ts) (ran ps x t ts)∧(ran ps x t ts).S.Serial≤x.S.Serial+(prg ps t.Prog).length:=by
 have e:=b2n hx hq;obtain⟨a,b,c,_⟩:=c4J (b3s hx hq) (prg ps t.Prog) (by rw[e];exact hb);exact⟨a,(c9M hx hq).trans b,by rw[e] at c;exact c⟩
theorem c5W:Oh (dne ps x t ts)∧Fw (unq x ts) (dne ps x t ts)∧(dne ps x t ts).S.Serial≤x.S.Serial+(prg ps t.Prog).length∧(t.Kind=1→sd (dne ps x t ts) 5=0):=by
 obtain⟨a,b,c⟩:=b6y hx hq ps hb;unfold dne;split
 ·have hz:=J2 a.rt (r:=5) (by decide) (h:=0) (.inl rfl);have k:=R3 a.rt.sh.sr 5 0;refine⟨c1i hz (a2J a.rt.sh.sr a.sl 5 0),(b.trans (a3S a.rt.sh.sr 5 0)).trans (b6M hz),?_,λ_=>(a8a a.rt (a:=5) (by decide) (h:=0) (.inl rfl)).1⟩;rw[(a3V hz).T3,k.T3];exact c
 ·exact⟨a,b,c,λq=>absurd q (by assumption)⟩
end
end Go.Sh
namespace Go.Sh
def cst(ps:List (List c9))(t:g8):Int:=1+((prg ps t.Prog).length:Int)
def can(ps:List (List c9))(p:Hp × Int):Prop:=∃t ts,p.1.Q.L=t::ts∧cst ps t≤p.2
noncomputable def nxd(ps:List (List c9))(p:Hp × Int):Hp × Int:=match p.1.Q.L with
 | []=>p
 | t::ts=>if cst ps t≤p.2 then (dne ps p.1 t ts,p.2-cst ps t) else p
noncomputable def dN(ps:List (List c9)):Nat→Hp × Int→Hp × Int
 | 0,p=>p
 | n+1,p=>dN ps n (nxd ps p)
section
variable(ps:List (List c9))
theorem a7J(n:Nat)(p:Hp × Int):dN ps (n+1) p=nxd ps (dN ps n p):=by
 induction n generalizing p with
 | zero=>rfl
 | succ n ih=>exact ih (nxd ps p)
theorem c0M{p:Hp × Int}(h:p.1.Q.L = []):nxd ps p=p:=by unfold nxd;rw[h]
theorem a3K{p:Hp × Int}{t:g8}{ts:List g8}(h:p.1.Q.L=t::ts):nxd ps p=if cst ps t≤p.2 then (dne ps p.1 t ts,p.2-cst ps t) else p:=by unfold nxd;rw[h]
theorem a9z{p:Hp × Int}{t:g8}{ts:List g8}(h:p.1.Q.L=t::ts):can ps p↔cst ps t≤p.2:=by
 constructor
 ·rintro⟨u,us,e,c⟩;rw[h] at e;injection e with e1 e2
  rw[e1];exact c
 ·exact λc=>⟨t,ts,h,c⟩
theorem b7S{p:Hp × Int}(h:p.1.Q.L = []):¬can ps p:=by
 rintro⟨u,us,e,c⟩;rw[h] at e;cases e
theorem c6w{p:Hp × Int}(h:¬can ps p):nxd ps p=p:=by
 cases e:p.1.Q.L with
 | nil=>exact c0M ps e
 | cons t ts=>rw[a3K ps e,if_neg (λq=>h ((a9z ps e).2 q))]
theorem a9E(t:g8):1≤cst ps t:=by unfold cst;omega
theorem c0p{p:Hp × Int}(hb:0≤p.2):∃n:Nat,(n:Int)≤p.2∧¬can ps (dN ps n p)∧∀j,j<n→can ps (dN ps j p):=by
 have key:∀m:Nat,(∃n:Nat,n≤m∧¬can ps (dN ps n p))∨((dN ps m p).2+m≤p.2∧0≤(dN ps m p).2):=by
  intro m;induction m with
  | zero=>exact .inr ⟨by show p.2+((0:Nat):Int)≤_;omega,hb⟩
  | succ m ih=>
   rcases ih with ⟨n,h1,h2⟩ | ⟨h1,h2⟩;·exact .inl ⟨n,by omega,h2⟩
   ·by_cases q:can ps (dN ps m p)
    ·right;obtain⟨t,ts,e,c⟩:=q;have:=a9E ps t;rw[a7J,a3K ps e,if_pos c];dsimp only;omega
    ·exact .inl ⟨m,by omega,q⟩
 have hex:∃n:Nat,(n:Int)≤p.2∧¬can ps (dN ps n p):=by
  rcases key (p.2.toNat+1) with ⟨n,h1,h2⟩ | ⟨h1,h2⟩
  ·rcases Nat.lt_or_ge n (p.2.toNat+1) with q | q
   ·exact⟨n,by omega,h2⟩
   ·have hn:n=p.2.toNat+1:=by omega
    rcases key p.2.toNat with ⟨n,h1,h2⟩ | ⟨h1,h3⟩;·exact⟨n,by omega,h2⟩
    ·refine⟨p.2.toNat,by omega,λ⟨t,ts,e,c⟩=>?_⟩;have:=a9E ps t;omega
  ·omega
 obtain⟨n,⟨hn,hz⟩,hmin⟩:=a0J hex;refine⟨n,hn,hz,λj hj=>Classical.byContradiction λq=>?_⟩;have:=hmin j ⟨by omega,q⟩;omega
theorem b0O{p:Hp × Int}(hx:Oh p.1)(hb:0≤p.2)(hs:p.1.S.Serial+p.2<9223372036854775807):∀n,Oh (dN ps n p).1∧0≤(dN ps n p).2∧(dN ps n p).2≤p.2∧(dN ps n p).1.S.Serial+(dN ps n p).2≤p.1.S.Serial+p.2
 | 0=>⟨hx,hb,Int.le_refl _,Int.le_refl _⟩
 | n+1=>by
  obtain⟨a,b,c,d⟩:=b0O hx hb hs n;rw[a7J];cases e:(dN ps n p).1.Q.L with
  | nil=>rw[c0M ps e];exact⟨a,b,c,d⟩
  | cons t ts=>
   rw[a3K ps e];split
   ·rename_i q;have q2:=q;unfold cst at q2;obtain⟨r1,_,r3,_⟩:=c5W a e ps (by omega);refine⟨r1,?_,?_,?_⟩;·dsimp only;omega
    ·have:=a9E ps t;dsimp only;omega
    ·dsimp only;unfold cst;omega
   ·exact⟨a,b,c,d⟩
end
noncomputable def dn(ps:List (List c9))(p:Hp × Int):Nat:=if h:0≤p.2 then Classical.choose (c0p ps h) else 0
theorem b2d(ps:List (List c9)){p:Hp × Int}(h:0≤p.2):(dn ps p:Int)≤p.2∧¬can ps (dN ps (dn ps p) p)∧∀j,j<dn ps p→can ps (dN ps j p):=by
 unfold dn;rw[dif_pos h];exact Classical.choose_spec (c0p ps h)
theorem c8L(ps:List (List c9)){p:Hp × Int}(h:0≤p.2){n:Nat}(h1:¬can ps (dN ps n p))(h2:∀j,j<n→can ps (dN ps j p)):dn ps p=n:=by
 obtain⟨_,a,b⟩:=b2d ps h;rcases Nat.lt_trichotomy (dn ps p) n with q | q | q
 ·exact absurd (h2 _ q) a
 ·exact q
 ·exact absurd (b _ q) h1
noncomputable def dr(ps:List (List c9))(p:Hp × Int):Hp × Int:=dN ps (dn ps p) p
theorem d0U(ps:List (List c9)){x:Hp}{f:Int}(hx:Oh x)(hf:0≤f)(hs:x.S.Serial+f<9223372036854775807):Oh (dr ps (x,f)).1∧0≤(dr ps (x,f)).2∧(dr ps (x,f)).2≤f∧(dr ps (x,f)).1.S.Serial+(dr ps (x,f)).2≤x.S.Serial+f:=b0O ps (p:=(x,f)) hx hf hs _
end Go.Sh
namespace Go.Sh
section
variable{x:Hp}(hx:HpS x)(hS:∀k∈lv x.S,(ob x.S k).Strong≤9223372036854775807)
include hx hS
theorem c3G{h:Int}(hh:h=0∨h∈lv x.S):h≤9223372036854775807:=by
 rcases hh with q | q
 ·omega
 ·have:=D5 hx.sr q;omega
theorem c4E(k:Int){h:Int}(hh:h≤9223372036854775807):Z5 x k h=some (if k<0∨5<k then (x,6) else if h=0∨h∈lv x.S then (A3 x k.toNat h,0) else (x,3)):=by
 have hR:=hx.sr;have r6:=hx.r6;unfold Z5;by_cases hk:k<0∨5<k
 ·rw[if_pos hk,if_pos (by rw[r6];simp;omega)]
 ·rw[if_neg hk,if_neg (by rw[r6];simp;omega),a16 hR hh,d2P];by_cases hn:h=0∨h∈lv x.S
  ·rw[if_pos hn,decide_eq_true hn,if_neg (by simp)];obtain⟨n,rfl⟩:∃n:Nat,k=n:=⟨k.toNat,by omega⟩;have hn6:n<6:=by omega
   have hnl:n<x.Roots.length:=by omega
   have old:x.Roots[n]≤9223372036854775807:=c3G hx hS (hx.rt _ (List.getElem_mem hnl));have e1:=a5b x h;have hn2:n<(A0 x h).Roots.length:=by rw[e1.1];exact hnl
   rw[n8 hnl,d2P];unfold D0 L9 J4;rw[a49 hR hh hS,d2P];dsimp only;rw[J8 (by omega) (by rw[e1.1];omega),d2P,n8 hn2,d2P,d2P];have hrel:=a2b (x:=wR (A0 x h) (x.Roots.set n h)) (a2U hR h) old;rw[Int.toNat_natCast,e1.1,show A7 ⟨(A0 x h).S,x.Roots.set n h,(A0 x h).a8,(A0 x h).T,(A0 x h).Q⟩ x.Roots[n]=_ from hrel];unfold A3;rw[List.getD_eq_getElem?_getD,List.getElem?_eq_getElem hnl];rfl
  ·rw[if_neg hn,decide_eq_false hn,if_pos (by simp)]
theorem c60(k:Int){h:Int}(hh:h≤9223372036854775807):U0 (hO x) k h=some (if k<0∨5<k then (hO x,6) else if h=0∨h∈lv x.S then (hO (A3 x k.toNat h),0) else (hO x,3)):=by
 have hR:=hx.sr;have r6:=hx.r6;unfold U0;by_cases hk:k<0∨5<k
 ·rw[if_pos hk,if_pos (by simp;omega)]
 ·rw[if_neg hk,if_neg (by simp;omega),a98 hR hh,d2P];by_cases hn:h=0∨h∈lv x.S
  ·rw[if_pos hn,decide_eq_true hn,if_neg (by simp)];obtain⟨n,rfl⟩:∃n:Nat,k=n:=⟨k.toNat,by omega⟩;have hnl:n<x.Roots.length:=by omega
   have hnl':n<(hO x).Roots.length:=hnl;have old:x.Roots[n]≤9223372036854775807:=c3G hx hS (hx.rt _ (List.getElem_mem hnl));have e1:=a5b x h;have r6':(hO x).Roots.length=6:=r6;rw[n8 hnl',d2P,a7q hR hh hS,d2P,J8 (by omega) (by rw[r6'];omega),d2P,n8 hnl',d2P];have hrel:=a3q (x:=wR (A0 x h) (x.Roots.set n h)) (a2U hR h) old;rw[Int.toNat_natCast];rw[show D3 ⟨(hO (A0 x h)).S,(hO x).Roots.set n h,(hO (A0 x h)).a8,(hO (A0 x h)).T,(hO (A0 x h)).Q⟩ (hO x).Roots[n]=_ from hrel];unfold A3;rw[List.getD_eq_getElem?_getD,List.getElem?_eq_getElem hnl];rfl
  ·rw[if_neg hn,decide_eq_false hn,if_pos (by simp)]
end
theorem b9x(ps:List (List c9))(n:Int):a3z ps n=some (prg ps n):=by
 unfold a3z prg;by_cases h:n<0∨(ps.length:Int)≤n
 ·rw[if_pos (by simpa using h),if_pos h]
 ·rw[if_neg (by simpa using h),if_neg h];obtain⟨k,rfl⟩:∃k:Nat,n=k:=⟨n.toNat,by omega⟩;have hk:k<ps.length:=by omega
  rw[n8 hk,d2P,Int.toNat_natCast,List.getD_eq_getElem?_getD,List.getElem?_eq_getElem hk];rfl
abbrev psR(ps:List (List c9)):List (List M5):=ps.map (List.map opR)
theorem c4n(ps:List (List c9))(n:Int):a7n (psR ps) n=some ((prg ps n).map opR):=by
 unfold a7n prg;rw[List.length_map];by_cases h:n<0∨(ps.length:Int)≤n
 ·rw[if_pos (by simpa using h),if_pos h];rfl
 ·rw[if_neg (by simpa using h),if_neg h];obtain⟨k,rfl⟩:∃k:Nat,n=k:=⟨n.toNat,by omega⟩;have hk:k<ps.length:=by omega
  have hk2:k<(psR ps).length:=by simpa using hk
  rw[n8 hk2,d2P,Int.toNat_natCast,List.getD_eq_getElem?_getD,List.getElem?_eq_getElem hk];simp[psR]
def Mp(ps:List (List c9)):Prop:=∀p∈ps,p.length≤6
theorem b2o{ps:List (List c9)}(h:Mp ps)(n:Int):(prg ps n).length≤6:=by
 unfold prg;split;·simp
 ·rename_i q;have hk:n.toNat<ps.length:=by omega
  rw[List.getD_eq_getElem?_getD,List.getElem?_eq_getElem hk];exact h _ (List.getElem_mem hk)
theorem c0n{ps:List (List c9)}(h:Mp ps)(t:g8):a5z ps t=some (cst ps t):=by
 have:=b2o h t.Prog;unfold a5z cst;rw[b9x,d2P,B0 (by omega) (by omega)]
theorem c20{ps:List (List c9)}(h:Mp ps)(t:g8):a7m (psR ps) ⟨t.Kind,t.At,t.Prog⟩=some (cst ps t):=by
 have:=b2o h t.Prog;unfold a7m cst;show (a7n (psR ps) t.Prog).bind _=_;rw[c4n,d2P,List.length_map,B0 (by omega) (by omega)]
theorem b8Z(x:Hp):a2t x=some (x.Q.L.isEmpty):=by
 unfold a2t;rw[b6T,d2P];unfold tnx;cases x.Q.L <;> rfl
theorem c29(x:Hp):b1j (hO x)=some (x.Q.L.isEmpty):=by
 unfold b1j;show some ((((x.Q.L.map _).length:Nat):Int)==0)=_;cases x.Q.L with
 | nil=>rfl
 | cons a l=>simp;omega
section
variable{x:Hp}(hx:Oh x){t:g8}{ts:List g8}(hq:x.Q.L=t::ts){ps:List (List c9)}(hm:Mp ps)(hb:x.S.Serial<9000000000000000000)
include hx hq hm hb
theorem c4Y:a5A x ps=some (dne ps x t ts,t,0):=by
 have J9:=b2o hm t.Prog;have pok:=b3s hx hq;have pser:=b2n hx hq;obtain⟨rok,_,_⟩:=b6y hx hq ps (by omega);have hrun:=(run_eq pok.rt pok.sl pok.zr (prg ps t.Prog) (by omega) (by rw[pser];omega)).1;have hrun':a2y (pre x t ts) (prg ps t.Prog)=some (ran ps x t ts,(runs (pre x t ts) (prg ps t.Prog)).2):=hrun;have hz:=J2 rok.rt (r:=5) (by decide) (h:=0) (.inl rfl);have zS:=a2J rok.rt.sh.sr rok.sl 5 0;unfold a5A;rw[b6T,d2P];have e:tnx x.Q=(⟨ts,x.Q.Cap⟩,t,0):=by unfold tnx;rw[hq]
 rw[e];dsimp only;rw[if_neg (by simp)];simp only[jn];by_cases k:t.Kind=1
 ·have hk:(t.Kind==1)=true:=by simpa using k
  have hat:=(b86 hx.rt hq k).1;have ush:=b6X hx.rt hq;have hm1:=a1s hx.rt.sh.sr hat;have e1:Z5 ⟨x.S,x.Roots,x.a8,x.T,⟨ts,x.Q.Cap⟩⟩ 5 t.At=some (A3 (unq x ts) 5 t.At,0):=by
   have:=c4E (x:=unq x ts) ush hx.sl 5 hm1;rw[if_neg (by omega),if_pos (.inr hat)] at this;exact this
  have e2:A7 (A3 (unq x ts) 5 t.At) t.At=some (a5D x ts t.At):=a2b (R3 (x:=unq x ts) hx.rt.sh.sr 5 t.At).sr hm1;have e3:=a3r (a3h hx.rt hq k) (b87 hx.rt hx.sl t.At);have e4:pre x t ts=V9 (a5D x ts t.At):=by unfold pre;rw[if_pos k]
  have e5:=c1b rok.rt rok.sl 5 (h:=0) (by decide);rw[if_neg (by omega),if_pos (.inl rfl)] at e5;rw[if_pos hk,e1,d2P];dsimp only;rw[e2,d2P,e3,d2P,b9x,d2P,←e4,hrun',d2P,if_pos hk];dsimp only;rw[e5,d2P];refine bnd (a3r hz zS) ?_;unfold dne;rw[if_pos k];rfl
 ·have hk:¬(t.Kind==1)=true:=by simpa using k
  have e4:pre x t ts=unq x ts:=by unfold pre;rw[if_neg k]
  rw[if_neg hk,b9x,d2P,show (⟨x.S,x.Roots,x.a8,x.T,⟨ts,x.Q.Cap⟩⟩:b6)=pre x t ts from e4.symm,hrun',d2P,if_neg hk];unfold dne;rw[if_neg k]
theorem d0d:b3I (hO x) (psR ps)=some (hO (dne ps x t ts),tkR t,0):=by
 have J9:=b2o hm t.Prog;have pok:=b3s hx hq;have pser:=b2n hx hq;obtain⟨rok,_,_⟩:=b6y hx hq ps (by omega);have hrun:=(run_eq pok.rt pok.sl pok.zr (prg ps t.Prog) (by omega) (by rw[pser];omega)).2;have hrun':b2v (hO (pre x t ts)) ((prg ps t.Prog).map opR)=some (hO (ran ps x t ts),(runs (pre x t ts) (prg ps t.Prog)).2):=hrun;have hz:=J2 rok.rt (r:=5) (by decide) (h:=0) (.inl rfl);have zS:=a2J rok.rt.sh.sr rok.sl 5 0;unfold b3I;rw[show (hO x).Q=tqR x.Q from rfl,c9V,d2P];have e:tnx x.Q=(⟨ts,x.Q.Cap⟩,t,0):=by unfold tnx;rw[hq]
 rw[e];dsimp only;rw[if_neg (by simp)];simp only[jn];have hkk:(tkR t).Kind=t.Kind:=rfl;have hka:(tkR t).At=t.At:=rfl;have hkp:(tkR t).Prog=t.Prog:=rfl;rw[hkk,hka,hkp];by_cases k:t.Kind=1
 ·have hk:(t.Kind==1)=true:=by simpa using k
  have hat:=(b86 hx.rt hq k).1;have ush:=b6X hx.rt hq;have hm1:=a1s hx.rt.sh.sr hat;have e1:U0 (hO (unq x ts)) 5 t.At=some (hO (A3 (unq x ts) 5 t.At),0):=by
   have:=c60 (x:=unq x ts) ush hx.sl 5 hm1;rw[if_neg (by omega),if_pos (.inr hat)] at this;exact this
  have e2:D3 (hO (A3 (unq x ts) 5 t.At)) t.At=some (hO (a5D x ts t.At)):=a3q (R3 (x:=unq x ts) hx.rt.sh.sr 5 t.At).sr hm1;have e3:=a5e (a3h hx.rt hq k) (b87 hx.rt hx.sl t.At);have e4:pre x t ts=V9 (a5D x ts t.At):=by unfold pre;rw[if_pos k]
  have e5:=b9J rok.rt rok.sl 5 (h:=0) (by decide);rw[if_neg (by omega),if_pos (.inl rfl)] at e5;rw[if_pos hk,show (⟨(hO x).S,(hO x).Roots,(hO x).a8,(hO x).T,tqR ⟨ts,x.Q.Cap⟩⟩:g7)=hO (unq x ts) from rfl,e1,d2P];dsimp only;rw[e2,d2P,e3,d2P,c4n,d2P,←e4,hrun',d2P,if_pos hk];dsimp only;rw[e5,d2P];refine bnd (a5e hz zS) ?_;unfold dne;rw[if_pos k];rfl
 ·have hk:¬(t.Kind==1)=true:=by simpa using k
  have e4:pre x t ts=unq x ts:=by unfold pre;rw[if_neg k]
  rw[if_neg hk,c4n,d2P,show (⟨(hO x).S,(hO x).Roots,(hO x).a8,(hO x).T,tqR ⟨ts,x.Q.Cap⟩⟩:g7)=hO (pre x t ts) by rw[e4];rfl,hrun',d2P,if_neg hk];unfold dne;rw[if_neg k]
end
section
variable{x:Hp}(hx:Oh x){ps:List (List c9)}(hm:Mp ps){f:Int}(hf:0≤f)(hf2:f≤1000000)(hb:x.S.Serial<8000000000000000000)
include hx hm hf hf2 hb
def dre(p:Hp × Int):Int:=if p.1.Q.L.isEmpty then 0 else 12
theorem drain_eq:a2s x ps f=some ((dr ps (x,f)).1,(dn ps (x,f):Int),(dr ps (x,f)).2,dre (dr ps (x,f))):=by
 obtain⟨a1,a2,a3⟩:=b2d ps (p:=(x,f)) hf;have all:=b0O ps (p:=(x,f)) hx hf (by show x.S.Serial+f<_;omega);unfold a2s;simp only[jn];dsimp only at a1;refine a0w (λk=>((dN ps k (x,f)).2,(dN ps k (x,f)).1,(k:Int),(dN ps k (x,f)).2,(dN ps k (x,f)).1)) rfl (dn ps (x,f)) (λ_=>True) (by omega) trivial (λk hk _=>.inl ⟨?_,trivial⟩) (λ_=>⟨((dn ps (x,f):Int),(dr ps (x,f)).2,(dr ps (x,f)).1),?_,?_⟩)
 ·obtain⟨b1,b2,b3,b4⟩:=all k;obtain⟨t,ts,e,c⟩:=a3 k hk;dsimp only at b2 b3 b4;have hc:=a9E ps t;rw[b8Z,e,d2P];show (a08 _).bind _=_;rw[b6T,d2P];have e2:tnx (dN ps k (x,f)).1.Q=(⟨ts,(dN ps k (x,f)).1.Q.Cap⟩,t,0):=by unfold tnx;rw[e]
  rw[e2];dsimp only;rw[c0n hm,d2P,if_neg (by simp;omega),c4Y b1 e hm (by omega),d2P,B0 (by omega) (by omega),k8,a7J,a3K ps e,if_pos c]
 ·rw[b8Z,d2P];cases e:(dN ps (dn ps (x,f)) (x,f)).1.Q.L with
  | nil=>rfl
  | cons t ts=>
   have hc:¬cst ps t≤(dN ps (dn ps (x,f)) (x,f)).2:=λq=>a2 ((a9z ps e).2 q);show (a08 _).bind _=_;rw[b6T,d2P];have e2:tnx (dN ps (dn ps (x,f)) (x,f)).1.Q=(⟨ts,(dN ps (dn ps (x,f)) (x,f)).1.Q.Cap⟩,t,0):=by unfold tnx;rw[e]
   rw[e2];dsimp only;rw[c0n hm,d2P,if_pos (by simp;omega)];rfl
 ·dsimp only;rw[b8Z,d2P];unfold dre;cases (dr ps (x,f)).1.Q.L.isEmpty <;> rfl
theorem c50:a74 (hO x) (psR ps) f=some (hO (dr ps (x,f)).1,(dn ps (x,f):Int),(dr ps (x,f)).2,dre (dr ps (x,f))):=by
 obtain⟨a1,a2,a3⟩:=b2d ps (p:=(x,f)) hf;have all:=b0O ps (p:=(x,f)) hx hf (by show x.S.Serial+f<_;omega);unfold a74;simp only[jn];dsimp only at a1;refine a0w (λk=>((dN ps k (x,f)).2,(k:Int),hO (dN ps k (x,f)).1)) rfl (dn ps (x,f)) (λ_=>True) (by omega) trivial (λk hk _=>.inl ⟨?_,trivial⟩) (λ_=>?_)
 ·obtain⟨b1,b2,b3,b4⟩:=all k;obtain⟨t,ts,e,c⟩:=a3 k hk;dsimp only at b2 b3 b4;have hc:=a9E ps t;rw[c29,e,d2P];have e2:ix (hO (dN ps k (x,f)).1).Q.L 0=some (tkR t):=by
   show ix ((dN ps k (x,f)).1.Q.L.map tkR) 0=_;rw[e];rfl
  show (ix (hO (dN ps k (x,f)).1).Q.L 0).bind _=_;rw[e2,d2P,show a7m (psR ps) (tkR t)=_ from c20 hm t,d2P,if_neg (by simp;omega),d0d b1 e hm (by omega),d2P,B0 (by omega) (by omega),k8,a7J,a3K ps e,if_pos c]
 ·cases e:(dN ps (dn ps (x,f)) (x,f)).1.Q.L with
  | nil=>
   refine⟨.inr ((dr ps (x,f)).2,(dn ps (x,f):Int),hO (dr ps (x,f)).1),?_,?_⟩
   ·rw[c29,e];rfl
   ·unfold dre;have e':(dr ps (x,f)).1.Q.L = []:=e;rw[e'];rfl
  | cons t ts=>
   have hc:¬cst ps t≤(dN ps (dn ps (x,f)) (x,f)).2:=λq=>a2 ((a9z ps e).2 q);refine⟨.inl (hO (dr ps (x,f)).1,(dn ps (x,f):Int),(dr ps (x,f)).2,12),?_,?_⟩
   ·rw[c29,e,d2P];have e2:ix (hO (dN ps (dn ps (x,f)) (x,f)).1).Q.L 0=some (tkR t):=by
     show ix ((dN ps (dn ps (x,f)) (x,f)).1.Q.L.map tkR) 0=_;rw[e];rfl
    show (ix (hO (dN ps (dn ps (x,f)) (x,f)).1).Q.L 0).bind _=_;rw[e2,d2P,show a7m (psR ps) (tkR t)=_ from c20 hm t,d2P,if_pos (by simp;omega)];rfl
   ·unfold dre;have e':(dr ps (x,f)).1.Q.L=t::ts:=e;rw[e'];rfl
end
end Go.Sh
namespace Go.Sh
theorem d1c{l:List (List c9)}(h:a5W l=true):Mp l∧l.length≤6:=by
 unfold a5W at h;rw[Bool.and_eq_true,decide_eq_true_iff,List.all_eq_true] at h;refine⟨λp hp=>?_,h.1⟩;have:=h.2 p hp;unfold b1F at this;rw[Bool.and_eq_true,decide_eq_true_iff] at this;exact this.1
end Go.Sh
namespace Go.Sh
end Go.Sh
namespace Go.Sh
end Go.Sh
namespace Go.Sh
end Go.Sh
namespace Go.Sh
noncomputable def eo(ps:List (List c9))(x:Hp)(o:c9):Hp × Int × Int:=
 if o.Kind=11 then (col x,cgn x-((btc x).length:Int),0)
 else if o.Kind=12 then ((dr ps (x,o.A)).1,(dn ps (x,o.A):Int),dre (dr ps (x,o.A)))
 else dov x o
noncomputable def er(ps:List (List c9))(x:Hp)(row:List Int):Hp × Int × Int:=if (G4 row).2≠0 then (x,0,(G4 row).2) else eo ps x (G4 row).1
noncomputable def ers(ps:List (List c9))(x:Hp)(rows:List (List Int)):Hp × List (Int × Int):=rows.foldl (λp r=>((er ps p.1 r).1,p.2 ++ [(er ps p.1 r).2])) (x,[])
theorem c3c(ps:List (List c9))(x:Hp)(l:List (List Int))(r:List Int):ers ps x (l ++ [r])=((er ps (ers ps x l).1 r).1,(ers ps x l).2 ++ [(er ps (ers ps x l).1 r).2]):=by
 unfold ers;rw[List.foldl_append];rfl
theorem b5Q(ps:List (List c9)):∀(l:List (List Int)) (x:Hp) (a:List (Int × Int)),l.foldl (λp r=>((er ps p.1 r).1,p.2 ++ [(er ps p.1 r).2])) (x,a)=((ers ps x l).1,a++(ers ps x l).2)
 | [],x,a=>by simp[ers]
 | r::l,x,a=>by
  unfold ers;rw[List.foldl_cons,List.foldl_cons,b5Q ps l,b5Q ps l _ ([]++_)];simp
theorem c0r(ps:List (List c9))(x:Hp)(l m:List (List Int)):ers ps x (l++m)=((ers ps (ers ps x l).1 m).1,(ers ps x l).2++(ers ps (ers ps x l).1 m).2):=by
 have:ers ps x (l++m)=m.foldl (λp r=>((er ps p.1 r).1,p.2 ++ [(er ps p.1 r).2])) (ers ps x l):=by
  unfold ers;rw[List.foldl_append]
 rw[this];exact b5Q ps m (ers ps x l).1 (ers ps x l).2
theorem c0s(ps:List (List c9))(x:Hp)(l:List (List Int)):(ers ps x l).2.length=l.length:=by
 induction l generalizing x with
 | nil=>rfl
 | cons r l ih=>
  have:=c0r ps x [r] l;rw[List.singleton_append] at this;rw[this,List.length_append,ih];show 1+l.length=l.length+1;omega
theorem a9G{row:List Int}(h:(G4 row).2=0):w8 (G4 row).1.Kind (G4 row).1.A (G4 row).1.B (G4 row).1.C=0:=by
 unfold G4 at h ⊢;rcases four row with ⟨k,a,b,c,rfl⟩ | hl
 ·rw[b2b,Option.getD_some] at h ⊢;by_cases q:w8 k a b c≠0
  ·rw[if_pos q] at h;exact absurd h q
  ·rw[if_neg q];exact Classical.not_not.1 q
 ·rw[(b2c hl).1,Option.getD_some] at h;exact absurd h (by decide)
theorem c0m{a b c:Int}(h:w8 12 a b c=0):0≤a∧a≤200:=in0 (by decide) (show I2 a 0 200 12=0 from h)
section
variable{ps:List (List c9)}(hm:Mp ps){x:Hp}(hx:Oh x)(hb:x.S.Serial<7000000000000000000)
include hm hx hb
theorem d0W{o:c9}(ho:o.Kind=12→0≤o.A∧o.A≤200):Oh (eo ps x o).1∧(eo ps x o).1.S.Serial≤x.S.Serial+201:=by
 unfold eo;split
 ·obtain⟨a,b,c⟩:=b2R hx.rt hx.sl hx.zr;refine⟨⟨a,b,c⟩,?_⟩;show (col x).S.Serial≤_;rw[b5J hx.rt hx.sl hx.zr];omega
 ·split
  ·rename_i h;obtain⟨h0,h2⟩:=ho h;obtain⟨a,b,c,d⟩:=d0U ps hx h0 (by omega);exact⟨a,by show (dr ps (x,o.A)).1.S.Serial≤_;omega⟩
  ·have n:=a5R hx.rt hx.sl hx.zr (by omega) o;have:=n.ev.s2;exact⟨n.ok,by omega⟩
theorem c7D(row:List Int):Oh (er ps x row).1∧(er ps x row).1.S.Serial≤x.S.Serial+201:=by
 unfold er;split;·exact⟨hx,by show x.S.Serial≤_;omega⟩
 ·rename_i h;have hc:=a9G (Classical.not_not.1 h);refine d0W hm hx hb λhk=>?_;rw[hk] at hc;exact c0m hc
end
theorem b5R{ps:List (List c9)}(hm:Mp ps){x:Hp}(hx:Oh x):∀(l:List (List Int)),x.S.Serial+201*(l.length:Int)<7000000000000000000→Oh (ers ps x l).1∧(ers ps x l).1.S.Serial≤x.S.Serial+201*(l.length:Int):=by
 intro l;induction l generalizing x with
 | nil=>exact λ_=>⟨hx,by show x.S.Serial≤_;simp⟩
 | cons r l ih=>
  intro hb;rw[List.length_cons] at hb ⊢;obtain⟨a,b⟩:=c7D hm hx (by omega) r;obtain⟨c,d⟩:=ih a (by omega);have e:=c0r ps x [r] l;rw[List.singleton_append] at e;rw[e];exact⟨c,by
   have:(ers ps (ers ps x [r]).1 l).1.S.Serial≤(er ps x r).1.S.Serial+201*(l.length:Int):=d;show (ers ps (ers ps x [r]).1 l).1.S.Serial≤_;omega⟩
end Go.Sh
namespace Go.Sh
def ctO(l:List b7)(k:Int):Nat:=l.countP λc=>c.State==k
theorem b7n(l:List b7)(c:b7)(k:Int):ctO (l ++ [c]) k=ctO l k+if c.State=k then 1 else 0:=by
 unfold ctO;rw[List.countP_append];simp[List.countP_cons]
noncomputable def srs(x:Hp):List Int:=(lv x.S).map λh=>T3 x h
theorem c3I{s:a7}(hR:SR s){h:Int}(hh:h∈lv s):sk s.S.a8 h=(ob s h).Serial:=by
 obtain⟨i,hi⟩:=(a1q hR).1 hh;rw[c2N hR hi,L5 hR hi]
theorem d0a{x:Hp}(hR:SR x.S):(srs x).Pairwise (· < ·):=by
 unfold srs;rw[List.pairwise_map];refine List.Pairwise.imp_of_mem (λ{a b} ha hb h=>?_) (a4j (p6.2 hR)).2.2;rw[c3I hR ha,c3I hR hb] at h;exact h
theorem c4R{x:Hp}(hR:SR x.S):(srs x).mergeSort (λx y=>decide (x≤y))=srs x:=
 List.mergeSort_of_pairwise ((d0a hR).imp λh=>decide_eq_true (by omega))
theorem c7a{x:Hp}(hR:SR x.S):(srs x).length≤24:=by
 unfold srs;rw[List.length_map];exact D4 (p6.2 hR)
end Go.Sh
namespace Go.Sh
inductive Fm (x:Hp) (o:c9) (z:Hp) (v:Int):Prop
 | new (i:Nat) (hF:Fst x.S i) (hk:o.Kind=1) (ha:0≤o.A∧o.A≤5) (hn:o.B.toNat≤4) (hc : -1≤o.C∧o.C≤5) (hv:v=x.S.Serial+1) (hz:z=A3 (wS x (mkS x.S i o.B.toNat o.C)) o.A.toNat (hdl x.S i)):Fm x o z v
 | root (h:Int) (hk:o.Kind≠1) (ha:0≤o.A∧o.A≤5) (hh:h=0∨h∈lv x.S) (hz:z=A3 x o.A.toNat h):Fm x o z v
 | field (h:Int) (n:Nat) (u:Int) (hk:o.Kind=5) (hl:h∈lv x.S) (hn:n<(ob x.S h).Fields.length) (hu:u=0∨u∈lv x.S) (hz:z=a0K x h n u):Fm x o z v
 | weak (h:Int) (hk:o.Kind=6) (ha:0≤o.A∧o.A≤5) (hc : -1≤o.C∧o.C≤5) (hh:h=0∨h∈lv x.S) (hw:wts x.Q o.A=false) (hz:z=a1R x o.A.toNat h o.C):Fm x o z v
 | pair (h u:Int) (r:Tb × Int × Int) (hk:o.Kind=8) (hl:h∈lv x.S) (hu:u=0∨u∈lv x.S) (hr:Q2 x.T h u=some r) (h0:r.2.2=0) (hz:z=a41 x u r.1 r.2.1):Fm x o z v
 | same (hk:o.Kind=10) (hz:z=x):Fm x o z v
theorem d0S{x:Hp}(hx:H7 x)(hS:SL x)(hz:zr x = [])(hb:x.S.Serial<9223372036854775807)(o:c9):(∃e,Er x o e)∨∃z v,Dn x o z v∧Fm x o z v:=by
 obtain⟨k,a,b,c⟩:=o;have sl:=b0t hx.sh;by_cases hc:w8 k a b c=0
 ·have:=b59 hc;have hk:k=1∨k=2∨k=3∨k=4∨k=5∨k=6∨k=7∨k=8∨k=9∨k=10∨k=11∨k=12:=by omega
  rcases hk with rfl | rfl | rfl | rfl | rfl | rfl | rfl | rfl | rfl | rfl | rfl | rfl
  ·rcases d1 hx hS hb hc with ⟨e,_,h⟩ | ⟨hn,hcc,i,hF,h⟩;·exact .inl ⟨e,h⟩
   ·exact .inr ⟨_,_,h,.new i hF rfl (d0H hc).1 hn hcc rfl rfl⟩
  ·exact .inr ⟨_,_,d2 hx hS hc,.root _ (show (2:Int)≠1 by decide) (c5M hc).1 (sl b) rfl⟩
  ·exact .inr ⟨_,_,d3 hx hS hc,.root 0 (show (3:Int)≠1 by decide) (d0J hc) (.inl rfl) rfl⟩
  ·rcases d4 hx hS hc with ⟨_,h⟩ | ⟨e,_,h⟩ | ⟨hl,n,_,hn,h⟩;·exact .inl ⟨_,h⟩
   ·exact .inl ⟨_,h⟩
   ·exact .inr ⟨_,_,h,.root _ (show (4:Int)≠1 by decide) (d0K hc).1 (hx.sh.fl _ hl _ (List.getElem_mem hn)) rfl⟩
  ·rcases d5 hx hS hc with ⟨_,h⟩ | ⟨e,_,h⟩ | ⟨hl,n,_,hn,h⟩;·exact .inl ⟨_,h⟩
   ·exact .inl ⟨_,h⟩
   ·exact .inr ⟨_,_,h,.field _ n _ rfl hl hn (sl c) rfl⟩
  ·rcases d6 hx hS hc with ⟨_,h⟩ | ⟨e,_,h⟩ | ⟨hw,h⟩;·exact .inl ⟨_,h⟩
   ·exact .inl ⟨_,h⟩
   ·exact .inr ⟨_,_,h,.weak _ rfl (c8E hc).1 (c8E hc).2.2 (sl b) hw rfl⟩
  ·obtain⟨hl,⟨_,h⟩ | ⟨hI,h⟩⟩:=d7 hx hS hc;·exact .inl ⟨_,h⟩
   ·exact .inr ⟨_,_,h,.root _ (show (7:Int)≠1 by decide) (d0L hc).1 (.inr ((hx.sh.cl _ hl).2.2.2.2 hI).1) rfl⟩
  ·rcases d8 hx hS hc with ⟨_,h⟩ | ⟨_,e,_,h⟩ | ⟨hl,r,h1,h2,h⟩;·exact .inl ⟨_,h⟩
   ·exact .inl ⟨_,h⟩
   ·exact .inr ⟨_,_,h,.pair _ _ r rfl hl (sl b) h1 h2 rfl⟩
  ·rcases d9 hx hS hc with ⟨_,h⟩ | ⟨_,_,h⟩ | ⟨_,v,hv,h⟩;·exact .inl ⟨_,h⟩
   ·exact .inl ⟨_,h⟩
   ·exact .inr ⟨_,_,h,.root _ (show (9:Int)≠1 by decide) (d0M hc).1 (.inr (hx.sh.pr _ _ hv).2) rfl⟩
  ·exact .inr ⟨_,_,d10 hx hS hz hc,.same rfl rfl⟩
  ·obtain⟨h1,h2⟩:=b0P (x:=x) (a:=a) (b:=b) (c:=c) (.inl rfl) hc;exact .inl ⟨14,by decide,h1,h2⟩
  ·obtain⟨h1,h2⟩:=b0P (x:=x) (a:=a) (b:=b) (c:=c) (.inr rfl) hc;exact .inl ⟨14,by decide,h1,h2⟩
 ·obtain⟨h1,h2⟩:=b8Y (x:=x) (o:=⟨k,a,b,c⟩) hc;exact .inl ⟨_,hc,h1,h2⟩
theorem Fm.ks{x z:Hp}{o:c9}{v:Int}(hx:H7 x)(f:Fm x o z v)(hk:o.Kind≠1):Ks x.S z.S:=by
 have hR:=hx.sh.sr;cases f with
 | new i hF hk'=>exact absurd hk' hk
 | root h _ ha hh hz=>rw[hz];exact R3 hR _ _
 | field h n u _ hl hn hu hz=>rw[hz];exact b4N hR hl hn u
 | weak h _ ha hc hh hw hz=>rw[hz];exact b8B hx (by omega) h _
 | pair h u r _ hl hu hr h0 hz=>rw[hz];exact b7X hR u _ _
 | same _ hz=>rw[hz];exact Ks.refl hR
theorem c5Y{x:Hp}(hx:Oh x)(hb:x.S.Serial<9223372036854775807)(o:c9):((dov x o).2.2=0∧o.Kind=1∧(dov x o).2.1=x.S.Serial+1∧(dov x o).1.S.Serial=x.S.Serial+1)∨(¬((dov x o).2.2=0∧o.Kind=1)∧(dov x o).1.S.Serial=x.S.Serial∧∀h∈lv (dov x o).1.S,h∈lv x.S∧(ob (dov x o).1.S h).Serial=(ob x.S h).Serial):=by
 rcases d0S hx.rt hx.sl hx.zr hb o with ⟨e,he,h,_⟩ | ⟨z,v,d,f⟩
 ·have:dov x o=(x,0,e):=by unfold dov;rw[h];rfl
  rw[this];exact .inr ⟨λq=>he q.1,rfl,λh hh=>⟨hh,rfl⟩⟩
 ·have e:dov x o=(V9 z,v,0):=by unfold dov;rw[d.mc];rfl
  have st:=a3V d.rt;rw[e];by_cases hk:o.Kind=1
  ·left;cases f with
   | new i hF _ ha hn hc hv hz=>
    obtain⟨hi,h0,_⟩:=hF;refine⟨rfl,hk,hv,?_⟩;show (V9 z).S.Serial=_;rw[st.T3,hz];exact (R3 (x:=wS x (mkS x.S i o.B.toNat o.C)) (b48 hx.rt.sh.sr hi h0 hn hc) _ _).T3
   | root h hk'=>exact absurd hk hk'
   | field h n u hk'=>rw[hk] at hk';exact absurd hk' (by decide)
   | weak h hk'=>rw[hk] at hk';exact absurd hk' (by decide)
   | pair h u r hk'=>rw[hk] at hk';exact absurd hk' (by decide)
   | same hk'=>rw[hk] at hk';exact absurd hk' (by decide)
  ·right;have k:=f.ks hx.rt hk;refine⟨λq=>hk q.2,by show (V9 z).S.Serial=_;rw[st.T3,k.T3],λh hh=>?_⟩;have h1:=st.lv h hh;rw[k.lv] at h1;exact⟨h1,(st.ob h hh).1.trans (k.ob h h1)⟩
end Go.Sh
namespace Go.Sh
def anE(p:Int × Int):m7:=⟨p.1,p.2⟩
def anR(p:Int × Int):H3:=⟨p.1,p.2⟩
section
variable{ps:List (List c9)}(hm:Mp ps){x:Hp}(hx:Oh x)(hb:x.S.Serial<7000000000000000000)
include hm hx hb
theorem c2T : -24≤cgn x-((btc x).length:Int)∧cgn x-((btc x).length:Int)≤24:=by
 have h1:=b5D hx.rt hx.sl hx.zr;have h2:(lv x.S).length≤24:=D4 (p6.2 hx.rt.sh.sr);obtain⟨c1,_,_⟩:=b2R hx.rt hx.sl hx.zr;have h3:(lv (col x).S).length≤24:=D4 (p6.2 c1.sh.sr);unfold cgn;split
 ·rename_i e;rw[e];simp;omega
 ·omega
theorem edo(row:List Int):a0Y ⟨x,ps⟩ row=some (⟨(er ps x row).1,ps⟩,anE (er ps x row).2):=by
 unfold a0Y;rw[(b2V row).1,d2P];unfold er;by_cases h:(G4 row).2=0
 ·rw[if_neg (show ¬(((G4 row).2 != 0)=true) by simp[h]),if_neg (show ¬((G4 row).2≠0) by simp[h])];have hc:=a9G h;generalize (G4 row).1=o at hc;unfold a5B eo;by_cases k11:o.Kind=11
  ·rw[if_pos (by simp[k11]),if_pos k11];refine Eq.trans (b:=(T7 x).bind λv4=>some (⟨v4.1,ps⟩,⟨r8 (v4.2.2-v4.2.1),0⟩)) rfl ?_;obtain⟨b1,b2⟩:=c2T hm hx hb;rw[c8F hx.rt hx.sl hx.zr,d2P];dsimp only;rw[B0 (by omega) (by omega)];rfl
  ·rw[if_neg (by simp[k11]),if_neg k11];by_cases k12:o.Kind=12
   ·rw[if_pos (by simp[k12]),if_pos k12];refine Eq.trans (b:=(a2s x ps o.A).bind λv5=>some (⟨v5.1,ps⟩,⟨v5.2.1,v5.2.2.2⟩)) rfl ?_;rw[k12] at hc;obtain⟨a0,a2⟩:=c0m hc;rw[drain_eq hx hm a0 (by omega) (by omega),d2P];rfl
   ·rw[if_neg (by simp[k12]),if_neg k12];refine Eq.trans (b:=(o9 x o).bind λv3=>some (⟨v3.1,ps⟩,⟨v3.2.1,v3.2.2⟩)) rfl ?_;rw[(a5R hx.rt hx.sl hx.zr (by omega) o).mc,d2P];rfl
 ·rw[if_pos (by simpa using h),if_pos h];rfl
theorem rdo(row:List Int):b9E ⟨hO x,psR ps⟩ row=some (⟨hO (er ps x row).1,psR ps⟩,anR (er ps x row).2):=by
 unfold b9E;rw[(b2V row).2,d2P];unfold er;by_cases h:(G4 row).2=0
 ·rw[if_neg (show ¬(((G4 row).2 != 0)=true) by simp[h]),if_neg (show ¬((G4 row).2≠0) by simp[h])];have hc:=a9G h;generalize (G4 row).1=o at hc;unfold eo;by_cases k11:o.Kind=11
  ·rw[if_pos (by simp[k11,b1X]),if_pos k11];obtain⟨b1,b2⟩:=c2T hm hx hb;dsimp only;rw[d0N hx.rt hx.sl hx.zr,d2P];dsimp only;rw[B0 (by omega) (by omega)];rfl
  ·rw[if_neg (by simp[k11,b1X]),if_neg k11];by_cases k12:o.Kind=12
   ·rw[if_pos (by simp[k12,b1X]),if_pos k12];rw[k12] at hc;obtain⟨a0,a2⟩:=c0m hc;refine Eq.trans (b:=(a74 (hO x) (psR ps) o.A).bind λv3=>some (⟨v3.1,psR ps⟩,⟨v3.2.1,v3.2.2.2⟩)) rfl ?_;rw[c50 hx hm a0 (by omega) (by omega),d2P];rfl
   ·rw[if_neg (by simp[k12,b1X]),if_neg k12];refine Eq.trans (b:=(A9 (hO x) (opR o)).bind λv3=>some (⟨v3.1,psR ps⟩,⟨v3.2.1,v3.2.2⟩)) rfl ?_;rw[(a5R hx.rt hx.sl hx.zr (by omega) o).rf,d2P];rfl
 ·rw[if_pos (by simpa using h),if_pos h];rfl
end
section
variable{ps:List (List c9)}(hm:Mp ps){x:Hp}(hx:Oh x)
include hm hx
theorem b8p{rows:List (List Int)}{k:Nat}(hk:k<rows.length):ers ps x (rows.take (k+1))=((er ps (ers ps x (rows.take k)).1 rows[k]).1,(ers ps x (rows.take k)).2 ++ [(er ps (ers ps x (rows.take k)).1 rows[k]).2]):=by
 rw[List.take_succ_eq_append_getElem hk,c3c]
theorem d0X(rows:List (List Int))(hl:rows.length≤1000)(hb:x.S.Serial<6000000000000000000):a1Z ⟨x,ps⟩ rows=some (⟨(ers ps x rows).1,ps⟩,(ers ps x rows).2.map anE):=by
 unfold a1Z;simp only[jn];refine L1 rows.length (λk s=>s=((⟨(ers ps x (rows.take k)).1,ps⟩:g5),(ers ps x (rows.take k)).2.map anE)) (by omega) rfl (λk s hk hs=>.inl ⟨_,?_,rfl⟩) (λs hs=>⟨s,if_neg (by simp),by rw[hs,List.take_length]⟩);subst hs;obtain⟨o1,o2⟩:=b5R hm hx (rows.take k) (by simp;omega);have hlen:=c0s ps x (rows.take k);have hkl:(rows.take k).length=k:=by simp;omega
 dsimp only;rw[if_pos (by simpa using hk),n8 hk,d2P,edo hm o1 (by rw[hkl] at o2;omega),d2P,x4 (by omega) (by simp[hlen];omega),d2P,k8,b8p hm hx hk];simp
theorem d2t(rows:List (List Int))(hl:rows.length≤1000)(hb:x.S.Serial<6000000000000000000):b2w ⟨hO x,psR ps⟩ rows=some (⟨hO (ers ps x rows).1,psR ps⟩,(ers ps x rows).2.map anR):=by
 unfold b2w;simp only[jn];refine L1 rows.length (λk s=>s=((⟨hO (ers ps x (rows.take k)).1,psR ps⟩:C6),(ers ps x (rows.take k)).2.map anR)) (by omega) rfl (λk s hk hs=>.inl ⟨_,?_,rfl⟩) (λs hs=>⟨s,if_neg (by simp),by rw[hs,List.take_length]⟩);subst hs;obtain⟨o1,o2⟩:=b5R hm hx (rows.take k) (by simp;omega);have hlen:=c0s ps x (rows.take k);have hkl:(rows.take k).length=k:=by simp;omega
 dsimp only;rw[if_pos (by simpa using hk),n8 hk,d2P,rdo hm o1 (by rw[hkl] at o2;omega),d2P,x4 (by omega) (by simp[hlen];omega),d2P,k8,b8p hm hx hk];simp
end
def tal(x:Hp):A4:=⟨ctO x.S.S.a8 0,ctO x.S.S.a8 1,ctO x.S.S.a8 2,ctO x.S.S.a8 3⟩
theorem c7f{s:a7}(hR:SR s):O1 s.S=some ⟨ctO s.S.a8 0,ctO s.S.a8 1,ctO s.S.a8 2,ctO s.S.a8 3⟩:=by
 unfold O1;simp only[jn];have hlen:=hR.len;refine L1 s.S.a8.length (λk t=>t=⟨ctO (s.S.a8.take k) 0,ctO (s.S.a8.take k) 1,ctO (s.S.a8.take k) 2,ctO (s.S.a8.take k) 3⟩) (by omega) (by simp[ctO]) (λk t hk ht=>.inl ?_) (λt ht=>⟨_,by simp;rfl,by rw[ht,List.take_length]⟩);have hc:=hR.cell k hk;rw[B3 hk] at hc;subst ht;simp only[Int.ofNat_lt,hk,decide_true,if_true,n8 hk,d2P];have hle:∀j,ctO (s.S.a8.take k) j≤24:=λj=>Nat.le_trans List.countP_le_length (by simp;omega);have h0:=hle 0;have h1:=hle 1;have h2:=hle 2;have h3:=hle 3;rw[List.take_succ_eq_append_getElem hk];simp only[b7n];refine⟨_,?_,rfl⟩;have hst:s.S.a8[k].State=0∨s.S.a8[k].State=1∨s.S.a8[k].State=2∨s.S.a8[k].State=3:=by omega
 rcases hst with e | e | e | e <;> rw[e] <;> simp[A4.ix,A4.l,A4.st,ix] <;> rw[k8,k8] <;> simp
section
variable{ps:List (List c9)}{x:Hp}(hx:H7 x)
include hx
theorem d0Y:a1i ⟨x,ps⟩=some (tal x):=by
 unfold a1i;dsimp only;rw[c7f hx.sh.sr,d2P];rfl
theorem c8Q:a1h ⟨x,ps⟩=some (srs x):=by
 have hR:=hx.sh.sr;have l24:(lv x.S).length≤24:=D4 (p6.2 hR);unfold a1h;simp only[jn];rw[a1r (p6.2 hR),d2P];refine L1 (lv x.S).length (λk l=>l=((lv x.S).take k).map λh=>T3 x h) (by omega) rfl (λk l hk hl=>.inl ⟨_,?_,rfl⟩) (λl hl=>⟨l,if_neg (by simp),?_⟩)
 ·subst hl;dsimp only;have:=D5 hR (List.getElem_mem hk);rw[if_pos (by simpa using hk),n8 hk,d2P,c4N hx.sh (by omega),d2P,x4 (by omega) (by simp;omega),d2P,k8,List.take_succ_eq_append_getElem hk,List.map_append];rfl
 ·subst hl;rw[List.take_length];show (a8e (srs x)).bind _=_;have:=c7a (x:=x) hR;unfold a8e;rw[if_pos (by omega),c4R hR];rfl
end
end Go.Sh
namespace Go.Sh
theorem Rs.oh{x:Hp}{n:Nat}(h:Rs x n):Oh x:=⟨h.rt,h.sl,h.zr⟩
theorem d1g{n last places:Int}{ps:List (List c9)}(hl:ps.length≤12)(hp:∀p∈ps,p.length≤12) :
  (∃e,a1Y n last places ps=some (⟨b9h,[]⟩,e)∧b6w n last places (psR ps)=some (⟨hO b9h,[]⟩,e)∧(e=13∨e=1∧¬((1≤n∧n≤24)∧(0≤last∧last≤9)∧1≤places∧places≤8))) ∨
  (∃k p:Nat,n=k∧places=p∧(1≤k∧k≤24)∧Mp ps∧Rs (nwH k last p) 0∧a1Y n last places ps=some (⟨nwH k last p,ps⟩,0)∧b6w n last places (psR ps)=some (⟨hO (nwH k last p),psR ps⟩,0)):=by
 have e1:a1V ps=some (a5W ps):=c4o (by omega) hp;have e2:a73 (psR ps)=some (a5W ps):=b9y (by omega) hp;unfold a1Y b6w;rw[e1,e2,d2P,d2P];cases hq:a5W ps;·exact .inl ⟨13,rfl,rfl,.inl rfl⟩
 ·simp only[Bool.not_true,Bool.false_eq_true,if_false];by_cases h:(1≤n∧n≤24)∧(0≤last∧last≤9)∧1≤places∧places≤8
  ·right;obtain⟨h1,h2,h3⟩:=h;obtain⟨k,rfl⟩:∃k:Nat,n=k:=⟨n.toNat,by omega⟩;obtain⟨p,rfl⟩:∃p:Nat,places=p:=⟨places.toNat,by omega⟩;obtain⟨a1,a2,hx,hS,hz⟩:=c3v (k:=k) (p:=p) (l:=last) (by omega) h2 (by omega);refine⟨k,p,rfl,rfl,by omega,(d1c hq).1,⟨hx,hS,hz,Int.le_refl _⟩,?_,?_⟩
   ·rw[a1,d2P,hx.sh.r6];rfl
   ·rw[a2,d2P,show (hO (nwH k last p)).Roots.length=6 from hx.sh.r6];rfl
  ·left;have a1:a3F n last places=some b9h:=by
    unfold a3F;rw[if_pos (by simp;omega)];rfl
   have a2:b0i n last places=some (hO b9h):=by
    unfold b0i;rw[if_pos (by simp;omega)];rfl
   refine⟨1,?_,?_,.inr ⟨rfl,h⟩⟩;·rw[a1];rfl
   ·rw[a2];rfl
theorem c94{x:Hp}{n:Nat}(hx:Rs x n)(hn:n≤1000000){ps:List (List c9)}(hm:Mp ps){rows:List (List Int)}(hl:rows.length≤1000){r:C6 × List H3}(h:b2w ⟨hO x,psR ps⟩ rows=some r) :
  a1Z ⟨x,ps⟩ rows=some (⟨hOI r.1.X,ps⟩,r.2.map λa=>⟨a.V,a.E⟩)∧Rs (hOI r.1.X) (n+201*rows.length)∧(ers ps x rows).1=hOI r.1.X∧(ers ps x rows).2=r.2.map λa=>(a.V,a.E):=by
 have hs:=hx.T3;have e:=d2t hm hx.oh rows hl (by omega);rw[h] at e;have e:=Option.some.inj e;obtain⟨o1,o2⟩:=b5R hm hx.oh rows (by omega);have a1:(ers ps x rows).1=hOI r.1.X:=by rw[e,c9a]
 have a2:(ers ps x rows).2=r.2.map λa=>(a.V,a.E):=by
  rw[e,List.map_map];conv=>lhs;rw[←List.map_id (ers ps x rows).2]
  exact List.map_congr_left λp _=>rfl
 refine⟨?_,⟨a1▸o1.rt,a1▸o1.sl,a1▸o1.zr,?_⟩,a1,a2⟩
 ·rw[d0X hm hx.oh rows hl (by omega),a1,a2,List.map_map];congr 1
 ·have:(hOI r.1.X).S.Serial≤x.S.Serial+201*(rows.length:Int):=a1▸o2;show (hOI r.1.X).S.Serial≤((n+201*rows.length:Nat):Int);omega
theorem a7a:Mp []:=λ_ h=>by cases h
end Go.Sh
namespace Go.Sh
end Go.Sh
namespace Go.Sh
theorem c7r(a b c d:Int):a0W a b c d=some [a,b,c,d]:=by
 unfold a0W;rfl
def en(x:Hp):g5:=⟨x,[]⟩
theorem c46{k:Nat}{l:Int}(hk:1≤k∧k≤24)(hl:0≤l∧l≤9):a5o k l=some (en (nwH k l 8))∧Rs (nwH k l 8) 0:=by
 rcases d1g (n:=(k:Int)) (last:=l) (places:=8) (ps:=[]) (by decide) (λp h=>by cases h) with ⟨e,_,_,h | ⟨_,h⟩⟩ | ⟨k',p,h1,h2,_,_,hr,e1,_⟩
 ·exfalso;rename_i e1 e2;subst h;have hq:a1V []=some true:=by kernel_rfl
  unfold a1Y at e1;rw[hq,d2P] at e1;simp only[Bool.not_true,Bool.false_eq_true,if_false] at e1;cases hn:a3F k l 8 with
  | none=>rw[hn] at e1;cases e1
  | some y=>
   rw[hn,d2P] at e1;split at e1
   ·have:(1:Int)=13:=congrArg (λz=>(z.getD (⟨b9h,[]⟩,0)).2) e1;exact absurd this (by decide)
   ·have:(0:Int)=13:=congrArg (λz=>(z.getD (⟨b9h,[]⟩,0)).2) e1;exact absurd this (by decide)
 ·exact absurd ⟨by omega,hl,by omega,by omega⟩ h
 ·obtain rfl:k=k':=by omega
  obtain rfl:p=8:=by omega
  refine⟨?_,hr⟩;unfold a5o;rw[e1];rfl
theorem c7q{n:Int}(h0:0≤n)(h1:n≤255){l:Int}(hl:0≤l∧l≤9):∃k:Nat,1+n % 24=k∧(1≤k∧k≤24)∧a5o (r8 (1+n % 24)) l=some (en (nwH k l 8))∧Rs (nwH k l 8) 0:=by
 obtain⟨k,hk⟩:∃k:Nat,1+n % 24=k:=⟨(1+n % 24).toNat,by omega⟩;have hw:r8 (1+n % 24)=(k:Int):=by rw[B0 (by omega) (by omega)];exact hk
 rw[hw];exact⟨k,hk,by omega,c46 (by omega) hl⟩
theorem d1z{n:Int}(h0:0≤n)(h1:n≤255):r8 n=n:=B0 (by omega) (by omega)
theorem d1t{n:Int}(h0:0≤n)(h1:n≤255){b:Int}(hb:0<b):rem (r8 n) b=some (n % b):=by rw[d1z h0 h1,a79 h0 hb]
theorem d0i(l:List (List c9))(rows:List (List Int))(m:Int):∃b,b0F l rows m=some b∧(b=true→l.length≤10∧(∀p∈l,p.length≤10)∧(rows.length:Int)≤m):=by
 unfold b0F;simp only[jn];refine d0P (Q:=λb=>b=true→l.length≤10∧(∀p∈l,p.length≤10)∧(rows.length:Int)≤m) (min l.length 10) (λk=>∀h:k<l.length,(l[k]).length≤10) (by have:min l.length 10≤10:=Nat.min_le_right ..;omega) (λk hk=>?_) ?_ (λhP=>?_) (λhP=>?_)
 ·have hkl:k<l.length:=by omega
  have hk10:k<10:=by omega
  have c:((decide (((k:Nat):Int)<(l.length:Int)))&&(decide (((k:Nat):Int)<10)))=true:=by simp;omega
  by_cases q:(l[k]).length≤10
  ·refine⟨_,?_,.inl ⟨λ_=>q,rfl⟩⟩;rw[if_pos c,n8 hkl,d2P,if_neg (by simp;omega),k8]
  ·refine⟨_,?_,.inr ⟨λh=>q (h hkl),rfl⟩⟩;rw[if_pos c,n8 hkl,d2P,if_pos (by simp;omega)]
 ·rw[if_neg (by simp;omega)]
 ·dsimp only;refine d0P (Q:=λb=>b=true→l.length≤10∧(∀p∈l,p.length≤10)∧(rows.length:Int)≤m) (min rows.length 200) (λk=>∀h:k<rows.length,(rows[k]).length≤10) (by have:min rows.length 200≤200:=Nat.min_le_right ..;omega) (λk hk=>?_) ?_ (λhP2=>?_) (λhP2=>?_)
  ·have hkl:k<rows.length:=by omega
   have hk10:k<200:=by omega
   have c:((decide (((k:Nat):Int)<(rows.length:Int)))&&(decide (((k:Nat):Int)<200)))=true:=by simp;omega
   by_cases q:(rows[k]).length≤10
   ·refine⟨_,?_,.inl ⟨λ_=>q,rfl⟩⟩;rw[if_pos c,n8 hkl,d2P,if_neg (by simp;omega),k8]
   ·refine⟨_,?_,.inr ⟨λh=>q (h hkl),rfl⟩⟩;rw[if_pos c,n8 hkl,d2P,if_pos (by simp;omega)]
  ·rw[if_neg (by simp;omega)]
  ·refine⟨_,rfl,λh=>?_⟩;rw[Bool.and_eq_true,decide_eq_true_iff,decide_eq_true_iff] at h;refine⟨by omega,λp hp=>?_,h.2⟩;obtain⟨k,hk,rfl⟩:=List.getElem_of_mem hp;exact hP k (by omega) hk
  ·exact⟨false,rfl,λh=>by cases h⟩
 ·exact⟨false,rfl,λh=>by cases h⟩
def c4F:List (List Int):=[[1,0,1,(-1)],[5,0,0,0],[3,0,0,0],[11,0,0,0],[1,0,0,(-1)],[1,1,0,(-1)],[1,2,0,(-1)]]
def d2s:C6 × List H3:=(b2w ⟨hO (nwH 2 3 8),[]⟩ c4F).getD (⟨hO b9h,[]⟩,[])
theorem c68:a3Z=some true:=by
 obtain⟨a1,a2⟩:=c46 (k:=2) (l:=3) (by decide) (by decide);obtain⟨b1,b2,_,_⟩:=c94 a2 (by decide) a7a (rows:=c4F) (by decide) (r:=d2s) (by kernel_rfl);unfold a3Z;refine bnd a1 ?_;simp only[c7r,d2P];refine bnd b1 ?_;dsimp only;rw[d0Y b2.rt];kernel_rfl
theorem c81{l:List (List c9)}{rows:List (List Int)}{m:Int}{K:Option Bool}(h:l.length≤10→(∀p∈l,p.length≤10)→(rows.length:Int)≤m→K=some true) :
  ((b0F l rows m).bind λv1=>(z6 ((!v1)==false) false a3Z).bind λv2=>if ((!v1)||(!v2)) then (a3Z).bind λv3=>some v3 else K)=some true:=by
 obtain⟨b,h1,h2⟩:=d0i l rows m;rw[h1,d2P,c68];cases b;·rfl
 ·obtain⟨a,c,d⟩:=h2 rfl;exact h a c d
end Go.Sh
namespace Go.Sh
theorem c25{x:Hp}{o:c9}{e:Int}(h:Er x o e):dov x o=(x,0,e):=by unfold dov;rw[h.2.1];rfl
theorem c24{x z:Hp}{o:c9}{v:Int}(h:Dn x o z v):dov x o=(V9 z,v,0):=by unfold dov;rw[h.mc];rfl
end Go.Sh
namespace Go.Sh
theorem b6m(n:Int):prg [] n = []:=by unfold prg;split <;> rfl
theorem c5X{x:Hp}(hx:Oh x){t:g8}{ts:List g8}(hq:x.Q.L=t::ts):(dne [] x t ts).S.Serial=x.S.Serial:=by
 have hp:=b2n hx hq;have hr:ran [] x t ts=pre x t ts:=by unfold ran;rw[b6m];rfl
 unfold dne;rw[hr];split
 ·have o:=b3s hx hq;have hR:=o.rt.sh.sr;have k:=R3 (x:=pre x t ts) hR 5 0;have hz:H7 (A3 (pre x t ts) 5 0):=J2 o.rt (by decide) (.inl rfl);rw[(a3V hz).T3,k.T3,hp]
 ·exact hp
theorem c22{p:Hp × Int}(hx:Oh p.1)(hb:0≤p.2)(hs:p.1.S.Serial+p.2<9223372036854775807):∀n,(dN [] n p).1.S.Serial=p.1.S.Serial:=by
 intro n;induction n with
 | zero=>rfl
 | succ n ih=>
  obtain⟨a1,a2,a3,a4⟩:=b0O [] hx hb hs n;rw[a7J];by_cases c:can [] (dN [] n p)
  ·obtain⟨t,ts,e,q⟩:=c;rw[a3K [] e,if_pos q];show (dne [] _ t ts).S.Serial=_;rw[c5X a1 e,ih]
  ·rw[c6w [] c,ih]
theorem c8T{x:Hp}(hx:Oh x)(hb:x.S.Serial<7000000000000000000)(row:List Int):((er [] x row).2.2=0∧(∃a b c,row = [1,a,b,c])∧(er [] x row).2.1=x.S.Serial+1∧(er [] x row).1.S.Serial=x.S.Serial+1)∨(¬((er [] x row).2.2=0∧∃a b c,row = [1,a,b,c])∧(er [] x row).1.S.Serial=x.S.Serial):=by
 unfold er;by_cases h:(G4 row).2=0
 ·have hrow:=b7p h;have hc:=a9G h;rw[if_neg (show ¬((G4 row).2≠0) by simp[h])];have hk1:(∃a b c,row = [1,a,b,c])↔(G4 row).1.Kind=1:=⟨λ⟨a,b,c,e⟩=>(List.cons.inj (hrow.trans e)).1,λe=>⟨_,_,_,by rw[←e];exact hrow.symm⟩⟩;rw[hk1];generalize (G4 row).1=o at hc;unfold eo;by_cases k11:o.Kind=11
  ·right;rw[if_pos k11,k11];exact⟨by simp,b5J hx.rt hx.sl hx.zr⟩
  ·rw[if_neg k11];by_cases k12:o.Kind=12
   ·right;rw[if_pos k12];rw[k12] at hc ⊢;obtain⟨a0,a2⟩:=c0m hc;exact⟨by simp,c22 (p:=(x,o.A)) hx a0 (by show x.S.Serial+o.A<_;omega) _⟩
   ·rw[if_neg k12];rcases c5Y hx (by omega) o with ⟨a,b,c,d⟩ | ⟨a,b,_⟩;·exact .inl ⟨a,b,c,d⟩
    ·exact .inr ⟨a,b⟩
 ·right;rw[if_pos h];exact⟨λq=>h q.1,rfl⟩
end Go.Sh
namespace Go.Sh
end Go.Sh
namespace Go.Sh
end Go.Sh
namespace Go.Sh
end Go.Sh
namespace Go.Sh
end Go.Sh
namespace Go.Sh
end Go.Sh
namespace Go.Sh
structure Bk (x:Hp):Prop where
 ok:Oh x
 rt:x.Roots=List.replicate 6 0
 cl:x.a8=List.replicate 6 ⟨0,false,-1⟩
 hs:∀k v,¬Has x.T k v
 q:x.Q.L = []
 st:∀i,i<x.S.S.a8.length→(ce x.S i).State=0∨(ce x.S i).State=3
theorem Bk.lv{x:Hp}(h:Bk x):lv x.S = []:=List.eq_nil_iff_forall_not_mem.2 λk hk=>by
 obtain⟨i,hi⟩:=(a1q h.ok.rt.sh.sr).1 hk;rcases h.st i hi.1 with e | e <;> rw[hi.2.1] at e <;> exact absurd e (by decide)
theorem c4S{x:Hp}{h:Int}{f:Int→Int}(q:h∉lv x.S):stO x h f=x:=by unfold stO;rw[if_neg q]
end Go.Sh
namespace Go.Sh
def cpc(x:Hp)(j:Nat):Int:=if (ce x.S j).State=0 then x.S.S.Last+1-(ce x.S j).Gen else 0
def cap(x:Hp):Int:=((List.range x.S.S.a8.length).map (cpc x)).sum
end Go.Sh
namespace Go.Sh
def Q4(o o':l4):Prop:=o'.Strong=o.Strong∧o'.Started=o.Started
theorem Q4.refl(o:l4):Q4 o o:=⟨rfl,rfl⟩
theorem Q4.trans{a b c:l4}(h:Q4 a b)(q:Q4 b c):Q4 a c:=⟨q.1.trans h.1,q.2.trans h.2⟩
def cr(x:Hp)(h:Int):Int:=(x.Roots.count h:Int)
theorem c8I{l:List Int}{r:Nat}(hr:r<l.length)(v h:Int):((l.set r v).count h:Int)=(l.count h:Int)-(if l.getD r 0=h then 1 else 0)+(if v=h then 1 else 0):=by
 rw[List.count_set hr];have e:l.getD r 0=l[r]:=by rw[List.getD_eq_getElem?_getD,List.getElem?_eq_getElem hr];rfl
 rw[e];have hp:l[r]=h→1≤l.count h:=λq=>List.one_le_count_iff.2 (q▸List.getElem_mem hr);by_cases a:l[r]=h <;> by_cases b:v=h <;> simp[a,b] <;> (try have:=hp a) <;> omega
structure Jb (x:Hp) (h:Int):Prop where
 rt:H7 x
 sl:SL x
 lv:lv x.S = [h]
 st:(ob x.S h).Strong=cr x h
 sd:(ob x.S h).Started=true
 se:(ob x.S h).Serial=1
 q:x.Q.L = []
 s1:x.S.Serial=1
theorem Jb.h0{x:Hp}{h:Int}(j:Jb x h):h≠0:=λe=>a5N j.rt.sh.sr (by rw[j.lv,e];exact List.mem_singleton.2 rfl)
theorem Jb.mem{x:Hp}{h:Int}(j:Jb x h):h∈Sh.lv x.S:=by rw[j.lv];exact List.mem_singleton.2 rfl
theorem Jb.le{x:Hp}{h:Int}(j:Jb x h):0≤cr x h∧cr x h≤6:=by
 have:=List.count_le_length (a:=h) (l:=x.Roots);have:=j.rt.sh.r6;unfold cr;omega
theorem Jb.zr{x:Hp}{h:Int}(j:Jb x h)(hc:1≤cr x h):Sh.zr x = []:=List.eq_nil_iff_forall_not_mem.2 λk hk=>by
 obtain⟨a,b⟩:=Z0.1 hk;rw[j.lv,List.mem_singleton] at a;subst a;rw[j.st] at b;omega
theorem Jb.root{x:Hp}{h:Int}(j:Jb x h){r:Nat}(hr:r<6){v:Int}(hv:v=0∨v=h)(ho:x.Roots.getD r 0=0∨x.Roots.getD r 0=h):Jb (A3 x r v) h∧(A3 x r v).Roots=x.Roots.set r v:=by
 have hR:=j.rt.sh.sr;have r6:=j.rt.sh.r6;have hb:=j.le;have hz:H7 (A3 x r v):=J2 j.rt hr (by rcases hv with rfl | rfl;exact .inl rfl;exact .inr j.mem);have rest:=P1 x r v;have ks:=R3 hR r v;have k1:Kin x.S (A0 x v).S:=B7 hR v λc=>A5;have k2:Kin (A0 x v).S (A3 x r v).S:=B7 (x:=wR (A0 x v) (x.Roots.set r v)) k1.sr (x.Roots.getD r 0) (f:=a2r) λc=>F1;have m1:h∈Sh.lv (A0 x v).S:=by rw[k1.lv];exact j.mem
 have e1:(ob (A0 x v).S h).Strong=(ob x.S h).Strong+(if v=h then 1 else 0):=by
  rcases hv with rfl | rfl
  ·rw[show A0 x 0=x from c4S (a5N hR),if_neg (λe=>j.h0 e.symm)];omega
  ·have:=a7y hR v (f:=N3) (λc=>A5) j.mem;rw[if_pos rfl] at this;rw[if_pos rfl];show (ob (stO x v N3).S v).Strong=_;rw[this,j.st];unfold N3;rw[if_neg (by omega),if_neg (by omega)]
 have e2:(ob (A3 x r v).S h).Strong=(ob (A0 x v).S h).Strong-(if x.Roots.getD r 0=h then 1 else 0):=by
  rcases ho with e | e
  ·rw[e,if_neg (λq=>j.h0 q.symm)];have:A3 x r v=wR (A0 x v) (x.Roots.set r v):=by
    unfold A3;rw[e];exact c4S (x:=wR (A0 x v) (x.Roots.set r v)) (a5N k1.sr)
   rw[this];show (ob (A0 x v).S h).Strong=_;omega
  ·have:=a7y (x:=wR (A0 x v) (x.Roots.set r v)) k1.sr (x.Roots.getD r 0) (f:=a2r) (λc=>F1) (k:=h) m1;rw[if_pos e.symm] at this;rw[if_pos e];have hc1:1≤cr x h:=by
    unfold cr;have hm:h∈x.Roots:=by
     have hrl:r<x.Roots.length:=by omega
     rw[List.getD_eq_getElem?_getD,List.getElem?_eq_getElem hrl] at e;exact e▸List.getElem_mem hrl
    have:=List.one_le_count_iff.2 hm;omega
   show (ob (stO (wR (A0 x v) (x.Roots.set r v)) (x.Roots.getD r 0) a2r).S h).Strong=_;rw[this,show (ob (wR (A0 x v) (x.Roots.set r v)).S h).Strong=_ from e1,j.st];unfold a2r;split <;> (try split) <;> (try split) <;> omega
 obtain⟨n1,o1⟩:=k1.ob h (by have:=D5 hR j.mem;omega);obtain⟨n2,o2⟩:=k2.ob h (by have:=D5 hR j.mem;omega);refine⟨⟨hz,a2J hR j.sl r v,by rw[ks.lv,j.lv],?_,by rw[o2,o1];exact j.sd,by rw[o2,o1];exact j.se,by rw[rest.2.2.2];exact j.q,by rw[ks.T3];exact j.s1⟩,rest.1⟩;rw[e2,e1,j.st];unfold cr;rw[rest.1,c8I (by omega)];omega
structure Jn (x:Hp) (h:Int):Prop extends Jb x h where
 r4:x.Roots.getD 4 0=h
 rr:∀r,r<4→x.Roots.getD r 0=0
 r5:x.Roots.getD 5 0=0∨x.Roots.getD 5 0=h
theorem b0X{l:List Int}{r:Nat}(hr:r<l.length)(v:Int)(k:Nat):(l.set r v).getD k 0=if k=r then v else l.getD k 0:=a2w hr v 0 k
theorem Jn.one{x:Hp}{h:Int}(j:Jn x h):1≤cr x h:=by
 unfold cr;have r6:=j.rt.sh.r6;have hm:h∈x.Roots:=by
  have hrl:4<x.Roots.length:=by omega
  have e:=j.r4;rw[List.getD_eq_getElem?_getD,List.getElem?_eq_getElem hrl] at e;exact e▸List.getElem_mem hrl
 have:=List.one_le_count_iff.2 hm;omega
theorem Jn.zr0{x:Hp}{h:Int}(j:Jn x h):Sh.zr x = []:=j.toJb.zr j.one
theorem Jn.oh{x:Hp}{h:Int}(j:Jn x h):Oh x:=⟨j.rt,j.sl,j.zr0⟩
theorem Jn.drop{x:Hp}{h:Int}(j:Jn x h){r:Nat}(hr:r<6)(h4:r≠4):Jn (A3 x r 0) h:=by
 have ho:x.Roots.getD r 0=0∨x.Roots.getD r 0=h:=by
  rcases Nat.lt_or_ge r 4 with q | q
  ·exact .inl (j.rr r q)
  ·obtain rfl:r=5:=by omega
   exact j.r5
 obtain⟨a,b⟩:=j.toJb.root hr (.inl rfl) ho;have r6:=j.rt.sh.r6;refine⟨a,?_,λk hk=>?_,?_⟩;·rw[b,b0X (by omega),if_neg (by omega)];exact j.r4
 ·rw[b,b0X (by omega)];split;·rfl
  ·exact j.rr k hk
 ·rw[b,b0X (by omega)];split;·exact .inl rfl
  ·exact j.r5
end Go.Sh
namespace Go.Sh
end Go.Sh
namespace Go.Sh
structure Nm (x:Hp):Prop where
 s1:1≤x.S.Serial
 n:∀k∈lv x.S,2≤(ob x.S k).Serial
theorem Nm.ks{x y:Hp}(h:Nm x)(k:Ks x.S y.S):Nm y:=⟨by rw[k.T3];exact h.s1,λq hq=>by
 rw[k.lv] at hq;rw[k.ob q hq];exact h.n q hq⟩
theorem Nm.stl{x y:Hp}(h:Nm x)(k:Stl x y):Nm y:=⟨by rw[k.T3];exact h.s1,λq hq=>by
 rw[(k.ob q hq).1];exact h.n q (k.lv q hq)⟩
theorem Nm.ev{x y:Hp}(h:Nm x)(k:Ev x y):Nm y:=⟨by have:=k.s1;have:=h.s1;omega,λq hq=>by
 have:=h.s1;rcases k.lv q hq with ⟨a,b⟩ | ⟨a,b⟩;·rw[b];exact h.n q a
 ·rw[b];omega⟩
end Go.Sh
namespace Go.Sh
noncomputable def uns(x:Hp):Nat:=((lv x.S).filter λh => !(ob x.S h).Started).length
def itc(x:Hp):Nat:=x.a8.countP (·.Intact)
noncomputable def tks(x:Hp):Nat:=x.Q.L.length+uns x+itc x
structure Ls (x y:Hp):Prop where
 m:tks y≤tks x
 u:mu y≤mu x
 r:y.Roots=x.Roots
theorem Ls.refl(x:Hp):Ls x x:=⟨Nat.le_refl _,Nat.le_refl _,rfl⟩
theorem Ls.trans{x y z:Hp}(a:Ls x y)(b:Ls y z):Ls x z:=⟨Nat.le_trans b.m a.m,Nat.le_trans b.u a.u,b.r.trans a.r⟩
theorem a6u(x:Hp):mu x=(lv x.S).length+uns x:=rfl
theorem c5P(l:List c5)(ds:List Int):(cls l ds).length≤l.countP (Z4 ds):=by
 have h1:(cls l ds).length≤(List.range l.length).countP λw=>Z4 ds (l.getD w cz):=by
  unfold cls;rw[←List.countP_eq_length_filter];exact List.countP_mono_left λw _ h=>by rw[Bool.and_eq_true] at h;exact h.1
 have h2:(List.range l.length).map (λw=>l.getD w cz)=l:=by
  refine List.ext_getElem (by simp) λi h h'=>?_;simp[List.getD_eq_getElem?_getD,List.getElem?_eq_getElem h']
 have h3:l.countP (Z4 ds)=(List.range l.length).countP λw=>Z4 ds (l.getD w cz):=by
  conv=>lhs;rw[←h2]
  rw[List.countP_map];rfl
 omega
theorem b7G(ds:List Int):∀l:List c5,(l.countP λc=>(a3v ds c).Intact)+l.countP (Z4 ds)=l.countP (·.Intact)
 | []=>rfl
 | c::l=>by
  have ih:=b7G ds l;rw[List.countP_cons,List.countP_cons,List.countP_cons];cases h:Z4 ds c
  ·have:(a3v ds c).Intact=c.Intact:=by unfold a3v;rw[h];rfl
   rw[this,if_neg (show ¬(false=true) by simp)];omega
  ·have h1:c.Intact=true:=by unfold Z4 at h;rw[Bool.and_eq_true,Bool.and_eq_true] at h;exact h.1.1
   have h2:(a3v ds c).Intact=false:=by unfold a3v;rw[h];rfl
   rw[h1,h2,if_neg (show ¬(false=true) by simp),if_pos (show true=true from rfl)];omega
theorem c6g(ds:List Int)(l:List c5):(clr l ds).countP (·.Intact)+l.countP (Z4 ds)=l.countP (·.Intact):=by
 rw[←b7G ds l];unfold clr;rw[List.countP_map];rfl
theorem d0e{x:Hp}(hx:H7 x):Ls x (stp x):=by
 cases hz:zr x with
 | nil=>rw[a6e hz];exact .refl x
 | cons z l=>
  have hmu:=c4T hx (by rw[hz];simp);have hzm:z∈zr x:=by rw[hz];exact List.mem_cons_self ..
  have hzl:=(Z0.1 hzm).1;have hR:=hx.sh.sr;refine⟨?_,Nat.le_of_lt hmu,?_⟩
  ·rw[a1G hz] at hmu ⊢;split
   ·rename_i q;rw[if_pos q,a6u,a6u,b3w hR hzl] at hmu;obtain⟨_,_,k2,_,k4⟩:=a29 hR hzl;unfold tks itc;rw[k2,k4];simp;omega
   ·have hn:([z]:List Int).Nodup:=by simp
    have hm:∀d ∈ [z],d∈lv x.S:=by simpa using hzl
    obtain⟨_,k2,_,k4⟩:=a3u hR hn hm;have h2:uns (buH x [z])≤uns x:=by
     unfold uns;rw[b2N hR hn hm,List.filter_filter,←List.countP_eq_length_filter,←List.countP_eq_length_filter];refine List.countP_mono_left λa ha hp=>?_;rw[Bool.and_eq_true,decide_eq_true_iff] at hp;obtain⟨n,e⟩:=b2O hR hn hm ha hp.2;rw[e] at hp;exact hp.1
    have h3:=c5P x.a8 [z];have h4:=c6g [z] x.a8;unfold tks itc;rw[k2,k4];unfold clt;simp only[List.length_append,List.length_map];omega
  ·rw[a1G hz];split;·exact (a29 hR hzl).2.1
   ·exact (a3u hR (by simp) (by simpa using hzl)).1
theorem d0b{x:Hp}(hx:H7 x)(n:Nat):Ls x (stN n x):=by
 induction n with
 | zero=>exact .refl x
 | succ n ih=>rw[a0A];exact ih.trans (d0e (U9 hx n))
theorem b2y{x:Hp}(hx:H7 x):Ls x (V9 x):=d0b hx 100
theorem c0D{x y:Hp}(hR:SR x.S)(k:Kin x.S y.S):uns y=uns x∧mu y=mu x:=by
 have h:uns y=uns x:=by
  unfold uns;rw[k.lv];congr 1;refine List.filter_congr λh hh=>?_;obtain⟨n,e⟩:=k.ob h (by have:=D5 hR hh;omega);rw[e]
 exact⟨h,by rw[a6u,a6u,h,k.lv]⟩
theorem b5i{x:Hp}(hR:SR x.S)(r:Nat)(h:Int):Kin x.S (A3 x r h).S:=by
 have k1:Kin x.S (A0 x h).S:=B7 hR h (f:=N3) λc=>A5;exact k1.trans (B7 (x:=wR (A0 x h) (x.Roots.set r h)) k1.sr (x.Roots.getD r 0) (f:=a2r) λc=>F1)
theorem c15{x:Hp}(hR:SR x.S)(r:Nat)(h:Int):tks (A3 x r h)=tks x∧mu (A3 x r h)=mu x:=by
 obtain⟨a,b⟩:=c0D hR (b5i hR r h);obtain⟨_,c,_,d⟩:=P1 x r h;refine⟨?_,b⟩;unfold tks itc;rw[a,c,d]
theorem c3j{x:Hp}(hR:SR x.S)(ts:List g8)(h:Int):tks (a5D x ts h)=ts.length+uns x+itc x∧mu (a5D x ts h)=mu x:=by
 have k1:=b5i (x:=unq x ts) hR 5 h;have k2:Kin x.S (a5D x ts h).S:=k1.trans (B7 (x:=A3 (unq x ts) 5 h) k1.sr h (f:=a2r) λc=>F1);obtain⟨a,b⟩:=c0D hR k2;obtain⟨_,b',_,d'⟩:=P1 (unq x ts) 5 h;obtain⟨_,b2,_,d2⟩:=b0p (A3 (unq x ts) 5 h) h;refine⟨?_,b⟩;have c1:(a5D x ts h).a8=x.a8:=b2.trans b';have c2:(a5D x ts h).Q=(unq x ts).Q:=d2.trans d';unfold tks itc;rw[a,c1,c2]
theorem d2u{l:List Int}(h:l=List.replicate 6 0)(v:Int):(l.set 5 v).set 5 0=List.replicate 6 0:=by
 subst h;rw[List.set_set];rfl
theorem c8M{x:Hp}(hx:Oh x){t:g8}{ts:List g8}(hq:x.Q.L=t::ts)(h0:x.Roots=List.replicate 6 0):tks (dne [] x t ts)<tks x∧mu (dne [] x t ts)≤mu x∧(dne [] x t ts).Roots=List.replicate 6 0:=by
 have hr:ran [] x t ts=pre x t ts:=by unfold ran;rw[b6m];rfl
 have o:=b3s hx hq;have hl:tks x=ts.length+1+uns x+itc x:=by unfold tks;rw[hq,List.length_cons]
 unfold dne;rw[hr];by_cases k:t.Kind=1
 ·rw[if_pos k];have f:=c3j hx.rt.sh.sr ts t.At;have hf:=a3h hx.rt hq k;have s1:=b2y hf;have pe:pre x t ts=V9 (a5D x ts t.At):=by unfold pre;exact if_pos k
  have z:=c15 (x:=pre x t ts) o.rt.sh.sr 5 0;have hz:H7 (A3 (pre x t ts) 5 0):=J2 o.rt (by decide) (.inl rfl);have s2:=b2y hz;have z1:=z.1;have z2:=z.2;have f1:=f.1;have f2:=f.2;have a1:=s1.m;have a2:=s1.u;have b1:=s2.m;have b2:=s2.u;rw[pe] at z1 z2 b1 b2 ⊢;refine⟨by omega,by omega,?_⟩;rw[←pe,s2.r,(P1 (pre x t ts) 5 0).1,pe,s1.r,(b7s hx.rt (ts:=ts) t.At).1];exact d2u h0 _
 ·rw[if_neg k];have pe:pre x t ts=unq x ts:=by unfold pre;exact if_neg k
  rw[pe];refine⟨?_,Nat.le_refl _,h0⟩;show ts.length+uns x+itc x<_;omega
theorem d0j{x:Hp}(hx:H7 x):tks x≤60:=by
 have h1:=hx.sh.q30;have h2:(lv x.S).length≤24:=D4 (p6.2 hx.sh.sr);have h3:uns x≤(lv x.S).length:=List.length_filter_le ..;have h4:itc x≤x.a8.length:=List.countP_le_length;have h5:=hx.sh.c6;unfold tks;omega
theorem c0o(t:g8):cst [] t=1:=by unfold cst;rw[b6m];rfl
theorem c8P{x:Hp}(hx:Oh x)(hs:x.S.Serial<1000000)(h0:x.Roots=List.replicate 6 0):Oh (dr [] (x,200)).1∧(dr [] (x,200)).1.Q.L = []∧mu (dr [] (x,200)).1≤mu x∧(dr [] (x,200)).1.Roots=List.replicate 6 0∧(dr [] (x,200)).1.S.Serial=x.S.Serial:=by
 have all:=b0O [] (p:=(x,200)) hx (show (0:Int)≤200 by decide) (by show x.S.Serial+200<_;omega);have hser:=c22 (p:=(x,200)) hx (show (0:Int)≤200 by decide) (by show x.S.Serial+200<_;omega);have key:∀n,(∀j,j<n→can [] (dN [] j (x,200)))→tks (dN [] n (x,200)).1+n≤tks x∧mu (dN [] n (x,200)).1≤mu x∧(dN [] n (x,200)).1.Roots=List.replicate 6 0∧(dN [] n (x,200)).2=200-(n:Int):=by
  intro n;induction n with
  | zero=>exact λ_=>⟨Nat.le_refl _,Nat.le_refl _,h0,by show (200:Int)=_;omega⟩
  | succ n ih=>
   intro hc;obtain⟨a,b,c,d⟩:=ih λj hj=>hc j (by omega);obtain⟨t,ts,e,q⟩:=hc n (by omega);obtain⟨l1,l2,l3⟩:=c8M (all n).1 e c;rw[a7J,a3K [] e,if_pos q];dsimp only;rw[c0o];exact⟨by omega,by omega,l3,by omega⟩
 obtain⟨s1,s2,s3⟩:=b2d [] (p:=(x,200)) (show (0:Int)≤200 by decide);obtain⟨a,b,c,d⟩:=key (dn [] (x,200)) s3;have hM:=d0j hx.rt;refine⟨(all _).1,?_,b,c,hser _⟩;cases e:(dr [] (x,200)).1.Q.L with
 | nil=>rfl
 | cons t ts=>
  exact absurd ((a9z [] (p:=dN [] (dn [] (x,200)) (x,200)) e).2 (by rw[c0o];omega)) s2
theorem c5Z{x:Hp}(f:Int)(hf:0≤f)(hq:x.Q.L = []):dn [] (x,f)=0∧dr [] (x,f)=(x,f):=by
 have h:dn [] (x,f)=0:=c8L [] hf (n:=0) (b7S [] (p:=(x,f)) hq) λj hj=>absurd hj (Nat.not_lt_zero _);refine⟨h,?_⟩;unfold dr;rw[h];rfl
theorem c5V{x:Hp}(hs:0≤(200:Int))(h:dn [] (x,200)=0):dr [] (x,200)=(x,200):=by
 unfold dr;rw[h];rfl
theorem c8H{x:Hp}(hx:Oh x):mu (col x)≤mu x∧(col x).Roots=x.Roots∧(cgn x-((btc x).length:Int)≠0→mu (col x)<mu x)∧(cgn x-((btc x).length:Int)=0→btc x = []∧col x=x∧X8 x = []):=by
 have hR:=hx.rt.sh.sr;by_cases hb:btc x = []
 ·have hlv:(lv (col x).S)=(lv x.S).filter (λh=>decide (h∉X8 x)):=by rw[c8G hx.rt hx.sl hx.zr,if_pos hb]
  have hle:(lv (col x).S).length≤(lv x.S).length:=by rw[hlv];exact List.length_filter_le ..
  have hu:uns (col x)≤uns x:=by
   unfold uns;rw[hlv,List.filter_filter,←List.countP_eq_length_filter,←List.countP_eq_length_filter];refine List.countP_mono_left λa ha hp=>?_;rw[Bool.and_eq_true,decide_eq_true_iff] at hp;have e:col x=buH x (X8 x):=b2Q hb;rw[e] at hp;obtain⟨n,e2⟩:=b2O hR (a0M hx.rt) (X9 hx.rt) ha hp.2;rw[e2] at hp;exact hp.1
  have hc:cgn x-((btc x).length:Int)=((lv x.S).length:Int)-((lv (col x).S).length:Int):=by
   unfold cgn;rw[if_pos hb,hb];simp
  refine⟨by rw[a6u,a6u];omega,?_,λh=>by rw[a6u,a6u];omega,λh=>?_⟩
  ·rw[b2Q hb];exact (a3u hR (a0M hx.rt) (X9 hx.rt)).1
  ·have hl:(lv (col x).S).length=(lv x.S).length:=by omega
   have hg:X8 x = []:=List.eq_nil_iff_forall_not_mem.2 λk hk=>by
    rw[hlv] at hl;have:=List.length_filter_eq_length_iff.1 hl k (X9 hx.rt k hk);rw[decide_eq_true_iff] at this;exact this hk
   exact⟨hb,by rw[b2Q hb,hg,c5K],hg⟩
 ·have q:=b5E hx.rt hx.sl hx.zr;have e:col x=(btc x).foldl quH x:=by unfold col;rw[if_neg hb]
  obtain⟨b,hbm⟩:=List.exists_mem_of_ne_nil _ hb;obtain⟨b1,b2⟩:=b2a b hbm;have hu:uns (col x)<uns x:=by
   unfold uns;rw[e,q.lv];refine filter_lt (λk hk hp=>?_) b b1 ?_ ?_
   ·obtain⟨n,e2⟩:=q.ob k hk;rw[e2] at hp;split at hp;·exact absurd hp (by simp)
    ·exact hp
   ·unfold due at b2;rw[Bool.and_eq_true] at b2;exact b2.2
   ·obtain⟨n,e2⟩:=q.ob b b1;rw[e2,if_pos hbm];rfl
  have hlv:lv (col x).S=lv x.S:=by rw[e,q.lv]
  have hc:cgn x-((btc x).length:Int)≠0:=by
   have:0<(btc x).length:=List.length_pos_iff.2 hb;unfold cgn;rw[if_neg hb];omega
  refine⟨by rw[a6u,a6u,hlv];omega,by rw[e,q.ro],λ_=>by rw[a6u,a6u,hlv];omega,λh=>absurd h hc⟩
end Go.Sh
namespace Go.Sh
theorem c51(ps:List (List c9))(x:Hp):er ps x [11,0,0,0]=(col x,cgn x-((btc x).length:Int),0):=by
 have:G4 [11,0,0,0]=(⟨11,0,0,0⟩,0):=by kernel_rfl
 unfold er;rw[this,if_neg (by simp)];rfl
theorem c8S(ps:List (List c9))(x:Hp):er ps x [12,200,0,0]=((dr ps (x,200)).1,(dn ps (x,200):Int),dre (dr ps (x,200))):=by
 have hd:G4 [12,200,0,0]=(⟨12,200,0,0⟩,0):=by kernel_rfl
 unfold er;rw[hd,if_neg (by simp)];rfl
theorem c6o{T E R:Type}{f:Int × T→Option ((Int × T) ⊕ E)}{t0:T}{κ:E→Option R}{Q:R→Prop}(n:Nat)(P:Nat→T→Prop)(hn:n<4611686018427387904)(h0:P 0 t0)
  (hs:∀(k:Nat) t,k<n→P k t→(∃t',f ((k:Int),t)=some (.inl (((k+1:Nat):Int),t'))∧P (k+1) t')∨(∃e,f ((k:Int),t)=some (.inr e)∧∃r,κ e=some r∧Q r))(he:∀t,P n t→∃e,f ((n:Int),t)=some (.inr e)∧∃r,κ e=some r∧Q r):∃r,(lp f (0,t0)).bind κ=some r∧Q r:=by
 obtain⟨e,h1,r,h2,h3⟩:=a13 n P (λe=>∃r,κ e=some r∧Q r) hn h0 hs he;exact⟨r,by rw[h1];exact h2,h3⟩
theorem c0q{x:Hp}(hx:Oh x)(hb:x.S.Serial<1000000){k a b c:Int}(hk:k≠1):Oh (er [] x [k,a,b,c]).1∧(er [] x [k,a,b,c]).1.S.Serial=x.S.Serial:=by
 refine⟨(c7D a7a hx (by omega) _).1,?_⟩;rcases c8T hx (by omega) [k,a,b,c] with ⟨_,⟨a',b',c',e⟩,_⟩ | ⟨_,e⟩;·exact absurd (List.cons.inj e).1 hk
 ·exact e
theorem c52{x:Hp}(hx:Oh x){r:Nat}(hr:r<6):(er [] x [3,(r:Int),0,0]).1.Roots=x.Roots.set r 0:=by
 have hc:w8 3 (r:Int) 0 0=0:=by
  show I2 (r:Int) 0 5 6=0;unfold I2;rw[if_neg (by omega)]
 have hd:G4 [3,(r:Int),0,0]=(⟨3,(r:Int),0,0⟩,0):=by
  have:=b2b 3 (r:Int) 0 0;rw[if_neg (by rw[hc];simp)] at this;have e:=(b2V [3,(r:Int),0,0]).1;rw[this] at e;exact (Option.some.inj e).symm
 have d:=d3 hx.rt hx.sl hc;have e:(er [] x [3,(r:Int),0,0]).1=V9 (A3 x r 0):=by
  unfold er;rw[hd,if_neg (by simp)];unfold eo;rw[if_neg (show ¬((3:Int)=11) by decide),if_neg (show ¬((3:Int)=12) by decide),c24 d];rfl
 rw[e,(b2y (J2 hx.rt hr (.inl rfl))).r,(P1 x r 0).1]
theorem c53{x:Hp}(hx:Oh x)(a b c:Int):(er [] x [6,a,b,c]).1.Roots=x.Roots:=by
 unfold er;by_cases h:(G4 [6,a,b,c]).2=0
 ·have hrow:=b7p h;have hc:=a9G h;rw[if_neg (show ¬((G4 [6,a,b,c]).2≠0) by simp[h])];have ho:(G4 [6,a,b,c]).1=⟨6,a,b,c⟩:=by
   generalize (G4 [6,a,b,c]).1=o at hrow;obtain⟨k',a',b',c'⟩:=o;simp only[List.cons.injEq,and_true] at hrow;obtain⟨e1,e2,e3,e4⟩:=hrow;rw[e1,e2,e3,e4]
  rw[ho] at hc ⊢;unfold eo;rw[if_neg (show ¬((6:Int)=11) by decide),if_neg (show ¬((6:Int)=12) by decide)];rcases d6 hx.rt hx.sl hc with ⟨_,e⟩ | ⟨_,_,e⟩ | ⟨_,d⟩;·rw[c25 e]
  ·rw[c25 e]
  ·rw[c24 d,(b2y d.rt).r,(a9o x _ _ _).1]
 ·rw[if_pos h]
theorem c8D{x:Hp}(hx:Oh x)(hs:x.S.Serial<1000000)(h0:x.Roots=List.replicate 6 0):∃r,b2G ⟨x,[]⟩ 60=some r∧∃z,r=(⟨z,[]⟩,true)∧Oh z∧z.Roots=List.replicate 6 0∧z.Q.L = []∧X8 z = []:=by
 unfold b2G;simp only[jn];refine c6o 60 (λk e=>∃y,e=(⟨y,[]⟩:g5)∧Oh y∧y.S.Serial<1000000∧y.Roots=List.replicate 6 0∧(k=0∨y.Q.L = []∧mu y+k≤49)) (by decide) ⟨x,rfl,hx,hs,h0,.inl rfl⟩ (λk e hk hP=>?_) (λe hP=>?_)
 ·obtain⟨y,rfl,oy,sy,ry,hy⟩:=hP;obtain⟨m1,m2,m3,m4⟩:=c8H oy;obtain⟨c1,c2,c3⟩:=b2R oy.rt oy.sl oy.zr;have oc:Oh (col y):=⟨c1,c2,c3⟩;have sc:(col y).S.Serial=y.S.Serial:=b5J oy.rt oy.sl oy.zr;obtain⟨d1,d2,d3,d4,d5⟩:=c8P oc (by omega) (by rw[m2];exact ry);have h48:=c7S oy.rt.sh.sr;have hE:dre (dr [] (col y,200))=0:=by unfold dre;rw[d2];rfl
  dsimp only;rw[if_pos (by simp;omega)];simp only[c7r,d2P];rw[edo a7a oy (by omega),c51,d2P];dsimp only;rw[edo a7a oc (by omega),c8S,d2P];by_cases hc:((((cgn y-((btc y).length:Int))==0)&&((dn [] (col y,200):Int)==0))&&(dre (dr [] (col y,200))==0))=true
  ·right;rw[if_pos (by exact hc)];rw[Bool.and_eq_true,Bool.and_eq_true,beq_iff_eq,beq_iff_eq] at hc;obtain⟨⟨v1,v2⟩,_⟩:=hc;have v3:dn [] (col y,200)=0:=by omega
   have e:=c5V (x:=col y) (by decide) v3;obtain⟨_,g1,g2⟩:=m4 v1;refine⟨_,rfl,_,rfl,_,rfl,d1,d4,d2,?_⟩;rw[e];show X8 (col y) = [];rw[g1,g2]
  ·left;rw[if_neg (by exact hc),k8];refine⟨_,rfl,_,rfl,d1,by rw[d5];omega,d4,.inr ⟨d2,?_⟩⟩;change mu (dr [] (col y,200)).1+(k+1)≤49
   rcases hy with q0 | ⟨q1,q2⟩
   ·omega
   ·by_cases v:cgn y-((btc y).length:Int)=0
    ·exfalso;apply hc;obtain⟨_,g1,g2⟩:=m4 v;obtain⟨n1,n2⟩:=c5Z (x:=col y) 200 (by decide) (by rw[g1];exact q1);rw[hE,n1,v];rfl
    ·have:=m3 v;omega
 ·exfalso;obtain⟨y,_,_,_,_,h | ⟨_,h⟩⟩:=hP;·omega
  ·omega
def b4x(c:b7):Bool:=(c.State==1)&&decide (12≤c.Val.Strong)
theorem c3s{z:Hp}(hz:Oh z)(h0:z.Roots=List.replicate 6 0)(hq:z.Q.L = [])(hg:X8 z = [])(hs:z.S.S.a8.countP b4x=0):lv z.S = []∧ctO z.S.S.a8 1=0:=by
 have hR:=hz.rt.sh.sr;have hh:∀h,h∉hdx z:=λh hm=>by
  obtain⟨a,b⟩:=b9g hz.rt hm;rcases b with b | b
  ·have h1:=D5 hR a;unfold otr b3b at b;rw[hq,h0] at b;have:h=0:=by simp[nz] at b
   omega
  ·obtain⟨i,hi⟩:=(a1q hR).1 a;rw[L5 hR hi] at b;have h1:=List.countP_eq_zero.1 hs (z.S.S.a8[i]'hi.1) (List.getElem_mem hi.1);have h2:=hi.2.1;rw[B3 hi.1] at b h2;apply h1;unfold b4x;rw[h2,decide_eq_true b];rfl
 have hn:∀h,¬a0j z.S z.T (hdx z) h:=λh r=>by
  induction r with
  | base a _=>exact hh _ a
  | step _ _ _ ih=>exact ih
  | pair _ _ _ ih=>exact ih
 have hl:lv z.S = []:=List.eq_nil_iff_forall_not_mem.2 λk hk=>by
  have:k∈X8 z:=W4.2 ⟨hk,hn k⟩;rw[hg] at this;cases this
 refine⟨hl,?_⟩;unfold ctO;rw[List.countP_eq_zero];intro c hc;obtain⟨j,hj,rfl⟩:=List.getElem_of_mem hc;intro e;have e1:(ce z.S j).State=1:=by rw[B3 hj];simpa using e
 have:hdl z.S j∈lv z.S:=(a1q hR).2 ⟨j,hj,e1,rfl⟩;rw[hl] at this;cases this
theorem topGone{n:Int}{rows:List (List Int)}(h0:0≤n)(h1:n≤255):a9p n rows=some true:=by
 unfold a9p;refine c81 λhl hp hr=>?_;rw[d1t h0 h1 (by decide),d2P];obtain⟨k,hk,hk2,e1,hr0⟩:=c7q h0 h1 (l:=9) (by decide);have hs:=hr0.T3;obtain⟨o1,o2⟩:=b5R a7a hr0.oh rows (by omega);rw[e1,d2P];unfold en;rw[d0X a7a hr0.oh rows (by omega) (by omega),d2P];dsimp only;have o3:(ers [] (nwH k 9 8) rows).1.S.Serial<1000000:=by omega
 generalize (ers [] (nwH k 9 8) rows).1=x at o1 o2 o3;simp only[jn];refine L1 6 (λj e=>∃y,e=(⟨y,[]⟩:g5)∧Oh y∧y.S.Serial<1000000∧∀i,i<j→y.Roots.getD i 0=0) (by decide) ⟨x,rfl,o1,o3,λi hi=>by omega⟩ (λj e hj hP=>?_) (λe hP=>?_)
 ·obtain⟨y,rfl,oy,sy,ry⟩:=hP;obtain⟨a,b⟩:=c0q (a:=(j:Int)) (b:=0) (c:=0) oy sy (k:=3) (by decide);refine .inl ⟨⟨(er [] y [3,(j:Int),0,0]).1,[]⟩,?_,_,rfl,a,by rw[b];exact sy,λi hi=>?_⟩
  ·dsimp only;rw[if_pos (by simp;omega)];simp only[c7r,d2P];rw[edo a7a oy (by omega),d2P,k8]
  ·have r6:=oy.rt.sh.r6;rw[c52 oy hj,a2w (by omega)];split;·rfl
   ·exact ry i (by omega)
 ·obtain⟨y,rfl,oy,sy,ry⟩:=hP;have r6:=oy.rt.sh.r6;have rz:y.Roots=List.replicate 6 0:=by
   refine List.ext_getElem (by simp[r6]) λi h h'=>?_;have:=ry i (by omega);rw[List.getD_eq_getElem?_getD,List.getElem?_eq_getElem h] at this;rw[List.getElem_replicate];simpa using this
  refine⟨⟨y,[]⟩,if_neg (by simp),?_⟩;refine L1 6 (λj e=>∃y,e=(⟨y,[]⟩:g5)∧Oh y∧y.S.Serial<1000000∧y.Roots=List.replicate 6 0) (by decide) ⟨y,rfl,oy,sy,rz⟩ (λj e hj hP=>?_) (λe hP=>?_)
  ·obtain⟨y,rfl,oy,sy,ry⟩:=hP;obtain⟨a,b⟩:=c0q (a:=(j:Int)) (b:=-1) (c:=-1) oy sy (k:=6) (by decide);refine .inl ⟨⟨(er [] y [6,(j:Int),-1,-1]).1,[]⟩,?_,_,rfl,a,by rw[b];exact sy,by rw[c53 oy];exact ry⟩;dsimp only;rw[if_pos (by simp;omega)];simp only[c7r,d2P];rw[edo a7a oy (by omega),d2P,k8]
  ·obtain⟨y,rfl,oy,sy,ry⟩:=hP;refine⟨⟨y,[]⟩,if_neg (by simp),?_⟩;obtain⟨r,q1,z,rfl,oz,rz,qz,gz⟩:=c8D oy sy ry;refine bnd q1 ?_;have hR:=oz.rt.sh.sr;have l24:=hR.len;dsimp only;refine a0w (λj=>((((z.S.S.a8.take j).countP b4x:Nat):Int),((ctO (z.S.S.a8.take j) 2:Nat):Int),(j:Int))) rfl z.S.S.a8.length (λ_=>True) (by omega) trivial (λj hj _=>.inl ⟨?_,trivial⟩) (λ_=>⟨(((z.S.S.a8.countP b4x:Nat):Int),((ctO z.S.S.a8 2:Nat):Int)),?_,?_⟩)
   ·have hle1:(z.S.S.a8.take j).countP b4x≤24:=Nat.le_trans List.countP_le_length (by simp;omega);have hle2:ctO (z.S.S.a8.take j) 2≤24:=Nat.le_trans List.countP_le_length (by simp;omega);dsimp only;rw[if_pos (by simp;omega),n8 hj,d2P,List.take_succ_eq_append_getElem hj,b7n,List.countP_append,List.countP_singleton];have h2:(((z.S.S.a8[j]).State==2)&&(decide ((z.S.S.a8[j]).Val.Weak > 0)))=decide ((z.S.S.a8[j]).State=2):=by
     by_cases e:(z.S.S.a8[j]).State=2
     ·have hw:=((oz.rt.wk j hj (by unfold Th;rw[B3 hj];exact .inr e)).2 (by rw[B3 hj];exact e)).1;rw[B3 hj] at hw;rw[e];simp;omega
     ·simp[e]
    have h1:(((z.S.S.a8[j]).State==1)&&(decide ((z.S.S.a8[j]).Val.Strong≥12)))=b4x z.S.S.a8[j]:=rfl;rw[h1,h2];generalize (z.S.S.a8.take j).countP b4x=m1 at hle1;generalize ctO (z.S.S.a8.take j) 2=m2 at hle2;have w1:r8 ((m1:Int)+1)=((m1+1:Nat):Int):=by rw[B0 (by omega) (by omega)];rfl
    have w2:r8 ((m2:Int)+1)=((m2+1:Nat):Int):=by rw[B0 (by omega) (by omega)];rfl
    have w3:r8 ((j:Int)+1)=((j+1:Nat):Int):=by rw[B0 (by omega) (by omega)];rfl
    by_cases a:b4x z.S.S.a8[j]=true <;> by_cases b:(z.S.S.a8[j]).State=2 <;> simp only[a,b,if_true,if_false,decide_true,decide_false,Bool.false_eq_true,w1,w2,w3] <;> rfl
   ·dsimp only;rw[if_neg (by simp),List.take_length]
   ·dsimp only;rw[d0Y oz.rt,d2P];simp only[tal];by_cases hK:z.S.S.a8.countP b4x=0
    ·obtain⟨g1,g2⟩:=c3s oz rz qz gz hK;have hs:srs z = []:=by unfold srs;rw[g1];rfl
     rw[show a1h ⟨z,[]⟩=some [] from by rw[c8Q oz.rt,hs],hK,g2];simp[z6]
    ·have:decide ((((z.S.S.a8.countP b4x:Nat):Int)) > 0)=true:=decide_eq_true (by have:=Nat.pos_of_ne_zero hK;omega);rw[this];simp[z6]
end Go.Sh
