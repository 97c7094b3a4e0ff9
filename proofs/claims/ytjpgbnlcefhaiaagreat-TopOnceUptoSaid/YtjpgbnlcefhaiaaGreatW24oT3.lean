/-
 More of the theory.
-/
import Derived.Test.YtjpgbnlcefhaiaaGreatW24oT2
set_option linter.unusedVariables false
set_option linter.unusedSimpArgs false
set_option linter.unusedSectionVars false
namespace Go.Sh
theorem c3H{c:Int}(h:0≤c):1≤M0 c:=by unfold M0;split <;> (try split) <;> omega
theorem b3u{x:Hp}(hR:SR x.S){h:Int}(hh:h∈lv x.S){k:Int}(hk:k∈lv x.S):(ob (quH x h).S k).Strong=if k=h then M0 (ob x.S k).Strong else (ob x.S k).Strong:=by
 have oko:=H2 hR hh;have ho:OkO x.S (srt (ob x.S h)):=⟨oko.s1,oko.s2,oko.st,oko.wk,oko.p1,oko.p2,oko.fl⟩;have r1:=a0F (o:=srt (ob x.S h)) hR hh rfl ho;have l1:lv (seO x.S h (srt (ob x.S h)))=lv x.S:=a28 (o:=srt (ob x.S h)) hR hh rfl ho;have hr:=E0 hR hk;have e1:(ob (seO x.S h (srt (ob x.S h))) k).Strong=(ob x.S k).Strong:=by
  rw[a2l (o:=srt (ob x.S h)) hR hh rfl ho (by omega)];split;·rename_i e;subst e;rfl
  ·rfl
 have:=a3a (x:=⟨seO x.S h (srt (ob x.S h)),x.Roots,x.a8,x.T,⟨x.Q.L ++ [qtk x h],x.Q.Cap⟩⟩) r1 (h:=h) (f:=M0) (λc=>A5) (k:=k) (by
  show k∈lv (seO x.S h (srt (ob x.S h)));rw[l1];exact hk)
 rw[show (ob (quH x h).S k).Strong=_ from this];show (if k=h then M0 (ob (seO x.S h (srt (ob x.S h))) k).Strong else (ob (seO x.S h (srt (ob x.S h))) k).Strong)=_;rw[e1]
theorem c9R{x:Hp}(hx:I8 x)(hz:zr x = []){h:Int}(hh:h∈lv x.S):zr (quH x h) = []:=List.eq_nil_iff_forall_not_mem.2 λk hk=>by
 obtain⟨a,b⟩:=X5.1 hk;rw[b3t hx.sh.sr hh] at a;rw[b3u hx.sh.sr hh a] at b;have h0:=(H2 hx.sh.sr a).st;have hn:(ob x.S k).Strong≠0:=λq=>by
  have:k∈zr x:=X5.2 ⟨a,q⟩;rw[hz] at this;cases this
 split at b;·have:=c3H h0;omega
 ·exact hn b
structure Qd (x y:Hp) (l:List Int):Prop where
 rt:I8 y
 sl:SL y
 zr:zr y = []
 lv:lv y.S=lv x.S
 ob:∀k∈Sh.lv x.S,∃n,Sh.ob y.S k=stg (if k∈l then srt (Sh.ob x.S k) else Sh.ob x.S k) n
 ro:y.Roots=x.Roots
 ce:y.a8=x.a8
 t:y.T=x.T
 q:y.Q=⟨x.Q.L++l.map (qtk x),x.Q.Cap⟩
 U5:y.S.Serial=x.S.Serial
theorem c0V{x:Hp}(hR:SR x.S){h:Int}(hh:h∈lv x.S):(quH x h).S.Serial=x.S.Serial:=(a4z hR hh).1.U5
theorem b9C:∀(l:List Int) {x:Hp},I8 x→SL x→Sh.zr x = []→l.Nodup→(∀h∈l,h∈Sh.lv x.S∧due (Sh.ob x.S h)=true)→Qd x (l.foldl quH x) l
 | [],x,hx,hS,hz,_,_=>⟨hx,hS,hz,rfl,λk hk=>⟨(Sh.ob x.S k).Strong,by rw[if_neg (by simp)];rfl⟩,rfl,rfl,rfl,by simp,rfl⟩
 | h::l,x,hx,hS,hz,hn,hd=>by
  obtain⟨hl,hdu⟩:=hd h (List.mem_cons_self ..);have hR:=hx.sh.sr;rw[List.nodup_cons] at hn;have q2:=hdu;unfold due at q2;rw[Bool.and_eq_true,decide_eq_true_iff,Bool.not_eq_true'] at q2;have h1:=b1k hx hl q2.1 q2.2;have h2:=c4A hR hS hl;have h3:=c9R hx hz hl;have lq:=b3t hR hl;have oq:∀k∈Sh.lv x.S,k≠h→∃n,Sh.ob (quH x h).S k=stg (Sh.ob x.S k) n:=λk hk hne=>by
   obtain⟨n,e⟩:=b1j hR hl hk;rw[if_neg hne] at e;exact⟨n,e⟩
  have ih:=b9C l h1 h2 h3 hn.2 λk hk=>by
   obtain⟨a,b⟩:=hd k (List.mem_cons_of_mem _ hk);obtain⟨n,e⟩:=oq k a λe=>hn.1 (e▸hk);refine⟨by rw[lq];exact a,?_⟩;rw[e];exact b
  obtain⟨_,k1,k2,k3,k4⟩:=a4z hR hl;refine⟨ih.rt,ih.sl,ih.zr,ih.lv.trans lq,λk hk=>?_,ih.ro.trans k1,ih.ce.trans k2,ih.t.trans k3,?_,ih.U5.trans (c0V hR hl)⟩
  ·obtain⟨n,e⟩:=ih.ob k (by rw[lq];exact hk);obtain⟨m,e2⟩:=b1j hR hl hk;refine⟨n,?_⟩;show Sh.ob (l.foldl quH (quH x h)).S k=_;rw[e];by_cases c:k=h
   ·subst c;rw[if_neg hn.1,if_pos (List.mem_cons_self ..),e2,if_pos rfl]
   ·rw[if_neg c] at e2;by_cases c2:k∈l
    ·rw[if_pos c2,if_pos (List.mem_cons_of_mem _ c2),e2]
    ·rw[if_neg c2,if_neg (λq=>by
      rcases List.mem_cons.1 q with r | r
      ·exact c r
      ·exact c2 r),e2]
  ·show (l.foldl quH (quH x h)).Q=_;rw[ih.q,k4];have:l.map (qtk (quH x h))=l.map (qtk x):=List.map_congr_left λk hk=>by
    obtain⟨a,_⟩:=hd k (List.mem_cons_of_mem _ hk);obtain⟨n,e⟩:=oq k a λe=>hn.1 (e▸hk);show (⟨1,k,(Sh.ob (quH x h).S k).Prog⟩:g7)=⟨1,k,(Sh.ob x.S k).Prog⟩;rw[e]
   rw[this];simp
noncomputable def btc(x:Hp):List Int:=(gbg x).filter λh=>due (Sh.ob x.S h)
noncomputable def col(x:Hp):Hp:=if btc x = [] then buH x (gbg x) else (btc x).foldl quH x
theorem b5x{x:Hp}:∀h∈btc x,h∈Sh.lv x.S∧due (Sh.ob x.S h)=true:=λh hh=>by
 obtain⟨a,b⟩:=List.mem_filter.1 hh;exact⟨(a0d.1 a).1,b⟩
theorem c2W{x:Hp}(hx:I8 x):(btc x).Nodup:=List.Pairwise.filter _ (a2Y hx)
theorem c2X{x:Hp}(hx:I8 x)(hS:SL x)(hz:zr x = []):Qd x ((btc x).foldl quH x) (btc x):=b9C _ hx hS hz (c2W hx) b5x
theorem b5D{x:Hp}(hx:I8 x)(hS:SL x)(hz:zr x = []):I8 (col x)∧SL (col x)∧zr (col x) = []:=by
 unfold col;split;·exact⟨V5 hx,c2Y hx.sh.sr hS (a2Y hx) (a19 hx),b7l (V5 hx) (b7y hx)⟩
 ·have q:=c2X hx hS hz;exact⟨q.rt,q.sl,q.zr⟩
end Go.Sh
namespace Go.Sh
theorem c29{y:Hp}(h:btc y = []):col y=buH y (gbg y):=by
 unfold col;rw[if_pos h]
section
variable{x:Hp}(hx:I8 x)
include hx
end
end Go.Sh
namespace Go.Sh
structure Rs (x:Hp) (n:Nat):Prop where
 rt:I8 x
 sl:SL x
 zr:zr x = []
 U5:x.S.Serial≤n
end Go.Sh
namespace Go.Sh
section
variable{x:Hp}(hx:I8 x)(hS:SL x)
include hx hS
theorem c20:N8 x=some (gbg x):=by
 have hB:=c7F hx hS;unfold N8;rw[b9f (p9.2 hx.sh.sr) hx.sh.hr hB.tb hB.fb hB.sb];rfl
theorem c7w:a4C (hO x)=some (gbg x):=by
 have hB:=c7F hx hS;unfold a4C;rw[show (hO x).S=sO x.S from rfl,show (hO x).T=x.T.map K2 from rfl,b5X (p9.2 hx.sh.sr) hx.sh.hr hB.tb hB.sb];rfl
theorem a93:(gbg x).length≤24:=Nat.le_trans (List.length_filter_le ..) (D9 (p9.2 hx.sh.sr))
theorem c8B:a2q x=some (btc x):=by
 have hR:=hx.sh.sr;have hl:=a93 hx hS;unfold a2q;rw[c20 hx hS,d2I];unfold E9;simp only[jn];refine bnd (a:=btc x) ?_ rfl;refine N4 (gbg x).length (λk b=>b=((gbg x).take k).filter λh=>due (Sh.ob x.S h)) (by omega) rfl (λk b hk hP=>?_) (λb hP=>?_)
 ·subst hP;have hm:=a19 hx _ (List.getElem_mem hk);have hle:(((gbg x).take k).filter λh=>due (Sh.ob x.S h)).length≤24:=Nat.le_trans (List.length_filter_le ..) (by simp;omega);refine .inl ⟨_,?_,rfl⟩;rw[if_pos (by simpa using hk),n9 hk,d2I,K5 hk,List.filter_append];unfold a2X;rw[b07 hR hm,d2I,d2I];have e:(decide ((ob x.S (gbg x)[k],(0:Int)).1.Prog≥0) && !(ob x.S (gbg x)[k],(0:Int)).1.Started)=due (ob x.S (gbg x)[k]):=rfl;rw[e];cases hd:due (ob x.S (gbg x)[k])
  ·rw[if_neg (by simp),k8];simp[hd]
  ·rw[if_pos rfl,u7 (by omega) (by simp;omega),d2I,k8];simp[hd]
 ·subst hP;refine⟨_,if_neg (by simp),?_⟩;rw[List.take_length];rfl
theorem d0B:b1s (hO x)=some (btc x):=by
 have hR:=hx.sh.sr;have hl:=a93 hx hS;unfold b1s;rw[c7w hx hS,d2I];simp only[jn];refine N4 (gbg x).length (λk b=>b=((gbg x).take k).filter λh=>due (Sh.ob x.S h)) (by omega) rfl (λk b hk hP=>?_) (λb hP=>?_)
 ·subst hP;have hm:=a19 hx _ (List.getElem_mem hk);have hle:(((gbg x).take k).filter λh=>due (Sh.ob x.S h)).length≤24:=Nat.le_trans (List.length_filter_le ..) (by simp;omega);refine .inl ⟨_,?_,rfl⟩;rw[if_pos (by simpa using hk),n9 hk,d2I,K5 hk,List.filter_append,c3g hx hS (a1C hR hm),d2I,decide_eq_true hm,Bool.true_and];cases hd:due (ob x.S (gbg x)[k])
  ·rw[if_neg (by simp),k8];simp[hd]
  ·rw[if_pos rfl,u7 (by omega) (by simp;omega),d2I,k8];simp[hd]
 ·subst hP;refine⟨_,if_neg (by simp),?_⟩;rw[List.take_length];rfl
noncomputable def cgn(x:Hp):Int:=if btc x = [] then ((lv x.S).length:Int)-((lv (col x).S).length:Int) else 0
omit hx hS in
theorem c3U {l:List Int} (hn:l.Nodup) (hm:∀d∈l,d∈lv x.S):lvo x l=l:=by
 have key:∀(l b:List Int),(b++l).Nodup→(∀d∈l,d∈lv x.S)→l.foldl (λb h=>if h∈lv x.S∧h∉b then b ++ [h] else b) b=b++l:=by
  intro l;induction l with
  | nil=>intro b _ _;simp
  | cons a l ih=>
   intro b hn hm;rw[List.foldl_cons];have ha:a∉b:=λq=>by
    rw[List.nodup_append] at hn;exact hn.2.2 a q a (List.mem_cons_self ..) rfl
   rw[if_pos ⟨hm a (List.mem_cons_self ..),ha⟩,ih (b ++ [a]) (by simpa using hn) λd hd=>hm d (List.mem_cons_of_mem _ hd)];simp
 exact key l [] (by simpa using hn) hm
variable(hz:zr x = [])
include hz
theorem c1l{k:Nat}(hk:k<(btc x).length):(((btc x).take k).foldl quH x)=(((btc x).take k).foldl quH x)∧I8 (((btc x).take k).foldl quH x)∧SL (((btc x).take k).foldl quH x)∧(btc x)[k]∈lv (((btc x).take k).foldl quH x).S∧due (ob (((btc x).take k).foldl quH x).S (btc x)[k])=true:=by
 have hn:=c2W hx;have q:=b9C ((btc x).take k) hx hS hz ((List.take_sublist ..).nodup hn) λh hh=>b5x h (List.mem_of_mem_take hh);obtain⟨a,b⟩:=b5x (btc x)[k] (List.getElem_mem hk);refine⟨rfl,q.rt,q.sl,by rw[q.lv];exact a,?_⟩;obtain⟨n,e⟩:=q.ob _ a;have hnot:(btc x)[k]∉(btc x).take k:=λh=>by
  have:=K5 hk;have hs:((btc x).take (k+1)).Nodup:=(List.take_sublist ..).nodup hn;rw[this,List.nodup_append] at hs;exact hs.2.2 _ h _ (List.mem_singleton_self _) rfl
 rw[e,if_neg hnot];exact b
theorem b5y:(btc x).length≤24:=Nat.le_trans (List.length_filter_le ..) (a93 hx hS)
theorem c8F:U7 x=some (col x,((btc x).length:Int),cgn x):=by
 have hR:=hx.sh.sr;have hl:=b5y hx hS hz;obtain⟨c1,c2,c3⟩:=b5D hx hS hz;unfold U7;rw[c8B hx hS,d2I];simp only[jn];refine N4 (btc x).length (λk b=>b=((btc x).take k).foldl quH x) (by omega) rfl (λk b hk hP=>?_) (λb hP=>?_)
 ·subst hP;obtain⟨_,r1,r2,r3,r4⟩:=c1l hx hS hz hk;refine .inl ⟨_,?_,rfl⟩;rw[if_pos (by simpa using hk),n9 hk,d2I,b5b r1 r2 (a1C r1.sh.sr r3),d2I,k8,K5 hk,List.foldl_append];unfold quD;rw[if_pos ⟨r3,r4⟩];rfl
 ·subst hP;refine⟨_,if_neg (by simp),?_⟩;rw[List.take_length];by_cases hb:btc x = []
  ·have e:col x=buH x (gbg x):=c29 hb;rw[if_neg (by simp[hb])];unfold cgn;rw[if_pos hb,e,hb];have h1:=a2Y hx;have h2:=a19 hx;have hlive:=a1B (p9.2 hR);have hlive2:=a1B (p9.2 (V5 hx).sh.sr);have l1:=D9 (p9.2 hR);have l2:=D9 (p9.2 (V5 hx).sh.sr);show (N8 x).bind _=_;rw[c20 hx hS,d2I,List.foldl_nil,c0l hx h1 h2 (c09 hx) (by rw[b0i hR _ (by have:=a93 hx hS;omega) λh hh=>a1C hR (h2 h hh),c3U h1 h2]),d2I,a3E (V5 hx) (by rw[←e];exact c2),d2I,b28 hx,hlive,d2I,hlive2,d2I,C3 (by omega) (by omega)];rfl
  ·have:0<(btc x).length:=List.length_pos_iff.2 hb;rw[if_pos (by simp;omega)];unfold cgn col;rw[if_neg hb,if_neg hb]
theorem d0F:a7w (hO x)=some (hO (col x),((btc x).length:Int),cgn x):=by
 have hR:=hx.sh.sr;have hl:=b5y hx hS hz;obtain⟨c1,c2,c3⟩:=b5D hx hS hz;unfold a7w;rw[d0B hx hS,d2I];simp only[jn];by_cases hb:btc x = []
 ·have e:col x=buH x (gbg x):=c29 hb;rw[if_neg (by simp[hb])];unfold cgn;rw[if_pos hb,e,hb];have h1:=a2Y hx;have h2:=a19 hx;have hlive:=a9o (p9.2 hR);have hlive2:=a9o (p9.2 (V5 hx).sh.sr);have l1:=D9 (p9.2 hR);have l2:=D9 (p9.2 (V5 hx).sh.sr);rw[c7w hx hS,d2I,b4H hx h1 h2 (c09 hx) (by rw[c3h hR _ (by have:=a93 hx hS;omega) λh hh=>a1C hR (h2 h hh),c3U h1 h2]),d2I,a5s (V5 hx) (by rw[←e];exact c2),d2I,b28 hx,show (hO x).S=sO x.S from rfl,hlive,d2I,show (hO (buH x (gbg x))).S=sO (buH x (gbg x)).S from rfl,hlive2,d2I,C3 (by omega) (by omega)];rfl
 ·have hp:0<(btc x).length:=List.length_pos_iff.2 hb;rw[if_pos (by simp;omega)];refine N4 (btc x).length (λk b=>b=hO (((btc x).take k).foldl quH x)) (by omega) rfl (λk b hk hP=>?_) (λb hP=>?_)
  ·subst hP;obtain⟨_,r1,r2,r3,r4⟩:=c1l hx hS hz hk;refine .inl ⟨_,?_,rfl⟩;rw[if_pos (by simpa using hk),n9 hk,d2I,b77 r1 r2 (a1C r1.sh.sr r3),d2I,k8,K5 hk,List.foldl_append];unfold quD;rw[if_pos ⟨r3,r4⟩];rfl
  ·subst hP;refine⟨_,if_neg (by simp),?_⟩;rw[List.take_length];unfold cgn col;rw[if_neg hb,if_neg hb]
end
end Go.Sh
namespace Go.Sh
theorem c51{x:Hp}(hx:I8 x)(hS:SL x)(hz:zr x = []):(col x).S.Serial=x.S.Serial:=by
 unfold col;split
 ·have g:=a1w (gbg x) hx.sh.sr (a2Y hx) (a19 hx);exact (a34 ((gbg x).flatMap (outs x.S)++(wot x.T (gbg x)).2) (x:=a4d x (gbg x) (wot x.T (gbg x)).1) g.sr).1.U5.trans g.U5
 ·exact (c2X hx hS hz).U5
end Go.Sh
namespace Go.Sh
def Sv(s s':a7):Prop:=s'.S.a8.length=s.S.a8.length∧∀i,i<s.S.a8.length→(ce s i).Gen≤(ce s' i).Gen∧((ce s' i).Gen=(ce s i).Gen→((ce s i).State≠0→(ce s' i).State≠0)∧((ce s' i).State=1→(ce s i).State=0∨((ce s i).State=1∧((ce s i).Val.Started=true→(ce s' i).Val.Started=true))))
theorem Sv.refl(s:a7):Sv s s:=⟨rfl,λi _=>⟨Int.le_refl _,λ_=>⟨id,λh=>.inr ⟨h,id⟩⟩⟩⟩
theorem Sv.trans{a b c:a7}(h:Sv a b)(q:Sv b c):Sv a c:=by
 obtain⟨h1,h2⟩:=h;obtain⟨q1,q2⟩:=q;refine⟨q1.trans h1,λi hi=>?_⟩;obtain⟨a1,a2⟩:=h2 i hi;obtain⟨b1,b2⟩:=q2 i (by omega);refine⟨by omega,λe=>?_⟩;obtain⟨a3,a4⟩:=a2 (by omega);obtain⟨b3,b4⟩:=b2 (by omega);refine⟨λh=>b3 (a3 h),λh=>?_⟩;rcases b4 h with r | ⟨r,r'⟩
 ·exact .inl (Classical.byContradiction λn=>a3 n r)
 ·rcases a4 r with k | ⟨k,k'⟩
  ·exact .inl k
  ·exact .inr ⟨k,λs=>r' (k' s)⟩
def b97(s:a7)(h:Int):Prop:=∃(i:Nat) (g:Int),i<s.S.a8.length∧h=1+(i:Int)+32*g∧(g<(ce s i).Gen∨(g=(ce s i).Gen∧(ce s i).State≠0∧((ce s i).State=1→(ce s i).Val.Started=true)))
theorem Sv.d1k{s s':a7}(h:Sv s s'){k:Int}(q:b97 s k):b97 s' k:=by
 obtain⟨i,g,hi,e,q⟩:=q;obtain⟨h1,h2⟩:=h;obtain⟨a,b⟩:=h2 i hi;refine⟨i,g,by omega,e,?_⟩;rcases q with q | ⟨q1,q2,q3⟩
 ·exact .inl (by omega)
 ·by_cases c:(ce s' i).Gen=(ce s i).Gen
  ·obtain⟨b1,b2⟩:=b c;refine .inr ⟨by omega,b1 q2,λr=>?_⟩;rcases b2 r with k | ⟨k1,k2⟩
   ·exact absurd k q2
   ·exact k2 (q3 k1)
  ·exact .inl (by omega)
theorem c2d{s:a7}(hR:SR s){h:Int}(hh:h∈lv s)(hs:(ob s h).Started=false):¬b97 s h:=by
 rintro⟨i,g,hi,e,q⟩;obtain⟨j,hj⟩:=(a1Y hR).1 hh;have hl:=hR.len;have hij:i=j:=by
  have:=hj.2.2;have:=hj.1;omega
 subst hij;have:=hj.2.2;rcases q with q | ⟨q1,q2,q3⟩
 ·omega
 ·rw[K8 hR hj,q3 hj.2.1] at hs;cases hs
theorem Kin.sv{s s':a7}(hR:SR s)(k:Kin s s'):Sv s s':=⟨k.len,λi hi=>by
 obtain⟨a,b,_,_,_⟩:=k.ce i hi;refine⟨by omega,λ_=>⟨by omega,λh=>.inr ⟨by omega,λq=>?_⟩⟩⟩;have h1:At s (J8 s i) i:=⟨hi,by omega,rfl⟩;have h2:At s' (J8 s i) i:=⟨by rw[k.len];exact hi,h,by rw[b];rfl⟩;have hl:=E0 hR ((a1Y hR).2 ⟨i,h1⟩);obtain⟨n,e⟩:=k.ob (J8 s i) (by omega);rw[K8 k.sr h2,K8 hR h1] at e;rw[e];exact q⟩
theorem c4T{s:a7}(hR:SR s){h:Int}(hh:h∈lv s){o:l5}(hs:o.Serial=(ob s h).Serial)(ho:OkO s o)(hst:(ob s h).Started=true→o.Started=true):Sv s (seO s h o):=⟨c1f s h o,λi hi=>by
 have q:=w7 hR hh;rw[b6M hR hh hs ho];split
 ·rename_i e;subst e;refine⟨Int.le_refl _,λ_=>⟨id,λr=>.inr ⟨q.2.1,λk=>hst ?_⟩⟩⟩;rw[K8 hR q];exact k
 ·exact⟨Int.le_refl _,λ_=>⟨id,λr=>.inr ⟨r,id⟩⟩⟩⟩
theorem c3Z{s:a7}(hR:SR s){i:Nat}(hi:i<s.S.a8.length)(ht:Th (ce s i))(d:Int):Sv s (mkA s i d):=⟨K4 ..,λj hj=>by
 rw[a06 hR hi ht];split
 ·rename_i e;subst e;exact⟨Int.le_refl _,λ_=>⟨id,λr=>.inr ⟨r,id⟩⟩⟩
 ·exact⟨Int.le_refl _,λ_=>⟨id,λr=>.inr ⟨r,id⟩⟩⟩⟩
theorem c81{s:a7}{i:Nat}(hi:i<s.S.a8.length):Sv s (gvA s i):=⟨V2 ..,λj hj=>by
 unfold gvA;rw[H9 hi];by_cases e:j=i
 ·subst e;rw[if_pos rfl];split;·exact⟨Int.le_refl _,λ_=>⟨λ_=>(by decide:(3:Int)≠0),λr=>absurd (show (3:Int)=1 from r) (by decide)⟩⟩
  ·refine⟨by show _≤(ce s j).Gen+1;omega,λr=>?_⟩;have:(ce s j).Gen+1=(ce s j).Gen:=r;omega
 ·rw[if_neg e];exact⟨Int.le_refl _,λ_=>⟨id,λr=>.inr ⟨r,id⟩⟩⟩⟩
theorem Gn.sv{s s':a7}{ds:List Int}(g:Gn s s' ds):Sv s s':=⟨g.len,λj hj=>by
 rw[g.ce];split
 ·unfold gnC;split
  ·split;·exact⟨Int.le_refl _,λ_=>⟨λ_=>(by decide:(3:Int)≠0),λr=>absurd (show (3:Int)=1 from r) (by decide)⟩⟩
   ·refine⟨by show _≤(Sh.ce s j).Gen+1;omega,λr=>?_⟩;have:(Sh.ce s j).Gen+1=(Sh.ce s j).Gen:=r;omega
  ·exact⟨Int.le_refl _,λ_=>⟨λ_=>(by decide:(2:Int)≠0),λr=>absurd (show (2:Int)=1 from r) (by decide)⟩⟩
 ·exact⟨Int.le_refl _,λ_=>⟨id,λr=>.inr ⟨r,id⟩⟩⟩⟩
theorem d0X{s:a7}(hR:SR s){i:Nat}(hi:i<s.S.a8.length)(h0:(ce s i).State=0){n:Nat}(hn:n≤4){p:Int}(hp : -1≤p∧p≤5):Sv s (Y1 s i n p):=⟨a4U hR hi h0 hn hp,λj hj=>by
 rw[a6I hR hi h0 hn hp];split
 ·rename_i e;subst e;exact⟨Int.le_refl _,λ_=>⟨λr=>absurd h0 r,λ_=>.inl h0⟩⟩
 ·exact⟨Int.le_refl _,λ_=>⟨id,λr=>.inr ⟨r,id⟩⟩⟩⟩
theorem b9N{x:Hp}(hR:SR x.S)(h:Int):Sv x.S (z1 x h).S:=(B5 hR h (f:=M0) λc=>A5).sv hR
theorem b6G{x:Hp}(hR:SR x.S)(h:Int):Sv x.S (M9 x h).S:=(B5 hR h (f:=a1T) λc=>E2).sv hR
theorem b8i{x:Hp}(hR:SR x.S)(r:Nat)(h:Int):Sv x.S (u6 x r h).S:=
 (b9N hR h).trans (b6G (x:=wR (z1 x h) (x.Roots.set r h)) (a27 hR h) _)
theorem c1I{x:Hp}(hR:SR x.S){h:Int}(hh:h∈lv x.S){n:Nat}(hn:n<(ob x.S h).Fields.length)(v:Int):Sv x.S (a01 x h n v).S:=by
 have k1:=b6J hR v;have hh1:h∈lv (z1 x v).S:=by rw[k1.lv];exact hh
 have hof:(ob (z1 x v).S h).Fields=(ob x.S h).Fields:=by
  obtain⟨n,e⟩:=(B5 hR v (f:=M0) λc=>A5).ob h (by have:=E0 hR hh;omega);show (ob (stO x v M0).S h).Fields=_;rw[e]
 have ho:OkO (z1 x v).S (flg (ob (z1 x v).S h) ((ob x.S h).Fields.set n v)):=by
  have:=H2 k1.sr hh1;refine⟨this.s1,this.s2,this.st,this.wk,this.p1,this.p2,?_⟩;have h4:=this.fl;rw[hof] at h4;simpa using h4
 have k2:=c4T (o:=flg (ob (z1 x v).S h) ((ob x.S h).Fields.set n v)) k1.sr hh1 rfl ho id;exact ((b9N hR v).trans k2).trans (b6G (x:=wS (z1 x v) (seO (z1 x v).S h (flg (ob (z1 x v).S h) ((ob x.S h).Fields.set n v)))) (a0F (o:=flg (ob (z1 x v).S h) ((ob x.S h).Fields.set n v)) k1.sr hh1 rfl ho) _)
theorem c4s{x:Hp}(hR:SR x.S)(v:Int)(t:Tb)(old:Int):Sv x.S (a5g x v t old).S:=
 (b9N hR v).trans (b6G (x:=wT (z1 x v) t) (a27 hR v) old)
theorem c9l{x:Hp}(hR:SR x.S)(h d:Int):Sv x.S (mkd x h d).S:=by
 unfold mkd;split
 ·rename_i q;exact c3Z hR q.1 q.2.1 d
 ·exact Sv.refl _
theorem c7j{x:Hp}(hR:SR x.S)(h:Int):Sv x.S (a6w x h).S:=by
 unfold a6w;split
 ·rename_i q;have k:=c3Z hR q.1 q.2.1 (-1);split;·exact k.trans (c81 (by rw[k.1];exact q.1))
  ·exact k
 ·exact Sv.refl _
theorem c49{x:Hp}(hx:I8 x)(n:Nat)(h call:Int):Sv x.S (a0Q x n h call).S:=by
 have hR:=hx.sh.sr;unfold a0Q;have s1:Sv x.S (mkd (wC x (x.a8.set n (wcl h call))) h 1).S:=c9l (x:=wC x (x.a8.set n (wcl h call))) hR h 1;refine s1.trans (c7j ?_ _);unfold mkd;split
 ·rename_i q;have:=(hR.ok _ q.1 q.2.1).wk;exact b1c hR q.1 q.2.1 (by omega)
 ·exact hR
theorem c8C{x:Hp}(hR:SR x.S){ds:List Int}(hn:ds.Nodup)(hm:∀d∈ds,d∈lv x.S):Sv x.S (buH x ds).S:=by
 have g:=a1w ds hR hn hm;exact g.sv.trans ((a34 (ds.flatMap (outs x.S)++(wot x.T ds).2) (x:=a4d x ds (wot x.T ds).1) g.sr).1.sv g.sr)
theorem c9Q{x:Hp}(hR:SR x.S){h:Int}(hh:h∈lv x.S):Sv x.S (quH x h).S:=by
 have oko:=H2 hR hh;have ho:OkO x.S (srt (ob x.S h)):=⟨oko.s1,oko.s2,oko.st,oko.wk,oko.p1,oko.p2,oko.fl⟩;exact (c4T (o:=srt (ob x.S h)) hR hh rfl ho λ_=>rfl).trans ((a4z hR hh).1.sv (a0F (o:=srt (ob x.S h)) hR hh rfl ho))
theorem d0c{x:Hp}(hx:I8 x):Sv x.S (stp x).S:=by
 cases h:zr x with
 | nil=>rw[a8v h];exact Sv.refl _
 | cons z l=>
  have hz:z∈zr x:=by rw[h];exact List.mem_cons_self ..
  have hzl:=(X5.1 hz).1;rw[a1P h];split;·exact c9Q hx.sh.sr hzl
  ·exact c8C hx.sh.sr (by simp) (by simpa using hzl)
theorem c98{x:Hp}(hx:I8 x)(n:Nat):Sv x.S (stN n x).S:=by
 induction n with
 | zero=>exact Sv.refl _
 | succ n ih=>rw[Z5];exact ih.trans (d0c (a0n hx n))
theorem c7a{x:Hp}(hx:I8 x):Sv x.S (V3 x).S:=c98 hx 100
structure Fw (x y:Hp):Prop where
 sv:Sv x.S y.S
 q:∃l,y.Q=⟨x.Q.L++l,x.Q.Cap⟩∧∀t∈l,t.Kind=1→¬b97 x.S t.At
theorem Fw.of{x y:Hp}(h:Sv x.S y.S)(q:y.Q=x.Q):Fw x y:=⟨h,[],by rw[q,List.append_nil],λt ht=>by cases ht⟩
theorem Fw.refl(x:Hp):Fw x x:=Fw.of (Sv.refl _) rfl
theorem Fw.trans{x y z:Hp}(a:Fw x y)(b:Fw y z):Fw x z:=by
 obtain⟨l,q1,q2⟩:=a.q;obtain⟨m,r1,r2⟩:=b.q;refine⟨a.sv.trans b.sv,l++m,by rw[r1,q1,List.append_assoc],λt ht hk=>?_⟩;rcases List.mem_append.1 ht with h | h
 ·exact q2 t h hk
 ·exact λs=>r2 t h hk (a.sv.d1k s)
theorem b6O{x:Hp}(hx:I8 x):Fw x (V3 x):=by
 obtain⟨l,q1,q2,_⟩:=(a2T hx).q;exact⟨c7a hx,l,q1,λt ht hk=>c2d hx.sh.sr (q2 t ht hk).1 (q2 t ht hk).2⟩
end Go.Sh
namespace Go.Sh
theorem a35{x:Hp}(hR:SR x.S)(r:Nat)(h:Int):Fw x (u6 x r h):=Fw.of (b8i hR r h) (U2 x r h).2.2.2
theorem d0J{x:Hp}(hx:I8 x)(hS:SL x)(hz:zr x = [])(hb:x.S.Serial<9223372036854775807)(o:c5):(∃e,Er x o e)∨∃z v,Dn x o z v∧Fw x z:=by
 have hR:=hx.sh.sr;obtain⟨k,a,b,c⟩:=o;by_cases hc:w9 k a b c=0
 ·have:=c0C hc;have hk:k=1∨k=2∨k=3∨k=4∨k=5∨k=6∨k=7∨k=8∨k=9∨k=10∨k=11∨k=12:=by omega
  rcases hk with rfl | rfl | rfl | rfl | rfl | rfl | rfl | rfl | rfl | rfl | rfl | rfl
  ·rcases d1 hx hS hb hc with ⟨e,_,h⟩ | ⟨hn,hcc,i,hF,h⟩;·exact .inl ⟨e,h⟩
   ·obtain⟨hi,h0,_⟩:=hF;have k1:Fw x (wS x (Y1 x.S i b.toNat c)):=Fw.of (d0X hR hi h0 hn hcc) rfl;exact .inr ⟨_,_,h,k1.trans (a35 (x:=wS x (Y1 x.S i b.toNat c)) (b44 hR hi h0 hn hcc) _ _)⟩
  ·exact .inr ⟨_,_,d2 hx hS hc,a35 hR _ _⟩
  ·exact .inr ⟨_,_,d3 hx hS hc,a35 hR _ _⟩
  ·rcases d4 hx hS hc with ⟨_,h⟩ | ⟨e,_,h⟩ | ⟨_,n,_,_,h⟩;·exact .inl ⟨_,h⟩
   ·exact .inl ⟨_,h⟩
   ·exact .inr ⟨_,_,h,a35 hR _ _⟩
  ·rcases d5 hx hS hc with ⟨_,h⟩ | ⟨e,_,h⟩ | ⟨hl,n,_,hn,h⟩;·exact .inl ⟨_,h⟩
   ·exact .inl ⟨_,h⟩
   ·exact .inr ⟨_,_,h,Fw.of (c1I hR hl hn _) (a69 _ _ _ _).2.2.2⟩
  ·rcases d6 hx hS hc with ⟨_,h⟩ | ⟨e,_,h⟩ | ⟨_,h⟩;·exact .inl ⟨_,h⟩
   ·exact .inl ⟨_,h⟩
   ·exact .inr ⟨_,_,h,Fw.of (c49 hx _ _ _) (a9E _ _ _ _).2.2.2⟩
  ·obtain⟨_,⟨_,h⟩ | ⟨_,h⟩⟩:=d7 hx hS hc;·exact .inl ⟨_,h⟩
   ·exact .inr ⟨_,_,h,a35 hR _ _⟩
  ·rcases d8 hx hS hc with ⟨_,h⟩ | ⟨_,e,_,h⟩ | ⟨_,r,_,_,h⟩;·exact .inl ⟨_,h⟩
   ·exact .inl ⟨_,h⟩
   ·exact .inr ⟨_,_,h,Fw.of (c4s hR _ _ _) (a9t _ _ _ _).2.2.2⟩
  ·rcases d9 hx hS hc with ⟨_,h⟩ | ⟨_,_,h⟩ | ⟨_,v,_,h⟩;·exact .inl ⟨_,h⟩
   ·exact .inl ⟨_,h⟩
   ·exact .inr ⟨_,_,h,a35 hR _ _⟩
  ·exact .inr ⟨_,_,d10 hx hS hz hc,Fw.refl x⟩
  ·obtain⟨h1,h2⟩:=b5L (x:=x) (a:=a) (b:=b) (c:=c) (.inl rfl) hc;exact .inl ⟨14,by decide,h1,h2⟩
  ·obtain⟨h1,h2⟩:=b5L (x:=x) (a:=a) (b:=b) (c:=c) (.inr rfl) hc;exact .inl ⟨14,by decide,h1,h2⟩
 ·obtain⟨h1,h2⟩:=b80 (x:=x) (o:=⟨k,a,b,c⟩) hc;exact .inl ⟨_,hc,h1,h2⟩
theorem c8K{x:Hp}(hx:I8 x)(hS:SL x)(hz:zr x = [])(hb:x.S.Serial<9223372036854775807)(o:c5):Fw x (dov x o).1:=by
 rcases d0J hx hS hz hb o with ⟨e,_,h,_⟩ | ⟨z,v,d,f⟩
 ·have:dov x o=(x,0,e):=by unfold dov;rw[h];rfl
  rw[this];exact Fw.refl x
 ·have:dov x o=(V3 z,v,0):=by unfold dov;rw[d.mc];rfl
  rw[this];exact f.trans (b6O d.rt)
theorem d1h{x:Hp}(h1:HpS x)(h2:Wk x){L:List Int}(h3:a1c x L){r:Nat}(hr:r<6){h:Int}(hh:h=0∨h∈lv x.S):HpS (u6 x r h)∧Wk (u6 x r h)∧a1c (u6 x r h) L:=by
 have kin:=B5 h1.sr h (f:=M0) λc=>A5;have l1:lv (z1 x h).S=lv x.S:=kin.lv;have f1:a1c (z1 x h) (h::L):=b8k h1.sr h3 h;have s1:HpS (z1 x h):=h1.st h (f:=M0) λc=>A5;have s2:HpS (wR (z1 x h) (x.Roots.set r h)):=s1.roots (by rw[List.length_set];exact h1.r6) λv hv=>by
  rw[l1];rcases List.mem_or_eq_of_mem_set hv with q | q
  ·exact h1.rt v q
  ·exact q▸hh
 have w1:Wk (z1 x h):=h2.st h1.sr h (f:=M0) λc=>A5;have one:∀v k,X4 [v] k=if v=k∧k≠0 then 1 else 0:=λv k=>by rw[E1,N5,Nat.zero_add]
 have f2:a1c (wR (z1 x h) (x.Roots.set r h)) (x.Roots.getD r 0::L):=f1.mv rfl (λ_ _=>rfl) λk hk=>by
  have:=b2G (l:=x.Roots) (r:=r) (by rw[h1.r6];exact hr) h k;rw[one,one] at this;rw[b1x x h];unfold nms otr;dsimp only;rw[H7,H7,b1F,b1F,E1 h L,E1 (x.Roots.getD r 0) L];omega
 exact⟨s2.st _ λc=>E2,Wk.st (x:=wR (z1 x h) (x.Roots.set r h)) w1 s2.sr _ λc=>E2,b0B (x:=wR (z1 x h) (x.Roots.set r h)) s2.sr f2⟩
abbrev unq(x:Hp)(ts:List g7):Hp:=wQ x ⟨ts,x.Q.Cap⟩
noncomputable def a4Q(x:Hp)(ts:List g7)(h:Int):Hp:=M9 (u6 (unq x ts) 5 h) h
section
variable{x:Hp}(hx:I8 x){t:g7}{ts:List g7}(hq:x.Q.L=t::ts)
include hx hq
theorem b60:HpS (unq x ts):=by
 have h:=hx.sh;refine⟨h.sr,h.hr,h.r6,h.c6,h.cap,?_,λu hu=>h.tk u (by rw[hq];exact List.mem_cons_of_mem _ hu),?_,h.rt,h.fl,h.pr,λi hi=>?_⟩
 ·have:=h.q30;rw[hq,List.length_cons] at this;show ts.length≤30;omega
 ·have:=h.td;rw[hq,List.pairwise_cons] at this;exact this.2
 ·obtain⟨a,b,c,d,e⟩:=h.cl i hi;refine⟨a,b,c,d,λq=>⟨(e q).1,?_⟩⟩;have:=(e q).2;rw[Bool.eq_false_iff] at this ⊢;intro r;obtain⟨u,hu,k1,k2⟩:=a4H.1 r;exact this (a4H.2 ⟨u,by rw[hq];exact List.mem_cons_of_mem _ hu,k1,k2⟩)
theorem b8z:a1c (unq x ts) (if t.Kind=1 then [t.At] else []):=hx.fair.mv rfl (λ_ _=>rfl) λh _=>by
 unfold nms otr b4p;dsimp only;rw[hq,List.filter_cons];by_cases k:t.Kind=1
 ·rw[if_pos k,if_pos (by simpa using k),List.map_cons,H7,H7,E1 t.At (List.map _ _),E1 t.At [],N5];omega
 ·rw[if_neg k,if_neg (by simpa using k),N5]
theorem b8X(hk:t.Kind≠1):I8 (unq x ts):=⟨b60 hx hq,hx.wk,by have:=b8z hx hq;rwa [if_neg hk] at this⟩
theorem b89(hk:t.Kind=1):t.At∈lv x.S∧(ob x.S t.At).Started=true:=by
 rcases (hx.sh.tk t (by rw[hq];exact List.mem_cons_self ..)).2.2 with ⟨_,b,c⟩ | ⟨b,_⟩;·exact⟨b,c⟩
 ·omega
theorem a17(hk:t.Kind=1):I8 (a4Q x ts t.At):=by
 have f:=b8z hx hq;rw[if_pos hk] at f;obtain⟨a,b,c⟩:=d1h (b60 hx hq) (x:=unq x ts) hx.wk f (r:=5) (by decide) (.inr (b89 hx hq hk).1);exact⟨a.st _ λc=>E2,b.st a.sr _ λc=>E2,b0B a.sr c⟩
omit hq in
theorem b5T (hS:SL x) (h:Int):SL (a4Q x ts h):=by
 have k:=a2S (x:=unq x ts) hx.sh.sr hS 5 h;exact b6E [h] (V1 (x:=unq x ts) hx.sh.sr 5 h).sr k
omit hq in
theorem b9a (h:Int):Ks x.S (a4Q x ts h).S:=by
 have k:=V1 (x:=unq x ts) hx.sh.sr 5 h;exact k.trans (b6F k.sr h)
omit hq in
theorem b7t (h:Int):(a4Q x ts h).Roots=x.Roots.set 5 h∧(a4Q x ts h).a8=x.a8∧(a4Q x ts h).T=x.T∧(a4Q x ts h).Q=⟨ts,x.Q.Cap⟩:=by
 obtain⟨a,b,c,d⟩:=b3K (u6 (unq x ts) 5 h) h;obtain⟨a',b',c',d'⟩:=U2 (unq x ts) 5 h;exact⟨a.trans a',b.trans b',c.trans c',d.trans d'⟩
omit hq in
theorem c8O (h:Int):Fw (unq x ts) (a4Q x ts h):=Fw.of ((b8i (x:=unq x ts) hx.sh.sr 5 h).trans (b6G (V1 (x:=unq x ts) hx.sh.sr 5 h).sr h)) (b7t hx h).2.2.2
end
def prg(ps:List (List c5))(n:Int):List c5:=if n<0∨(ps.length:Int)≤n then [] else ps.getD n.toNat []
noncomputable def pre(x:Hp)(t:g7)(ts:List g7):Hp:=if t.Kind=1 then V3 (a4Q x ts t.At) else unq x ts
noncomputable def ran(ps:List (List c5))(x:Hp)(t:g7)(ts:List g7):Hp:=(runs (pre x t ts) (prg ps t.Prog)).1
noncomputable def dne(ps:List (List c5))(x:Hp)(t:g7)(ts:List g7):Hp:=if t.Kind=1 then V3 (u6 (ran ps x t ts) 5 0) else ran ps x t ts
structure Oh (x:Hp):Prop where
 rt:I8 x
 sl:SL x
 zr:zr x = []
theorem Nxt.ok{x y:Hp}{o:c5}{v e:Int}(n:Nxt x o y v e):Oh y:=⟨n.rt,n.sl,n.zr⟩
theorem c1h{x:Hp}(h:I8 x)(s:SL x):Oh (V3 x):=⟨a2m h,c1i h s,b5j h⟩
theorem c4Q{x:Hp}(hx:Oh x)(l:List c5)(hb:x.S.Serial+l.length<9223372036854775807):Oh (runs x l).1∧Fw x (runs x l).1∧(runs x l).1.S.Serial≤x.S.Serial+l.length∧(runs x l).2.length=l.length:=by
 have key:∀k,k≤l.length→Oh (runs x (l.take k)).1∧Fw x (runs x (l.take k)).1∧(runs x (l.take k)).1.S.Serial≤x.S.Serial+k∧(runs x (l.take k)).2.length=k:=by
  intro k;induction k with
  | zero=>exact λ_=>⟨hx,Fw.refl x,by show x.S.Serial≤_;omega,rfl⟩
  | succ k ih=>
   intro hk;obtain⟨a,b,c,d⟩:=ih (by omega);have hk':k<l.length:=by omega
   have n:=a58 a.rt a.sl a.zr (by omega) l[k];rw[K5 hk',a8s];exact⟨n.ok,b.trans (c8K a.rt a.sl a.zr (by omega) _),by have:=n.ev.s2;show (dov _ _).1.S.Serial≤_;omega,by simp[d]⟩
 have:=key l.length (Nat.le_refl _);rwa [List.take_length] at this
section
variable{x:Hp}(hx:Oh x){t:g7}{ts:List g7}(hq:x.Q.L=t::ts)(ps:List (List c5))
include hx hq
theorem b6l:Oh (pre x t ts):=by
 unfold pre;split
 ·rename_i k;exact c1h (a17 hx.rt hq k) (b5T hx.rt hx.sl _)
 ·rename_i k;exact⟨b8X hx.rt hq k,hx.sl,hx.zr⟩
theorem c9J:Fw (unq x ts) (pre x t ts):=by
 unfold pre;split
 ·rename_i k;exact (c8O hx.rt _).trans (b6O (a17 hx.rt hq k))
 ·exact Fw.refl _
theorem b2r:(pre x t ts).S.Serial=x.S.Serial:=by
 unfold pre;split
 ·rename_i k;rw[(a2T (a17 hx.rt hq k)).U5,(b9a hx.rt _).U5]
 ·rfl
variable(hb:x.S.Serial+(prg ps t.Prog).length<9223372036854775807)
include hb
theorem b2C:Oh (ran ps x t ts)∧Fw (unq x ts) (ran ps x t ts)∧(ran ps x t ts).S.Serial≤x.S.Serial+(prg ps t.Prog).length:=by
 have e:=b2r hx hq;obtain⟨a,b,c,_⟩:=c4Q (b6l hx hq) (prg ps t.Prog) (by rw[e];exact hb);exact⟨a,(c9J hx hq).trans b,by rw[e] at c;exact c⟩
theorem c55:Oh (dne ps x t ts)∧Fw (unq x ts) (dne ps x t ts)∧(dne ps x t ts).S.Serial≤x.S.Serial+(prg ps t.Prog).length∧(t.Kind=1→sd (dne ps x t ts) 5=0):=by
 obtain⟨a,b,c⟩:=b2C hx hq ps hb;unfold dne;split
 ·have hz:=O6 a.rt (r:=5) (by decide) (h:=0) (.inl rfl);have k:=V1 a.rt.sh.sr 5 0;refine⟨c1h hz (a2S a.rt.sh.sr a.sl 5 0),(b.trans (a35 a.rt.sh.sr 5 0)).trans (b6O hz),?_,λ_=>(a8p a.rt (a:=5) (by decide) (h:=0) (.inl rfl)).1⟩;rw[(a2T hz).U5,k.U5];exact c
 ·exact⟨a,b,c,λq=>absurd q (by assumption)⟩
end
end Go.Sh
namespace Go.Sh
def cst(ps:List (List c5))(t:g7):Int:=1+((prg ps t.Prog).length:Int)
def can(ps:List (List c5))(p:Hp × Int):Prop:=∃t ts,p.1.Q.L=t::ts∧cst ps t≤p.2
noncomputable def nxd(ps:List (List c5))(p:Hp × Int):Hp × Int:=match p.1.Q.L with
 | []=>p
 | t::ts=>if cst ps t≤p.2 then (dne ps p.1 t ts,p.2-cst ps t) else p
noncomputable def dN(ps:List (List c5)):Nat→Hp × Int→Hp × Int
 | 0,p=>p
 | n+1,p=>dN ps n (nxd ps p)
section
variable(ps:List (List c5))
theorem a7W(n:Nat)(p:Hp × Int):dN ps (n+1) p=nxd ps (dN ps n p):=by
 induction n generalizing p with
 | zero=>rfl
 | succ n ih=>exact ih (nxd ps p)
theorem c0J{p:Hp × Int}(h:p.1.Q.L = []):nxd ps p=p:=by unfold nxd;rw[h]
theorem a3W{p:Hp × Int}{t:g7}{ts:List g7}(h:p.1.Q.L=t::ts):nxd ps p=if cst ps t≤p.2 then (dne ps p.1 t ts,p.2-cst ps t) else p:=by unfold nxd;rw[h]
theorem a9O{p:Hp × Int}{t:g7}{ts:List g7}(h:p.1.Q.L=t::ts):can ps p↔cst ps t≤p.2:=by
 constructor
 ·rintro⟨u,us,e,c⟩;rw[h] at e;injection e with e1 e2
  rw[e1];exact c
 ·exact λc=>⟨t,ts,h,c⟩
theorem b7T{p:Hp × Int}(h:p.1.Q.L = []):¬can ps p:=by
 rintro⟨u,us,e,c⟩;rw[h] at e;cases e
theorem c6A{p:Hp × Int}(h:¬can ps p):nxd ps p=p:=by
 cases e:p.1.Q.L with
 | nil=>exact c0J ps e
 | cons t ts=>rw[a3W ps e,if_neg (λq=>h ((a9O ps e).2 q))]
theorem a9T(t:g7):1≤cst ps t:=by unfold cst;omega
theorem c0o{p:Hp × Int}(hb:0≤p.2):∃n:Nat,(n:Int)≤p.2∧¬can ps (dN ps n p)∧∀j,j<n→can ps (dN ps j p):=by
 have key:∀m:Nat,(∃n:Nat,n≤m∧¬can ps (dN ps n p))∨((dN ps m p).2+m≤p.2∧0≤(dN ps m p).2):=by
  intro m;induction m with
  | zero=>exact .inr ⟨by show p.2+((0:Nat):Int)≤_;omega,hb⟩
  | succ m ih=>
   rcases ih with ⟨n,h1,h2⟩ | ⟨h1,h2⟩;·exact .inl ⟨n,by omega,h2⟩
   ·by_cases q:can ps (dN ps m p)
    ·right;obtain⟨t,ts,e,c⟩:=q;have:=a9T ps t;rw[a7W,a3W ps e,if_pos c];dsimp only;omega
    ·exact .inl ⟨m,by omega,q⟩
 have hex:∃n:Nat,(n:Int)≤p.2∧¬can ps (dN ps n p):=by
  rcases key (p.2.toNat+1) with ⟨n,h1,h2⟩ | ⟨h1,h2⟩
  ·rcases Nat.lt_or_ge n (p.2.toNat+1) with q | q
   ·exact⟨n,by omega,h2⟩
   ·have hn:n=p.2.toNat+1:=by omega
    rcases key p.2.toNat with ⟨n,h1,h2⟩ | ⟨h1,h3⟩;·exact⟨n,by omega,h2⟩
    ·refine⟨p.2.toNat,by omega,λ⟨t,ts,e,c⟩=>?_⟩;have:=a9T ps t;omega
  ·omega
 obtain⟨n,⟨hn,hz⟩,hmin⟩:=a00 hex;refine⟨n,hn,hz,λj hj=>Classical.byContradiction λq=>?_⟩;have:=hmin j ⟨by omega,q⟩;omega
theorem b2U{p:Hp × Int}(hx:Oh p.1)(hb:0≤p.2)(hs:p.1.S.Serial+p.2<9223372036854775807):∀n,Oh (dN ps n p).1∧0≤(dN ps n p).2∧(dN ps n p).2≤p.2∧(dN ps n p).1.S.Serial+(dN ps n p).2≤p.1.S.Serial+p.2
 | 0=>⟨hx,hb,Int.le_refl _,Int.le_refl _⟩
 | n+1=>by
  obtain⟨a,b,c,d⟩:=b2U hx hb hs n;rw[a7W];cases e:(dN ps n p).1.Q.L with
  | nil=>rw[c0J ps e];exact⟨a,b,c,d⟩
  | cons t ts=>
   rw[a3W ps e];split
   ·rename_i q;have q2:=q;unfold cst at q2;obtain⟨r1,_,r3,_⟩:=c55 a e ps (by omega);refine⟨r1,?_,?_,?_⟩;·dsimp only;omega
    ·have:=a9T ps t;dsimp only;omega
    ·dsimp only;unfold cst;omega
   ·exact⟨a,b,c,d⟩
end
noncomputable def dn(ps:List (List c5))(p:Hp × Int):Nat:=if h:0≤p.2 then Classical.choose (c0o ps h) else 0
theorem b5K(ps:List (List c5)){p:Hp × Int}(h:0≤p.2):(dn ps p:Int)≤p.2∧¬can ps (dN ps (dn ps p) p)∧∀j,j<dn ps p→can ps (dN ps j p):=by
 unfold dn;rw[dif_pos h];exact Classical.choose_spec (c0o ps h)
theorem c8I(ps:List (List c5)){p:Hp × Int}(h:0≤p.2){n:Nat}(h1:¬can ps (dN ps n p))(h2:∀j,j<n→can ps (dN ps j p)):dn ps p=n:=by
 obtain⟨_,a,b⟩:=b5K ps h;rcases Nat.lt_trichotomy (dn ps p) n with q | q | q
 ·exact absurd (h2 _ q) a
 ·exact q
 ·exact absurd (b _ q) h1
noncomputable def dr(ps:List (List c5))(p:Hp × Int):Hp × Int:=dN ps (dn ps p) p
theorem d0K(ps:List (List c5)){x:Hp}{f:Int}(hx:Oh x)(hf:0≤f)(hs:x.S.Serial+f<9223372036854775807):Oh (dr ps (x,f)).1∧0≤(dr ps (x,f)).2∧(dr ps (x,f)).2≤f∧(dr ps (x,f)).1.S.Serial+(dr ps (x,f)).2≤x.S.Serial+f:=b2U ps (p:=(x,f)) hx hf hs _
end Go.Sh
namespace Go.Sh
section
variable{x:Hp}(hx:HpS x)(hS:∀k∈lv x.S,(ob x.S k).Strong≤9223372036854775807)
include hx hS
theorem c3Q{h:Int}(hh:h=0∨h∈lv x.S):h≤9223372036854775807:=by
 rcases hh with q | q
 ·omega
 ·have:=E0 hx.sr q;omega
theorem c4L(k:Int){h:Int}(hh:h≤9223372036854775807):a0g x k h=some (if k<0∨5<k then (x,6) else if h=0∨h∈lv x.S then (u6 x k.toNat h,0) else (x,3)):=by
 have hR:=hx.sr;have r6:=hx.r6;unfold a0g;by_cases hk:k<0∨5<k
 ·rw[if_pos hk,if_pos (by rw[r6];simp;omega)]
 ·rw[if_neg hk,if_neg (by rw[r6];simp;omega),a2d hR hh,d2I];by_cases hn:h=0∨h∈lv x.S
  ·rw[if_pos hn,decide_eq_true hn,if_neg (by simp)];obtain⟨n,rfl⟩:∃n:Nat,k=n:=⟨k.toNat,by omega⟩;have hn6:n<6:=by omega
   have hnl:n<x.Roots.length:=by omega
   have old:x.Roots[n]≤9223372036854775807:=c3Q hx hS (hx.rt _ (List.getElem_mem hnl));have e1:=a5o x h;have hn2:n<(z1 x h).Roots.length:=by rw[e1.1];exact hnl
   rw[n9 hnl,d2I];unfold D1 M4 J5;rw[a5m hR hh hS,d2I];dsimp only;rw[K1 (by omega) (by rw[e1.1];omega),d2I,n9 hn2,d2I,d2I];have hrel:=a2j (x:=wR (z1 x h) (x.Roots.set n h)) (a27 hR h) old;rw[Int.toNat_natCast,e1.1,show B0 ⟨(z1 x h).S,x.Roots.set n h,(z1 x h).a8,(z1 x h).T,(z1 x h).Q⟩ x.Roots[n]=_ from hrel];unfold u6;rw[List.getD_eq_getElem?_getD,List.getElem?_eq_getElem hnl];rfl
  ·rw[if_neg hn,decide_eq_false hn,if_pos (by simp)]
theorem c63(k:Int){h:Int}(hh:h≤9223372036854775807):V0 (hO x) k h=some (if k<0∨5<k then (hO x,6) else if h=0∨h∈lv x.S then (hO (u6 x k.toNat h),0) else (hO x,3)):=by
 have hR:=hx.sr;have r6:=hx.r6;unfold V0;by_cases hk:k<0∨5<k
 ·rw[if_pos hk,if_pos (by simp;omega)]
 ·rw[if_neg hk,if_neg (by simp;omega),b0m hR hh,d2I];by_cases hn:h=0∨h∈lv x.S
  ·rw[if_pos hn,decide_eq_true hn,if_neg (by simp)];obtain⟨n,rfl⟩:∃n:Nat,k=n:=⟨k.toNat,by omega⟩;have hnl:n<x.Roots.length:=by omega
   have hnl':n<(hO x).Roots.length:=hnl;have old:x.Roots[n]≤9223372036854775807:=c3Q hx hS (hx.rt _ (List.getElem_mem hnl));have e1:=a5o x h;have r6':(hO x).Roots.length=6:=r6;rw[n9 hnl',d2I,a7B hR hh hS,d2I,K1 (by omega) (by rw[r6'];omega),d2I,n9 hnl',d2I];have hrel:=a3D (x:=wR (z1 x h) (x.Roots.set n h)) (a27 hR h) old;rw[Int.toNat_natCast];rw[show D3 ⟨(hO (z1 x h)).S,(hO x).Roots.set n h,(hO (z1 x h)).a8,(hO (z1 x h)).T,(hO (z1 x h)).Q⟩ (hO x).Roots[n]=_ from hrel];unfold u6;rw[List.getD_eq_getElem?_getD,List.getElem?_eq_getElem hnl];rfl
  ·rw[if_neg hn,decide_eq_false hn,if_pos (by simp)]
end
theorem b9A(ps:List (List c5))(n:Int):a3J ps n=some (prg ps n):=by
 unfold a3J prg;by_cases h:n<0∨(ps.length:Int)≤n
 ·rw[if_pos (by simpa using h),if_pos h]
 ·rw[if_neg (by simpa using h),if_neg h];obtain⟨k,rfl⟩:∃k:Nat,n=k:=⟨n.toNat,by omega⟩;have hk:k<ps.length:=by omega
  rw[n9 hk,d2I,Int.toNat_natCast,List.getD_eq_getElem?_getD,List.getElem?_eq_getElem hk];rfl
abbrev psR(ps:List (List c5)):List (List o8):=ps.map (List.map opR)
theorem c4x(ps:List (List c5))(n:Int):a7y (psR ps) n=some ((prg ps n).map opR):=by
 unfold a7y prg;rw[List.length_map];by_cases h:n<0∨(ps.length:Int)≤n
 ·rw[if_pos (by simpa using h),if_pos h];rfl
 ·rw[if_neg (by simpa using h),if_neg h];obtain⟨k,rfl⟩:∃k:Nat,n=k:=⟨n.toNat,by omega⟩;have hk:k<ps.length:=by omega
  have hk2:k<(psR ps).length:=by simpa using hk
  rw[n9 hk2,d2I,Int.toNat_natCast,List.getD_eq_getElem?_getD,List.getElem?_eq_getElem hk];simp[psR]
def Mp(ps:List (List c5)):Prop:=∀p∈ps,p.length≤6
theorem b2t{ps:List (List c5)}(h:Mp ps)(n:Int):(prg ps n).length≤6:=by
 unfold prg;split;·simp
 ·rename_i q;have hk:n.toNat<ps.length:=by omega
  rw[List.getD_eq_getElem?_getD,List.getElem?_eq_getElem hk];exact h _ (List.getElem_mem hk)
theorem c0n{ps:List (List c5)}(h:Mp ps)(t:g7):a5Q ps t=some (cst ps t):=by
 have:=b2t h t.Prog;unfold a5Q cst;rw[b9A,d2I,C3 (by omega) (by omega)]
theorem c3a{ps:List (List c5)}(h:Mp ps)(t:g7):a7x (psR ps) ⟨t.Kind,t.At,t.Prog⟩=some (cst ps t):=by
 have:=b2t h t.Prog;unfold a7x cst;show (a7y (psR ps) t.Prog).bind _=_;rw[c4x,d2I,List.length_map,C3 (by omega) (by omega)]
theorem b81(x:Hp):a2B x=some (x.Q.L.isEmpty):=by
 unfold a2B;rw[b6W,d2I];unfold tnx;cases x.Q.L <;> rfl
theorem c3k(x:Hp):b1t (hO x)=some (x.Q.L.isEmpty):=by
 unfold b1t;show some ((((x.Q.L.map _).length:Nat):Int)==0)=_;cases x.Q.L with
 | nil=>rfl
 | cons a l=>simp;omega
section
variable{x:Hp}(hx:Oh x){t:g7}{ts:List g7}(hq:x.Q.L=t::ts){ps:List (List c5)}(hm:Mp ps)(hb:x.S.Serial<9000000000000000000)
include hx hq hm hb
theorem c45:a5R x ps=some (dne ps x t ts,t,0):=by
 have K2:=b2t hm t.Prog;have pok:=b6l hx hq;have pser:=b2r hx hq;obtain⟨rok,_,_⟩:=b2C hx hq ps (by omega);have hrun:=(run_eq pok.rt pok.sl pok.zr (prg ps t.Prog) (by omega) (by rw[pser];omega)).1;have hrun':a2G (pre x t ts) (prg ps t.Prog)=some (ran ps x t ts,(runs (pre x t ts) (prg ps t.Prog)).2):=hrun;have hz:=O6 rok.rt (r:=5) (by decide) (h:=0) (.inl rfl);have zS:=a2S rok.rt.sh.sr rok.sl 5 0;unfold a5R;rw[b6W,d2I];have e:tnx x.Q=(⟨ts,x.Q.Cap⟩,t,0):=by unfold tnx;rw[hq]
 rw[e];dsimp only;rw[if_neg (by simp)];simp only[jn];by_cases k:t.Kind=1
 ·have hk:(t.Kind==1)=true:=by simpa using k
  have hat:=(b89 hx.rt hq k).1;have ush:=b60 hx.rt hq;have hm1:=a1C hx.rt.sh.sr hat;have e1:a0g ⟨x.S,x.Roots,x.a8,x.T,⟨ts,x.Q.Cap⟩⟩ 5 t.At=some (u6 (unq x ts) 5 t.At,0):=by
   have:=c4L (x:=unq x ts) ush hx.sl 5 hm1;rw[if_neg (by omega),if_pos (.inr hat)] at this;exact this
  have e2:B0 (u6 (unq x ts) 5 t.At) t.At=some (a4Q x ts t.At):=a2j (V1 (x:=unq x ts) hx.rt.sh.sr 5 t.At).sr hm1;have e3:=a3E (a17 hx.rt hq k) (b5T hx.rt hx.sl t.At);have e4:pre x t ts=V3 (a4Q x ts t.At):=by unfold pre;rw[if_pos k]
  have e5:=c1a rok.rt rok.sl 5 (h:=0) (by decide);rw[if_neg (by omega),if_pos (.inl rfl)] at e5;rw[if_pos hk,e1,d2I];dsimp only;rw[e2,d2I,e3,d2I,b9A,d2I,←e4,hrun',d2I,if_pos hk];dsimp only;rw[e5,d2I];refine bnd (a3E hz zS) ?_;unfold dne;rw[if_pos k];rfl
 ·have hk:¬(t.Kind==1)=true:=by simpa using k
  have e4:pre x t ts=unq x ts:=by unfold pre;rw[if_neg k]
  rw[if_neg hk,b9A,d2I,show (⟨x.S,x.Roots,x.a8,x.T,⟨ts,x.Q.Cap⟩⟩:b6)=pre x t ts from e4.symm,hrun',d2I,if_neg hk];unfold dne;rw[if_neg k]
theorem c99:b3E (hO x) (psR ps)=some (hO (dne ps x t ts),tkR t,0):=by
 have K2:=b2t hm t.Prog;have pok:=b6l hx hq;have pser:=b2r hx hq;obtain⟨rok,_,_⟩:=b2C hx hq ps (by omega);have hrun:=(run_eq pok.rt pok.sl pok.zr (prg ps t.Prog) (by omega) (by rw[pser];omega)).2;have hrun':b2A (hO (pre x t ts)) ((prg ps t.Prog).map opR)=some (hO (ran ps x t ts),(runs (pre x t ts) (prg ps t.Prog)).2):=hrun;have hz:=O6 rok.rt (r:=5) (by decide) (h:=0) (.inl rfl);have zS:=a2S rok.rt.sh.sr rok.sl 5 0;unfold b3E;rw[show (hO x).Q=tqR x.Q from rfl,c9S,d2I];have e:tnx x.Q=(⟨ts,x.Q.Cap⟩,t,0):=by unfold tnx;rw[hq]
 rw[e];dsimp only;rw[if_neg (by simp)];simp only[jn];have hkk:(tkR t).Kind=t.Kind:=rfl;have hka:(tkR t).At=t.At:=rfl;have hkp:(tkR t).Prog=t.Prog:=rfl;rw[hkk,hka,hkp];by_cases k:t.Kind=1
 ·have hk:(t.Kind==1)=true:=by simpa using k
  have hat:=(b89 hx.rt hq k).1;have ush:=b60 hx.rt hq;have hm1:=a1C hx.rt.sh.sr hat;have e1:V0 (hO (unq x ts)) 5 t.At=some (hO (u6 (unq x ts) 5 t.At),0):=by
   have:=c63 (x:=unq x ts) ush hx.sl 5 hm1;rw[if_neg (by omega),if_pos (.inr hat)] at this;exact this
  have e2:D3 (hO (u6 (unq x ts) 5 t.At)) t.At=some (hO (a4Q x ts t.At)):=a3D (V1 (x:=unq x ts) hx.rt.sh.sr 5 t.At).sr hm1;have e3:=a5s (a17 hx.rt hq k) (b5T hx.rt hx.sl t.At);have e4:pre x t ts=V3 (a4Q x ts t.At):=by unfold pre;rw[if_pos k]
  have e5:=b9K rok.rt rok.sl 5 (h:=0) (by decide);rw[if_neg (by omega),if_pos (.inl rfl)] at e5;rw[if_pos hk,show (⟨(hO x).S,(hO x).Roots,(hO x).a8,(hO x).T,tqR ⟨ts,x.Q.Cap⟩⟩:g8)=hO (unq x ts) from rfl,e1,d2I];dsimp only;rw[e2,d2I,e3,d2I,c4x,d2I,←e4,hrun',d2I,if_pos hk];dsimp only;rw[e5,d2I];refine bnd (a5s hz zS) ?_;unfold dne;rw[if_pos k];rfl
 ·have hk:¬(t.Kind==1)=true:=by simpa using k
  have e4:pre x t ts=unq x ts:=by unfold pre;rw[if_neg k]
  rw[if_neg hk,c4x,d2I,show (⟨(hO x).S,(hO x).Roots,(hO x).a8,(hO x).T,tqR ⟨ts,x.Q.Cap⟩⟩:g8)=hO (pre x t ts) by rw[e4];rfl,hrun',d2I,if_neg hk];unfold dne;rw[if_neg k]
end
section
variable{x:Hp}(hx:Oh x){ps:List (List c5)}(hm:Mp ps){f:Int}(hf:0≤f)(hf2:f≤1000000)(hb:x.S.Serial<8000000000000000000)
include hx hm hf hf2 hb
def dre(p:Hp × Int):Int:=if p.1.Q.L.isEmpty then 0 else 12
theorem drain_eq:a2A x ps f=some ((dr ps (x,f)).1,(dn ps (x,f):Int),(dr ps (x,f)).2,dre (dr ps (x,f))):=by
 obtain⟨a1,a2,a3⟩:=b5K ps (p:=(x,f)) hf;have all:=b2U ps (p:=(x,f)) hx hf (by show x.S.Serial+f<_;omega);unfold a2A;simp only[jn];dsimp only at a1;refine a1A (λk=>((dN ps k (x,f)).2,(dN ps k (x,f)).1,(k:Int),(dN ps k (x,f)).2,(dN ps k (x,f)).1)) rfl (dn ps (x,f)) (λ_=>True) (by omega) trivial (λk hk _=>.inl ⟨?_,trivial⟩) (λ_=>⟨((dn ps (x,f):Int),(dr ps (x,f)).2,(dr ps (x,f)).1),?_,?_⟩)
 ·obtain⟨b1,b2,b3,b4⟩:=all k;obtain⟨t,ts,e,c⟩:=a3 k hk;dsimp only at b2 b3 b4;have hc:=a9T ps t;rw[b81,e,d2I];show (a1m _).bind _=_;rw[b6W,d2I];have e2:tnx (dN ps k (x,f)).1.Q=(⟨ts,(dN ps k (x,f)).1.Q.Cap⟩,t,0):=by unfold tnx;rw[e]
  rw[e2];dsimp only;rw[c0n hm,d2I,if_neg (by simp;omega),c45 b1 e hm (by omega),d2I,C3 (by omega) (by omega),k8,a7W,a3W ps e,if_pos c]
 ·rw[b81,d2I];cases e:(dN ps (dn ps (x,f)) (x,f)).1.Q.L with
  | nil=>rfl
  | cons t ts=>
   have hc:¬cst ps t≤(dN ps (dn ps (x,f)) (x,f)).2:=λq=>a2 ((a9O ps e).2 q);show (a1m _).bind _=_;rw[b6W,d2I];have e2:tnx (dN ps (dn ps (x,f)) (x,f)).1.Q=(⟨ts,(dN ps (dn ps (x,f)) (x,f)).1.Q.Cap⟩,t,0):=by unfold tnx;rw[e]
   rw[e2];dsimp only;rw[c0n hm,d2I,if_pos (by simp;omega)];rfl
 ·dsimp only;rw[b81,d2I];unfold dre;cases (dr ps (x,f)).1.Q.L.isEmpty <;> rfl
theorem c56:a8l (hO x) (psR ps) f=some (hO (dr ps (x,f)).1,(dn ps (x,f):Int),(dr ps (x,f)).2,dre (dr ps (x,f))):=by
 obtain⟨a1,a2,a3⟩:=b5K ps (p:=(x,f)) hf;have all:=b2U ps (p:=(x,f)) hx hf (by show x.S.Serial+f<_;omega);unfold a8l;simp only[jn];dsimp only at a1;refine a1A (λk=>((dN ps k (x,f)).2,(k:Int),hO (dN ps k (x,f)).1)) rfl (dn ps (x,f)) (λ_=>True) (by omega) trivial (λk hk _=>.inl ⟨?_,trivial⟩) (λ_=>?_)
 ·obtain⟨b1,b2,b3,b4⟩:=all k;obtain⟨t,ts,e,c⟩:=a3 k hk;dsimp only at b2 b3 b4;have hc:=a9T ps t;rw[c3k,e,d2I];have e2:ix (hO (dN ps k (x,f)).1).Q.L 0=some (tkR t):=by
   show ix ((dN ps k (x,f)).1.Q.L.map tkR) 0=_;rw[e];rfl
  show (ix (hO (dN ps k (x,f)).1).Q.L 0).bind _=_;rw[e2,d2I,show a7x (psR ps) (tkR t)=_ from c3a hm t,d2I,if_neg (by simp;omega),c99 b1 e hm (by omega),d2I,C3 (by omega) (by omega),k8,a7W,a3W ps e,if_pos c]
 ·cases e:(dN ps (dn ps (x,f)) (x,f)).1.Q.L with
  | nil=>
   refine⟨.inr ((dr ps (x,f)).2,(dn ps (x,f):Int),hO (dr ps (x,f)).1),?_,?_⟩
   ·rw[c3k,e];rfl
   ·unfold dre;have e':(dr ps (x,f)).1.Q.L = []:=e;rw[e'];rfl
  | cons t ts=>
   have hc:¬cst ps t≤(dN ps (dn ps (x,f)) (x,f)).2:=λq=>a2 ((a9O ps e).2 q);refine⟨.inl (hO (dr ps (x,f)).1,(dn ps (x,f):Int),(dr ps (x,f)).2,12),?_,?_⟩
   ·rw[c3k,e,d2I];have e2:ix (hO (dN ps (dn ps (x,f)) (x,f)).1).Q.L 0=some (tkR t):=by
     show ix ((dN ps (dn ps (x,f)) (x,f)).1.Q.L.map tkR) 0=_;rw[e];rfl
    show (ix (hO (dN ps (dn ps (x,f)) (x,f)).1).Q.L 0).bind _=_;rw[e2,d2I,show a7x (psR ps) (tkR t)=_ from c3a hm t,d2I,if_pos (by simp;omega)];rfl
   ·unfold dre;have e':(dr ps (x,f)).1.Q.L=t::ts:=e;rw[e'];rfl
end
end Go.Sh
namespace Go.Sh
theorem d0Y{l:List (List c5)}(h:a24 l=true):Mp l∧l.length≤6:=by
 unfold a24 at h;rw[Bool.and_eq_true,decide_eq_true_iff,List.all_eq_true] at h;refine⟨λp hp=>?_,h.1⟩;have:=h.2 p hp;unfold b1Q at this;rw[Bool.and_eq_true,decide_eq_true_iff] at this;exact this.1
end Go.Sh
namespace Go.Sh
end Go.Sh
namespace Go.Sh
end Go.Sh
namespace Go.Sh
end Go.Sh
namespace Go.Sh
noncomputable def eo(ps:List (List c5))(x:Hp)(o:c5):Hp × Int × Int:=
 if o.Kind=11 then (col x,cgn x-((btc x).length:Int),0)
 else if o.Kind=12 then ((dr ps (x,o.A)).1,(dn ps (x,o.A):Int),dre (dr ps (x,o.A)))
 else dov x o
noncomputable def er(ps:List (List c5))(x:Hp)(row:List Int):Hp × Int × Int:=if (T6 row).2≠0 then (x,0,(T6 row).2) else eo ps x (T6 row).1
noncomputable def ers(ps:List (List c5))(x:Hp)(rows:List (List Int)):Hp × List (Int × Int):=rows.foldl (λp r=>((er ps p.1 r).1,p.2 ++ [(er ps p.1 r).2])) (x,[])
theorem c3n(ps:List (List c5))(x:Hp)(l:List (List Int))(r:List Int):ers ps x (l ++ [r])=((er ps (ers ps x l).1 r).1,(ers ps x l).2 ++ [(er ps (ers ps x l).1 r).2]):=by
 unfold ers;rw[List.foldl_append];rfl
theorem b5Q(ps:List (List c5)):∀(l:List (List Int)) (x:Hp) (a:List (Int × Int)),l.foldl (λp r=>((er ps p.1 r).1,p.2 ++ [(er ps p.1 r).2])) (x,a)=((ers ps x l).1,a++(ers ps x l).2)
 | [],x,a=>by simp[ers]
 | r::l,x,a=>by
  unfold ers;rw[List.foldl_cons,List.foldl_cons,b5Q ps l,b5Q ps l _ ([]++_)];simp
theorem c0q(ps:List (List c5))(x:Hp)(l m:List (List Int)):ers ps x (l++m)=((ers ps (ers ps x l).1 m).1,(ers ps x l).2++(ers ps (ers ps x l).1 m).2):=by
 have:ers ps x (l++m)=m.foldl (λp r=>((er ps p.1 r).1,p.2 ++ [(er ps p.1 r).2])) (ers ps x l):=by
  unfold ers;rw[List.foldl_append]
 rw[this];exact b5Q ps m (ers ps x l).1 (ers ps x l).2
theorem c0r(ps:List (List c5))(x:Hp)(l:List (List Int)):(ers ps x l).2.length=l.length:=by
 induction l generalizing x with
 | nil=>rfl
 | cons r l ih=>
  have:=c0q ps x [r] l;rw[List.singleton_append] at this;rw[this,List.length_append,ih];show 1+l.length=l.length+1;omega
theorem b5H{row:List Int}(h:(T6 row).2=0):w9 (T6 row).1.Kind (T6 row).1.A (T6 row).1.B (T6 row).1.C=0:=by
 unfold T6 at h ⊢;rcases four row with ⟨k,a,b,c,rfl⟩ | hl
 ·rw[c0p,Option.getD_some] at h ⊢;by_cases q:w9 k a b c≠0
  ·rw[if_pos q] at h;exact absurd h q
  ·rw[if_neg q];exact Classical.not_not.1 q
 ·rw[(b5I hl).1,Option.getD_some] at h;exact absurd h (by decide)
theorem c22{a b c:Int}(h:w9 12 a b c=0):0≤a∧a≤200:=in0 (by decide) (show J9 a 0 200 12=0 from h)
section
variable{ps:List (List c5)}(hm:Mp ps){x:Hp}(hx:Oh x)(hb:x.S.Serial<7000000000000000000)
include hm hx hb
theorem d0L{o:c5}(ho:o.Kind=12→0≤o.A∧o.A≤200):Oh (eo ps x o).1∧(eo ps x o).1.S.Serial≤x.S.Serial+201:=by
 unfold eo;split
 ·obtain⟨a,b,c⟩:=b5D hx.rt hx.sl hx.zr;refine⟨⟨a,b,c⟩,?_⟩;show (col x).S.Serial≤_;rw[c51 hx.rt hx.sl hx.zr];omega
 ·split
  ·rename_i h;obtain⟨h0,h2⟩:=ho h;obtain⟨a,b,c,d⟩:=d0K ps hx h0 (by omega);exact⟨a,by show (dr ps (x,o.A)).1.S.Serial≤_;omega⟩
  ·have n:=a58 hx.rt hx.sl hx.zr (by omega) o;have:=n.ev.s2;exact⟨n.ok,by omega⟩
theorem c7B(row:List Int):Oh (er ps x row).1∧(er ps x row).1.S.Serial≤x.S.Serial+201:=by
 unfold er;split;·exact⟨hx,by show x.S.Serial≤_;omega⟩
 ·rename_i h;have hc:=b5H (Classical.not_not.1 h);refine d0L hm hx hb λhk=>?_;rw[hk] at hc;exact c22 hc
end
theorem b84{ps:List (List c5)}(hm:Mp ps){x:Hp}(hx:Oh x):∀(l:List (List Int)),x.S.Serial+201*(l.length:Int)<7000000000000000000→Oh (ers ps x l).1∧(ers ps x l).1.S.Serial≤x.S.Serial+201*(l.length:Int):=by
 intro l;induction l generalizing x with
 | nil=>exact λ_=>⟨hx,by show x.S.Serial≤_;simp⟩
 | cons r l ih=>
  intro hb;rw[List.length_cons] at hb ⊢;obtain⟨a,b⟩:=c7B hm hx (by omega) r;obtain⟨c,d⟩:=ih a (by omega);have e:=c0q ps x [r] l;rw[List.singleton_append] at e;rw[e];exact⟨c,by
   have:(ers ps (ers ps x [r]).1 l).1.S.Serial≤(er ps x r).1.S.Serial+201*(l.length:Int):=d;show (ers ps (ers ps x [r]).1 l).1.S.Serial≤_;omega⟩
end Go.Sh
namespace Go.Sh
def ctO(l:List b7)(k:Int):Nat:=l.countP λc=>c.State==k
theorem c3d(l:List b7)(c:b7)(k:Int):ctO (l ++ [c]) k=ctO l k+if c.State=k then 1 else 0:=by
 unfold ctO;rw[List.countP_append];simp[List.countP_cons]
noncomputable def srs(x:Hp):List Int:=(lv x.S).map λh=>U5 x h
theorem c3S{s:a7}(hR:SR s){h:Int}(hh:h∈lv s):sk s.S.a8 h=(ob s h).Serial:=by
 obtain⟨i,hi⟩:=(a1Y hR).1 hh;rw[c2U hR hi,K8 hR hi]
theorem c97{x:Hp}(hR:SR x.S):(srs x).Pairwise (· < ·):=by
 unfold srs;rw[List.pairwise_map];refine List.Pairwise.imp_of_mem (λ{a b} ha hb h=>?_) (a4u (p9.2 hR)).2.2;rw[c3S hR ha,c3S hR hb] at h;exact h
theorem c40{x:Hp}(hR:SR x.S):(srs x).mergeSort (λx y=>decide (x≤y))=srs x:=
 List.mergeSort_of_pairwise ((c97 hR).imp λh=>decide_eq_true (by omega))
theorem c1j{x:Hp}(hR:SR x.S):(srs x).length≤24:=by
 unfold srs;rw[List.length_map];exact D9 (p9.2 hR)
end Go.Sh
namespace Go.Sh
inductive Fm (x:Hp) (o:c5) (z:Hp) (v:Int):Prop
 | new (i:Nat) (hF:Fst x.S i) (hk:o.Kind=1) (ha:0≤o.A∧o.A≤5) (hn:o.B.toNat≤4) (hc : -1≤o.C∧o.C≤5) (hv:v=x.S.Serial+1) (hz:z=u6 (wS x (Y1 x.S i o.B.toNat o.C)) o.A.toNat (J8 x.S i)):Fm x o z v
 | root (h:Int) (hk:o.Kind≠1) (ha:0≤o.A∧o.A≤5) (hh:h=0∨h∈lv x.S) (hz:z=u6 x o.A.toNat h):Fm x o z v
 | field (h:Int) (n:Nat) (u:Int) (hk:o.Kind=5) (hl:h∈lv x.S) (hn:n<(ob x.S h).Fields.length) (hu:u=0∨u∈lv x.S) (hz:z=a01 x h n u):Fm x o z v
 | weak (h:Int) (hk:o.Kind=6) (ha:0≤o.A∧o.A≤5) (hc : -1≤o.C∧o.C≤5) (hh:h=0∨h∈lv x.S) (hw:wts x.Q o.A=false) (hz:z=a0Q x o.A.toNat h o.C):Fm x o z v
 | pair (h u:Int) (r:Tb × Int × Int) (hk:o.Kind=8) (hl:h∈lv x.S) (hu:u=0∨u∈lv x.S) (hr:R1 x.T h u=some r) (h0:r.2.2=0) (hz:z=a5g x u r.1 r.2.1):Fm x o z v
 | same (hk:o.Kind=10) (hz:z=x):Fm x o z v
theorem Fm.ks{x z:Hp}{o:c5}{v:Int}(hx:I8 x)(f:Fm x o z v)(hk:o.Kind≠1):Ks x.S z.S:=by
 have hR:=hx.sh.sr;cases f with
 | new i hF hk'=>exact absurd hk' hk
 | root h _ ha hh hz=>rw[hz];exact V1 hR _ _
 | field h n u _ hl hn hu hz=>rw[hz];exact b4L hR hl hn u
 | weak h _ ha hc hh hw hz=>rw[hz];exact b34 hx (by omega) h _
 | pair h u r _ hl hu hr h0 hz=>rw[hz];exact b7Y hR u _ _
 | same _ hz=>rw[hz];exact Ks.refl hR
end Go.Sh
namespace Go.Sh
def anE(p:Int × Int):l4:=⟨p.1,p.2⟩
def anR(p:Int × Int):H4:=⟨p.1,p.2⟩
section
variable{ps:List (List c5)}(hm:Mp ps){x:Hp}(hx:Oh x)(hb:x.S.Serial<7000000000000000000)
include hm hx hb
theorem c21 : -24≤cgn x-((btc x).length:Int)∧cgn x-((btc x).length:Int)≤24:=by
 have h1:=b5y hx.rt hx.sl hx.zr;have h2:(lv x.S).length≤24:=D9 (p9.2 hx.rt.sh.sr);obtain⟨c1,_,_⟩:=b5D hx.rt hx.sl hx.zr;have h3:(lv (col x).S).length≤24:=D9 (p9.2 c1.sh.sr);unfold cgn;split
 ·rename_i e;rw[e];simp;omega
 ·omega
theorem edo(row:List Int):a7Z ⟨x,ps⟩ row=some (⟨(er ps x row).1,ps⟩,anE (er ps x row).2):=by
 unfold a7Z;rw[(b7p row).1,d2I];unfold er;by_cases h:(T6 row).2=0
 ·rw[if_neg (show ¬(((T6 row).2 != 0)=true) by simp[h]),if_neg (show ¬((T6 row).2≠0) by simp[h])];have hc:=b5H h;generalize (T6 row).1=o at hc;unfold a5S eo;by_cases k11:o.Kind=11
  ·rw[if_pos (by simp[k11]),if_pos k11];refine Eq.trans (b:=(U7 x).bind λv4=>some (⟨v4.1,ps⟩,⟨u5 (v4.2.2-v4.2.1),0⟩)) rfl ?_;obtain⟨b1,b2⟩:=c21 hm hx hb;rw[c8F hx.rt hx.sl hx.zr,d2I];dsimp only;rw[C3 (by omega) (by omega)];rfl
  ·rw[if_neg (by simp[k11]),if_neg k11];by_cases k12:o.Kind=12
   ·rw[if_pos (by simp[k12]),if_pos k12];refine Eq.trans (b:=(a2A x ps o.A).bind λv5=>some (⟨v5.1,ps⟩,⟨v5.2.1,v5.2.2.2⟩)) rfl ?_;rw[k12] at hc;obtain⟨a0,a2⟩:=c22 hc;rw[drain_eq hx hm a0 (by omega) (by omega),d2I];rfl
   ·rw[if_neg (by simp[k12]),if_neg k12];refine Eq.trans (b:=(p8 x o).bind λv3=>some (⟨v3.1,ps⟩,⟨v3.2.1,v3.2.2⟩)) rfl ?_;rw[(a58 hx.rt hx.sl hx.zr (by omega) o).mc,d2I];rfl
 ·rw[if_pos (by simpa using h),if_pos h];rfl
theorem rdo(row:List Int):b9F ⟨hO x,psR ps⟩ row=some (⟨hO (er ps x row).1,psR ps⟩,anR (er ps x row).2):=by
 unfold b9F;rw[(b7p row).2,d2I];unfold er;by_cases h:(T6 row).2=0
 ·rw[if_neg (show ¬(((T6 row).2 != 0)=true) by simp[h]),if_neg (show ¬((T6 row).2≠0) by simp[h])];have hc:=b5H h;generalize (T6 row).1=o at hc;unfold eo;by_cases k11:o.Kind=11
  ·rw[if_pos (by simp[k11,b17]),if_pos k11];obtain⟨b1,b2⟩:=c21 hm hx hb;dsimp only;rw[d0F hx.rt hx.sl hx.zr,d2I];dsimp only;rw[C3 (by omega) (by omega)];rfl
  ·rw[if_neg (by simp[k11,b17]),if_neg k11];by_cases k12:o.Kind=12
   ·rw[if_pos (by simp[k12,b17]),if_pos k12];rw[k12] at hc;obtain⟨a0,a2⟩:=c22 hc;refine Eq.trans (b:=(a8l (hO x) (psR ps) o.A).bind λv3=>some (⟨v3.1,psR ps⟩,⟨v3.2.1,v3.2.2.2⟩)) rfl ?_;rw[c56 hx hm a0 (by omega) (by omega),d2I];rfl
   ·rw[if_neg (by simp[k12,b17]),if_neg k12];refine Eq.trans (b:=(B3 (hO x) (opR o)).bind λv3=>some (⟨v3.1,psR ps⟩,⟨v3.2.1,v3.2.2⟩)) rfl ?_;rw[(a58 hx.rt hx.sl hx.zr (by omega) o).rf,d2I];rfl
 ·rw[if_pos (by simpa using h),if_pos h];rfl
end
section
variable{ps:List (List c5)}(hm:Mp ps){x:Hp}(hx:Oh x)
include hm hx
theorem b8r{rows:List (List Int)}{k:Nat}(hk:k<rows.length):ers ps x (rows.take (k+1))=((er ps (ers ps x (rows.take k)).1 rows[k]).1,(ers ps x (rows.take k)).2 ++ [(er ps (ers ps x (rows.take k)).1 rows[k]).2]):=by
 rw[List.take_succ_eq_append_getElem hk,c3n]
theorem c8N(rows:List (List Int))(hl:rows.length≤1000)(hb:x.S.Serial<6000000000000000000):a0Z ⟨x,ps⟩ rows=some (⟨(ers ps x rows).1,ps⟩,(ers ps x rows).2.map anE):=by
 unfold a0Z;simp only[jn];refine N4 rows.length (λk s=>s=((⟨(ers ps x (rows.take k)).1,ps⟩:m8),(ers ps x (rows.take k)).2.map anE)) (by omega) rfl (λk s hk hs=>.inl ⟨_,?_,rfl⟩) (λs hs=>⟨s,if_neg (by simp),by rw[hs,List.take_length]⟩);subst hs;obtain⟨o1,o2⟩:=b84 hm hx (rows.take k) (by simp;omega);have hlen:=c0r ps x (rows.take k);have hkl:(rows.take k).length=k:=by simp;omega
 dsimp only;rw[if_pos (by simpa using hk),n9 hk,d2I,edo hm o1 (by rw[hkl] at o2;omega),d2I,u7 (by omega) (by simp[hlen];omega),d2I,k8,b8r hm hx hk];simp
theorem d2p(rows:List (List Int))(hl:rows.length≤1000)(hb:x.S.Serial<6000000000000000000):b2B ⟨hO x,psR ps⟩ rows=some (⟨hO (ers ps x rows).1,psR ps⟩,(ers ps x rows).2.map anR):=by
 unfold b2B;simp only[jn];refine N4 rows.length (λk s=>s=((⟨hO (ers ps x (rows.take k)).1,psR ps⟩:C7),(ers ps x (rows.take k)).2.map anR)) (by omega) rfl (λk s hk hs=>.inl ⟨_,?_,rfl⟩) (λs hs=>⟨s,if_neg (by simp),by rw[hs,List.take_length]⟩);subst hs;obtain⟨o1,o2⟩:=b84 hm hx (rows.take k) (by simp;omega);have hlen:=c0r ps x (rows.take k);have hkl:(rows.take k).length=k:=by simp;omega
 dsimp only;rw[if_pos (by simpa using hk),n9 hk,d2I,rdo hm o1 (by rw[hkl] at o2;omega),d2I,u7 (by omega) (by simp[hlen];omega),d2I,k8,b8r hm hx hk];simp
end
def tal(x:Hp):A4:=⟨ctO x.S.S.a8 0,ctO x.S.S.a8 1,ctO x.S.S.a8 2,ctO x.S.S.a8 3⟩
theorem c7g{s:a7}(hR:SR s):O7 s.S=some ⟨ctO s.S.a8 0,ctO s.S.a8 1,ctO s.S.a8 2,ctO s.S.a8 3⟩:=by
 unfold O7;simp only[jn];have hlen:=hR.len;refine N4 s.S.a8.length (λk t=>t=⟨ctO (s.S.a8.take k) 0,ctO (s.S.a8.take k) 1,ctO (s.S.a8.take k) 2,ctO (s.S.a8.take k) 3⟩) (by omega) (by simp[ctO]) (λk t hk ht=>.inl ?_) (λt ht=>⟨_,by simp;rfl,by rw[ht,List.take_length]⟩);have hc:=hR.cell k hk;rw[C9 hk] at hc;subst ht;simp only[Int.ofNat_lt,hk,decide_true,if_true,n9 hk,d2I];have hle:∀j,ctO (s.S.a8.take k) j≤24:=λj=>Nat.le_trans List.countP_le_length (by simp;omega);have h0:=hle 0;have h1:=hle 1;have h2:=hle 2;have h3:=hle 3;rw[List.take_succ_eq_append_getElem hk];simp only[c3d];refine⟨_,?_,rfl⟩;have hst:s.S.a8[k].State=0∨s.S.a8[k].State=1∨s.S.a8[k].State=2∨s.S.a8[k].State=3:=by omega
 rcases hst with e | e | e | e <;> rw[e] <;> simp[A4.ix,A4.l,A4.st,ix] <;> rw[k8,k8] <;> simp
section
variable{ps:List (List c5)}{x:Hp}(hx:I8 x)
include hx
theorem d1Z:a3g ⟨x,ps⟩=some (tal x):=by
 unfold a3g;dsimp only;rw[c7g hx.sh.sr,d2I];rfl
theorem c3j:a0b ⟨x,ps⟩=some (srs x):=by
 have hR:=hx.sh.sr;have l24:(lv x.S).length≤24:=D9 (p9.2 hR);unfold a0b;simp only[jn];rw[a1B (p9.2 hR),d2I];refine N4 (lv x.S).length (λk l=>l=((lv x.S).take k).map λh=>U5 x h) (by omega) rfl (λk l hk hl=>.inl ⟨_,?_,rfl⟩) (λl hl=>⟨l,if_neg (by simp),?_⟩)
 ·subst hl;dsimp only;have:=E0 hR (List.getElem_mem hk);rw[if_pos (by simpa using hk),n9 hk,d2I,c4U hx.sh (by omega),d2I,u7 (by omega) (by simp;omega),d2I,k8,List.take_succ_eq_append_getElem hk,List.map_append];rfl
 ·subst hl;rw[List.take_length];show (a8t (srs x)).bind _=_;have:=c1j (x:=x) hR;unfold a8t;rw[if_pos (by omega),c40 hR];rfl
end
end Go.Sh
namespace Go.Sh
theorem Rs.oh{x:Hp}{n:Nat}(h:Rs x n):Oh x:=⟨h.rt,h.sl,h.zr⟩
theorem c7R{n last places:Int}{ps:List (List c5)}(hl:ps.length≤12)(hp:∀p∈ps,p.length≤12) :
  (∃e,Y8 n last places ps=some (⟨b54,[]⟩,e)∧b6z n last places (psR ps)=some (⟨hO b54,[]⟩,e)∧(e=13∨e=1∧¬((1≤n∧n≤24)∧(0≤last∧last≤9)∧1≤places∧places≤8))) ∨
  (∃k p:Nat,n=k∧places=p∧(1≤k∧k≤24)∧Mp ps∧Rs (nwH k last p) 0∧Y8 n last places ps=some (⟨nwH k last p,ps⟩,0)∧b6z n last places (psR ps)=some (⟨hO (nwH k last p),psR ps⟩,0)):=by
 have e1:a0Y ps=some (a24 ps):=b73 (by omega) hp;have e2:a2h (psR ps)=some (a24 ps):=b3p (by omega) hp;unfold Y8 b6z;rw[e1,e2,d2I,d2I];cases hq:a24 ps;·exact .inl ⟨13,rfl,rfl,.inl rfl⟩
 ·simp only[Bool.not_true,Bool.false_eq_true,if_false];by_cases h:(1≤n∧n≤24)∧(0≤last∧last≤9)∧1≤places∧places≤8
  ·right;obtain⟨h1,h2,h3⟩:=h;obtain⟨k,rfl⟩:∃k:Nat,n=k:=⟨n.toNat,by omega⟩;obtain⟨p,rfl⟩:∃p:Nat,places=p:=⟨places.toNat,by omega⟩;obtain⟨a1,a2,hx,hS,hz⟩:=c3F (k:=k) (p:=p) (l:=last) (by omega) h2 (by omega);refine⟨k,p,rfl,rfl,by omega,(d0Y hq).1,⟨hx,hS,hz,Int.le_refl _⟩,?_,?_⟩
   ·rw[a1,d2I,hx.sh.r6];rfl
   ·rw[a2,d2I,show (hO (nwH k last p)).Roots.length=6 from hx.sh.r6];rfl
  ·left;have a1:a2F n last places=some b54:=by
    unfold a2F;rw[if_pos (by simp;omega)];rfl
   have a2:b0v n last places=some (hO b54):=by
    unfold b0v;rw[if_pos (by simp;omega)];rfl
   refine⟨1,?_,?_,.inr ⟨rfl,h⟩⟩;·rw[a1];rfl
   ·rw[a2];rfl
theorem c91{x:Hp}{n:Nat}(hx:Rs x n)(hn:n≤1000000){ps:List (List c5)}(hm:Mp ps){rows:List (List Int)}(hl:rows.length≤1000){r:C7 × List H4}(h:b2B ⟨hO x,psR ps⟩ rows=some r) :
  a0Z ⟨x,ps⟩ rows=some (⟨hOI r.1.X,ps⟩,r.2.map λa=>⟨a.V,a.E⟩)∧Rs (hOI r.1.X) (n+201*rows.length)∧(ers ps x rows).1=hOI r.1.X∧(ers ps x rows).2=r.2.map λa=>(a.V,a.E):=by
 have hs:=hx.U5;have e:=d2p hm hx.oh rows hl (by omega);rw[h] at e;have e:=Option.some.inj e;obtain⟨o1,o2⟩:=b84 hm hx.oh rows (by omega);have a1:(ers ps x rows).1=hOI r.1.X:=by rw[e,c82]
 have a2:(ers ps x rows).2=r.2.map λa=>(a.V,a.E):=by
  rw[e,List.map_map];conv=>lhs;rw[←List.map_id (ers ps x rows).2]
  exact List.map_congr_left λp _=>rfl
 refine⟨?_,⟨a1▸o1.rt,a1▸o1.sl,a1▸o1.zr,?_⟩,a1,a2⟩
 ·rw[c8N hm hx.oh rows hl (by omega),a1,a2,List.map_map];congr 1
 ·have:(hOI r.1.X).S.Serial≤x.S.Serial+201*(rows.length:Int):=a1▸o2;show (hOI r.1.X).S.Serial≤((n+201*rows.length:Nat):Int);omega
theorem c9m:Mp []:=λ_ h=>by cases h
end Go.Sh
namespace Go.Sh
end Go.Sh
namespace Go.Sh
theorem d1o(a b c d:Int):a1b a b c d=some [a,b,c,d]:=by
 unfold a1b;rfl
def en(x:Hp):m8:=⟨x,[]⟩
theorem d0k{k:Nat}{l:Int}(hk:1≤k∧k≤24)(hl:0≤l∧l≤9):b0Q k l=some (en (nwH k l 8))∧Rs (nwH k l 8) 0:=by
 rcases c7R (n:=(k:Int)) (last:=l) (places:=8) (ps:=[]) (by decide) (λp h=>by cases h) with ⟨e,_,_,h | ⟨_,h⟩⟩ | ⟨k',p,h1,h2,_,_,hr,e1,_⟩
 ·exfalso;rename_i e1 e2;subst h;have hq:a0Y []=some true:=by kernel_rfl
  unfold Y8 at e1;rw[hq,d2I] at e1;simp only[Bool.not_true,Bool.false_eq_true,if_false] at e1;cases hn:a2F k l 8 with
  | none=>rw[hn] at e1;cases e1
  | some y=>
   rw[hn,d2I] at e1;split at e1
   ·have:(1:Int)=13:=congrArg (λz=>(z.getD (⟨b54,[]⟩,0)).2) e1;exact absurd this (by decide)
   ·have:(0:Int)=13:=congrArg (λz=>(z.getD (⟨b54,[]⟩,0)).2) e1;exact absurd this (by decide)
 ·exact absurd ⟨by omega,hl,by omega,by omega⟩ h
 ·obtain rfl:k=k':=by omega
  obtain rfl:p=8:=by omega
  refine⟨?_,hr⟩;unfold b0Q;rw[e1];rfl
theorem d1m{n:Int}(h0:0≤n)(h1:n≤255):u5 n=n:=C3 (by omega) (by omega)
theorem d1g{n:Int}(h0:0≤n)(h1:n≤255){b:Int}(hb:0<b):rem (u5 n) b=some (n % b):=by rw[d1m h0 h1,a8o h0 hb]
def c4M:List (List Int):=[[1,0,1,(-1)],[5,0,0,0],[3,0,0,0],[11,0,0,0],[1,0,0,(-1)],[1,1,0,(-1)],[1,2,0,(-1)]]
def d2o:C7 × List H4:=(b2B ⟨hO (nwH 2 3 8),[]⟩ c4M).getD (⟨hO b54,[]⟩,[])
theorem b6P:a7P=some true:=by
 obtain⟨a1,a2⟩:=d0k (k:=2) (l:=3) (by decide) (by decide);obtain⟨b1,b2,_,_⟩:=c91 a2 (by decide) c9m (rows:=c4M) (by decide) (r:=d2o) (by kernel_rfl);unfold a7P;refine bnd a1 ?_;simp only[d1o,d2I];refine bnd b1 ?_;dsimp only;rw[d1Z b2.rt];kernel_rfl
end Go.Sh
namespace Go.Sh
theorem c3f{x:Hp}{o:c5}{e:Int}(h:Er x o e):dov x o=(x,0,e):=by unfold dov;rw[h.2.1];rfl
theorem a9j{x z:Hp}{o:c5}{v:Int}(h:Dn x o z v):dov x o=(V3 z,v,0):=by unfold dov;rw[h.mc];rfl
end Go.Sh
namespace Go.Sh
end Go.Sh
namespace Go.Sh
end Go.Sh
namespace Go.Sh
end Go.Sh
namespace Go.Sh
end Go.Sh
namespace Go.Sh
end Go.Sh
namespace Go.Sh
end Go.Sh
namespace Go.Sh
structure Bk (x:Hp):Prop where
 ok:Oh x
 rt:x.Roots=List.replicate 6 0
 cl:x.a8=List.replicate 6 ⟨0,false,-1⟩
 hs:∀k v,¬Has x.T k v
 q:x.Q.L = []
 st:∀i,i<x.S.S.a8.length→(ce x.S i).State=0∨(ce x.S i).State=3
theorem Bk.lv{x:Hp}(h:Bk x):lv x.S = []:=List.eq_nil_iff_forall_not_mem.2 λk hk=>by
 obtain⟨i,hi⟩:=(a1Y h.ok.rt.sh.sr).1 hk;rcases h.st i hi.1 with e | e <;> rw[hi.2.1] at e <;> exact absurd e (by decide)
theorem c58{s:a7}{i j:Nat}(a:Fst s i)(b:Fst s j):i=j:=by
 rcases Nat.lt_trichotomy i j with h | h | h
 ·exact absurd a.2.1 (b.2.2 i h)
 ·exact h
 ·exact absurd b.2.1 (a.2.2 j h)
theorem b3V{x:Hp}{h:Int}{f:Int→Int}(q:h∉lv x.S):stO x h f=x:=by unfold stO;rw[if_neg q]
theorem c4X{x:Hp}(hx:I8 x){h:Int}(hz:zr x = [h])(hd:due (ob x.S h)=false)(hn:zr (buH x [h]) = []):V3 x=buH x [h]:=by
 have e1:stN 1 x=buH x [h]:=by
  rw[show (1:Nat)=0+1 from rfl,Z5];show stp x=_;rw[a1P hz,hd];rfl
 obtain⟨n,_,h1,h2,h3⟩:=a5r hx;have hn1:n=1:=by
  rcases Nat.lt_trichotomy n 1 with q | q | q
  ·obtain rfl:n=0:=by omega
   have:zr x = []:=h1;rw[hz] at this;cases this
  ·exact q
  ·have:=h2 1 q;rw[e1] at this;exact absurd hn this
 rw[h3,hn1,e1]
end Go.Sh
namespace Go.Sh
def cpc(x:Hp)(j:Nat):Int:=if (ce x.S j).State=0 then x.S.S.Last+1-(ce x.S j).Gen else 0
def cap(x:Hp):Int:=((List.range x.S.S.a8.length).map (cpc x)).sum
theorem c8A{k:Nat}{m:Int}(hk:1≤k∧k≤24)(hm:0≤m∧m≤9)(r:Rs (nwH k m 8) 0):Bk (nwH k m 8)∧cap (nwH k m 8)=(k:Int)*(m+1):=by
 have hce:∀i,i<k→ce (nwH k m 8).S i=⟨0,0,z0⟩:=λi hi=>by
  unfold ce nwH;simp[List.getD_eq_getElem?_getD,List.getElem?_replicate,hi]
 have hlen:(nwH k m 8).S.S.a8.length=k:=by simp[nwH]
 refine⟨⟨r.oh,rfl,rfl,λa b h=>?_,rfl,λi hi=>?_⟩,?_⟩
 ·obtain⟨h1,_⟩:=r.rt.sh.pr a b h;have hlv:lv (nwH k m 8).S = []:=List.eq_nil_iff_forall_not_mem.2 λq hq=>by
   obtain⟨i,hi⟩:=(a1Y r.rt.sh.sr).1 hq;have h1:i<k:=by rw[←hlen];exact hi.1
   have:=hi.2.1;rw[hce i h1] at this;exact absurd this (by decide)
  rw[hlv] at h1;cases h1
 ·rw[hlen] at hi;rw[hce i hi];exact .inl rfl
 ·unfold cap;rw[hlen];have:∀n,n≤k→((List.range n).map (cpc (nwH k m 8))).sum=(n:Int)*(m+1):=by
   intro n;induction n with
   | zero=>intro _;simp
   | succ n ih=>
    intro hn;rw[List.range_succ,List.map_append,List.sum_append,ih (by omega)];have e:cpc (nwH k m 8) n=m+1:=by
     unfold cpc;rw[hce n (by omega)];show m+1-0=m+1;omega
    simp only[List.map_cons,List.map_nil,List.sum_cons,List.sum_nil,e];push_cast
    rw[Int.add_mul];omega
  exact this k (Nat.le_refl _)
end Go.Sh
namespace Go.Sh
def Q4(o o':l5):Prop:=o'.Strong=o.Strong∧o'.Started=o.Started
theorem Q4.refl(o:l5):Q4 o o:=⟨rfl,rfl⟩
theorem Q4.trans{a b c:l5}(h:Q4 a b)(q:Q4 b c):Q4 a c:=⟨q.1.trans h.1,q.2.trans h.2⟩
theorem c3Y{s:a7}(hR:SR s){i:Nat}(hi:i<s.S.a8.length)(ht:Th (ce s i)){d:Int}(hd:0≤(ce s i).Val.Weak+d){k:Int}(hk:k∈lv s):Q4 (ob s k) (ob (mkA s i d) k):=by
 have hS:=b1c hR hi ht hd;have q:=w7 hR hk;rw[K8 hS ((b0V hi _).2 q),K8 hR q,a06 hR hi ht];split
 ·rename_i e;rw[e];exact⟨rfl,rfl⟩
 ·exact⟨rfl,rfl⟩
theorem c9j{x:Hp}(hR:SR x.S)(h:Int){d:Int}(hd:T3 x.S h (A8 h)→0≤(ce x.S (A8 h)).Val.Weak+d){k:Int}(hk:k∈lv x.S):Q4 (ob x.S k) (ob (mkd x h d).S k):=by
 unfold mkd;split
 ·rename_i q;exact c3Y hR q.1 q.2.1 (hd q) hk
 ·exact .refl _
theorem c1p{x:Hp}(hR:SR x.S)(h:Int)(hd:T3 x.S h (A8 h)→1≤(ce x.S (A8 h)).Val.Weak){k:Int}(hk:k∈lv x.S):Q4 (ob x.S k) (ob (a6w x h).S k):=by
 unfold a6w;split
 ·rename_i q;have hd:=hd q;have kn:=a3U (d:=-1) hR q.1 q.2.1 (by omega);have m:=c3Y hR q.1 q.2.1 (d:=-1) (by omega) hk;split
  ·rename_i c;have hi1:A8 h<(mkA x.S (A8 h) (-1)).S.a8.length:=by rw[kn.len];exact q.1
   have hce:ce (mkA x.S (A8 h) (-1)) (A8 h)=⟨(ce x.S (A8 h)).State,(ce x.S (A8 h)).Gen,wkg (ce x.S (A8 h)).Val ((ce x.S (A8 h)).Val.Weak + -1)⟩:=by
    rw[a06 hR q.1 q.2.1,if_pos rfl]
   have h2:(ce (mkA x.S (A8 h) (-1)) (A8 h)).State=2:=by rw[hce];exact c.1
   have:=b3a kn.sr hi1 h2 (k:=k) (by rw[kn.lv];exact hk);show Q4 _ (ob (gvA (mkA x.S (A8 h) (-1)) (A8 h)) k);rw[this];exact m
  ·exact m
 ·exact .refl _
theorem c47{x:Hp}(hx:I8 x){n:Nat}(hn:n<6)(h call:Int){k:Int}(hk:k∈lv x.S):Q4 (ob x.S k) (ob (a0Q x n h call).S k):=by
 have hR:=hx.sh.sr;have hnl:n<x.a8.length:=by have:=hx.sh.c6;omega
 have ok:∀k i,T3 x.S k i→0≤(ce x.S i).Val.Weak:=λk i q=>(hR.ok i q.1 q.2.1).wk;have tw:∀i,T3 x.S (tgt x n) i→1≤(ce x.S i).Val.Weak:=λi q=>by
  have htg:tgt x n=x.a8[n].Target:=by
   unfold tgt;rw[List.getD_eq_getElem?_getD,List.getElem?_eq_getElem hnl];rfl
  have r:=q.rng hR;have p:=a8b hnl (by rw[←htg];omega);rw[←htg,q.2.2] at p;have:=(hx.wk i q.1 q.2.1).1;omega
 unfold a0Q;have s1:Q4 (ob x.S k) (ob (mkd (wC x (x.a8.set n (wcl h call))) h 1).S k):=c9j (x:=wC x (x.a8.set n (wcl h call))) hR h (λq=>by
  have:=ok _ _ q;dsimp only;omega) hk
 by_cases q:T3 x.S h (A8 h)
 ·have e:mkd (wC x (x.a8.set n (wcl h call))) h 1=wS (wC x (x.a8.set n (wcl h call))) (mkA x.S (A8 h) 1):=by
   unfold mkd;rw[if_pos q]
  have hd:=ok _ _ q;have kn:=a3U (d:=1) hR q.1 q.2.1 (by omega);rw[e] at s1 ⊢;refine s1.trans (c1p (x:=wS (wC x (x.a8.set n (wcl h call))) (mkA x.S (A8 h) 1)) kn.sr _ (λq2=>?_) (by show k∈lv (mkA x.S (A8 h) 1);rw[kn.lv];exact hk));dsimp only at q2 ⊢;have q3:=(kn.ad _ _).1 q2;have:=tw _ q3;rw[a06 hR q.1 q.2.1];split
  ·rename_i e2;rw[e2] at this;show 1≤(ce x.S (A8 h)).Val.Weak+1;omega
  ·exact this
 ·have e:mkd (wC x (x.a8.set n (wcl h call))) h 1=wC x (x.a8.set n (wcl h call)):=by
   unfold mkd;rw[if_neg q]
  rw[e] at s1 ⊢;exact s1.trans (c1p (x:=wC x (x.a8.set n (wcl h call))) hR _ (λq2=>tw _ q2) hk)
def cr(x:Hp)(h:Int):Int:=(x.Roots.count h:Int)
theorem c3c{l:List Int}{r:Nat}(hr:r<l.length)(v h:Int):((l.set r v).count h:Int)=(l.count h:Int)-(if l.getD r 0=h then 1 else 0)+(if v=h then 1 else 0):=by
 rw[List.count_set hr];have e:l.getD r 0=l[r]:=by rw[List.getD_eq_getElem?_getD,List.getElem?_eq_getElem hr];rfl
 rw[e];have hp:l[r]=h→1≤l.count h:=λq=>List.one_le_count_iff.2 (q▸List.getElem_mem hr);by_cases a:l[r]=h <;> by_cases b:v=h <;> simp[a,b] <;> (try have:=hp a) <;> omega
structure Jb (x:Hp) (h:Int):Prop where
 rt:I8 x
 sl:SL x
 lv:lv x.S = [h]
 st:(ob x.S h).Strong=cr x h
 sd:(ob x.S h).Started=true
 se:(ob x.S h).Serial=1
 q:x.Q.L = []
 s1:x.S.Serial=1
theorem Jb.h0{x:Hp}{h:Int}(j:Jb x h):h≠0:=λe=>a3S j.rt.sh.sr (by rw[j.lv,e];exact List.mem_singleton.2 rfl)
theorem Jb.mem{x:Hp}{h:Int}(j:Jb x h):h∈Sh.lv x.S:=by rw[j.lv];exact List.mem_singleton.2 rfl
theorem Jb.le{x:Hp}{h:Int}(j:Jb x h):0≤cr x h∧cr x h≤6:=by
 have:=List.count_le_length (a:=h) (l:=x.Roots);have:=j.rt.sh.r6;unfold cr;omega
theorem Jb.zr{x:Hp}{h:Int}(j:Jb x h)(hc:1≤cr x h):Sh.zr x = []:=List.eq_nil_iff_forall_not_mem.2 λk hk=>by
 obtain⟨a,b⟩:=X5.1 hk;rw[j.lv,List.mem_singleton] at a;subst a;rw[j.st] at b;omega
theorem Jb.zr1{x:Hp}{h:Int}(j:Jb x h)(hc:cr x h=0):Sh.zr x = [h]:=by
 unfold Sh.zr;rw[j.lv,List.filter_cons,if_pos (by rw[j.st,hc];rfl)];rfl
theorem Jb.root{x:Hp}{h:Int}(j:Jb x h){r:Nat}(hr:r<6){v:Int}(hv:v=0∨v=h)(ho:x.Roots.getD r 0=0∨x.Roots.getD r 0=h):Jb (u6 x r v) h∧(u6 x r v).Roots=x.Roots.set r v:=by
 have hR:=j.rt.sh.sr;have r6:=j.rt.sh.r6;have hb:=j.le;have hz:I8 (u6 x r v):=O6 j.rt hr (by rcases hv with rfl | rfl;exact .inl rfl;exact .inr j.mem);have rest:=U2 x r v;have ks:=V1 hR r v;have k1:Kin x.S (z1 x v).S:=B5 hR v λc=>A5;have k2:Kin (z1 x v).S (u6 x r v).S:=B5 (x:=wR (z1 x v) (x.Roots.set r v)) k1.sr (x.Roots.getD r 0) (f:=a1T) λc=>E2;have m1:h∈Sh.lv (z1 x v).S:=by rw[k1.lv];exact j.mem
 have e1:(ob (z1 x v).S h).Strong=(ob x.S h).Strong+(if v=h then 1 else 0):=by
  rcases hv with rfl | rfl
  ·rw[show z1 x 0=x from b3V (a3S hR),if_neg (λe=>j.h0 e.symm)];omega
  ·have:=a3a hR v (f:=M0) (λc=>A5) j.mem;rw[if_pos rfl] at this;rw[if_pos rfl];show (ob (stO x v M0).S v).Strong=_;rw[this,j.st];unfold M0;rw[if_neg (by omega),if_neg (by omega)]
 have e2:(ob (u6 x r v).S h).Strong=(ob (z1 x v).S h).Strong-(if x.Roots.getD r 0=h then 1 else 0):=by
  rcases ho with e | e
  ·rw[e,if_neg (λq=>j.h0 q.symm)];have:u6 x r v=wR (z1 x v) (x.Roots.set r v):=by
    unfold u6;rw[e];exact b3V (x:=wR (z1 x v) (x.Roots.set r v)) (a3S k1.sr)
   rw[this];show (ob (z1 x v).S h).Strong=_;omega
  ·have:=a3a (x:=wR (z1 x v) (x.Roots.set r v)) k1.sr (x.Roots.getD r 0) (f:=a1T) (λc=>E2) (k:=h) m1;rw[if_pos e.symm] at this;rw[if_pos e];have hc1:1≤cr x h:=by
    unfold cr;have hm:h∈x.Roots:=by
     have hrl:r<x.Roots.length:=by omega
     rw[List.getD_eq_getElem?_getD,List.getElem?_eq_getElem hrl] at e;exact e▸List.getElem_mem hrl
    have:=List.one_le_count_iff.2 hm;omega
   show (ob (stO (wR (z1 x v) (x.Roots.set r v)) (x.Roots.getD r 0) a1T).S h).Strong=_;rw[this,show (ob (wR (z1 x v) (x.Roots.set r v)).S h).Strong=_ from e1,j.st];unfold a1T;split <;> (try split) <;> (try split) <;> omega
 obtain⟨n1,o1⟩:=k1.ob h (by have:=E0 hR j.mem;omega);obtain⟨n2,o2⟩:=k2.ob h (by have:=E0 hR j.mem;omega);refine⟨⟨hz,a2S hR j.sl r v,by rw[ks.lv,j.lv],?_,by rw[o2,o1];exact j.sd,by rw[o2,o1];exact j.se,by rw[rest.2.2.2];exact j.q,by rw[ks.U5];exact j.s1⟩,rest.1⟩;rw[e2,e1,j.st];unfold cr;rw[rest.1,c3c (by omega)];omega
structure Jn (x:Hp) (h:Int):Prop extends Jb x h where
 r4:x.Roots.getD 4 0=h
 rr:∀r,r<4→x.Roots.getD r 0=0
 r5:x.Roots.getD 5 0=0∨x.Roots.getD 5 0=h
theorem a0e{l:List Int}{r:Nat}(hr:r<l.length)(v:Int)(k:Nat):(l.set r v).getD k 0=if k=r then v else l.getD k 0:=a3N hr v 0 k
theorem Jn.one{x:Hp}{h:Int}(j:Jn x h):1≤cr x h:=by
 unfold cr;have r6:=j.rt.sh.r6;have hm:h∈x.Roots:=by
  have hrl:4<x.Roots.length:=by omega
  have e:=j.r4;rw[List.getD_eq_getElem?_getD,List.getElem?_eq_getElem hrl] at e;exact e▸List.getElem_mem hrl
 have:=List.one_le_count_iff.2 hm;omega
theorem Jn.zr0{x:Hp}{h:Int}(j:Jn x h):Sh.zr x = []:=j.toJb.zr j.one
theorem Jn.oh{x:Hp}{h:Int}(j:Jn x h):Oh x:=⟨j.rt,j.sl,j.zr0⟩
theorem Jn.drop{x:Hp}{h:Int}(j:Jn x h){r:Nat}(hr:r<6)(h4:r≠4):Jn (u6 x r 0) h:=by
 have ho:x.Roots.getD r 0=0∨x.Roots.getD r 0=h:=by
  rcases Nat.lt_or_ge r 4 with q | q
  ·exact .inl (j.rr r q)
  ·obtain rfl:r=5:=by omega
   exact j.r5
 obtain⟨a,b⟩:=j.toJb.root hr (.inl rfl) ho;have r6:=j.rt.sh.r6;refine⟨a,?_,λk hk=>?_,?_⟩;·rw[b,a0e (by omega),if_neg (by omega)];exact j.r4
 ·rw[b,a0e (by omega)];split;·rfl
  ·exact j.rr k hk
 ·rw[b,a0e (by omega)];split;·exact .inl rfl
  ·exact j.r5
theorem Jn.op{x:Hp}{h:Int}(j:Jn x h){o:c5}(h4:o.A≠4)(hk:o.Kind=3∨o.Kind=10∨o.Kind=6):Jn (dov x o).1 h:=by
 obtain⟨k,a,b,c⟩:=o;dsimp only at h4 hk;by_cases hc:w9 k a b c=0
 ·rcases hk with rfl | rfl | rfl
  ·have d:=d3 j.rt j.sl hc;have ha:=d0D hc;have jj:=j.drop (r:=a.toNat) (by omega) (by omega);rw[a9j d,a1M jj.zr0];exact jj
  ·have d:=d10 j.rt j.sl j.zr0 hc;rw[a9j d,a1M j.zr0];exact j
  ·rcases d6 j.rt j.sl hc with ⟨_,e⟩ | ⟨_,_,e⟩ | ⟨_,d⟩;·rw[c3f e];exact j
   ·rw[c3f e];exact j
   ·have ha:=(d0E hc).1;have rest:=a9E x a.toNat (Sh.sd x b) c;have ks:=b34 j.rt (n:=a.toNat) (by omega) (Sh.sd x b) c;have q4:=c47 j.rt (n:=a.toNat) (by omega) (Sh.sd x b) c j.mem;have jj:Jn (a0Q x a.toNat (Sh.sd x b) c) h:=⟨⟨d.rt,d.sl,by rw[ks.lv,j.lv],by rw[q4.1,j.st];unfold cr;rw[rest.1],by rw[q4.2];exact j.sd,by rw[ks.ob h j.mem];exact j.se,by rw[rest.2.2.2];exact j.q,by rw[ks.U5];exact j.s1⟩,by rw[rest.1];exact j.r4,by rw[rest.1];exact j.rr,by rw[rest.1];exact j.r5⟩;rw[a9j d,a1M jj.zr0];exact jj
 ·have:=b80 (x:=x) (o:=⟨k,a,b,c⟩) hc;have e:dov x ⟨k,a,b,c⟩=(x,0,w9 k a b c):=by unfold dov;rw[this.1];rfl
  rw[e];exact j
theorem b8l:∀(l:List c5) (x:Hp) (acc:List Int),(l.foldl (λ(p:Hp × List Int) o=>((dov p.1 o).1,p.2 ++ [(dov p.1 o).2.1])) (x,acc)).1=l.foldl (λy o=>(dov y o).1) x
 | [],_,_=>rfl
 | o::l,x,acc=>by
  rw[List.foldl_cons,List.foldl_cons];exact b8l l _ _
theorem Jn.ops{h:Int}:∀(l:List c5) {x:Hp},Jn x h→(∀o∈l,o.A≠4∧(o.Kind=3∨o.Kind=10∨o.Kind=6))→Jn (l.foldl (λy o=>(dov y o).1) x) h
 | [],_,j,_=>j
 | o::l,x,j,hl=>by
  rw[List.foldl_cons];obtain⟨a,b⟩:=hl o (List.mem_cons_self ..);exact Jn.ops l (j.op a b) λq hq=>hl q (List.mem_cons_of_mem _ hq)
end Go.Sh
namespace Go.Sh
theorem c4Y{x:Hp}(hx:I8 x){h:Int}(hz:zr x = [h])(hd:due (ob x.S h)=true)(hn:zr (quH x h) = []):V3 x=quH x h:=by
 have e1:stN 1 x=quH x h:=by
  rw[show (1:Nat)=0+1 from rfl,Z5];show stp x=_;rw[a1P hz,hd];rfl
 obtain⟨n,_,h1,h2,h3⟩:=a5r hx;have hn1:n=1:=by
  rcases Nat.lt_trichotomy n 1 with q | q | q
  ·obtain rfl:n=0:=by omega
   have:zr x = []:=h1;rw[hz] at this;cases this
  ·exact q
  ·have:=h2 1 q;rw[e1] at this;exact absurd hn this
 rw[h3,hn1,e1]
structure On (y:Hp) (h:Int):Prop where
 ok:Oh y
 lv:lv y.S = [h]
 st:(ob y.S h).Strong=1
 sd:(ob y.S h).Started=true
 se:(ob y.S h).Serial=1
 q:y.Q.L = [⟨1,h,0⟩]
 ro:y.Roots=List.replicate 6 0
 s1:y.S.Serial=1
theorem c9z{x:Hp}(b:Bk x)(hb:x.S.Serial=0){i:Nat}(hF:Fst x.S i)(ps:List (List c5)):∃z y h,er ps x [1,0,0,0]=(z,1,0)∧Oh z∧z.S.Serial=1∧er ps z [3,0,0,0]=(y,0,0)∧On y h:=by
 have hx:=b.ok.rt;have hR:=hx.sh.sr;obtain⟨hi,h0,_⟩:=id hF;have p1:(0:Nat)≤4:=by decide
 have p2 : -1≤(0:Int)∧(0:Int)≤5:=by decide
 have hc1:w9 1 0 0 0=0:=by kernel_rfl
 have hc3:w9 3 0 0 0=0:=by kernel_rfl
 have d1e:T6 [1,0,0,0]=(⟨1,0,0,0⟩,0):=by kernel_rfl
 have d3e:T6 [3,0,0,0]=(⟨3,0,0,0⟩,0):=by kernel_rfl
 have hlv:=b.lv;obtain⟨dn⟩:Nonempty (Dn x ⟨1,0,0,0⟩ (u6 (wS x (Y1 x.S i 0 0)) 0 (J8 x.S i)) (x.S.Serial+1)):=by
  rcases d1 hx b.ok.sl (by omega) hc1 with ⟨e,m,_⟩ | ⟨_,_,i',hF',d⟩
  ·exfalso;rcases c7Q hR (by omega) 0 0 with ⟨q,_⟩ | ⟨_,q,_⟩ | ⟨_,_,q,_⟩ | ⟨_,_,j,hj,q⟩;·exact q (by decide)
   ·exact q (by decide)
   ·exact q i hi h0
   ·rw[q] at m;have e1:J8 x.S j=0:=congrArg (λr=>r.2.1) (Option.some.inj m);have:=a78 hR (i:=j) hj.1;omega
  ·rw[c58 hF hF'];exact⟨d⟩
 have m1:=b44 hR hi h0 p1 p2;have mlv:Sh.lv (Y1 x.S i 0 0) = [J8 x.S i]:=by rw[b7Q hR hi h0 p1 p2,hlv];rfl
 have mob:=a9q hR hi h0 p1 p2;have hp:=a78 hR (i:=i) hi;have r1R:SR (wS x (Y1 x.S i 0 0)).S:=m1;have k1:Kin (wS x (Y1 x.S i 0 0)).S (z1 (wS x (Y1 x.S i 0 0)) (J8 x.S i)).S:=B5 r1R (J8 x.S i) (f:=M0) λc=>A5;have in1:J8 x.S i∈Sh.lv (wS x (Y1 x.S i 0 0)).S:=by show _∈Sh.lv (Y1 x.S i 0 0);rw[mlv];exact List.mem_singleton.2 rfl
 have s1:(ob (z1 (wS x (Y1 x.S i 0 0)) (J8 x.S i)).S (J8 x.S i)).Strong=1:=by
  have:=a3a r1R (J8 x.S i) (f:=M0) (λc=>A5) in1;rw[if_pos rfl,show ob (wS x (Y1 x.S i 0 0)).S (J8 x.S i)=_ from mob] at this;exact this
 have z1e:u6 (wS x (Y1 x.S i 0 0)) 0 (J8 x.S i)=wR (z1 (wS x (Y1 x.S i 0 0)) (J8 x.S i)) (x.Roots.set 0 (J8 x.S i)):=by
  unfold u6;have g0:(wS x (Y1 x.S i 0 0)).Roots.getD 0 0=0:=by show x.Roots.getD 0 0=0;rw[b.rt];rfl
  rw[g0];exact b3V (a3S k1.sr)
 have hz1:zr (u6 (wS x (Y1 x.S i 0 0)) 0 (J8 x.S i)) = []:=List.eq_nil_iff_forall_not_mem.2 λk hk=>by
  obtain⟨a,c⟩:=X5.1 hk;rw[z1e] at a c;have a':k∈Sh.lv (z1 (wS x (Y1 x.S i 0 0)) (J8 x.S i)).S:=a;rw[k1.lv] at a';have a':k∈Sh.lv (Y1 x.S i 0 0):=a';rw[mlv,List.mem_singleton] at a';subst a';have c':(ob (z1 (wS x (Y1 x.S i 0 0)) (J8 x.S i)).S (J8 x.S i)).Strong=0:=c;omega
 generalize hz:u6 (wS x (Y1 x.S i 0 0)) 0 (J8 x.S i)=z at dn z1e hz1;have en:er ps x [1,0,0,0]=(z,x.S.Serial+1,0):=by
  unfold er;rw[d1e,if_neg (by simp)];unfold eo;rw[if_neg (show ¬((1:Int)=11) by decide),if_neg (show ¬((1:Int)=12) by decide),a9j dn,a1M hz1]
 have oz:Oh z:=⟨dn.rt,dn.sl,hz1⟩;have zS:z.S=(z1 (wS x (Y1 x.S i 0 0)) (J8 x.S i)).S:=by rw[z1e]
 have zrest:z.Roots=x.Roots.set 0 (J8 x.S i)∧z.a8=x.a8∧z.T=x.T∧z.Q=x.Q:=by
  rw[←hz];exact U2 (wS x (Y1 x.S i 0 0)) 0 (J8 x.S i)
 have zk:Kin (Y1 x.S i 0 0) z.S:=by rw[zS];exact k1
 have zlv:Sh.lv z.S = [J8 x.S i]:=by rw[zk.lv,mlv]
 have zst:(ob z.S (J8 x.S i)).Strong=1:=by rw[zS];exact s1
 have zser:z.S.Serial=1:=by rw[zk.U5];show x.S.Serial+1=1;omega
 have d:Dn z ⟨3,0,0,0⟩ (u6 z 0 0) 0:=d3 oz.rt oz.sl hc3;have zR:=oz.rt.sh.sr;have w1:z1 z 0=z:=b3V (a3S zR);have we:u6 z 0 0=M9 (wR z (z.Roots.set 0 0)) (J8 x.S i):=by
  unfold u6;rw[w1];have g0:z.Roots.getD 0 0=J8 x.S i:=by rw[zrest.1,b.rt];rfl
  rw[g0]
 have inz:J8 x.S i∈Sh.lv (wR z (z.Roots.set 0 0)).S:=by show _∈Sh.lv z.S;rw[zlv];exact List.mem_singleton.2 rfl
 have k2:Kin z.S (u6 z 0 0).S:=by rw[we];exact B5 (x:=wR z (z.Roots.set 0 0)) zR (J8 x.S i) (f:=a1T) λc=>E2
 have s2:(ob (u6 z 0 0).S (J8 x.S i)).Strong=0:=by
  rw[we];have:=a3a (x:=wR z (z.Roots.set 0 0)) zR (J8 x.S i) (f:=a1T) (λc=>E2) inz;rw[if_pos rfl,show (ob (wR z (z.Roots.set 0 0)).S (J8 x.S i)).Strong=1 from zst] at this;exact this
 have wrest:=U2 z 0 0;generalize u6 z 0 0=w at d k2 s2 wrest;have wR:=d.rt.sh.sr;have wlv:Sh.lv w.S = [J8 x.S i]:=by rw[k2.lv,zlv]
 have win:J8 x.S i∈Sh.lv w.S:=by rw[wlv];exact List.mem_singleton.2 rfl
 have wz:zr w = [J8 x.S i]:=by
  unfold zr;rw[wlv,List.filter_cons,if_pos (by rw[s2];rfl)];rfl
 have hh:J8 x.S i≤9223372036854775807:=by have:=hR.cell i hi;have:=hR.l9;have:=hR.len;unfold J8;omega
 obtain⟨n1,e1⟩:=zk.ob _ hh;obtain⟨n2,e2⟩:=k2.ob _ hh;have wob:due (ob w.S (J8 x.S i))=true∧(ob w.S (J8 x.S i)).Prog=0∧(ob w.S (J8 x.S i)).Serial=x.S.Serial+1:=by
  rw[e2,e1,mob];exact⟨rfl,rfl,rfl⟩
 have yst:(ob (quH w (J8 x.S i)).S (J8 x.S i)).Strong=1:=by
  rw[b3u wR win win,if_pos rfl,s2];rfl
 have ylv:Sh.lv (quH w (J8 x.S i)).S = [J8 x.S i]:=by rw[b3t wR win,wlv]
 have yz:zr (quH w (J8 x.S i)) = []:=List.eq_nil_iff_forall_not_mem.2 λk hk=>by
  obtain⟨a,c⟩:=X5.1 hk;rw[ylv,List.mem_singleton] at a;subst a;omega
 have ye:=c4Y d.rt wz wob.1 yz;have ed:er ps z [3,0,0,0]=(V3 w,0,0):=by
  unfold er;rw[d3e,if_neg (by simp)];unfold eo;rw[if_neg (show ¬((3:Int)=11) by decide),if_neg (show ¬((3:Int)=12) by decide),a9j d]
 have oy:Oh (V3 w):=d.nxt.ok;obtain⟨_,y1,y2,y3,y4⟩:=a4z wR win;obtain⟨n3,e3⟩:=b1j wR win win;rw[if_pos rfl] at e3;refine⟨z,V3 w,J8 x.S i,by rw[en,hb];rfl,oz,zser,ed,oy,?_,?_,?_,?_,?_,?_,?_⟩;·rw[ye,ylv]
 ·rw[ye,yst]
 ·rw[ye,e3]
 ·rw[ye,e3];show (ob w.S (J8 x.S i)).Serial=1;rw[wob.2.2,hb];rfl
 ·rw[ye,y4];show w.Q.L ++ [qtk w (J8 x.S i)]=_;rw[wrest.2.2.2,zrest.2.2.2,b.q];show [(⟨1,J8 x.S i,(ob w.S (J8 x.S i)).Prog⟩:g7)]=_;rw[wob.2.1]
 ·rw[ye,y1,wrest.1,zrest.1,b.rt];rfl
 ·rw[ye,c0V wR win,k2.U5,zser]
theorem c4e{y:Hp}{h:Int}(o:On y h){l:List c5}(hl:∀q∈l,q.A≠4∧(q.Kind=3∨q.Kind=10∨q.Kind=6))(hn:l.length≤4):∃u,er [⟨2,4,5,0⟩::l] y [12,200,0,0]=(u,1,0)∧Jn u h∧u.Roots.getD 5 0=0:=by
 have hR:=o.ok.rt.sh.sr;have hq:y.Q.L=(⟨1,h,0⟩:g7) :: []:=o.q;have hin:h∈Sh.lv y.S:=by rw[o.lv];exact List.mem_singleton.2 rfl
 have hh:=E0 hR hin;have hne:h≠0:=λe=>a3S hR (e▸hin);have fk:=b9a o.ok.rt (ts:=[]) h;have fr:=b7t o.ok.rt (ts:=[]) h;have k1:Kin y.S (z1 (unq y []) h).S:=B5 (x:=unq y []) hR h (f:=M0) λc=>A5;have r1e:u6 (unq y []) 5 h=wR (z1 (unq y []) h) (y.Roots.set 5 h):=by
  unfold u6;have g0:(unq y []).Roots.getD 5 0=0:=by show y.Roots.getD 5 0=0;rw[o.ro];rfl
  rw[g0];exact b3V (a3S k1.sr)
 have s1:(ob (z1 (unq y []) h).S h).Strong=2:=by
  have:=a3a (x:=unq y []) hR h (f:=M0) (λc=>A5) hin;rw[if_pos rfl,show (ob (unq y []).S h).Strong=1 from o.st] at this;exact this
 have fe:a4Q y [] h=M9 (wR (z1 (unq y []) h) (y.Roots.set 5 h)) h:=by unfold a4Q;rw[r1e]
 have in2:h∈Sh.lv (wR (z1 (unq y []) h) (y.Roots.set 5 h)).S:=by show h∈Sh.lv (z1 (unq y []) h).S;rw[k1.lv];exact hin
 have k2:Kin (z1 (unq y []) h).S (a4Q y [] h).S:=by rw[fe];exact B5 (x:=wR (z1 (unq y []) h) (y.Roots.set 5 h)) k1.sr h (f:=a1T) λc=>E2
 have s2:(ob (a4Q y [] h).S h).Strong=1:=by
  rw[fe];have:=a3a (x:=wR (z1 (unq y []) h) (y.Roots.set 5 h)) k1.sr h (f:=a1T) (λc=>E2) in2;rw[if_pos rfl,show (ob (wR (z1 (unq y []) h) (y.Roots.set 5 h)).S h).Strong=2 from s1] at this;exact this
 obtain⟨n1,o1⟩:=k1.ob h (by omega);obtain⟨n2,o2⟩:=k2.ob h (by omega);have frt:I8 (a4Q y [] h):=a17 (t:=⟨1,h,0⟩) o.ok.rt hq rfl;have fsl:SL (a4Q y [] h):=b5T o.ok.rt o.ok.sl h;have pe0:pre y ⟨1,h,0⟩ []=V3 (a4Q y [] h):=by unfold pre;exact if_pos rfl
 generalize a4Q y [] h=x1 at frt fsl pe0 fk fr k2 s2 o2;have j:Jb x1 h:=by
  refine⟨frt,fsl,by rw[fk.lv,o.lv],?_,by rw[o2,o1];exact o.sd,by rw[o2,o1];exact o.se,by rw[fr.2.2.2],by rw[fk.U5,o.s1]⟩;rw[s2];unfold cr;rw[fr.1,o.ro];have:((List.replicate 6 (0:Int)).set 5 h).count h=1:=by
   have e:=c3c (l:=List.replicate 6 (0:Int)) (r:=5) (by simp) h h;have e2:(List.replicate 6 (0:Int)).count h=0:=List.count_eq_zero.2 λq=>hne (List.mem_replicate.1 q).2;have e3:(List.replicate 6 (0:Int)).getD 5 0=0:=rfl;rw[e2,e3,if_neg (λq=>hne q.symm),if_pos rfl] at e;omega
  rw[this];rfl
 have c1:1≤cr x1 h:=by rw[←j.st,s2];exact Int.le_refl _
 have pe:pre y ⟨1,h,0⟩ []=x1:=pe0.trans (a1M (j.zr c1));have hc2:w9 2 4 5 0=0:=by kernel_rfl
 have r5:x1.Roots.getD 5 0=h:=by rw[fr.1,o.ro];rfl
 have rz:∀r,r<5→x1.Roots.getD r 0=0:=λr hr=>by
  rw[fr.1,o.ro,a0e (by simp),if_neg (by omega)];have:r=0∨r=1∨r=2∨r=3∨r=4:=by omega
  rcases this with rfl | rfl | rfl | rfl | rfl <;> rfl
 have sd5:Sh.sd x1 5=h:=by
  unfold Sh.sd;rw[if_neg (by decide)];exact r5
 have d:=d2 j.rt j.sl hc2;rw[sd5] at d;obtain⟨j2,ro2⟩:=j.root (r:=4) (by decide) (v:=h) (.inr rfl) (.inl (rz 4 (by decide)));have r6:=j.rt.sh.r6;have jn:Jn (u6 x1 4 h) h:=by
  refine⟨j2,?_,λr hr=>?_,.inr ?_⟩;·rw[ro2,a0e (by omega),if_pos rfl]
  ·rw[ro2,a0e (by omega),if_neg (by omega)];exact rz r (by omega)
  ·rw[ro2,a0e (by omega),if_neg (by decide)];exact r5
 have dc:(dov x1 ⟨2,4,5,0⟩).1=u6 x1 4 h:=by rw[a9j d];exact a1M jn.zr0
 have jl:=jn.ops l hl;have hp:prg [⟨2,4,5,0⟩::l] 0=⟨2,4,5,0⟩::l:=rfl;have rn:ran [⟨2,4,5,0⟩::l] y ⟨1,h,0⟩ []=l.foldl (λy o=>(dov y o).1) (u6 x1 4 h):=by
  unfold ran runs;rw[b8l,pe,show prg [⟨2,4,5,0⟩::l] (⟨1,h,0⟩:g7).Prog=⟨2,4,5,0⟩::l from hp,List.foldl_cons,dc]
 generalize l.foldl (λy o=>(dov y o).1) (u6 x1 4 h)=x2 at jl rn;have jd:=jl.drop (r:=5) (by decide) (by decide);have de:dne [⟨2,4,5,0⟩::l] y ⟨1,h,0⟩ []=u6 x2 5 0:=by
  unfold dne;rw[if_pos rfl,rn];exact a1M jd.zr0
 have cs:cst [⟨2,4,5,0⟩::l] (⟨1,h,0⟩:g7)=2+(l.length:Int):=by
  unfold cst;rw[show prg [⟨2,4,5,0⟩::l] (⟨1,h,0⟩:g7).Prog=⟨2,4,5,0⟩::l from hp,List.length_cons];omega
 have h1:dN [⟨2,4,5,0⟩::l] 1 (y,200)=(u6 x2 5 0,200-(2+(l.length:Int))):=by
  rw[a7W];show nxd _ (y,200)=_;rw[a3W _ (p:=(y,200)) hq,cs,if_pos (by dsimp only;omega),de]
 have hd:dn [⟨2,4,5,0⟩::l] (y,200)=1:=c8I _ (show (0:Int)≤200 by decide) (by rw[h1];exact b7T _ jd.q) λk hk=>by
  obtain rfl:k=0:=by omega
  exact (a9O _ (p:=(y,200)) hq).2 (by rw[cs];show 2+(l.length:Int)≤200;omega)
 have d12:T6 [12,200,0,0]=(⟨12,200,0,0⟩,0):=by kernel_rfl
 refine⟨u6 x2 5 0,?_,jd,?_⟩
 ·unfold er;rw[d12,if_neg (by simp)];unfold eo;rw[if_neg (show ¬((12:Int)=11) by decide),if_pos rfl];unfold dr;rw[hd,h1];unfold dre;dsimp only;rw[jd.q];rfl
 ·rw[(U2 x2 5 0).1,a0e (by have:=jl.rt.sh.r6;omega),if_pos rfl]
theorem c9c{u:Hp}{h:Int}(j:Jn u h)(r5:u.Roots.getD 5 0=0)(ps:List (List c5)):∃v,er ps u [3,4,0,0]=(v,0,0)∧Oh v∧Sh.lv v.S = []∧v.S.Serial=1:=by
 have hc:w9 3 4 0 0=0:=by kernel_rfl
 have de:T6 [3,4,0,0]=(⟨3,4,0,0⟩,0):=by kernel_rfl
 have d:Dn u ⟨3,4,0,0⟩ (u6 u 4 0) 0:=d3 j.rt j.sl hc;obtain⟨jb,ro⟩:=j.toJb.root (r:=4) (by decide) (v:=0) (.inl rfl) (.inr j.r4);have r6:=j.rt.sh.r6;have c0:cr (u6 u 4 0) h=0:=by
  unfold cr;rw[ro,List.count_eq_zero.2 λq=>?_];·rfl
  ·obtain⟨i,hi,e⟩:=List.getElem_of_mem q;have hi6:i<6:=by rw[List.length_set,r6] at hi;exact hi
   have e2:(u.Roots.set 4 0).getD i 0=h:=by rw[List.getD_eq_getElem?_getD,List.getElem?_eq_getElem hi];exact e
   rw[a0e (by omega)] at e2;have h0:=j.h0;by_cases c:i=4
   ·rw[if_pos c] at e2;exact h0 e2.symm
   ·rw[if_neg c] at e2;rcases Nat.lt_or_ge i 4 with q | q
    ·rw[j.rr i q] at e2;exact h0 e2.symm
    ·obtain rfl:i=5:=by omega
     rw[r5] at e2;exact h0 e2.symm
 have wz:=jb.zr1 c0;have wdue:due (ob (u6 u 4 0).S h)=false:=by unfold due;rw[jb.sd];simp
 have hm:∀q ∈ [h],q∈Sh.lv (u6 u 4 0).S:=λq hq=>by rw[jb.lv];exact hq
 have ylv:Sh.lv (buH (u6 u 4 0) [h]).S = []:=by
  rw[b5z jb.rt.sh.sr (by simp) hm,jb.lv];simp
 have yz:zr (buH (u6 u 4 0) [h]) = []:=by unfold zr;rw[ylv];rfl
 have ye:=c4X jb.rt wz wdue yz;refine⟨V3 (u6 u 4 0),?_,d.nxt.ok,by rw[ye];exact ylv,by rw[(a2T jb.rt).U5,jb.s1]⟩;unfold er;rw[de,if_neg (by simp)];unfold eo;rw[if_neg (show ¬((3:Int)=11) by decide),if_neg (show ¬((3:Int)=12) by decide),a9j d]
end Go.Sh
namespace Go.Sh
structure Nm (x:Hp):Prop where
 s1:1≤x.S.Serial
 n:∀k∈lv x.S,2≤(ob x.S k).Serial
theorem Nm.ks{x y:Hp}(h:Nm x)(k:Ks x.S y.S):Nm y:=⟨by rw[k.U5];exact h.s1,λq hq=>by
 rw[k.lv] at hq;rw[k.ob q hq];exact h.n q hq⟩
theorem Nm.stl{x y:Hp}(h:Nm x)(k:Stl x y):Nm y:=⟨by rw[k.U5];exact h.s1,λq hq=>by
 rw[(k.ob q hq).1];exact h.n q (k.lv q hq)⟩
theorem Nm.ev{x y:Hp}(h:Nm x)(k:Ev x y):Nm y:=⟨by have:=k.s1;have:=h.s1;omega,λq hq=>by
 have:=h.s1;rcases k.lv q hq with ⟨a,b⟩ | ⟨a,b⟩;·rw[b];exact h.n q a
 ·rw[b];omega⟩
theorem c9o{ps:List (List c5)}{x:Hp}(hx:Oh x){t:g7}{ts:List g7}(hq:x.Q.L=t::ts)(h:Nm x)(hb:x.S.Serial+(prg ps t.Prog).length<9223372036854775807):Nm (dne ps x t ts):=by
 have hp:Nm (pre x t ts):=by
  unfold pre;split
  ·rename_i k;exact (h.ks (b9a hx.rt t.At)).stl (a2T (a17 hx.rt hq k))
  ·exact⟨h.s1,h.n⟩
 have o:=b6l hx hq;have e:=b2r hx hq;have hr:Nm (ran ps x t ts):=by
  have:=(b3O o.rt o.sl o.zr (prg ps t.Prog) (by rw[e];exact hb) Nm hp (λy o _ _ n hy=>hy.ev n.ev) (prg ps t.Prog).length (Nat.le_refl _)).2.2.2.2.2;rw[List.take_length] at this;exact this
 obtain⟨ro,_,_⟩:=b2C hx hq ps hb;unfold dne;split;·exact (hr.ks (V1 ro.rt.sh.sr 5 0)).stl (a2T (O6 ro.rt (by decide) (.inl rfl)))
 ·exact hr
theorem d03{ps:List (List c5)}{p:Hp × Int}(hx:Oh p.1)(hb:0≤p.2)(hs:p.1.S.Serial+p.2<9223372036854775807)(h:Nm p.1):∀n,Nm (dN ps n p).1:=by
 intro n;induction n with
 | zero=>exact h
 | succ n ih=>
  obtain⟨a1,a2,a3,a4⟩:=b2U ps hx hb hs n;rw[a7W];by_cases c:can ps (dN ps n p)
  ·obtain⟨t,ts,e,q⟩:=c;rw[a3W ps e,if_pos q];refine c9o a1 e ih ?_;unfold cst at q;omega
  ·rw[c6A ps c];exact ih
theorem c36{x:Hp}(ps:List (List c5))(hx:I8 x)(h:Nm x):b0P ⟨x,ps⟩ 1=some false:=by
 unfold b0P;rw[c3j hx,d2I];simp only[jn];have hl:=c1j (x:=x) hx.sh.sr;refine a0A (srs x).length (λk=>True) (by omega) trivial (λk hk _=>.inl ⟨?_,trivial⟩) (λhP=>⟨.inr (),if_neg (by simp),rfl⟩);have:(srs x)[k]≠1:=by
  have hm:=List.getElem_mem hk;generalize (srs x)[k]=v at hm;obtain⟨q,hq,rfl⟩:=List.mem_map.1 hm;have:2≤U5 x q:=h.n q hq;omega
 rw[if_pos (by simpa using hk),n9 hk,d2I,if_neg (by simpa using this),k8]
theorem c5e{l:List (List c5)}(hl:l.length≤12)(hp:∀p∈l,p.length≤12):a7O l=some (psR l):=by
 unfold a7O;simp only[jn];refine N4 l.length (λk acc=>acc=(l.take k).map (List.map opR)) (by omega) (by simp) (λk acc hk hacc=>.inl ⟨_,?_,rfl⟩) (λacc hacc=>⟨_,if_neg (by simp),by rw[hacc,List.take_length]⟩);subst hacc;have hm:=hp _ (List.getElem_mem hk);dsimp only;rw[if_pos (by simpa using hk)];have e:=b9o (b:=32) opR l[k] (by omega) (by omega);simp only[opR] at e;simp only[n9 hk,d2I];rw[e,d2I,u7 (by omega) (by simp;omega),d2I,k8,List.take_succ_eq_append_getElem hk,List.map_append];rfl
theorem c6y{k:Nat}(hk:1≤k∧k≤24)(m:Int):Fst (nwH k m 8).S 0:=by
 refine⟨by simp[nwH];omega,?_,λj hj=>absurd hj (Nat.not_lt_zero _)⟩;unfold ce nwH;have:0<k:=by omega
 simp[List.getD_eq_getElem?_getD,List.getElem?_replicate,this]
theorem topOnce{n:Int}{l:List c5}(h0:0≤n)(h1:n≤255)(hL:l.length≤1048576):a6z n l=some true:=by
 unfold a6z;by_cases h4:l.length≤4
 ·have c4:(decide ((l.length:Int) > 4))=false:=by simp;omega
  have a1:app 32 ([]:List c5) [(⟨2,4,5,0⟩:c5)]=some [⟨2,4,5,0⟩]:=by rw[u7 (by decide) (by decide)];rfl
  have a2:app 32 [(⟨2,4,5,0⟩:c5)] l=some (⟨2,4,5,0⟩::l):=by rw[u7 (by decide) (by simp;omega)];rfl
  have hp1:∀p ∈ [(⟨2,4,5,0⟩:c5)::l],p.length≤12:=λp hp=>by
   rw[List.mem_singleton.1 hp,List.length_cons];omega
  have a3:a7O [(⟨2,4,5,0⟩:c5)::l]=some (psR [(⟨2,4,5,0⟩:c5)::l]):=c5e (by simp) hp1;have a4:a2h (psR [(⟨2,4,5,0⟩:c5)::l])=some (a24 [(⟨2,4,5,0⟩:c5)::l]):=b3p (by simp) hp1;rw[a1,d2I,a2,d2I,c4];simp only[beq_self_eq_true,a3d,a3,d2I,a4];cases hq:a24 [(⟨2,4,5,0⟩:c5)::l];·simp[y7,b6P]
  ·simp only[Bool.not_true,Bool.or_self,beq_self_eq_true,a3d,b6P,d2I,Bool.false_eq_true,if_false,jn];refine a0A l.length (λk=>∀i,i<k→∀(h:i<l.length),(l[i]).A≠4∧((l[i]).Kind=3∨(l[i]).Kind=10∨(l[i]).Kind=6)) (by omega) (λi hi=>by omega) (λk hk hP=>?_) (λhP=>⟨.inr (),if_neg (by simp),?_⟩)
   ·rw[if_pos (by simpa using hk),n9 hk,d2I];by_cases e:(l[k]).A≠4∧((l[k]).Kind=3∨(l[k]).Kind=10∨(l[k]).Kind=6)
    ·left;refine⟨?_,λi hi h=>?_⟩
     ·rw[if_neg,k8];simp;exact⟨e.1,λa b=>(e.2.resolve_left a).resolve_left b⟩
     ·rcases Nat.lt_or_ge i k with q | q
      ·exact hP i q h
      ·obtain rfl:i=k:=by omega
       exact e
    ·right;refine⟨.inl true,?_,rfl⟩;rw[if_pos];simp;by_cases q:(l[k]).A=4
     ·exact .inl q
     ·refine .inr ⟨⟨λr=>e ⟨q,.inl r⟩,λr=>e ⟨q,.inr (.inl r)⟩⟩,λr=>e ⟨q,.inr (.inr r)⟩⟩
   ·have hl:∀q∈l,q.A≠4∧(q.Kind=3∨q.Kind=10∨q.Kind=6):=λq hq=>by
     obtain⟨i,hi,rfl⟩:=List.getElem_of_mem hq;exact hP i hi hi
    obtain⟨k,hk⟩:∃k:Nat,1+n % 24=k:=⟨(1+n % 24).toNat,by omega⟩;have hw:u5 (1+n % 24)=(k:Int):=by rw[C3 (by omega) (by omega)];exact hk
    have hk2:1≤k∧k≤24:=by omega
    dsimp only;rw[d1g h0 h1 (by decide),d2I,hw];simp only[d1o,d2I];rcases c7R (n:=(k:Int)) (last:=9) (places:=8) (ps:=[(⟨2,4,5,0⟩:c5)::l]) (by simp) hp1 with ⟨e,e1,e2,h⟩ | ⟨k',p,g1,g2,_,hm,hr,e1,_⟩
    ·exfalso;rcases h with h | ⟨_,h⟩
     ·subst h;have hqq:a0Y [(⟨2,4,5,0⟩:c5)::l]=some (a24 [(⟨2,4,5,0⟩:c5)::l]):=b73 (by simp) hp1;unfold Y8 at e1;rw[hqq,hq,d2I] at e1;simp only[Bool.not_true,Bool.false_eq_true,if_false] at e1;cases hn:a2F k 9 8 with
      | none=>rw[hn] at e1;cases e1
      | some y=>
       rw[hn,d2I] at e1;split at e1
       ·have:(1:Int)=13:=congrArg (λz=>(z.getD (⟨b54,[]⟩,0)).2) e1;exact absurd this (by decide)
       ·have:(0:Int)=13:=congrArg (λz=>(z.getD (⟨b54,[]⟩,0)).2) e1;exact absurd this (by decide)
     ·exact h ⟨by omega,by decide,by decide,by decide⟩
    ·obtain rfl:k=k':=by omega
     obtain rfl:p=8:=by omega
     obtain⟨b0,_⟩:=c8A hk2 (m:=9) (by decide) hr;obtain⟨z,y,h,q1,oz,zs,q2,on⟩:=c9z b0 rfl (c6y hk2 9) [(⟨2,4,5,0⟩:c5)::l];obtain⟨u,q3,ju,r5⟩:=c4e on hl h4;obtain⟨v,q4,ov,vl,vs⟩:=c9c ju r5 [(⟨2,4,5,0⟩:c5)::l];have us:=ju.s1;have hRs:ers [(⟨2,4,5,0⟩:c5)::l] (nwH k 9 8) [[1,0,0,0],[3,0,0,0],[12,200,0,0]]=(u,[(1,0),(0,0),(1,0)]):=by
      unfold ers;simp only[List.foldl_cons,List.foldl_nil,q1,q2,q3,List.nil_append,List.cons_append]
     rw[e1,d2I];dsimp only;rw[c8N hm hr.oh _ (by decide) (by show (0:Int)<_;decide),hRs,d2I];dsimp only;rw[c8N hm ju.oh _ (by decide) (by rw[us];decide),d2I];have hR2:ers [(⟨2,4,5,0⟩:c5)::l] u [[3,4,0,0],[12,200,0,0]]=((er [(⟨2,4,5,0⟩:c5)::l] v [12,200,0,0]).1,[(0,0),(er [(⟨2,4,5,0⟩:c5)::l] v [12,200,0,0]).2]):=by
      unfold ers;simp only[List.foldl_cons,List.foldl_nil,q4,List.nil_append,List.cons_append]
     rw[hR2];have nv:Nm v:=⟨by rw[vs];exact Int.le_refl _,λq hq=>by rw[vl] at hq;cases hq⟩;have d12:T6 [12,200,0,0]=(⟨12,200,0,0⟩,0):=by kernel_rfl
     have nf:Nm (er [(⟨2,4,5,0⟩:c5)::l] v [12,200,0,0]).1:=by
      unfold er;rw[d12,if_neg (by simp)];unfold eo;rw[if_neg (show ¬((12:Int)=11) by decide),if_pos rfl];exact d03 (p:=(v,200)) ov (show (0:Int)≤200 by decide) (by show v.S.Serial+200<_;omega) nv _
     obtain⟨of,_⟩:=c7B hm ov (by omega) [12,200,0,0];have hs:srs u = [1]:=by
      unfold srs;rw[ju.lv];show [(ob u.S h).Serial] = [1];rw[ju.se]
     have i2:a2M [1] [1]=some true:=b9m (by decide);simp only[List.map_cons,List.map_nil,anE];rw[show a0b ⟨u,[(⟨2,4,5,0⟩:c5)::l]⟩=some [1] from by rw[c3j ju.rt,hs]];rw[c36 [(⟨2,4,5,0⟩:c5)::l] of.rt nf];rw[show ix [(⟨1,0⟩:l4),⟨0,0⟩,⟨1,0⟩] 2=some ⟨1,0⟩ from rfl];simp[y7,i2]
 ·have c4:(decide ((l.length:Int) > 4))=true:=by simp;omega
  have a1:app 32 ([]:List c5) [(⟨2,4,5,0⟩:c5)]=some [⟨2,4,5,0⟩]:=by rw[u7 (by decide) (by decide)];rfl
  have a2:app 32 [(⟨2,4,5,0⟩:c5)] l=some (⟨2,4,5,0⟩::l):=by rw[u7 (by decide) (by simp;omega)];rfl
  rw[a1,d2I,a2,d2I,c4];simp[y7,b6P]
end Go.Sh
