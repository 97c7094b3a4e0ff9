/-
 More of the theory.
-/
import Derived.Test.YtjpgbnlcefhaiaaGreatW24wT2
set_option linter.unusedVariables false
set_option linter.unusedSimpArgs false
set_option linter.unusedSectionVars false
namespace Go.Sh
theorem c26{c:Int}(h:0≤c):1≤Q2 c:=by unfold Q2;split <;> (try split) <;> omega
theorem b85{x:Hp}(hR:SR x.S){h:Int}(hh:h∈lv x.S){k:Int}(hk:k∈lv x.S):(ob (quH x h).S k).Strong=if k=h then Q2 (ob x.S k).Strong else (ob x.S k).Strong:=by
 have oko:=H0 hR hh;have ho:OkO x.S (srt (ob x.S h)):=⟨oko.s1,oko.s2,oko.st,oko.wk,oko.p1,oko.p2,oko.fl⟩;have r1:=a0h (o:=srt (ob x.S h)) hR hh rfl ho;have l1:lv (seO x.S h (srt (ob x.S h)))=lv x.S:=a2M (o:=srt (ob x.S h)) hR hh rfl ho;have hr:=G4 hR hk;have e1:(ob (seO x.S h (srt (ob x.S h))) k).Strong=(ob x.S k).Strong:=by
  rw[a10 (o:=srt (ob x.S h)) hR hh rfl ho (by omega)];split;·rename_i e;subst e;rfl
  ·rfl
 have:=b1c (x:=⟨seO x.S h (srt (ob x.S h)),x.Roots,x.a8,x.T,⟨x.Q.L ++ [qtk x h],x.Q.Cap⟩⟩) r1 (h:=h) (f:=Q2) (λc=>B1) (k:=k) (by
  show k∈lv (seO x.S h (srt (ob x.S h)));rw[l1];exact hk)
 rw[show (ob (quH x h).S k).Strong=_ from this];show (if k=h then Q2 (ob (seO x.S h (srt (ob x.S h))) k).Strong else (ob (seO x.S h (srt (ob x.S h))) k).Strong)=_;rw[e1]
theorem c8T{x:Hp}(hx:K1 x)(hz:zr x = []){h:Int}(hh:h∈lv x.S):zr (quH x h) = []:=List.eq_nil_iff_forall_not_mem.2 λk hk=>by
 obtain⟨a,b⟩:=a0O.1 hk;rw[b5X hx.sh.sr hh] at a;rw[b85 hx.sh.sr hh a] at b;have h0:=(H0 hx.sh.sr a).st;have hn:(ob x.S k).Strong≠0:=λq=>by
  have:k∈zr x:=a0O.2 ⟨a,q⟩;rw[hz] at this;cases this
 split at b;·have:=c26 h0;omega
 ·exact hn b
structure Qd (x y:Hp) (l:List Int):Prop where
 rt:K1 y
 sl:SL y
 zr:zr y = []
 lv:lv y.S=lv x.S
 ob:∀k∈Sh.lv x.S,∃n,Sh.ob y.S k=stg (if k∈l then srt (Sh.ob x.S k) else Sh.ob x.S k) n
 ro:y.Roots=x.Roots
 ce:y.a8=x.a8
 t:y.T=x.T
 q:y.Q=⟨x.Q.L++l.map (qtk x),x.Q.Cap⟩
 Z9:y.S.Serial=x.S.Serial
theorem c6a{x:Hp}(hR:SR x.S){h:Int}(hh:h∈lv x.S):(quH x h).S.Serial=x.S.Serial:=(a5M hR hh).1.Z9
theorem b86:∀(l:List Int) {x:Hp},K1 x→SL x→Sh.zr x = []→l.Nodup→(∀h∈l,h∈Sh.lv x.S∧due (Sh.ob x.S h)=true)→Qd x (l.foldl quH x) l
 | [],x,hx,hS,hz,_,_=>⟨hx,hS,hz,rfl,λk hk=>⟨(Sh.ob x.S k).Strong,by rw[if_neg (by simp)];rfl⟩,rfl,rfl,rfl,by simp,rfl⟩
 | h::l,x,hx,hS,hz,hn,hd=>by
  obtain⟨hl,hdu⟩:=hd h (List.mem_cons_self ..);have hR:=hx.sh.sr;rw[List.nodup_cons] at hn;have q2:=hdu;unfold due at q2;rw[Bool.and_eq_true,decide_eq_true_iff,Bool.not_eq_true'] at q2;have h1:=b0T hx hl q2.1 q2.2;have h2:=c3Y hR hS hl;have h3:=c8T hx hz hl;have lq:=b5X hR hl;have oq:∀k∈Sh.lv x.S,k≠h→∃n,Sh.ob (quH x h).S k=stg (Sh.ob x.S k) n:=λk hk hne=>by
   obtain⟨n,e⟩:=b22 hR hl hk;rw[if_neg hne] at e;exact⟨n,e⟩
  have ih:=b86 l h1 h2 h3 hn.2 λk hk=>by
   obtain⟨a,b⟩:=hd k (List.mem_cons_of_mem _ hk);obtain⟨n,e⟩:=oq k a λe=>hn.1 (e▸hk);refine⟨by rw[lq];exact a,?_⟩;rw[e];exact b
  obtain⟨_,k1,k2,k3,k4⟩:=a5M hR hl;refine⟨ih.rt,ih.sl,ih.zr,ih.lv.trans lq,λk hk=>?_,ih.ro.trans k1,ih.ce.trans k2,ih.t.trans k3,?_,ih.Z9.trans (c6a hR hl)⟩
  ·obtain⟨n,e⟩:=ih.ob k (by rw[lq];exact hk);obtain⟨m,e2⟩:=b22 hR hl hk;refine⟨n,?_⟩;show Sh.ob (l.foldl quH (quH x h)).S k=_;rw[e];by_cases c:k=h
   ·subst c;rw[if_neg hn.1,if_pos (List.mem_cons_self ..),e2,if_pos rfl]
   ·rw[if_neg c] at e2;by_cases c2:k∈l
    ·rw[if_pos c2,if_pos (List.mem_cons_of_mem _ c2),e2]
    ·rw[if_neg c2,if_neg (λq=>by
      rcases List.mem_cons.1 q with r | r
      ·exact c r
      ·exact c2 r),e2]
  ·show (l.foldl quH (quH x h)).Q=_;rw[ih.q,k4];have:l.map (qtk (quH x h))=l.map (qtk x):=List.map_congr_left λk hk=>by
    obtain⟨a,_⟩:=hd k (List.mem_cons_of_mem _ hk);obtain⟨n,e⟩:=oq k a λe=>hn.1 (e▸hk);show (⟨1,k,(Sh.ob (quH x h).S k).Prog⟩:g7)=⟨1,k,(Sh.ob x.S k).Prog⟩;rw[e]
   rw[this];simp
noncomputable def btc(x:Hp):List Int:=(gbg x).filter λh=>due (Sh.ob x.S h)
noncomputable def col(x:Hp):Hp:=if btc x = [] then buH x (gbg x) else (btc x).foldl quH x
theorem b46{x:Hp}:∀h∈btc x,h∈Sh.lv x.S∧due (Sh.ob x.S h)=true:=λh hh=>by
 obtain⟨a,b⟩:=List.mem_filter.1 hh;exact⟨(Y4.1 a).1,b⟩
theorem c2l{x:Hp}(hx:K1 x):(btc x).Nodup:=List.Pairwise.filter _ (a2D hx)
theorem c2m{x:Hp}(hx:K1 x)(hS:SL x)(hz:zr x = []):Qd x ((btc x).foldl quH x) (btc x):=b86 _ hx hS hz (c2l hx) b46
theorem b5b{x:Hp}(hx:K1 x)(hS:SL x)(hz:zr x = []):K1 (col x)∧SL (col x)∧zr (col x) = []:=by
 unfold col;split;·exact⟨U1 hx,c2n hx.sh.sr hS (a2D hx) (a1P hx),b6T (U1 hx) (b64 hx)⟩
 ·have q:=c2m hx hS hz;exact⟨q.rt,q.sl,q.zr⟩
end Go.Sh
namespace Go.Sh
theorem c2y{y:Hp}(h:btc y = []):col y=buH y (gbg y):=by
 unfold col;rw[if_pos h]
section
variable{x:Hp}(hx:K1 x)
include hx
end
end Go.Sh
namespace Go.Sh
structure Rs (x:Hp) (n:Nat):Prop where
 rt:K1 x
 sl:SL x
 zr:zr x = []
 Z9:x.S.Serial≤n
end Go.Sh
namespace Go.Sh
section
variable{x:Hp}(hx:K1 x)(hS:SL x)
include hx hS
theorem c2p:M7 x=some (gbg x):=by
 have hB:=c6W hx hS;unfold M7;rw[b8I (p8.2 hx.sh.sr) hx.sh.hr hB.tb hB.fb hB.sb];rfl
theorem c6P:a4d (hO x)=some (gbg x):=by
 have hB:=c6W hx hS;unfold a4d;rw[show (hO x).S=sO x.S from rfl,show (hO x).T=x.T.map J3 from rfl,b5u (p8.2 hx.sh.sr) hx.sh.hr hB.tb hB.sb];rfl
theorem a9z:(gbg x).length≤24:=Nat.le_trans (List.length_filter_le ..) (E3 (p8.2 hx.sh.sr))
theorem c7L:a17 x=some (btc x):=by
 have hR:=hx.sh.sr;have hl:=a9z hx hS;unfold a17;rw[c2p hx hS,d1G];unfold E2;simp only[jn];refine bnd (a:=btc x) ?_ rfl;refine P0 (gbg x).length (λk b=>b=((gbg x).take k).filter λh=>due (Sh.ob x.S h)) (by omega) rfl (λk b hk hP=>?_) (λb hP=>?_)
 ·subst hP;have hm:=a1P hx _ (List.getElem_mem hk);have hle:(((gbg x).take k).filter λh=>due (Sh.ob x.S h)).length≤24:=Nat.le_trans (List.length_filter_le ..) (by simp;omega);refine .inl ⟨_,?_,rfl⟩;rw[if_pos (by simpa using hk),n7 hk,d1G,J5 hk,List.filter_append];unfold a2C;rw[b0I hR hm,d1G,d1G];have e:(decide ((ob x.S (gbg x)[k],(0:Int)).1.Prog≥0) && !(ob x.S (gbg x)[k],(0:Int)).1.Started)=due (ob x.S (gbg x)[k]):=rfl;rw[e];cases hd:due (ob x.S (gbg x)[k])
  ·rw[if_neg (by simp),k8];simp[hd]
  ·rw[if_pos rfl,x8 (by omega) (by simp;omega),d1G,k8];simp[hd]
 ·subst hP;refine⟨_,if_neg (by simp),?_⟩;rw[List.take_length];rfl
theorem c9C:b01 (hO x)=some (btc x):=by
 have hR:=hx.sh.sr;have hl:=a9z hx hS;unfold b01;rw[c6P hx hS,d1G];simp only[jn];refine P0 (gbg x).length (λk b=>b=((gbg x).take k).filter λh=>due (Sh.ob x.S h)) (by omega) rfl (λk b hk hP=>?_) (λb hP=>?_)
 ·subst hP;have hm:=a1P hx _ (List.getElem_mem hk);have hle:(((gbg x).take k).filter λh=>due (Sh.ob x.S h)).length≤24:=Nat.le_trans (List.length_filter_le ..) (by simp;omega);refine .inl ⟨_,?_,rfl⟩;rw[if_pos (by simpa using hk),n7 hk,d1G,J5 hk,List.filter_append,c2E hx hS (a1f hR hm),d1G,decide_eq_true hm,Bool.true_and];cases hd:due (ob x.S (gbg x)[k])
  ·rw[if_neg (by simp),k8];simp[hd]
  ·rw[if_pos rfl,x8 (by omega) (by simp;omega),d1G,k8];simp[hd]
 ·subst hP;refine⟨_,if_neg (by simp),?_⟩;rw[List.take_length];rfl
noncomputable def cgn(x:Hp):Int:=if btc x = [] then ((lv x.S).length:Int)-((lv (col x).S).length:Int) else 0
omit hx hS in
theorem c3i {l:List Int} (hn:l.Nodup) (hm:∀d∈l,d∈lv x.S):lvo x l=l:=by
 have key:∀(l b:List Int),(b++l).Nodup→(∀d∈l,d∈lv x.S)→l.foldl (λb h=>if h∈lv x.S∧h∉b then b ++ [h] else b) b=b++l:=by
  intro l;induction l with
  | nil=>intro b _ _;simp
  | cons a l ih=>
   intro b hn hm;rw[List.foldl_cons];have ha:a∉b:=λq=>by
    rw[List.nodup_append] at hn;exact hn.2.2 a q a (List.mem_cons_self ..) rfl
   rw[if_pos ⟨hm a (List.mem_cons_self ..),ha⟩,ih (b ++ [a]) (by simpa using hn) λd hd=>hm d (List.mem_cons_of_mem _ hd)];simp
 exact key l [] (by simpa using hn) hm
variable(hz:zr x = [])
include hz
theorem c0K{k:Nat}(hk:k<(btc x).length):(((btc x).take k).foldl quH x)=(((btc x).take k).foldl quH x)∧K1 (((btc x).take k).foldl quH x)∧SL (((btc x).take k).foldl quH x)∧(btc x)[k]∈lv (((btc x).take k).foldl quH x).S∧due (ob (((btc x).take k).foldl quH x).S (btc x)[k])=true:=by
 have hn:=c2l hx;have q:=b86 ((btc x).take k) hx hS hz ((List.take_sublist ..).nodup hn) λh hh=>b46 h (List.mem_of_mem_take hh);obtain⟨a,b⟩:=b46 (btc x)[k] (List.getElem_mem hk);refine⟨rfl,q.rt,q.sl,by rw[q.lv];exact a,?_⟩;obtain⟨n,e⟩:=q.ob _ a;have hnot:(btc x)[k]∉(btc x).take k:=λh=>by
  have:=J5 hk;have hs:((btc x).take (k+1)).Nodup:=(List.take_sublist ..).nodup hn;rw[this,List.nodup_append] at hs;exact hs.2.2 _ h _ (List.mem_singleton_self _) rfl
 rw[e,if_neg hnot];exact b
theorem b47:(btc x).length≤24:=Nat.le_trans (List.length_filter_le ..) (a9z hx hS)
theorem c7P:T4 x=some (col x,((btc x).length:Int),cgn x):=by
 have hR:=hx.sh.sr;have hl:=b47 hx hS hz;obtain⟨c1,c2,c3⟩:=b5b hx hS hz;unfold T4;rw[c7L hx hS,d1G];simp only[jn];refine P0 (btc x).length (λk b=>b=((btc x).take k).foldl quH x) (by omega) rfl (λk b hk hP=>?_) (λb hP=>?_)
 ·subst hP;obtain⟨_,r1,r2,r3,r4⟩:=c0K hx hS hz hk;refine .inl ⟨_,?_,rfl⟩;rw[if_pos (by simpa using hk),n7 hk,d1G,b4J r1 r2 (a1f r1.sh.sr r3),d1G,k8,J5 hk,List.foldl_append];unfold quD;rw[if_pos ⟨r3,r4⟩];rfl
 ·subst hP;refine⟨_,if_neg (by simp),?_⟩;rw[List.take_length];by_cases hb:btc x = []
  ·have e:col x=buH x (gbg x):=c2y hb;rw[if_neg (by simp[hb])];unfold cgn;rw[if_pos hb,e,hb];have h1:=a2D hx;have h2:=a1P hx;have hlive:=a2b (p8.2 hR);have hlive2:=a2b (p8.2 (U1 hx).sh.sr);have l1:=E3 (p8.2 hR);have l2:=E3 (p8.2 (U1 hx).sh.sr);show (M7 x).bind _=_;rw[c2p hx hS,d1G,List.foldl_nil,b9L hx h1 h2 (c0y hx) (by rw[a9O hR _ (by have:=a9z hx hS;omega) λh hh=>a1f hR (h2 h hh),c3i h1 h2]),d1G,a3j (U1 hx) (by rw[←e];exact c2),d1G,b2I hx,hlive,d1G,hlive2,d1G,B8 (by omega) (by omega)];rfl
  ·have:0<(btc x).length:=List.length_pos_iff.2 hb;rw[if_pos (by simp;omega)];unfold cgn col;rw[if_neg hb,if_neg hb]
theorem c9E:a7a (hO x)=some (hO (col x),((btc x).length:Int),cgn x):=by
 have hR:=hx.sh.sr;have hl:=b47 hx hS hz;obtain⟨c1,c2,c3⟩:=b5b hx hS hz;unfold a7a;rw[c9C hx hS,d1G];simp only[jn];by_cases hb:btc x = []
 ·have e:col x=buH x (gbg x):=c2y hb;rw[if_neg (by simp[hb])];unfold cgn;rw[if_pos hb,e,hb];have h1:=a2D hx;have h2:=a1P hx;have hlive:=a8Y (p8.2 hR);have hlive2:=a8Y (p8.2 (U1 hx).sh.sr);have l1:=E3 (p8.2 hR);have l2:=E3 (p8.2 (U1 hx).sh.sr);rw[c6P hx hS,d1G,b4f hx h1 h2 (c0y hx) (by rw[c2F hR _ (by have:=a9z hx hS;omega) λh hh=>a1f hR (h2 h hh),c3i h1 h2]),d1G,a40 (U1 hx) (by rw[←e];exact c2),d1G,b2I hx,show (hO x).S=sO x.S from rfl,hlive,d1G,show (hO (buH x (gbg x))).S=sO (buH x (gbg x)).S from rfl,hlive2,d1G,B8 (by omega) (by omega)];rfl
 ·have hp:0<(btc x).length:=List.length_pos_iff.2 hb;rw[if_pos (by simp;omega)];refine P0 (btc x).length (λk b=>b=hO (((btc x).take k).foldl quH x)) (by omega) rfl (λk b hk hP=>?_) (λb hP=>?_)
  ·subst hP;obtain⟨_,r1,r2,r3,r4⟩:=c0K hx hS hz hk;refine .inl ⟨_,?_,rfl⟩;rw[if_pos (by simpa using hk),n7 hk,d1G,b7B r1 r2 (a1f r1.sh.sr r3),d1G,k8,J5 hk,List.foldl_append];unfold quD;rw[if_pos ⟨r3,r4⟩];rfl
  ·subst hP;refine⟨_,if_neg (by simp),?_⟩;rw[List.take_length];unfold cgn col;rw[if_neg hb,if_neg hb]
end
end Go.Sh
namespace Go.Sh
theorem c5i{x:Hp}(hx:K1 x)(hS:SL x)(hz:zr x = []):(col x).S.Serial=x.S.Serial:=by
 unfold col;split
 ·have g:=a1b (gbg x) hx.sh.sr (a2D hx) (a1P hx);exact (a3F ((gbg x).flatMap (outs x.S)++(wot x.T (gbg x)).2) (x:=a3O x (gbg x) (wot x.T (gbg x)).1) g.sr).1.Z9.trans g.Z9
 ·exact (c2m hx hS hz).Z9
end Go.Sh
namespace Go.Sh
def Sv(s s':a7):Prop:=s'.S.a8.length=s.S.a8.length∧∀i,i<s.S.a8.length→(ce s i).Gen≤(ce s' i).Gen∧((ce s' i).Gen=(ce s i).Gen→((ce s i).State≠0→(ce s' i).State≠0)∧((ce s' i).State=1→(ce s i).State=0∨((ce s i).State=1∧((ce s i).Val.Started=true→(ce s' i).Val.Started=true))))
theorem Sv.refl(s:a7):Sv s s:=⟨rfl,λi _=>⟨Int.le_refl _,λ_=>⟨id,λh=>.inr ⟨h,id⟩⟩⟩⟩
theorem Sv.trans{a b c:a7}(h:Sv a b)(q:Sv b c):Sv a c:=by
 obtain⟨h1,h2⟩:=h;obtain⟨q1,q2⟩:=q;refine⟨q1.trans h1,λi hi=>?_⟩;obtain⟨a1,a2⟩:=h2 i hi;obtain⟨b1,b2⟩:=q2 i (by omega);refine⟨by omega,λe=>?_⟩;obtain⟨a3,a4⟩:=a2 (by omega);obtain⟨b3,b4⟩:=b2 (by omega);refine⟨λh=>b3 (a3 h),λh=>?_⟩;rcases b4 h with r | ⟨r,r'⟩
 ·exact .inl (Classical.byContradiction λn=>a3 n r)
 ·rcases a4 r with k | ⟨k,k'⟩
  ·exact .inl k
  ·exact .inr ⟨k,λs=>r' (k' s)⟩
def b9z(s:a7)(h:Int):Prop:=∃(i:Nat) (g:Int),i<s.S.a8.length∧h=1+(i:Int)+32*g∧(g<(ce s i).Gen∨(g=(ce s i).Gen∧(ce s i).State≠0∧((ce s i).State=1→(ce s i).Val.Started=true)))
theorem Sv.d0l{s s':a7}(h:Sv s s'){k:Int}(q:b9z s k):b9z s' k:=by
 obtain⟨i,g,hi,e,q⟩:=q;obtain⟨h1,h2⟩:=h;obtain⟨a,b⟩:=h2 i hi;refine⟨i,g,by omega,e,?_⟩;rcases q with q | ⟨q1,q2,q3⟩
 ·exact .inl (by omega)
 ·by_cases c:(ce s' i).Gen=(ce s i).Gen
  ·obtain⟨b1,b2⟩:=b c;refine .inr ⟨by omega,b1 q2,λr=>?_⟩;rcases b2 r with k | ⟨k1,k2⟩
   ·exact absurd k q2
   ·exact k2 (q3 k1)
  ·exact .inl (by omega)
theorem c1D{s:a7}(hR:SR s){h:Int}(hh:h∈lv s)(hs:(ob s h).Started=false):¬b9z s h:=by
 rintro⟨i,g,hi,e,q⟩;obtain⟨j,hj⟩:=(a2Q hR).1 hh;have hl:=hR.len;have hij:i=j:=by
  have:=hj.2.2;have:=hj.1;omega
 subst hij;have:=hj.2.2;rcases q with q | ⟨q1,q2,q3⟩
 ·omega
 ·rw[M5 hR hj,q3 hj.2.1] at hs;cases hs
theorem Kin.sv{s s':a7}(hR:SR s)(k:Kin s s'):Sv s s':=⟨k.len,λi hi=>by
 obtain⟨a,b,_,_,_⟩:=k.ce i hi;refine⟨by omega,λ_=>⟨by omega,λh=>.inr ⟨by omega,λq=>?_⟩⟩⟩;have h1:At s (hdl s i) i:=⟨hi,by omega,rfl⟩;have h2:At s' (hdl s i) i:=⟨by rw[k.len];exact hi,h,by rw[b];rfl⟩;have hl:=G4 hR ((a2Q hR).2 ⟨i,h1⟩);obtain⟨n,e⟩:=k.ob (hdl s i) (by omega);rw[M5 k.sr h2,M5 hR h1] at e;rw[e];exact q⟩
theorem c4k{s:a7}(hR:SR s){h:Int}(hh:h∈lv s){o:l4}(hs:o.Serial=(ob s h).Serial)(ho:OkO s o)(hst:(ob s h).Started=true→o.Started=true):Sv s (seO s h o):=⟨c0E s h o,λi hi=>by
 have q:=u4 hR hh;rw[b6j hR hh hs ho];split
 ·rename_i e;subst e;refine⟨Int.le_refl _,λ_=>⟨id,λr=>.inr ⟨q.2.1,λk=>hst ?_⟩⟩⟩;rw[M5 hR q];exact k
 ·exact⟨Int.le_refl _,λ_=>⟨id,λr=>.inr ⟨r,id⟩⟩⟩⟩
theorem c3m{s:a7}(hR:SR s){i:Nat}(hi:i<s.S.a8.length)(ht:Th (ce s i))(d:Int):Sv s (mkA s i d):=⟨J4 ..,λj hj=>by
 rw[a2H hR hi ht];split
 ·rename_i e;subst e;exact⟨Int.le_refl _,λ_=>⟨id,λr=>.inr ⟨r,id⟩⟩⟩
 ·exact⟨Int.le_refl _,λ_=>⟨id,λr=>.inr ⟨r,id⟩⟩⟩⟩
theorem c79{s:a7}{i:Nat}(hi:i<s.S.a8.length):Sv s (gvA s i):=⟨T8 ..,λj hj=>by
 unfold gvA;rw[H6 hi];by_cases e:j=i
 ·subst e;rw[if_pos rfl];split;·exact⟨Int.le_refl _,λ_=>⟨λ_=>(by decide:(3:Int)≠0),λr=>absurd (show (3:Int)=1 from r) (by decide)⟩⟩
  ·refine⟨by show _≤(ce s j).Gen+1;omega,λr=>?_⟩;have:(ce s j).Gen+1=(ce s j).Gen:=r;omega
 ·rw[if_neg e];exact⟨Int.le_refl _,λ_=>⟨id,λr=>.inr ⟨r,id⟩⟩⟩⟩
theorem Gn.sv{s s':a7}{ds:List Int}(g:Gn s s' ds):Sv s s':=⟨g.len,λj hj=>by
 rw[g.ce];split
 ·unfold gnC;split
  ·split;·exact⟨Int.le_refl _,λ_=>⟨λ_=>(by decide:(3:Int)≠0),λr=>absurd (show (3:Int)=1 from r) (by decide)⟩⟩
   ·refine⟨by show _≤(Sh.ce s j).Gen+1;omega,λr=>?_⟩;have:(Sh.ce s j).Gen+1=(Sh.ce s j).Gen:=r;omega
  ·exact⟨Int.le_refl _,λ_=>⟨λ_=>(by decide:(2:Int)≠0),λr=>absurd (show (2:Int)=1 from r) (by decide)⟩⟩
 ·exact⟨Int.le_refl _,λ_=>⟨id,λr=>.inr ⟨r,id⟩⟩⟩⟩
theorem c9Z{s:a7}(hR:SR s){i:Nat}(hi:i<s.S.a8.length)(h0:(ce s i).State=0){n:Nat}(hn:n≤4){p:Int}(hp : -1≤p∧p≤5):Sv s (mkS s i n p):=⟨a4u hR hi h0 hn hp,λj hj=>by
 rw[a6k hR hi h0 hn hp];split
 ·rename_i e;subst e;exact⟨Int.le_refl _,λ_=>⟨λr=>absurd h0 r,λ_=>.inl h0⟩⟩
 ·exact⟨Int.le_refl _,λ_=>⟨id,λr=>.inr ⟨r,id⟩⟩⟩⟩
theorem b9h{x:Hp}(hR:SR x.S)(h:Int):Sv x.S (A1 x h).S:=(D2 hR h (f:=Q2) λc=>B1).sv hR
theorem b6d{x:Hp}(hR:SR x.S)(h:Int):Sv x.S (M6 x h).S:=(D2 hR h (f:=a4D) λc=>K5).sv hR
theorem b7L{x:Hp}(hR:SR x.S)(r:Nat)(h:Int):Sv x.S (D1 x r h).S:=
 (b9h hR h).trans (b6d (x:=wR (A1 x h) (x.Roots.set r h)) (a2L hR h) _)
theorem c07{x:Hp}(hR:SR x.S){h:Int}(hh:h∈lv x.S){n:Nat}(hn:n<(ob x.S h).Fields.length)(v:Int):Sv x.S (a0D x h n v).S:=by
 have k1:=b6g hR v;have hh1:h∈lv (A1 x v).S:=by rw[k1.lv];exact hh
 have hof:(ob (A1 x v).S h).Fields=(ob x.S h).Fields:=by
  obtain⟨n,e⟩:=(D2 hR v (f:=Q2) λc=>B1).ob h (by have:=G4 hR hh;omega);show (ob (stO x v Q2).S h).Fields=_;rw[e]
 have ho:OkO (A1 x v).S (flg (ob (A1 x v).S h) ((ob x.S h).Fields.set n v)):=by
  have:=H0 k1.sr hh1;refine⟨this.s1,this.s2,this.st,this.wk,this.p1,this.p2,?_⟩;have h4:=this.fl;rw[hof] at h4;simpa using h4
 have k2:=c4k (o:=flg (ob (A1 x v).S h) ((ob x.S h).Fields.set n v)) k1.sr hh1 rfl ho id;exact ((b9h hR v).trans k2).trans (b6d (x:=wS (A1 x v) (seO (A1 x v).S h (flg (ob (A1 x v).S h) ((ob x.S h).Fields.set n v)))) (a0h (o:=flg (ob (A1 x v).S h) ((ob x.S h).Fields.set n v)) k1.sr hh1 rfl ho) _)
theorem c3P{x:Hp}(hR:SR x.S)(v:Int)(t:Tb)(old:Int):Sv x.S (a4P x v t old).S:=
 (b9h hR v).trans (b6d (x:=wT (A1 x v) t) (a2L hR v) old)
theorem c8q{x:Hp}(hR:SR x.S)(h d:Int):Sv x.S (mkd x h d).S:=by
 unfold mkd;split
 ·rename_i q;exact c3m hR q.1 q.2.1 d
 ·exact Sv.refl _
theorem c6z{x:Hp}(hR:SR x.S)(h:Int):Sv x.S (a7s x h).S:=by
 unfold a7s;split
 ·rename_i q;have k:=c3m hR q.1 q.2.1 (-1);split;·exact k.trans (c79 (by rw[k.1];exact q.1))
  ·exact k
 ·exact Sv.refl _
theorem c4v{x:Hp}(hx:K1 x)(n:Nat)(h call:Int):Sv x.S (a1G x n h call).S:=by
 have hR:=hx.sh.sr;unfold a1G;have s1:Sv x.S (mkd (wC x (x.a8.set n (wcl h call))) h 1).S:=c8q (x:=wC x (x.a8.set n (wcl h call))) hR h 1;refine s1.trans (c6z ?_ _);unfold mkd;split
 ·rename_i q;have:=(hR.ok _ q.1 q.2.1).wk;exact b2U hR q.1 q.2.1 (by omega)
 ·exact hR
theorem c7M{x:Hp}(hR:SR x.S){ds:List Int}(hn:ds.Nodup)(hm:∀d∈ds,d∈lv x.S):Sv x.S (buH x ds).S:=by
 have g:=a1b ds hR hn hm;exact g.sv.trans ((a3F (ds.flatMap (outs x.S)++(wot x.T ds).2) (x:=a3O x ds (wot x.T ds).1) g.sr).1.sv g.sr)
theorem c8S{x:Hp}(hR:SR x.S){h:Int}(hh:h∈lv x.S):Sv x.S (quH x h).S:=by
 have oko:=H0 hR hh;have ho:OkO x.S (srt (ob x.S h)):=⟨oko.s1,oko.s2,oko.st,oko.wk,oko.p1,oko.p2,oko.fl⟩;exact (c4k (o:=srt (ob x.S h)) hR hh rfl ho λ_=>rfl).trans ((a5M hR hh).1.sv (a0h (o:=srt (ob x.S h)) hR hh rfl ho))
theorem c9f{x:Hp}(hx:K1 x):Sv x.S (stp x).S:=by
 cases h:zr x with
 | nil=>rw[a73 h];exact Sv.refl _
 | cons z l=>
  have hz:z∈zr x:=by rw[h];exact List.mem_cons_self ..
  have hzl:=(a0O.1 hz).1;rw[a3K h];split;·exact c8S hx.sh.sr hzl
  ·exact c7M hx.sh.sr (by simp) (by simpa using hzl)
theorem c9b{x:Hp}(hx:K1 x)(n:Nat):Sv x.S (stN n x).S:=by
 induction n with
 | zero=>exact Sv.refl _
 | succ n ih=>rw[a1v];exact ih.trans (c9f (Z3 hx n))
theorem c6q{x:Hp}(hx:K1 x):Sv x.S (a03 x).S:=c9b hx 100
structure Fw (x y:Hp):Prop where
 sv:Sv x.S y.S
 q:∃l,y.Q=⟨x.Q.L++l,x.Q.Cap⟩∧∀t∈l,t.Kind=1→¬b9z x.S t.At
theorem Fw.of{x y:Hp}(h:Sv x.S y.S)(q:y.Q=x.Q):Fw x y:=⟨h,[],by rw[q,List.append_nil],λt ht=>by cases ht⟩
theorem Fw.refl(x:Hp):Fw x x:=Fw.of (Sv.refl _) rfl
theorem Fw.trans{x y z:Hp}(a:Fw x y)(b:Fw y z):Fw x z:=by
 obtain⟨l,q1,q2⟩:=a.q;obtain⟨m,r1,r2⟩:=b.q;refine⟨a.sv.trans b.sv,l++m,by rw[r1,q1,List.append_assoc],λt ht hk=>?_⟩;rcases List.mem_append.1 ht with h | h
 ·exact q2 t h hk
 ·exact λs=>r2 t h hk (a.sv.d0l s)
theorem b6l{x:Hp}(hx:K1 x):Fw x (a03 x):=by
 obtain⟨l,q1,q2,_⟩:=(a7m hx).q;exact⟨c6q hx,l,q1,λt ht hk=>c1D hx.sh.sr (q2 t ht hk).1 (q2 t ht hk).2⟩
end Go.Sh
namespace Go.Sh
theorem a3G{x:Hp}(hR:SR x.S)(r:Nat)(h:Int):Fw x (D1 x r h):=Fw.of (b7L hR r h) (a3H x r h).2.2.2
theorem c9I{x:Hp}(hx:K1 x)(hS:SL x)(hz:zr x = [])(hb:x.S.Serial<9223372036854775807)(o:e6):(∃e,Er x o e)∨∃z v,Dn x o z v∧Fw x z:=by
 have hR:=hx.sh.sr;obtain⟨k,a,b,c⟩:=o;by_cases hc:y4 k a b c=0
 ·have:=b93 hc;have hk:k=1∨k=2∨k=3∨k=4∨k=5∨k=6∨k=7∨k=8∨k=9∨k=10∨k=11∨k=12:=by omega
  rcases hk with rfl | rfl | rfl | rfl | rfl | rfl | rfl | rfl | rfl | rfl | rfl | rfl
  ·rcases d1 hx hS hb hc with ⟨e,_,h⟩ | ⟨hn,hcc,i,hF,h⟩;·exact .inl ⟨e,h⟩
   ·obtain⟨hi,h0,_⟩:=hF;have k1:Fw x (wS x (mkS x.S i b.toNat c)):=Fw.of (c9Z hR hi h0 hn hcc) rfl;exact .inr ⟨_,_,h,k1.trans (a3G (x:=wS x (mkS x.S i b.toNat c)) (b7m hR hi h0 hn hcc) _ _)⟩
  ·exact .inr ⟨_,_,d2 hx hS hc,a3G hR _ _⟩
  ·exact .inr ⟨_,_,d3 hx hS hc,a3G hR _ _⟩
  ·rcases d4 hx hS hc with ⟨_,h⟩ | ⟨e,_,h⟩ | ⟨_,n,_,_,h⟩;·exact .inl ⟨_,h⟩
   ·exact .inl ⟨_,h⟩
   ·exact .inr ⟨_,_,h,a3G hR _ _⟩
  ·rcases d5 hx hS hc with ⟨_,h⟩ | ⟨e,_,h⟩ | ⟨hl,n,_,hn,h⟩;·exact .inl ⟨_,h⟩
   ·exact .inl ⟨_,h⟩
   ·exact .inr ⟨_,_,h,Fw.of (c07 hR hl hn _) (a6K _ _ _ _).2.2.2⟩
  ·rcases d6 hx hS hc with ⟨_,h⟩ | ⟨e,_,h⟩ | ⟨_,h⟩;·exact .inl ⟨_,h⟩
   ·exact .inl ⟨_,h⟩
   ·exact .inr ⟨_,_,h,Fw.of (c4v hx _ _ _) (b3B _ _ _ _).2.2.2⟩
  ·obtain⟨_,⟨_,h⟩ | ⟨_,h⟩⟩:=d7 hx hS hc;·exact .inl ⟨_,h⟩
   ·exact .inr ⟨_,_,h,a3G hR _ _⟩
  ·rcases d8 hx hS hc with ⟨_,h⟩ | ⟨_,e,_,h⟩ | ⟨_,r,_,_,h⟩;·exact .inl ⟨_,h⟩
   ·exact .inl ⟨_,h⟩
   ·exact .inr ⟨_,_,h,Fw.of (c3P hR _ _ _) (a82 _ _ _ _).2.2.2⟩
  ·rcases d9 hx hS hc with ⟨_,h⟩ | ⟨_,_,h⟩ | ⟨_,v,_,h⟩;·exact .inl ⟨_,h⟩
   ·exact .inl ⟨_,h⟩
   ·exact .inr ⟨_,_,h,a3G hR _ _⟩
  ·exact .inr ⟨_,_,d10 hx hS hz hc,Fw.refl x⟩
  ·obtain⟨h1,h2⟩:=b5i (x:=x) (a:=a) (b:=b) (c:=c) (.inl rfl) hc;exact .inl ⟨14,by decide,h1,h2⟩
  ·obtain⟨h1,h2⟩:=b5i (x:=x) (a:=a) (b:=b) (c:=c) (.inr rfl) hc;exact .inl ⟨14,by decide,h1,h2⟩
 ·obtain⟨h1,h2⟩:=c2D (x:=x) (o:=⟨k,a,b,c⟩) hc;exact .inl ⟨_,hc,h1,h2⟩
theorem c7T{x:Hp}(hx:K1 x)(hS:SL x)(hz:zr x = [])(hb:x.S.Serial<9223372036854775807)(o:e6):Fw x (dov x o).1:=by
 rcases c9I hx hS hz hb o with ⟨e,_,h,_⟩ | ⟨z,v,d,f⟩
 ·have:dov x o=(x,0,e):=by unfold dov;rw[h];rfl
  rw[this];exact Fw.refl x
 ·have:dov x o=(a03 z,v,0):=by unfold dov;rw[d.mc];rfl
  rw[this];exact f.trans (b6l d.rt)
theorem d0h{x:Hp}(h1:HpS x)(h2:Wk x){L:List Int}(h3:a0P x L){r:Nat}(hr:r<6){h:Int}(hh:h=0∨h∈lv x.S):HpS (D1 x r h)∧Wk (D1 x r h)∧a0P (D1 x r h) L:=by
 have kin:=D2 h1.sr h (f:=Q2) λc=>B1;have l1:lv (A1 x h).S=lv x.S:=kin.lv;have f1:a0P (A1 x h) (h::L):=b7N h1.sr h3 h;have s1:HpS (A1 x h):=h1.st h (f:=Q2) λc=>B1;have s2:HpS (wR (A1 x h) (x.Roots.set r h)):=s1.roots (by rw[List.length_set];exact h1.r6) λv hv=>by
  rw[l1];rcases List.mem_or_eq_of_mem_set hv with q | q
  ·exact h1.rt v q
  ·exact q▸hh
 have w1:Wk (A1 x h):=h2.st h1.sr h (f:=Q2) λc=>B1;have one:∀v k,V7 [v] k=if v=k∧k≠0 then 1 else 0:=λv k=>by rw[D4,M4,Nat.zero_add]
 have f2:a0P (wR (A1 x h) (x.Roots.set r h)) (x.Roots.getD r 0::L):=f1.mv rfl (λ_ _=>rfl) λk hk=>by
  have:=b2h (l:=x.Roots) (r:=r) (by rw[h1.r6];exact hr) h k;rw[one,one] at this;rw[b06 x h];unfold nms otr;dsimp only;rw[H4,H4,b1f,b1f,D4 h L,D4 (x.Roots.getD r 0) L];omega
 exact⟨s2.st _ λc=>K5,Wk.st (x:=wR (A1 x h) (x.Roots.set r h)) w1 s2.sr _ λc=>K5,b0a (x:=wR (A1 x h) (x.Roots.set r h)) s2.sr f2⟩
abbrev unq(x:Hp)(ts:List g7):Hp:=wQ x ⟨ts,x.Q.Cap⟩
noncomputable def b0E(x:Hp)(ts:List g7)(h:Int):Hp:=M6 (D1 (unq x ts) 5 h) h
section
variable{x:Hp}(hx:K1 x){t:g7}{ts:List g7}(hq:x.Q.L=t::ts)
include hx hq
theorem b6w:HpS (unq x ts):=by
 have h:=hx.sh;refine⟨h.sr,h.hr,h.r6,h.c6,h.cap,?_,λu hu=>h.tk u (by rw[hq];exact List.mem_cons_of_mem _ hu),?_,h.rt,h.fl,h.pr,λi hi=>?_⟩
 ·have:=h.q30;rw[hq,List.length_cons] at this;show ts.length≤30;omega
 ·have:=h.td;rw[hq,List.pairwise_cons] at this;exact this.2
 ·obtain⟨a,b,c,d,e⟩:=h.cl i hi;refine⟨a,b,c,d,λq=>⟨(e q).1,?_⟩⟩;have:=(e q).2;rw[Bool.eq_false_iff] at this ⊢;intro r;obtain⟨u,hu,k1,k2⟩:=a4j.1 r;exact this (a4j.2 ⟨u,by rw[hq];exact List.mem_cons_of_mem _ hu,k1,k2⟩)
theorem b73:a0P (unq x ts) (if t.Kind=1 then [t.At] else []):=hx.fair.mv rfl (λ_ _=>rfl) λh _=>by
 unfold nms otr b3X;dsimp only;rw[hq,List.filter_cons];by_cases k:t.Kind=1
 ·rw[if_pos k,if_pos (by simpa using k),List.map_cons,H4,H4,D4 t.At (List.map _ _),D4 t.At [],M4];omega
 ·rw[if_neg k,if_neg (by simpa using k),M4]
theorem b8s(hk:t.Kind≠1):K1 (unq x ts):=⟨b6w hx hq,hx.wk,by have:=b73 hx hq;rwa [if_neg hk] at this⟩
theorem b8C(hk:t.Kind=1):t.At∈lv x.S∧(ob x.S t.At).Started=true:=by
 rcases (hx.sh.tk t (by rw[hq];exact List.mem_cons_self ..)).2.2 with ⟨_,b,c⟩ | ⟨b,_⟩;·exact⟨b,c⟩
 ·omega
theorem a4F(hk:t.Kind=1):K1 (b0E x ts t.At):=by
 have f:=b73 hx hq;rw[if_pos hk] at f;obtain⟨a,b,c⟩:=d0h (b6w hx hq) (x:=unq x ts) hx.wk f (r:=5) (by decide) (.inr (b8C hx hq hk).1);exact⟨a.st _ λc=>K5,b.st a.sr _ λc=>K5,b0a a.sr c⟩
omit hq in
theorem b8D (hS:SL x) (h:Int):SL (b0E x ts h):=by
 have k:=a3I (x:=unq x ts) hx.sh.sr hS 5 h;exact b6b [h] (a0t (x:=unq x ts) hx.sh.sr 5 h).sr k
omit hq in
theorem c7W (h:Int):Ks x.S (b0E x ts h).S:=by
 have k:=a0t (x:=unq x ts) hx.sh.sr 5 h;exact k.trans (b6c k.sr h)
omit hq in
theorem c2R (h:Int):(b0E x ts h).Roots=x.Roots.set 5 h∧(b0E x ts h).a8=x.a8∧(b0E x ts h).T=x.T∧(b0E x ts h).Q=⟨ts,x.Q.Cap⟩:=by
 obtain⟨a,b,c,d⟩:=b3j (D1 (unq x ts) 5 h) h;obtain⟨a',b',c',d'⟩:=a3H (unq x ts) 5 h;exact⟨a.trans a',b.trans b',c.trans c',d.trans d'⟩
omit hq in
theorem c7V (h:Int):Fw (unq x ts) (b0E x ts h):=Fw.of ((b7L (x:=unq x ts) hx.sh.sr 5 h).trans (b6d (a0t (x:=unq x ts) hx.sh.sr 5 h).sr h)) (c2R hx h).2.2.2
end
def prg(ps:List (List e6))(n:Int):List e6:=if n<0∨(ps.length:Int)≤n then [] else ps.getD n.toNat []
noncomputable def pre(x:Hp)(t:g7)(ts:List g7):Hp:=if t.Kind=1 then a03 (b0E x ts t.At) else unq x ts
noncomputable def ran(ps:List (List e6))(x:Hp)(t:g7)(ts:List g7):Hp:=(runs (pre x t ts) (prg ps t.Prog)).1
noncomputable def dne(ps:List (List e6))(x:Hp)(t:g7)(ts:List g7):Hp:=if t.Kind=1 then a03 (D1 (ran ps x t ts) 5 0) else ran ps x t ts
structure Oh (x:Hp):Prop where
 rt:K1 x
 sl:SL x
 zr:zr x = []
theorem Nxt.ok{x y:Hp}{o:e6}{v e:Int}(n:Nxt x o y v e):Oh y:=⟨n.rt,n.sl,n.zr⟩
theorem c0G{x:Hp}(h:K1 x)(s:SL x):Oh (a03 x):=⟨a11 h,c0H h s,b4R h⟩
theorem c4h{x:Hp}(hx:Oh x)(l:List e6)(hb:x.S.Serial+l.length<9223372036854775807):Oh (runs x l).1∧Fw x (runs x l).1∧(runs x l).1.S.Serial≤x.S.Serial+l.length∧(runs x l).2.length=l.length:=by
 have key:∀k,k≤l.length→Oh (runs x (l.take k)).1∧Fw x (runs x (l.take k)).1∧(runs x (l.take k)).1.S.Serial≤x.S.Serial+k∧(runs x (l.take k)).2.length=k:=by
  intro k;induction k with
  | zero=>exact λ_=>⟨hx,Fw.refl x,by show x.S.Serial≤_;omega,rfl⟩
  | succ k ih=>
   intro hk;obtain⟨a,b,c,d⟩:=ih (by omega);have hk':k<l.length:=by omega
   have n:=a5G a.rt a.sl a.zr (by omega) l[k];rw[J5 hk',a71];exact⟨n.ok,b.trans (c7T a.rt a.sl a.zr (by omega) _),by have:=n.ev.s2;show (dov _ _).1.S.Serial≤_;omega,by simp[d]⟩
 have:=key l.length (Nat.le_refl _);rwa [List.take_length] at this
section
variable{x:Hp}(hx:Oh x){t:g7}{ts:List g7}(hq:x.Q.L=t::ts)(ps:List (List e6))
include hx hq
theorem b81:Oh (pre x t ts):=by
 unfold pre;split
 ·rename_i k;exact c0G (a4F hx.rt hq k) (b8D hx.rt hx.sl _)
 ·rename_i k;exact⟨b8s hx.rt hq k,hx.sl,hx.zr⟩
theorem c8L:Fw (unq x ts) (pre x t ts):=by
 unfold pre;split
 ·rename_i k;exact (c7V hx.rt _).trans (b6l (a4F hx.rt hq k))
 ·exact Fw.refl _
theorem b5T:(pre x t ts).S.Serial=x.S.Serial:=by
 unfold pre;split
 ·rename_i k;rw[(a7m (a4F hx.rt hq k)).Z9,(c7W hx.rt _).Z9]
 ·rfl
variable(hb:x.S.Serial+(prg ps t.Prog).length<9223372036854775807)
include hb
theorem b57:Oh (ran ps x t ts)∧Fw (unq x ts) (ran ps x t ts)∧(ran ps x t ts).S.Serial≤x.S.Serial+(prg ps t.Prog).length:=by
 have e:=b5T hx hq;obtain⟨a,b,c,_⟩:=c4h (b81 hx hq) (prg ps t.Prog) (by rw[e];exact hb);exact⟨a,(c8L hx hq).trans b,by rw[e] at c;exact c⟩
theorem c5m:Oh (dne ps x t ts)∧Fw (unq x ts) (dne ps x t ts)∧(dne ps x t ts).S.Serial≤x.S.Serial+(prg ps t.Prog).length∧(t.Kind=1→sd (dne ps x t ts) 5=0):=by
 obtain⟨a,b,c⟩:=b57 hx hq ps hb;unfold dne;split
 ·have hz:=X5 a.rt (r:=5) (by decide) (h:=0) (.inl rfl);have k:=a0t a.rt.sh.sr 5 0;refine⟨c0G hz (a3I a.rt.sh.sr a.sl 5 0),(b.trans (a3G a.rt.sh.sr 5 0)).trans (b6l hz),?_,λ_=>(a7X a.rt (a:=5) (by decide) (h:=0) (.inl rfl)).1⟩;rw[(a7m hz).Z9,k.Z9];exact c
 ·exact⟨a,b,c,λq=>absurd q (by assumption)⟩
end
end Go.Sh
namespace Go.Sh
def cst(ps:List (List e6))(t:g7):Int:=1+((prg ps t.Prog).length:Int)
def can(ps:List (List e6))(p:Hp × Int):Prop:=∃t ts,p.1.Q.L=t::ts∧cst ps t≤p.2
noncomputable def nxd(ps:List (List e6))(p:Hp × Int):Hp × Int:=match p.1.Q.L with
 | []=>p
 | t::ts=>if cst ps t≤p.2 then (dne ps p.1 t ts,p.2-cst ps t) else p
noncomputable def dN(ps:List (List e6)):Nat→Hp × Int→Hp × Int
 | 0,p=>p
 | n+1,p=>dN ps n (nxd ps p)
section
variable(ps:List (List e6))
theorem b1W(n:Nat)(p:Hp × Int):dN ps (n+1) p=nxd ps (dN ps n p):=by
 induction n generalizing p with
 | zero=>rfl
 | succ n ih=>exact ih (nxd ps p)
theorem c5P{p:Hp × Int}(h:p.1.Q.L = []):nxd ps p=p:=by unfold nxd;rw[h]
theorem a9W{p:Hp × Int}{t:g7}{ts:List g7}(h:p.1.Q.L=t::ts):nxd ps p=if cst ps t≤p.2 then (dne ps p.1 t ts,p.2-cst ps t) else p:=by unfold nxd;rw[h]
theorem b6R{p:Hp × Int}{t:g7}{ts:List g7}(h:p.1.Q.L=t::ts):can ps p↔cst ps t≤p.2:=by
 constructor
 ·rintro⟨u,us,e,c⟩;rw[h] at e;injection e with e1 e2
  rw[e1];exact c
 ·exact λc=>⟨t,ts,h,c⟩
theorem a9q(t:g7):1≤cst ps t:=by unfold cst;omega
theorem b9O{p:Hp × Int}(hb:0≤p.2):∃n:Nat,(n:Int)≤p.2∧¬can ps (dN ps n p)∧∀j,j<n→can ps (dN ps j p):=by
 have key:∀m:Nat,(∃n:Nat,n≤m∧¬can ps (dN ps n p))∨((dN ps m p).2+m≤p.2∧0≤(dN ps m p).2):=by
  intro m;induction m with
  | zero=>exact .inr ⟨by show p.2+((0:Nat):Int)≤_;omega,hb⟩
  | succ m ih=>
   rcases ih with ⟨n,h1,h2⟩ | ⟨h1,h2⟩;·exact .inl ⟨n,by omega,h2⟩
   ·by_cases q:can ps (dN ps m p)
    ·right;obtain⟨t,ts,e,c⟩:=q;have:=a9q ps t;rw[b1W,a9W ps e,if_pos c];dsimp only;omega
    ·exact .inl ⟨m,by omega,q⟩
 have hex:∃n:Nat,(n:Int)≤p.2∧¬can ps (dN ps n p):=by
  rcases key (p.2.toNat+1) with ⟨n,h1,h2⟩ | ⟨h1,h2⟩
  ·rcases Nat.lt_or_ge n (p.2.toNat+1) with q | q
   ·exact⟨n,by omega,h2⟩
   ·have hn:n=p.2.toNat+1:=by omega
    rcases key p.2.toNat with ⟨n,h1,h2⟩ | ⟨h1,h3⟩;·exact⟨n,by omega,h2⟩
    ·refine⟨p.2.toNat,by omega,λ⟨t,ts,e,c⟩=>?_⟩;have:=a9q ps t;omega
  ·omega
 obtain⟨n,⟨hn,hz⟩,hmin⟩:=a0C hex;refine⟨n,hn,hz,λj hj=>Classical.byContradiction λq=>?_⟩;have:=hmin j ⟨by omega,q⟩;omega
theorem b5e{p:Hp × Int}(hx:Oh p.1)(hb:0≤p.2)(hs:p.1.S.Serial+p.2<9223372036854775807):∀n,Oh (dN ps n p).1∧0≤(dN ps n p).2∧(dN ps n p).2≤p.2∧(dN ps n p).1.S.Serial+(dN ps n p).2≤p.1.S.Serial+p.2
 | 0=>⟨hx,hb,Int.le_refl _,Int.le_refl _⟩
 | n+1=>by
  obtain⟨a,b,c,d⟩:=b5e hx hb hs n;rw[b1W];cases e:(dN ps n p).1.Q.L with
  | nil=>rw[c5P ps e];exact⟨a,b,c,d⟩
  | cons t ts=>
   rw[a9W ps e];split
   ·rename_i q;have q2:=q;unfold cst at q2;obtain⟨r1,_,r3,_⟩:=c5m a e ps (by omega);refine⟨r1,?_,?_,?_⟩;·dsimp only;omega
    ·have:=a9q ps t;dsimp only;omega
    ·dsimp only;unfold cst;omega
   ·exact⟨a,b,c,d⟩
end
noncomputable def dn(ps:List (List e6))(p:Hp × Int):Nat:=if h:0≤p.2 then Classical.choose (b9O ps h) else 0
theorem b9Q(ps:List (List e6)){p:Hp × Int}(h:0≤p.2):(dn ps p:Int)≤p.2∧¬can ps (dN ps (dn ps p) p)∧∀j,j<dn ps p→can ps (dN ps j p):=by
 unfold dn;rw[dif_pos h];exact Classical.choose_spec (b9O ps h)
noncomputable def dr(ps:List (List e6))(p:Hp × Int):Hp × Int:=dN ps (dn ps p) p
theorem c9J(ps:List (List e6)){x:Hp}{f:Int}(hx:Oh x)(hf:0≤f)(hs:x.S.Serial+f<9223372036854775807):Oh (dr ps (x,f)).1∧0≤(dr ps (x,f)).2∧(dr ps (x,f)).2≤f∧(dr ps (x,f)).1.S.Serial+(dr ps (x,f)).2≤x.S.Serial+f:=b5e ps (p:=(x,f)) hx hf hs _
end Go.Sh
namespace Go.Sh
section
variable{x:Hp}(hx:HpS x)(hS:∀k∈lv x.S,(ob x.S k).Strong≤9223372036854775807)
include hx hS
theorem c3f{h:Int}(hh:h=0∨h∈lv x.S):h≤9223372036854775807:=by
 rcases hh with q | q
 ·omega
 ·have:=G4 hx.sr q;omega
theorem c4c(k:Int){h:Int}(hh:h≤9223372036854775807):Y6 x k h=some (if k<0∨5<k then (x,6) else if h=0∨h∈lv x.S then (D1 x k.toNat h,0) else (x,3)):=by
 have hR:=hx.sr;have r6:=hx.r6;unfold Y6;by_cases hk:k<0∨5<k
 ·rw[if_pos hk,if_pos (by rw[r6];simp;omega)]
 ·rw[if_neg hk,if_neg (by rw[r6];simp;omega),a1T hR hh,d1G];by_cases hn:h=0∨h∈lv x.S
  ·rw[if_pos hn,decide_eq_true hn,if_neg (by simp)];obtain⟨n,rfl⟩:∃n:Nat,k=n:=⟨k.toNat,by omega⟩;have hn6:n<6:=by omega
   have hnl:n<x.Roots.length:=by omega
   have old:x.Roots[n]≤9223372036854775807:=c3f hx hS (hx.rt _ (List.getElem_mem hnl));have e1:=a4X x h;have hn2:n<(A1 x h).Roots.length:=by rw[e1.1];exact hnl
   rw[n7 hnl,d1G];unfold C6 L5 I7;rw[a4V hR hh hS,d1G];dsimp only;rw[J2 (by omega) (by rw[e1.1];omega),d1G,n7 hn2,d1G,d1G];have hrel:=a1Y (x:=wR (A1 x h) (x.Roots.set n h)) (a2L hR h) old;rw[Int.toNat_natCast,e1.1,show A2 ⟨(A1 x h).S,x.Roots.set n h,(A1 x h).a8,(A1 x h).T,(A1 x h).Q⟩ x.Roots[n]=_ from hrel];unfold D1;rw[List.getD_eq_getElem?_getD,List.getElem?_eq_getElem hnl];rfl
  ·rw[if_neg hn,decide_eq_false hn,if_pos (by simp)]
theorem c6j(k:Int){h:Int}(hh:h≤9223372036854775807):T7 (hO x) k h=some (if k<0∨5<k then (hO x,6) else if h=0∨h∈lv x.S then (hO (D1 x k.toNat h),0) else (hO x,3)):=by
 have hR:=hx.sr;have r6:=hx.r6;unfold T7;by_cases hk:k<0∨5<k
 ·rw[if_pos hk,if_pos (by simp;omega)]
 ·rw[if_neg hk,if_neg (by simp;omega),a9T hR hh,d1G];by_cases hn:h=0∨h∈lv x.S
  ·rw[if_pos hn,decide_eq_true hn,if_neg (by simp)];obtain⟨n,rfl⟩:∃n:Nat,k=n:=⟨k.toNat,by omega⟩;have hnl:n<x.Roots.length:=by omega
   have hnl':n<(hO x).Roots.length:=hnl;have old:x.Roots[n]≤9223372036854775807:=c3f hx hS (hx.rt _ (List.getElem_mem hnl));have e1:=a4X x h;have r6':(hO x).Roots.length=6:=r6;rw[n7 hnl',d1G,a7f hR hh hS,d1G,J2 (by omega) (by rw[r6'];omega),d1G,n7 hnl',d1G];have hrel:=a3i (x:=wR (A1 x h) (x.Roots.set n h)) (a2L hR h) old;rw[Int.toNat_natCast];rw[show C8 ⟨(hO (A1 x h)).S,(hO x).Roots.set n h,(hO (A1 x h)).a8,(hO (A1 x h)).T,(hO (A1 x h)).Q⟩ (hO x).Roots[n]=_ from hrel];unfold D1;rw[List.getD_eq_getElem?_getD,List.getElem?_eq_getElem hnl];rfl
  ·rw[if_neg hn,decide_eq_false hn,if_pos (by simp)]
end
theorem b82(ps:List (List e6))(n:Int):a3p ps n=some (prg ps n):=by
 unfold a3p prg;by_cases h:n<0∨(ps.length:Int)≤n
 ·rw[if_pos (by simpa using h),if_pos h]
 ·rw[if_neg (by simpa using h),if_neg h];obtain⟨k,rfl⟩:∃k:Nat,n=k:=⟨n.toNat,by omega⟩;have hk:k<ps.length:=by omega
  rw[n7 hk,d1G,Int.toNat_natCast,List.getD_eq_getElem?_getD,List.getElem?_eq_getElem hk];rfl
abbrev psR(ps:List (List e6)):List (List M0):=ps.map (List.map opR)
theorem c3U(ps:List (List e6))(n:Int):a7c (psR ps) n=some ((prg ps n).map opR):=by
 unfold a7c prg;rw[List.length_map];by_cases h:n<0∨(ps.length:Int)≤n
 ·rw[if_pos (by simpa using h),if_pos h];rfl
 ·rw[if_neg (by simpa using h),if_neg h];obtain⟨k,rfl⟩:∃k:Nat,n=k:=⟨n.toNat,by omega⟩;have hk:k<ps.length:=by omega
  have hk2:k<(psR ps).length:=by simpa using hk
  rw[n7 hk2,d1G,Int.toNat_natCast,List.getD_eq_getElem?_getD,List.getElem?_eq_getElem hk];simp[psR]
def Mp(ps:List (List e6)):Prop:=∀p∈ps,p.length≤6
theorem b15{ps:List (List e6)}(h:Mp ps)(n:Int):(prg ps n).length≤6:=by
 unfold prg;split;·simp
 ·rename_i q;have hk:n.toNat<ps.length:=by omega
  rw[List.getD_eq_getElem?_getD,List.getElem?_eq_getElem hk];exact h _ (List.getElem_mem hk)
theorem b9N{ps:List (List e6)}(h:Mp ps)(t:g7):a5p ps t=some (cst ps t):=by
 have:=b15 h t.Prog;unfold a5p cst;rw[b82,d1G,B8 (by omega) (by omega)]
theorem c2z{ps:List (List e6)}(h:Mp ps)(t:g7):a7b (psR ps) ⟨t.Kind,t.At,t.Prog⟩=some (cst ps t):=by
 have:=b15 h t.Prog;unfold a7b cst;show (a7c (psR ps) t.Prog).bind _=_;rw[c3U,d1G,List.length_map,B8 (by omega) (by omega)]
theorem b8v(x:Hp):a2j x=some (x.Q.L.isEmpty):=by
 unfold a2j;rw[b6s,d1G];unfold tnx;cases x.Q.L <;> rfl
theorem c2H(x:Hp):b02 (hO x)=some (x.Q.L.isEmpty):=by
 unfold b02;show some ((((x.Q.L.map _).length:Nat):Int)==0)=_;cases x.Q.L with
 | nil=>rfl
 | cons a l=>simp;omega
section
variable{x:Hp}(hx:Oh x){t:g7}{ts:List g7}(hq:x.Q.L=t::ts){ps:List (List e6)}(hm:Mp ps)(hb:x.S.Serial<9000000000000000000)
include hx hq hm hb
theorem c4s:a5q x ps=some (dne ps x t ts,t,0):=by
 have J3:=b15 hm t.Prog;have pok:=b81 hx hq;have pser:=b5T hx hq;obtain⟨rok,_,_⟩:=b57 hx hq ps (by omega);have hrun:=(run_eq pok.rt pok.sl pok.zr (prg ps t.Prog) (by omega) (by rw[pser];omega)).1;have hrun':a2n (pre x t ts) (prg ps t.Prog)=some (ran ps x t ts,(runs (pre x t ts) (prg ps t.Prog)).2):=hrun;have hz:=X5 rok.rt (r:=5) (by decide) (h:=0) (.inl rfl);have zS:=a3I rok.rt.sh.sr rok.sl 5 0;unfold a5q;rw[b6s,d1G];have e:tnx x.Q=(⟨ts,x.Q.Cap⟩,t,0):=by unfold tnx;rw[hq]
 rw[e];dsimp only;rw[if_neg (by simp)];simp only[jn];by_cases k:t.Kind=1
 ·have hk:(t.Kind==1)=true:=by simpa using k
  have hat:=(b8C hx.rt hq k).1;have ush:=b6w hx.rt hq;have hm1:=a1f hx.rt.sh.sr hat;have e1:Y6 ⟨x.S,x.Roots,x.a8,x.T,⟨ts,x.Q.Cap⟩⟩ 5 t.At=some (D1 (unq x ts) 5 t.At,0):=by
   have:=c4c (x:=unq x ts) ush hx.sl 5 hm1;rw[if_neg (by omega),if_pos (.inr hat)] at this;exact this
  have e2:A2 (D1 (unq x ts) 5 t.At) t.At=some (b0E x ts t.At):=a1Y (a0t (x:=unq x ts) hx.rt.sh.sr 5 t.At).sr hm1;have e3:=a3j (a4F hx.rt hq k) (b8D hx.rt hx.sl t.At);have e4:pre x t ts=a03 (b0E x ts t.At):=by unfold pre;rw[if_pos k]
  have e5:=c0z rok.rt rok.sl 5 (h:=0) (by decide);rw[if_neg (by omega),if_pos (.inl rfl)] at e5;rw[if_pos hk,e1,d1G];dsimp only;rw[e2,d1G,e3,d1G,b82,d1G,←e4,hrun',d1G,if_pos hk];dsimp only;rw[e5,d1G];refine bnd (a3j hz zS) ?_;unfold dne;rw[if_pos k];rfl
 ·have hk:¬(t.Kind==1)=true:=by simpa using k
  have e4:pre x t ts=unq x ts:=by unfold pre;rw[if_neg k]
  rw[if_neg hk,b82,d1G,show (⟨x.S,x.Roots,x.a8,x.T,⟨ts,x.Q.Cap⟩⟩:b6)=pre x t ts from e4.symm,hrun',d1G,if_neg hk];unfold dne;rw[if_neg k]
theorem c9c:b3d (hO x) (psR ps)=some (hO (dne ps x t ts),tkR t,0):=by
 have J3:=b15 hm t.Prog;have pok:=b81 hx hq;have pser:=b5T hx hq;obtain⟨rok,_,_⟩:=b57 hx hq ps (by omega);have hrun:=(run_eq pok.rt pok.sl pok.zr (prg ps t.Prog) (by omega) (by rw[pser];omega)).2;have hrun':b2d (hO (pre x t ts)) ((prg ps t.Prog).map opR)=some (hO (ran ps x t ts),(runs (pre x t ts) (prg ps t.Prog)).2):=hrun;have hz:=X5 rok.rt (r:=5) (by decide) (h:=0) (.inl rfl);have zS:=a3I rok.rt.sh.sr rok.sl 5 0;unfold b3d;rw[show (hO x).Q=tqR x.Q from rfl,c8U,d1G];have e:tnx x.Q=(⟨ts,x.Q.Cap⟩,t,0):=by unfold tnx;rw[hq]
 rw[e];dsimp only;rw[if_neg (by simp)];simp only[jn];have hkk:(tkR t).Kind=t.Kind:=rfl;have hka:(tkR t).At=t.At:=rfl;have hkp:(tkR t).Prog=t.Prog:=rfl;rw[hkk,hka,hkp];by_cases k:t.Kind=1
 ·have hk:(t.Kind==1)=true:=by simpa using k
  have hat:=(b8C hx.rt hq k).1;have ush:=b6w hx.rt hq;have hm1:=a1f hx.rt.sh.sr hat;have e1:T7 (hO (unq x ts)) 5 t.At=some (hO (D1 (unq x ts) 5 t.At),0):=by
   have:=c6j (x:=unq x ts) ush hx.sl 5 hm1;rw[if_neg (by omega),if_pos (.inr hat)] at this;exact this
  have e2:C8 (hO (D1 (unq x ts) 5 t.At)) t.At=some (hO (b0E x ts t.At)):=a3i (a0t (x:=unq x ts) hx.rt.sh.sr 5 t.At).sr hm1;have e3:=a40 (a4F hx.rt hq k) (b8D hx.rt hx.sl t.At);have e4:pre x t ts=a03 (b0E x ts t.At):=by unfold pre;rw[if_pos k]
  have e5:=b9e rok.rt rok.sl 5 (h:=0) (by decide);rw[if_neg (by omega),if_pos (.inl rfl)] at e5;rw[if_pos hk,show (⟨(hO x).S,(hO x).Roots,(hO x).a8,(hO x).T,tqR ⟨ts,x.Q.Cap⟩⟩:g5)=hO (unq x ts) from rfl,e1,d1G];dsimp only;rw[e2,d1G,e3,d1G,c3U,d1G,←e4,hrun',d1G,if_pos hk];dsimp only;rw[e5,d1G];refine bnd (a40 hz zS) ?_;unfold dne;rw[if_pos k];rfl
 ·have hk:¬(t.Kind==1)=true:=by simpa using k
  have e4:pre x t ts=unq x ts:=by unfold pre;rw[if_neg k]
  rw[if_neg hk,c3U,d1G,show (⟨(hO x).S,(hO x).Roots,(hO x).a8,(hO x).T,tqR ⟨ts,x.Q.Cap⟩⟩:g5)=hO (pre x t ts) by rw[e4];rfl,hrun',d1G,if_neg hk];unfold dne;rw[if_neg k]
end
section
variable{x:Hp}(hx:Oh x){ps:List (List e6)}(hm:Mp ps){f:Int}(hf:0≤f)(hf2:f≤1000000)(hb:x.S.Serial<8000000000000000000)
include hx hm hf hf2 hb
def dre(p:Hp × Int):Int:=if p.1.Q.L.isEmpty then 0 else 12
theorem drain_eq:a2i x ps f=some ((dr ps (x,f)).1,(dn ps (x,f):Int),(dr ps (x,f)).2,dre (dr ps (x,f))):=by
 obtain⟨a1,a2,a3⟩:=b9Q ps (p:=(x,f)) hf;have all:=b5e ps (p:=(x,f)) hx hf (by show x.S.Serial+f<_;omega);unfold a2i;simp only[jn];dsimp only at a1;refine a0p (λk=>((dN ps k (x,f)).2,(dN ps k (x,f)).1,(k:Int),(dN ps k (x,f)).2,(dN ps k (x,f)).1)) rfl (dn ps (x,f)) (λ_=>True) (by omega) trivial (λk hk _=>.inl ⟨?_,trivial⟩) (λ_=>⟨((dn ps (x,f):Int),(dr ps (x,f)).2,(dr ps (x,f)).1),?_,?_⟩)
 ·obtain⟨b1,b2,b3,b4⟩:=all k;obtain⟨t,ts,e,c⟩:=a3 k hk;dsimp only at b2 b3 b4;have hc:=a9q ps t;rw[b8v,e,d1G];show (a01 _).bind _=_;rw[b6s,d1G];have e2:tnx (dN ps k (x,f)).1.Q=(⟨ts,(dN ps k (x,f)).1.Q.Cap⟩,t,0):=by unfold tnx;rw[e]
  rw[e2];dsimp only;rw[b9N hm,d1G,if_neg (by simp;omega),c4s b1 e hm (by omega),d1G,B8 (by omega) (by omega),k8,b1W,a9W ps e,if_pos c]
 ·rw[b8v,d1G];cases e:(dN ps (dn ps (x,f)) (x,f)).1.Q.L with
  | nil=>rfl
  | cons t ts=>
   have hc:¬cst ps t≤(dN ps (dn ps (x,f)) (x,f)).2:=λq=>a2 ((b6R ps e).2 q);show (a01 _).bind _=_;rw[b6s,d1G];have e2:tnx (dN ps (dn ps (x,f)) (x,f)).1.Q=(⟨ts,(dN ps (dn ps (x,f)) (x,f)).1.Q.Cap⟩,t,0):=by unfold tnx;rw[e]
   rw[e2];dsimp only;rw[b9N hm,d1G,if_pos (by simp;omega)];rfl
 ·dsimp only;rw[b8v,d1G];unfold dre;cases (dr ps (x,f)).1.Q.L.isEmpty <;> rfl
theorem c5n:a7T (hO x) (psR ps) f=some (hO (dr ps (x,f)).1,(dn ps (x,f):Int),(dr ps (x,f)).2,dre (dr ps (x,f))):=by
 obtain⟨a1,a2,a3⟩:=b9Q ps (p:=(x,f)) hf;have all:=b5e ps (p:=(x,f)) hx hf (by show x.S.Serial+f<_;omega);unfold a7T;simp only[jn];dsimp only at a1;refine a0p (λk=>((dN ps k (x,f)).2,(k:Int),hO (dN ps k (x,f)).1)) rfl (dn ps (x,f)) (λ_=>True) (by omega) trivial (λk hk _=>.inl ⟨?_,trivial⟩) (λ_=>?_)
 ·obtain⟨b1,b2,b3,b4⟩:=all k;obtain⟨t,ts,e,c⟩:=a3 k hk;dsimp only at b2 b3 b4;have hc:=a9q ps t;rw[c2H,e,d1G];have e2:ix (hO (dN ps k (x,f)).1).Q.L 0=some (tkR t):=by
   show ix ((dN ps k (x,f)).1.Q.L.map tkR) 0=_;rw[e];rfl
  show (ix (hO (dN ps k (x,f)).1).Q.L 0).bind _=_;rw[e2,d1G,show a7b (psR ps) (tkR t)=_ from c2z hm t,d1G,if_neg (by simp;omega),c9c b1 e hm (by omega),d1G,B8 (by omega) (by omega),k8,b1W,a9W ps e,if_pos c]
 ·cases e:(dN ps (dn ps (x,f)) (x,f)).1.Q.L with
  | nil=>
   refine⟨.inr ((dr ps (x,f)).2,(dn ps (x,f):Int),hO (dr ps (x,f)).1),?_,?_⟩
   ·rw[c2H,e];rfl
   ·unfold dre;have e':(dr ps (x,f)).1.Q.L = []:=e;rw[e'];rfl
  | cons t ts=>
   have hc:¬cst ps t≤(dN ps (dn ps (x,f)) (x,f)).2:=λq=>a2 ((b6R ps e).2 q);refine⟨.inl (hO (dr ps (x,f)).1,(dn ps (x,f):Int),(dr ps (x,f)).2,12),?_,?_⟩
   ·rw[c2H,e,d1G];have e2:ix (hO (dN ps (dn ps (x,f)) (x,f)).1).Q.L 0=some (tkR t):=by
     show ix ((dN ps (dn ps (x,f)) (x,f)).1.Q.L.map tkR) 0=_;rw[e];rfl
    show (ix (hO (dN ps (dn ps (x,f)) (x,f)).1).Q.L 0).bind _=_;rw[e2,d1G,show a7b (psR ps) (tkR t)=_ from c2z hm t,d1G,if_pos (by simp;omega)];rfl
   ·unfold dre;have e':(dr ps (x,f)).1.Q.L=t::ts:=e;rw[e'];rfl
end
end Go.Sh
namespace Go.Sh
theorem c90{l:List (List e6)}(h:a5L l=true):Mp l∧l.length≤6:=by
 unfold a5L at h;rw[Bool.and_eq_true,decide_eq_true_iff,List.all_eq_true] at h;refine⟨λp hp=>?_,h.1⟩;have:=h.2 p hp;unfold b1r at this;rw[Bool.and_eq_true,decide_eq_true_iff] at this;exact this.1
end Go.Sh
namespace Go.Sh
end Go.Sh
namespace Go.Sh
end Go.Sh
namespace Go.Sh
end Go.Sh
namespace Go.Sh
noncomputable def eo(ps:List (List e6))(x:Hp)(o:e6):Hp × Int × Int:=
 if o.Kind=11 then (col x,cgn x-((btc x).length:Int),0)
 else if o.Kind=12 then ((dr ps (x,o.A)).1,(dn ps (x,o.A):Int),dre (dr ps (x,o.A)))
 else dov x o
noncomputable def er(ps:List (List e6))(x:Hp)(row:List Int):Hp × Int × Int:=if (a0m row).2≠0 then (x,0,(a0m row).2) else eo ps x (a0m row).1
noncomputable def ers(ps:List (List e6))(x:Hp)(rows:List (List Int)):Hp × List (Int × Int):=rows.foldl (λp r=>((er ps p.1 r).1,p.2 ++ [(er ps p.1 r).2])) (x,[])
theorem c2K(ps:List (List e6))(x:Hp)(l:List (List Int))(r:List Int):ers ps x (l ++ [r])=((er ps (ers ps x l).1 r).1,(ers ps x l).2 ++ [(er ps (ers ps x l).1 r).2]):=by
 unfold ers;rw[List.foldl_append];rfl
theorem b5n(ps:List (List e6)):∀(l:List (List Int)) (x:Hp) (a:List (Int × Int)),l.foldl (λp r=>((er ps p.1 r).1,p.2 ++ [(er ps p.1 r).2])) (x,a)=((ers ps x l).1,a++(ers ps x l).2)
 | [],x,a=>by simp[ers]
 | r::l,x,a=>by
  unfold ers;rw[List.foldl_cons,List.foldl_cons,b5n ps l,b5n ps l _ ([]++_)];simp
theorem b9R(ps:List (List e6))(x:Hp)(l m:List (List Int)):ers ps x (l++m)=((ers ps (ers ps x l).1 m).1,(ers ps x l).2++(ers ps (ers ps x l).1 m).2):=by
 have:ers ps x (l++m)=m.foldl (λp r=>((er ps p.1 r).1,p.2 ++ [(er ps p.1 r).2])) (ers ps x l):=by
  unfold ers;rw[List.foldl_append]
 rw[this];exact b5n ps m (ers ps x l).1 (ers ps x l).2
theorem b9S(ps:List (List e6))(x:Hp)(l:List (List Int)):(ers ps x l).2.length=l.length:=by
 induction l generalizing x with
 | nil=>rfl
 | cons r l ih=>
  have:=b9R ps x [r] l;rw[List.singleton_append] at this;rw[this,List.length_append,ih];show 1+l.length=l.length+1;omega
theorem b5f{row:List Int}(h:(a0m row).2=0):y4 (a0m row).1.Kind (a0m row).1.A (a0m row).1.B (a0m row).1.C=0:=by
 unfold a0m at h ⊢;rcases four row with ⟨k,a,b,c,rfl⟩ | hl
 ·rw[b9P,Option.getD_some] at h ⊢;by_cases q:y4 k a b c≠0
  ·rw[if_pos q] at h;exact absurd h q
  ·rw[if_neg q];exact Classical.not_not.1 q
 ·rw[(b5g hl).1,Option.getD_some] at h;exact absurd h (by decide)
theorem c2r{a b c:Int}(h:y4 12 a b c=0):0≤a∧a≤200:=in0 (by decide) (show I9 a 0 200 12=0 from h)
section
variable{ps:List (List e6)}(hm:Mp ps){x:Hp}(hx:Oh x)(hb:x.S.Serial<7000000000000000000)
include hm hx hb
theorem c9K{o:e6}(ho:o.Kind=12→0≤o.A∧o.A≤200):Oh (eo ps x o).1∧(eo ps x o).1.S.Serial≤x.S.Serial+201:=by
 unfold eo;split
 ·obtain⟨a,b,c⟩:=b5b hx.rt hx.sl hx.zr;refine⟨⟨a,b,c⟩,?_⟩;show (col x).S.Serial≤_;rw[c5i hx.rt hx.sl hx.zr];omega
 ·split
  ·rename_i h;obtain⟨h0,h2⟩:=ho h;obtain⟨a,b,c,d⟩:=c9J ps hx h0 (by omega);exact⟨a,by show (dr ps (x,o.A)).1.S.Serial≤_;omega⟩
  ·have n:=a5G hx.rt hx.sl hx.zr (by omega) o;have:=n.ev.s2;exact⟨n.ok,by omega⟩
theorem c9L(row:List Int):Oh (er ps x row).1∧(er ps x row).1.S.Serial≤x.S.Serial+201:=by
 unfold er;split;·exact⟨hx,by show x.S.Serial≤_;omega⟩
 ·rename_i h;have hc:=b5f (Classical.not_not.1 h);refine c9K hm hx hb λhk=>?_;rw[hk] at hc;exact c2r hc
end
theorem b5o{ps:List (List e6)}(hm:Mp ps){x:Hp}(hx:Oh x):∀(l:List (List Int)),x.S.Serial+201*(l.length:Int)<7000000000000000000→Oh (ers ps x l).1∧(ers ps x l).1.S.Serial≤x.S.Serial+201*(l.length:Int):=by
 intro l;induction l generalizing x with
 | nil=>exact λ_=>⟨hx,by show x.S.Serial≤_;simp⟩
 | cons r l ih=>
  intro hb;rw[List.length_cons] at hb ⊢;obtain⟨a,b⟩:=c9L hm hx (by omega) r;obtain⟨c,d⟩:=ih a (by omega);have e:=b9R ps x [r] l;rw[List.singleton_append] at e;rw[e];exact⟨c,by
   have:(ers ps (ers ps x [r]).1 l).1.S.Serial≤(er ps x r).1.S.Serial+201*(l.length:Int):=d;show (ers ps (ers ps x [r]).1 l).1.S.Serial≤_;omega⟩
end Go.Sh
namespace Go.Sh
def ctO(l:List b7)(k:Int):Nat:=l.countP λc=>c.State==k
theorem c2B(l:List b7)(c:b7)(k:Int):ctO (l ++ [c]) k=ctO l k+if c.State=k then 1 else 0:=by
 unfold ctO;rw[List.countP_append];simp[List.countP_cons]
end Go.Sh
namespace Go.Sh
inductive Fm (x:Hp) (o:e6) (z:Hp) (v:Int):Prop
 | new (i:Nat) (hF:Fst x.S i) (hk:o.Kind=1) (ha:0≤o.A∧o.A≤5) (hn:o.B.toNat≤4) (hc : -1≤o.C∧o.C≤5) (hv:v=x.S.Serial+1) (hz:z=D1 (wS x (mkS x.S i o.B.toNat o.C)) o.A.toNat (hdl x.S i)):Fm x o z v
 | root (h:Int) (hk:o.Kind≠1) (ha:0≤o.A∧o.A≤5) (hh:h=0∨h∈lv x.S) (hz:z=D1 x o.A.toNat h):Fm x o z v
 | field (h:Int) (n:Nat) (u:Int) (hk:o.Kind=5) (hl:h∈lv x.S) (hn:n<(ob x.S h).Fields.length) (hu:u=0∨u∈lv x.S) (hz:z=a0D x h n u):Fm x o z v
 | weak (h:Int) (hk:o.Kind=6) (ha:0≤o.A∧o.A≤5) (hc : -1≤o.C∧o.C≤5) (hh:h=0∨h∈lv x.S) (hw:wts x.Q o.A=false) (hz:z=a1G x o.A.toNat h o.C):Fm x o z v
 | pair (h u:Int) (r:Tb × Int × Int) (hk:o.Kind=8) (hl:h∈lv x.S) (hu:u=0∨u∈lv x.S) (hr:P8 x.T h u=some r) (h0:r.2.2=0) (hz:z=a4P x u r.1 r.2.1):Fm x o z v
 | same (hk:o.Kind=10) (hz:z=x):Fm x o z v
theorem Fm.ks{x z:Hp}{o:e6}{v:Int}(hx:K1 x)(f:Fm x o z v)(hk:o.Kind≠1):Ks x.S z.S:=by
 have hR:=hx.sh.sr;cases f with
 | new i hF hk'=>exact absurd hk' hk
 | root h _ ha hh hz=>rw[hz];exact a0t hR _ _
 | field h n u _ hl hn hu hz=>rw[hz];exact b4j hR hl hn u
 | weak h _ ha hc hh hw hz=>rw[hz];exact b75 hx (by omega) h _
 | pair h u r _ hl hu hr h0 hz=>rw[hz];exact b7t hR u _ _
 | same _ hz=>rw[hz];exact Ks.refl hR
end Go.Sh
namespace Go.Sh
def anE(p:Int × Int):g8:=⟨p.1,p.2⟩
def anR(p:Int × Int):C9:=⟨p.1,p.2⟩
section
variable{ps:List (List e6)}(hm:Mp ps){x:Hp}(hx:Oh x)(hb:x.S.Serial<7000000000000000000)
include hm hx hb
theorem c2q : -24≤cgn x-((btc x).length:Int)∧cgn x-((btc x).length:Int)≤24:=by
 have h1:=b47 hx.rt hx.sl hx.zr;have h2:(lv x.S).length≤24:=E3 (p8.2 hx.rt.sh.sr);obtain⟨c1,_,_⟩:=b5b hx.rt hx.sl hx.zr;have h3:(lv (col x).S).length≤24:=E3 (p8.2 c1.sh.sr);unfold cgn;split
 ·rename_i e;rw[e];simp;omega
 ·omega
theorem edo(row:List Int):a7C ⟨x,ps⟩ row=some (⟨(er ps x row).1,ps⟩,anE (er ps x row).2):=by
 unfold a7C;rw[(b6X row).1,d1G];unfold er;by_cases h:(a0m row).2=0
 ·rw[if_neg (show ¬(((a0m row).2 != 0)=true) by simp[h]),if_neg (show ¬((a0m row).2≠0) by simp[h])];have hc:=b5f h;generalize (a0m row).1=o at hc;unfold a5r eo;by_cases k11:o.Kind=11
  ·rw[if_pos (by simp[k11]),if_pos k11];refine Eq.trans (b:=(T4 x).bind λv4=>some (⟨v4.1,ps⟩,⟨s6 (v4.2.2-v4.2.1),0⟩)) rfl ?_;obtain⟨b1,b2⟩:=c2q hm hx hb;rw[c7P hx.rt hx.sl hx.zr,d1G];dsimp only;rw[B8 (by omega) (by omega)];rfl
  ·rw[if_neg (by simp[k11]),if_neg k11];by_cases k12:o.Kind=12
   ·rw[if_pos (by simp[k12]),if_pos k12];refine Eq.trans (b:=(a2i x ps o.A).bind λv5=>some (⟨v5.1,ps⟩,⟨v5.2.1,v5.2.2.2⟩)) rfl ?_;rw[k12] at hc;obtain⟨a0,a2⟩:=c2r hc;rw[drain_eq hx hm a0 (by omega) (by omega),d1G];rfl
   ·rw[if_neg (by simp[k12]),if_neg k12];refine Eq.trans (b:=(o9 x o).bind λv3=>some (⟨v3.1,ps⟩,⟨v3.2.1,v3.2.2⟩)) rfl ?_;rw[(a5G hx.rt hx.sl hx.zr (by omega) o).mc,d1G];rfl
 ·rw[if_pos (by simpa using h),if_pos h];rfl
theorem rdo(row:List Int):b89 ⟨hO x,psR ps⟩ row=some (⟨hO (er ps x row).1,psR ps⟩,anR (er ps x row).2):=by
 unfold b89;rw[(b6X row).2,d1G];unfold er;by_cases h:(a0m row).2=0
 ·rw[if_neg (show ¬(((a0m row).2 != 0)=true) by simp[h]),if_neg (show ¬((a0m row).2≠0) by simp[h])];have hc:=b5f h;generalize (a0m row).1=o at hc;unfold eo;by_cases k11:o.Kind=11
  ·rw[if_pos (by simp[k11,b1J]),if_pos k11];obtain⟨b1,b2⟩:=c2q hm hx hb;dsimp only;rw[c9E hx.rt hx.sl hx.zr,d1G];dsimp only;rw[B8 (by omega) (by omega)];rfl
  ·rw[if_neg (by simp[k11,b1J]),if_neg k11];by_cases k12:o.Kind=12
   ·rw[if_pos (by simp[k12,b1J]),if_pos k12];rw[k12] at hc;obtain⟨a0,a2⟩:=c2r hc;refine Eq.trans (b:=(a7T (hO x) (psR ps) o.A).bind λv3=>some (⟨v3.1,psR ps⟩,⟨v3.2.1,v3.2.2.2⟩)) rfl ?_;rw[c5n hx hm a0 (by omega) (by omega),d1G];rfl
   ·rw[if_neg (by simp[k12,b1J]),if_neg k12];refine Eq.trans (b:=(A6 (hO x) (opR o)).bind λv3=>some (⟨v3.1,psR ps⟩,⟨v3.2.1,v3.2.2⟩)) rfl ?_;rw[(a5G hx.rt hx.sl hx.zr (by omega) o).rf,d1G];rfl
 ·rw[if_pos (by simpa using h),if_pos h];rfl
end
section
variable{ps:List (List e6)}(hm:Mp ps){x:Hp}(hx:Oh x)
include hm hx
theorem b7V{rows:List (List Int)}{k:Nat}(hk:k<rows.length):ers ps x (rows.take (k+1))=((er ps (ers ps x (rows.take k)).1 rows[k]).1,(ers ps x (rows.take k)).2 ++ [(er ps (ers ps x (rows.take k)).1 rows[k]).2]):=by
 rw[List.take_succ_eq_append_getElem hk,c2K]
theorem c9M(rows:List (List Int))(hl:rows.length≤1000)(hb:x.S.Serial<6000000000000000000):W8 ⟨x,ps⟩ rows=some (⟨(ers ps x rows).1,ps⟩,(ers ps x rows).2.map anE):=by
 unfold W8;simp only[jn];refine P0 rows.length (λk s=>s=((⟨(ers ps x (rows.take k)).1,ps⟩:m8),(ers ps x (rows.take k)).2.map anE)) (by omega) rfl (λk s hk hs=>.inl ⟨_,?_,rfl⟩) (λs hs=>⟨s,if_neg (by simp),by rw[hs,List.take_length]⟩);subst hs;obtain⟨o1,o2⟩:=b5o hm hx (rows.take k) (by simp;omega);have hlen:=b9S ps x (rows.take k);have hkl:(rows.take k).length=k:=by simp;omega
 dsimp only;rw[if_pos (by simpa using hk),n7 hk,d1G,edo hm o1 (by rw[hkl] at o2;omega),d1G,x8 (by omega) (by simp[hlen];omega),d1G,k8,b7V hm hx hk];simp
theorem d0j(rows:List (List Int))(hl:rows.length≤1000)(hb:x.S.Serial<6000000000000000000):a7U ⟨hO x,psR ps⟩ rows=some (⟨hO (ers ps x rows).1,psR ps⟩,(ers ps x rows).2.map anR):=by
 unfold a7U;simp only[jn];refine P0 rows.length (λk s=>s=((⟨hO (ers ps x (rows.take k)).1,psR ps⟩:B2),(ers ps x (rows.take k)).2.map anR)) (by omega) rfl (λk s hk hs=>.inl ⟨_,?_,rfl⟩) (λs hs=>⟨s,if_neg (by simp),by rw[hs,List.take_length]⟩);subst hs;obtain⟨o1,o2⟩:=b5o hm hx (rows.take k) (by simp;omega);have hlen:=b9S ps x (rows.take k);have hkl:(rows.take k).length=k:=by simp;omega
 dsimp only;rw[if_pos (by simpa using hk),n7 hk,d1G,rdo hm o1 (by rw[hkl] at o2;omega),d1G,x8 (by omega) (by simp[hlen];omega),d1G,k8,b7V hm hx hk];simp
end
def tal(x:Hp):A4:=⟨ctO x.S.S.a8 0,ctO x.S.S.a8 1,ctO x.S.S.a8 2,ctO x.S.S.a8 3⟩
theorem c6w{s:a7}(hR:SR s):N7 s.S=some ⟨ctO s.S.a8 0,ctO s.S.a8 1,ctO s.S.a8 2,ctO s.S.a8 3⟩:=by
 unfold N7;simp only[jn];have hlen:=hR.len;refine P0 s.S.a8.length (λk t=>t=⟨ctO (s.S.a8.take k) 0,ctO (s.S.a8.take k) 1,ctO (s.S.a8.take k) 2,ctO (s.S.a8.take k) 3⟩) (by omega) (by simp[ctO]) (λk t hk ht=>.inl ?_) (λt ht=>⟨_,by simp;rfl,by rw[ht,List.take_length]⟩);have hc:=hR.cell k hk;rw[C4 hk] at hc;subst ht;simp only[Int.ofNat_lt,hk,decide_true,if_true,n7 hk,d1G];have hle:∀j,ctO (s.S.a8.take k) j≤24:=λj=>Nat.le_trans List.countP_le_length (by simp;omega);have h0:=hle 0;have h1:=hle 1;have h2:=hle 2;have h3:=hle 3;rw[List.take_succ_eq_append_getElem hk];simp only[c2B];refine⟨_,?_,rfl⟩;have hst:s.S.a8[k].State=0∨s.S.a8[k].State=1∨s.S.a8[k].State=2∨s.S.a8[k].State=3:=by omega
 rcases hst with e | e | e | e <;> rw[e] <;> simp[A4.ix,A4.l,A4.st,ix] <;> rw[k8,k8] <;> simp
section
variable{ps:List (List e6)}{x:Hp}(hx:K1 x)
include hx
theorem d05:a2V ⟨x,ps⟩=some (tal x):=by
 unfold a2V;dsimp only;rw[c6w hx.sh.sr,d1G];rfl
end
end Go.Sh
namespace Go.Sh
theorem Rs.oh{x:Hp}{n:Nat}(h:Rs x n):Oh x:=⟨h.rt,h.sl,h.zr⟩
theorem c95{n last places:Int}{ps:List (List e6)}(hl:ps.length≤12)(hp:∀p∈ps,p.length≤12) :
  (∃e,a1N n last places ps=some (⟨b7a,[]⟩,e)∧b55 n last places (psR ps)=some (⟨hO b7a,[]⟩,e)∧(e=13∨e=1∧¬((1≤n∧n≤24)∧(0≤last∧last≤9)∧1≤places∧places≤8))) ∨
  (∃k p:Nat,n=k∧places=p∧(1≤k∧k≤24)∧Mp ps∧Rs (nwH k last p) 0∧a1N n last places ps=some (⟨nwH k last p,ps⟩,0)∧b55 n last places (psR ps)=some (⟨hO (nwH k last p),psR ps⟩,0)):=by
 have e1:a1K ps=some (a5L ps):=c3V (by omega) hp;have e2:a7S (psR ps)=some (a5L ps):=b83 (by omega) hp;unfold a1N b55;rw[e1,e2,d1G,d1G];cases hq:a5L ps;·exact .inl ⟨13,rfl,rfl,.inl rfl⟩
 ·simp only[Bool.not_true,Bool.false_eq_true,if_false];by_cases h:(1≤n∧n≤24)∧(0≤last∧last≤9)∧1≤places∧places≤8
  ·right;obtain⟨h1,h2,h3⟩:=h;obtain⟨k,rfl⟩:∃k:Nat,n=k:=⟨n.toNat,by omega⟩;obtain⟨p,rfl⟩:∃p:Nat,places=p:=⟨places.toNat,by omega⟩;obtain⟨a1,a2,hx,hS,hz⟩:=c24 (k:=k) (p:=p) (l:=last) (by omega) h2 (by omega);refine⟨k,p,rfl,rfl,by omega,(c90 hq).1,⟨hx,hS,hz,Int.le_refl _⟩,?_,?_⟩
   ·rw[a1,d1G,hx.sh.r6];rfl
   ·rw[a2,d1G,show (hO (nwH k last p)).Roots.length=6 from hx.sh.r6];rfl
  ·left;have a1:a3u n last places=some b7a:=by
    unfold a3u;rw[if_pos (by simp;omega)];rfl
   have a2:a94 n last places=some (hO b7a):=by
    unfold a94;rw[if_pos (by simp;omega)];rfl
   refine⟨1,?_,?_,.inr ⟨rfl,h⟩⟩;·rw[a1];rfl
   ·rw[a2];rfl
theorem c84{x:Hp}{n:Nat}(hx:Rs x n)(hn:n≤1000000){ps:List (List e6)}(hm:Mp ps){rows:List (List Int)}(hl:rows.length≤1000){r:B2 × List C9}(h:a7U ⟨hO x,psR ps⟩ rows=some r) :
  W8 ⟨x,ps⟩ rows=some (⟨hOI r.1.X,ps⟩,r.2.map λa=>⟨a.V,a.E⟩)∧Rs (hOI r.1.X) (n+201*rows.length)∧(ers ps x rows).1=hOI r.1.X∧(ers ps x rows).2=r.2.map λa=>(a.V,a.E):=by
 have hs:=hx.Z9;have e:=d0j hm hx.oh rows hl (by omega);rw[h] at e;have e:=Option.some.inj e;obtain⟨o1,o2⟩:=b5o hm hx.oh rows (by omega);have a1:(ers ps x rows).1=hOI r.1.X:=by rw[e,a8W]
 have a2:(ers ps x rows).2=r.2.map λa=>(a.V,a.E):=by
  rw[e,List.map_map];conv=>lhs;rw[←List.map_id (ers ps x rows).2]
  exact List.map_congr_left λp _=>rfl
 refine⟨?_,⟨a1▸o1.rt,a1▸o1.sl,a1▸o1.zr,?_⟩,a1,a2⟩
 ·rw[c9M hm hx.oh rows hl (by omega),a1,a2,List.map_map];congr 1
 ·have:(hOI r.1.X).S.Serial≤x.S.Serial+201*(rows.length:Int):=a1▸o2;show (hOI r.1.X).S.Serial≤((n+201*rows.length:Nat):Int);omega
theorem b5J:Mp []:=λ_ h=>by cases h
end Go.Sh
namespace Go.Sh
end Go.Sh
namespace Go.Sh
theorem d0t(a b c d:Int):V8 a b c d=some [a,b,c,d]:=by
 unfold V8;rfl
def en(x:Hp):m8:=⟨x,[]⟩
theorem c4A{k:Nat}{l:Int}(hk:1≤k∧k≤24)(hl:0≤l∧l≤9):a5b k l=some (en (nwH k l 8))∧Rs (nwH k l 8) 0:=by
 rcases c95 (n:=(k:Int)) (last:=l) (places:=8) (ps:=[]) (by decide) (λp h=>by cases h) with ⟨e,_,_,h | ⟨_,h⟩⟩ | ⟨k',p,h1,h2,_,_,hr,e1,_⟩
 ·exfalso;rename_i e1 e2;subst h;have hq:a1K []=some true:=by kernel_rfl
  unfold a1N at e1;rw[hq,d1G] at e1;simp only[Bool.not_true,Bool.false_eq_true,if_false] at e1;cases hn:a3u k l 8 with
  | none=>rw[hn] at e1;cases e1
  | some y=>
   rw[hn,d1G] at e1;split at e1
   ·have:(1:Int)=13:=congrArg (λz=>(z.getD (⟨b7a,[]⟩,0)).2) e1;exact absurd this (by decide)
   ·have:(0:Int)=13:=congrArg (λz=>(z.getD (⟨b7a,[]⟩,0)).2) e1;exact absurd this (by decide)
 ·exact absurd ⟨by omega,hl,by omega,by omega⟩ h
 ·obtain rfl:k=k':=by omega
  obtain rfl:p=8:=by omega
  refine⟨?_,hr⟩;unfold a5b;rw[e1];rfl
theorem c6G{n:Int}(h0:0≤n)(h1:n≤255){l:Int}(hl:0≤l∧l≤9):∃k:Nat,1+n % 24=k∧(1≤k∧k≤24)∧a5b (s6 (1+n % 24)) l=some (en (nwH k l 8))∧Rs (nwH k l 8) 0:=by
 obtain⟨k,hk⟩:∃k:Nat,1+n % 24=k:=⟨(1+n % 24).toNat,by omega⟩;have hw:s6 (1+n % 24)=(k:Int):=by rw[B8 (by omega) (by omega)];exact hk
 rw[hw];exact⟨k,hk,by omega,c4A (by omega) hl⟩
theorem d0n{n:Int}(h0:0≤n)(h1:n≤255):s6 n=n:=B8 (by omega) (by omega)
theorem c7c{n:Int}(h0:0≤n)(h1:n≤255){b:Int}(hb:0<b):rem (s6 n) b=some (n % b):=by rw[d0n h0 h1,a5T h0 hb]
def c4d:List (List Int):=[[1,0,1,(-1)],[5,0,0,0],[3,0,0,0],[11,0,0,0],[1,0,0,(-1)],[1,1,0,(-1)],[1,2,0,(-1)]]
def d1j:B2 × List C9:=(a7U ⟨hO (nwH 2 3 8),[]⟩ c4d).getD (⟨hO b7a,[]⟩,[])
theorem c6r:a7u=some true:=by
 obtain⟨a1,a2⟩:=c4A (k:=2) (l:=3) (by decide) (by decide);obtain⟨b1,b2,_,_⟩:=c84 a2 (by decide) b5J (rows:=c4d) (by decide) (r:=d1j) (by kernel_rfl);unfold a7u;refine bnd a1 ?_;simp only[d0t,d1G];refine bnd b1 ?_;dsimp only;rw[d05 b2.rt];kernel_rfl
end Go.Sh
namespace Go.Sh
end Go.Sh
namespace Go.Sh
end Go.Sh
namespace Go.Sh
def anI(a:C9):g8:=⟨a.V,a.E⟩
def a2y(y:g5)(rows:List (List Int)):B2 × List C9:=(a7U ⟨y,[]⟩ rows).getD (⟨hO b7a,[]⟩,[])
structure Re (y:g5) (n:Nat):Prop where
 id:hO (hOI y)=y
 rs:Rs (hOI y) n
def eI(y:g5):m8:=en (hOI y)
theorem c32{k:Nat}{l:Int}(h:Rs (nwH k l 8) 0):Re (hO (nwH k l 8)) 0∧eI (hO (nwH k l 8))=en (nwH k l 8):=by
 unfold eI;rw[a8W];exact⟨⟨by rw[a8W],by rw[a8W];exact h⟩,rfl⟩
theorem c33{y:g5}{n:Nat}(h:Re y n)(hn:n≤1000000){rows:List (List Int)}(hl:rows.length≤1000):W8 (eI y) rows=some (eI (a2y y rows).1.X,(a2y y rows).2.map anI)∧Re (a2y y rows).1.X (n+201*rows.length):=by
 obtain⟨e,r⟩:=h;have hs:=r.Z9;have er:=d0j b5J r.oh rows hl (by omega);have eq:a2y y rows=(⟨hO (ers [] (hOI y) rows).1,psR []⟩,(ers [] (hOI y) rows).2.map anR):=by
  unfold a2y;rw[e] at er;show (a7U ⟨y,psR []⟩ rows).getD _=_;rw[er];rfl
 obtain⟨o1,o2⟩:=b5o b5J r.oh rows (by omega);rw[eq];refine⟨?_,⟨by show hO (hOI (hO _))=hO _;rw[a8W],?_⟩⟩
 ·show W8 ⟨hOI y,[]⟩ rows=_;rw[c9M b5J r.oh rows hl (by omega)];show _=some ((⟨hOI (hO (ers [] (hOI y) rows).1),[]⟩:m8),((ers [] (hOI y) rows).2.map anR).map anI);rw[a8W,List.map_map];rfl
 ·show Rs (hOI (hO (ers [] (hOI y) rows).1)) _;rw[a8W];exact⟨o1.rt,o1.sl,o1.zr,by omega⟩
end Go.Sh
namespace Go.Sh
end Go.Sh
namespace Go.Sh
theorem c5t{α:Type}{l:List α}{i:Nat}(h:i<l.length)(d:α):ix l (i:Int)=some (l.getD i d):=by
 rw[n7 h];congr 1;rw[List.getD_eq_getElem?_getD,List.getElem?_eq_getElem h];rfl
theorem c1b{α β:Type}(f:α→β)(l:List α)(i:Nat)(d:α):(l.map f).getD i (f d)=f (l.getD i d):=by
 rw[List.getD_eq_getElem?_getD,List.getD_eq_getElem?_getD,List.getElem?_map];cases l[i]? <;> rfl
end Go.Sh
namespace Go.Sh
end Go.Sh
namespace Go.Sh
def a89(i:Nat):List (List Int):=[[1,0,0,(-1)],[6,((i % 6:Nat):Int),0,(-1)],[7,1,((i % 6:Nat):Int),0],[3,1,0,0],[3,0,0,0],[7,1,((i % 6:Nat):Int),0],[1,2,0,(-1)],[7,1,((i % 6:Nat):Int),0],[3,2,0,0]]
def a9e(k:Nat):Nat→g5
 | 0=>hO (nwH k 9 8)
 | i+1=>(a2y (a9e k i) (a89 i)).1.X
theorem c7l{k:Nat}(h:Rs (nwH k 9 8) 0):∀i,i≤100→Re (a9e k i) (1809*i)
 | 0,_=>(c32 h).1
 | i+1,q=>by
  have:=(c33 (c7l h i (by omega)) (by omega) (rows:=a89 i) (show 9≤1000 by decide)).2;rw[show 1809*i+201*(a89 i).length=1809*(i+1) by show 1809*i+201*9=_;omega] at this;exact this
def a6D(k i j:Nat):C9:=(a2y (a9e k i) (a89 i)).2.getD j ⟨7,7⟩
def c9j(k i:Nat):Bool:=((a2y (a9e k i) (a89 i)).2.length==9) && !(((a6D k i 0).E==0)&&(((((a6D k i 2).V) != (a6D k i 0).V)||((a6D k i 5).E != 9))||((a6D k i 7).E != 9)))
def c1M(k:Nat):Bool:=[0,1,2,3,4,5,6].all (c9j k)
set_option maxRecDepth 100000 in
theorem d0o : [1,2,3,4,5,6,7,8].all c1M=true:=by kernel_rfl
set_option maxRecDepth 100000 in
theorem d0p : [9,10,11,12,13].all c1M=true:=by kernel_rfl
set_option maxRecDepth 100000 in
theorem d0q : [14,15,16,17].all c1M=true:=by kernel_rfl
set_option maxRecDepth 100000 in
theorem d0r : [18,19,20,21].all c1M=true:=by kernel_rfl
set_option maxRecDepth 100000 in
theorem d0s : [22,23,24].all c1M=true:=by kernel_rfl
theorem d1k{k:Nat}(h:1≤k)(h2:k≤24){i:Nat}(hi:i<7):c9j k i=true:=by
 have a:=List.all_eq_true.1 d0o k;have b:=List.all_eq_true.1 d0p k;have c:=List.all_eq_true.1 d0q k;have d:=List.all_eq_true.1 d0r k;have e:=List.all_eq_true.1 d0s k;have key:c1M k=true:=by
  rcases Nat.lt_or_ge k 9 with q | q
  ·exact a (by simp;omega)
  ·rcases Nat.lt_or_ge k 14 with q | q
   ·exact b (by simp;omega)
   ·rcases Nat.lt_or_ge k 18 with q | q
    ·exact c (by simp;omega)
    ·rcases Nat.lt_or_ge k 22 with q | q
     ·exact d (by simp;omega)
     ·exact e (by simp;omega)
 exact List.all_eq_true.1 key i (by simp;omega)
theorem topWeak{n t:Int}(h0:0≤n)(h1:n≤255)(t0:0≤t)(t1:t≤255):a6c n t=some true:=by
 unfold a6c;rw[c7c h0 h1 (by decide),d1G];obtain⟨k,hk,hk2,a,r0⟩:=c6G h0 h1 (l:=9) (by decide);obtain⟨r1,r2⟩:=c32 r0;obtain⟨m,hm⟩:∃m:Nat,t % 8=m:=⟨(t % 8).toNat,by omega⟩;rw[a,d1G,←r2];simp only[jn,d0t,c7c t0 t1 (by decide:(0:Int)<8),d1G,hm];refine a0p (λj=>((j:Int),eI (a9e k j))) rfl m (λ_=>True) (by omega) trivial (λj hj _=>.inl ⟨?_,trivial⟩) (λ_=>⟨.inr (),if_neg (by simp),by show (a7u).bind _=_;rw[c6r];rfl⟩);have hs:=c7l r0 j (by omega);have hrem:rem (j:Int) 6=some ((j % 6:Nat):Int):=by rw[a5T (by omega) (by decide)];rfl
 obtain⟨b1,b2⟩:=c33 hs (by omega) (rows:=a89 j) (show 9≤1000 by decide);have hE:=d1k hk2.1 hk2.2 (i:=j) (by omega);unfold c9j at hE;rw[Bool.and_eq_true,beq_iff_eq] at hE;obtain⟨hlen,hc⟩:=hE;have hl9:((a2y (a9e k j) (a89 j)).2.map anI).length=9:=by rw[List.length_map,hlen]
 have ixs:∀i:Nat,i<9→ix ((a2y (a9e k j) (a89 j)).2.map anI) (i:Int)=some (anI (a6D k j i)):=λi hi=>by
  have:=c5t (l:=(a2y (a9e k j) (a89 j)).2.map anI) (i:=i) (by omega) (anI ⟨7,7⟩);rw[c1b] at this;exact this
 have i0:ix ((a2y (a9e k j) (a89 j)).2.map anI) 0=_:=ixs 0 (by decide);have i2:ix ((a2y (a9e k j) (a89 j)).2.map anI) 2=_:=ixs 2 (by decide);have i5:ix ((a2y (a9e k j) (a89 j)).2.map anI) 5=_:=ixs 5 (by decide);have i7:ix ((a2y (a9e k j) (a89 j)).2.map anI) 7=_:=ixs 7 (by decide);dsimp only;rw[if_pos (by simpa using hj),hrem,d1G];refine bnd (a:=(eI (a9e k (j+1)),(a2y (a9e k j) (a89 j)).2.map anI)) b1 ?_;dsimp only;have l9:((((a2y (a9e k j) (a89 j)).2.map anI).length:Int) != 9)=false:=by rw[hl9];rfl
 rw[l9,i0,i2,i5,i7];have hc2:((((anI (a6D k j 0)).E==0)&&((((anI (a6D k j 2)).V != (anI (a6D k j 0)).V)||((anI (a6D k j 5)).E != 9))||((anI (a6D k j 7)).E != 9))))=false:=by
  have:(!(((a6D k j 0).E==0)&&(((((a6D k j 2).V) != (a6D k j 0).V)||((a6D k j 5).E != 9))||((a6D k j 7).E != 9))))=true:=hc;rw[Bool.not_eq_true'] at this;exact this
 simp only[beq_self_eq_true,a2S,d1G,Bool.true_and,Bool.false_or];cases e0:((anI (a6D k j 0)).E==0)
 ·simp only[y8,Bool.false_and,d1G,Bool.false_eq_true,if_false,show (false==true)=false from rfl];rw[k8]
 ·rw[e0] at hc2;simp only[Bool.true_and] at hc2;rw[Bool.or_eq_false_iff,Bool.or_eq_false_iff] at hc2;obtain⟨⟨c1,c2⟩,c3⟩:=hc2;simp only[beq_self_eq_true,a2S,d1G,c1,c2,c3,Bool.true_and,Bool.or_self,Bool.and_false,Bool.false_eq_true,if_false];rw[k8]
end Go.Sh
namespace Go.Sh
structure Bk (x:Hp):Prop where
 ok:Oh x
 rt:x.Roots=List.replicate 6 0
 cl:x.a8=List.replicate 6 ⟨0,false,-1⟩
 hs:∀k v,¬Has x.T k v
 q:x.Q.L = []
 st:∀i,i<x.S.S.a8.length→(ce x.S i).State=0∨(ce x.S i).State=3
theorem Bk.lv{x:Hp}(h:Bk x):lv x.S = []:=List.eq_nil_iff_forall_not_mem.2 λk hk=>by
 obtain⟨i,hi⟩:=(a2Q h.ok.rt.sh.sr).1 hk;rcases h.st i hi.1 with e | e <;> rw[hi.2.1] at e <;> exact absurd e (by decide)
end Go.Sh
namespace Go.Sh
def cpc(x:Hp)(j:Nat):Int:=if (ce x.S j).State=0 then x.S.S.Last+1-(ce x.S j).Gen else 0
def cap(x:Hp):Int:=((List.range x.S.S.a8.length).map (cpc x)).sum
end Go.Sh
