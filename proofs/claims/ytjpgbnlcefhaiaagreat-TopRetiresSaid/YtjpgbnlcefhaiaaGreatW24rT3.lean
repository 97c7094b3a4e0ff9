/-
 More of the theory.
-/
import Derived.Test.YtjpgbnlcefhaiaaGreatW24rT2
set_option linter.unusedVariables false
set_option linter.unusedSimpArgs false
set_option linter.unusedSectionVars false
namespace Go.Sh
theorem c29{c:Int}(h:0≤c):1≤O4 c:=by unfold O4;split <;> (try split) <;> omega
theorem b83{x:Hp}(hR:SR x.S){h:Int}(hh:h∈lv x.S){k:Int}(hk:k∈lv x.S):(ob (quH x h).S k).Strong=if k=h then O4 (ob x.S k).Strong else (ob x.S k).Strong:=by
 have oko:=G9 hR hh;have ho:OkO x.S (srt (ob x.S h)):=⟨oko.s1,oko.s2,oko.st,oko.wk,oko.p1,oko.p2,oko.fl⟩;have r1:=a0h (o:=srt (ob x.S h)) hR hh rfl ho;have l1:lv (seO x.S h (srt (ob x.S h)))=lv x.S:=a2Q (o:=srt (ob x.S h)) hR hh rfl ho;have hr:=G2 hR hk;have e1:(ob (seO x.S h (srt (ob x.S h))) k).Strong=(ob x.S k).Strong:=by
  rw[a12 (o:=srt (ob x.S h)) hR hh rfl ho (by omega)];split;·rename_i e;subst e;rfl
  ·rfl
 have:=a7l (x:=⟨seO x.S h (srt (ob x.S h)),x.Roots,x.a8,x.T,⟨x.Q.L ++ [qtk x h],x.Q.Cap⟩⟩) r1 (h:=h) (f:=O4) (λc=>A5) (k:=k) (by
  show k∈lv (seO x.S h (srt (ob x.S h)));rw[l1];exact hk)
 rw[show (ob (quH x h).S k).Strong=_ from this];show (if k=h then O4 (ob (seO x.S h (srt (ob x.S h))) k).Strong else (ob (seO x.S h (srt (ob x.S h))) k).Strong)=_;rw[e1]
theorem c8Z{x:Hp}(hx:J9 x)(hz:zr x = []){h:Int}(hh:h∈lv x.S):zr (quH x h) = []:=List.eq_nil_iff_forall_not_mem.2 λk hk=>by
 obtain⟨a,b⟩:=a0j.1 hk;rw[b5V hx.sh.sr hh] at a;rw[b83 hx.sh.sr hh a] at b;have h0:=(G9 hx.sh.sr a).st;have hn:(ob x.S k).Strong≠0:=λq=>by
  have:k∈zr x:=a0j.2 ⟨a,q⟩;rw[hz] at this;cases this
 split at b;·have:=c29 h0;omega
 ·exact hn b
structure Qd (x y:Hp) (l:List Int):Prop where
 rt:J9 y
 sl:SL y
 zr:zr y = []
 lv:lv y.S=lv x.S
 ob:∀k∈Sh.lv x.S,∃n,Sh.ob y.S k=stg (if k∈l then srt (Sh.ob x.S k) else Sh.ob x.S k) n
 ro:y.Roots=x.Roots
 ce:y.a8=x.a8
 t:y.T=x.T
 q:y.Q=⟨x.Q.L++l.map (qtk x),x.Q.Cap⟩
 Y3:y.S.Serial=x.S.Serial
theorem c6h{x:Hp}(hR:SR x.S){h:Int}(hh:h∈lv x.S):(quH x h).S.Serial=x.S.Serial:=(a5N hR hh).1.Y3
theorem b84:∀(l:List Int) {x:Hp},J9 x→SL x→Sh.zr x = []→l.Nodup→(∀h∈l,h∈Sh.lv x.S∧due (Sh.ob x.S h)=true)→Qd x (l.foldl quH x) l
 | [],x,hx,hS,hz,_,_=>⟨hx,hS,hz,rfl,λk hk=>⟨(Sh.ob x.S k).Strong,by rw[if_neg (by simp)];rfl⟩,rfl,rfl,rfl,by simp,rfl⟩
 | h::l,x,hx,hS,hz,hn,hd=>by
  obtain⟨hl,hdu⟩:=hd h (List.mem_cons_self ..);have hR:=hx.sh.sr;rw[List.nodup_cons] at hn;have q2:=hdu;unfold due at q2;rw[Bool.and_eq_true,decide_eq_true_iff,Bool.not_eq_true'] at q2;have h1:=b0S hx hl q2.1 q2.2;have h2:=c31 hR hS hl;have h3:=c8Z hx hz hl;have lq:=b5V hR hl;have oq:∀k∈Sh.lv x.S,k≠h→∃n,Sh.ob (quH x h).S k=stg (Sh.ob x.S k) n:=λk hk hne=>by
   obtain⟨n,e⟩:=b2X hR hl hk;rw[if_neg hne] at e;exact⟨n,e⟩
  have ih:=b84 l h1 h2 h3 hn.2 λk hk=>by
   obtain⟨a,b⟩:=hd k (List.mem_cons_of_mem _ hk);obtain⟨n,e⟩:=oq k a λe=>hn.1 (e▸hk);refine⟨by rw[lq];exact a,?_⟩;rw[e];exact b
  obtain⟨_,k1,k2,k3,k4⟩:=a5N hR hl;refine⟨ih.rt,ih.sl,ih.zr,ih.lv.trans lq,λk hk=>?_,ih.ro.trans k1,ih.ce.trans k2,ih.t.trans k3,?_,ih.Y3.trans (c6h hR hl)⟩
  ·obtain⟨n,e⟩:=ih.ob k (by rw[lq];exact hk);obtain⟨m,e2⟩:=b2X hR hl hk;refine⟨n,?_⟩;show Sh.ob (l.foldl quH (quH x h)).S k=_;rw[e];by_cases c:k=h
   ·subst c;rw[if_neg hn.1,if_pos (List.mem_cons_self ..),e2,if_pos rfl]
   ·rw[if_neg c] at e2;by_cases c2:k∈l
    ·rw[if_pos c2,if_pos (List.mem_cons_of_mem _ c2),e2]
    ·rw[if_neg c2,if_neg (λq=>by
      rcases List.mem_cons.1 q with r | r
      ·exact c r
      ·exact c2 r),e2]
  ·show (l.foldl quH (quH x h)).Q=_;rw[ih.q,k4];have:l.map (qtk (quH x h))=l.map (qtk x):=List.map_congr_left λk hk=>by
    obtain⟨a,_⟩:=hd k (List.mem_cons_of_mem _ hk);obtain⟨n,e⟩:=oq k a λe=>hn.1 (e▸hk);show (⟨1,k,(Sh.ob (quH x h).S k).Prog⟩:g7)=⟨1,k,(Sh.ob x.S k).Prog⟩;rw[e]
   rw[this];simp
noncomputable def btc(x:Hp):List Int:=(gbg x).filter λh=>due (Sh.ob x.S h)
noncomputable def col(x:Hp):Hp:=if btc x = [] then buH x (gbg x) else (btc x).foldl quH x
theorem b45{x:Hp}:∀h∈btc x,h∈Sh.lv x.S∧due (Sh.ob x.S h)=true:=λh hh=>by
 obtain⟨a,b⟩:=List.mem_filter.1 hh;exact⟨(Y6.1 a).1,b⟩
theorem c2l{x:Hp}(hx:J9 x):(btc x).Nodup:=List.Pairwise.filter _ (a2G hx)
theorem c2m{x:Hp}(hx:J9 x)(hS:SL x)(hz:zr x = []):Qd x ((btc x).foldl quH x) (btc x):=b84 _ hx hS hz (c2l hx) b45
theorem b5b{x:Hp}(hx:J9 x)(hS:SL x)(hz:zr x = []):J9 (col x)∧SL (col x)∧zr (col x) = []:=by
 unfold col;split;·exact⟨T9 hx,c2n hx.sh.sr hS (a2G hx) (a1Q hx),b6R (T9 hx) (b60 hx)⟩
 ·have q:=c2m hx hS hz;exact⟨q.rt,q.sl,q.zr⟩
end Go.Sh
namespace Go.Sh
theorem c2z{y:Hp}(h:btc y = []):col y=buH y (gbg y):=by
 unfold col;rw[if_pos h]
section
variable{x:Hp}(hx:J9 x)
include hx
end
end Go.Sh
namespace Go.Sh
structure Rs (x:Hp) (n:Nat):Prop where
 rt:J9 x
 sl:SL x
 zr:zr x = []
 Y3:x.S.Serial≤n
end Go.Sh
namespace Go.Sh
section
variable{x:Hp}(hx:J9 x)(hS:SL x)
include hx hS
theorem c2q:M7 x=some (gbg x):=by
 have hB:=c62 hx hS;unfold M7;rw[b8D (p8.2 hx.sh.sr) hx.sh.hr hB.tb hB.fb hB.sb];rfl
theorem c6U:a4b (hO x)=some (gbg x):=by
 have hB:=c62 hx hS;unfold a4b;rw[show (hO x).S=sO x.S from rfl,show (hO x).T=x.T.map J4 from rfl,b5t (p8.2 hx.sh.sr) hx.sh.hr hB.tb hB.sb];rfl
theorem a9z:(gbg x).length≤24:=Nat.le_trans (List.length_filter_le ..) (E3 (p8.2 hx.sh.sr))
theorem c7P:a19 x=some (btc x):=by
 have hR:=hx.sh.sr;have hl:=a9z hx hS;unfold a19;rw[c2q hx hS,d1D];unfold E2;simp only[jn];refine bnd (a:=btc x) ?_ rfl;refine M8 (gbg x).length (λk b=>b=((gbg x).take k).filter λh=>due (Sh.ob x.S h)) (by omega) rfl (λk b hk hP=>?_) (λb hP=>?_)
 ·subst hP;have hm:=a1Q hx _ (List.getElem_mem hk);have hle:(((gbg x).take k).filter λh=>due (Sh.ob x.S h)).length≤24:=Nat.le_trans (List.length_filter_le ..) (by simp;omega);refine .inl ⟨_,?_,rfl⟩;rw[if_pos (by simpa using hk),n8 hk,d1D,J6 hk,List.filter_append];unfold a2F;rw[b0I hR hm,d1D,d1D];have e:(decide ((ob x.S (gbg x)[k],(0:Int)).1.Prog≥0) && !(ob x.S (gbg x)[k],(0:Int)).1.Started)=due (ob x.S (gbg x)[k]):=rfl;rw[e];cases hd:due (ob x.S (gbg x)[k])
  ·rw[if_neg (by simp),k7];simp[hd]
  ·rw[if_pos rfl,y5 (by omega) (by simp;omega),d1D,k7];simp[hd]
 ·subst hP;refine⟨_,if_neg (by simp),?_⟩;rw[List.take_length];rfl
theorem c9F:b00 (hO x)=some (btc x):=by
 have hR:=hx.sh.sr;have hl:=a9z hx hS;unfold b00;rw[c6U hx hS,d1D];simp only[jn];refine M8 (gbg x).length (λk b=>b=((gbg x).take k).filter λh=>due (Sh.ob x.S h)) (by omega) rfl (λk b hk hP=>?_) (λb hP=>?_)
 ·subst hP;have hm:=a1Q hx _ (List.getElem_mem hk);have hle:(((gbg x).take k).filter λh=>due (Sh.ob x.S h)).length≤24:=Nat.le_trans (List.length_filter_le ..) (by simp;omega);refine .inl ⟨_,?_,rfl⟩;rw[if_pos (by simpa using hk),n8 hk,d1D,J6 hk,List.filter_append,c2H hx hS (a1j hR hm),d1D,decide_eq_true hm,Bool.true_and];cases hd:due (ob x.S (gbg x)[k])
  ·rw[if_neg (by simp),k7];simp[hd]
  ·rw[if_pos rfl,y5 (by omega) (by simp;omega),d1D,k7];simp[hd]
 ·subst hP;refine⟨_,if_neg (by simp),?_⟩;rw[List.take_length];rfl
noncomputable def cgn(x:Hp):Int:=if btc x = [] then ((lv x.S).length:Int)-((lv (col x).S).length:Int) else 0
omit hx hS in
theorem c3l {l:List Int} (hn:l.Nodup) (hm:∀d∈l,d∈lv x.S):lvo x l=l:=by
 have key:∀(l b:List Int),(b++l).Nodup→(∀d∈l,d∈lv x.S)→l.foldl (λb h=>if h∈lv x.S∧h∉b then b ++ [h] else b) b=b++l:=by
  intro l;induction l with
  | nil=>intro b _ _;simp
  | cons a l ih=>
   intro b hn hm;rw[List.foldl_cons];have ha:a∉b:=λq=>by
    rw[List.nodup_append] at hn;exact hn.2.2 a q a (List.mem_cons_self ..) rfl
   rw[if_pos ⟨hm a (List.mem_cons_self ..),ha⟩,ih (b ++ [a]) (by simpa using hn) λd hd=>hm d (List.mem_cons_of_mem _ hd)];simp
 exact key l [] (by simpa using hn) hm
variable(hz:zr x = [])
include hz
theorem c0G{k:Nat}(hk:k<(btc x).length):(((btc x).take k).foldl quH x)=(((btc x).take k).foldl quH x)∧J9 (((btc x).take k).foldl quH x)∧SL (((btc x).take k).foldl quH x)∧(btc x)[k]∈lv (((btc x).take k).foldl quH x).S∧due (ob (((btc x).take k).foldl quH x).S (btc x)[k])=true:=by
 have hn:=c2l hx;have q:=b84 ((btc x).take k) hx hS hz ((List.take_sublist ..).nodup hn) λh hh=>b45 h (List.mem_of_mem_take hh);obtain⟨a,b⟩:=b45 (btc x)[k] (List.getElem_mem hk);refine⟨rfl,q.rt,q.sl,by rw[q.lv];exact a,?_⟩;obtain⟨n,e⟩:=q.ob _ a;have hnot:(btc x)[k]∉(btc x).take k:=λh=>by
  have:=J6 hk;have hs:((btc x).take (k+1)).Nodup:=(List.take_sublist ..).nodup hn;rw[this,List.nodup_append] at hs;exact hs.2.2 _ h _ (List.mem_singleton_self _) rfl
 rw[e,if_neg hnot];exact b
theorem b46:(btc x).length≤24:=Nat.le_trans (List.length_filter_le ..) (a9z hx hS)
theorem c7T:T2 x=some (col x,((btc x).length:Int),cgn x):=by
 have hR:=hx.sh.sr;have hl:=b46 hx hS hz;obtain⟨c1,c2,c3⟩:=b5b hx hS hz;unfold T2;rw[c7P hx hS,d1D];simp only[jn];refine M8 (btc x).length (λk b=>b=((btc x).take k).foldl quH x) (by omega) rfl (λk b hk hP=>?_) (λb hP=>?_)
 ·subst hP;obtain⟨_,r1,r2,r3,r4⟩:=c0G hx hS hz hk;refine .inl ⟨_,?_,rfl⟩;rw[if_pos (by simpa using hk),n8 hk,d1D,b4I r1 r2 (a1j r1.sh.sr r3),d1D,k7,J6 hk,List.foldl_append];unfold quD;rw[if_pos ⟨r3,r4⟩];rfl
 ·subst hP;refine⟨_,if_neg (by simp),?_⟩;rw[List.take_length];by_cases hb:btc x = []
  ·have e:col x=buH x (gbg x):=c2z hb;rw[if_neg (by simp[hb])];unfold cgn;rw[if_pos hb,e,hb];have h1:=a2G hx;have h2:=a1Q hx;have hlive:=a2d (p8.2 hR);have hlive2:=a2d (p8.2 (T9 hx).sh.sr);have l1:=E3 (p8.2 hR);have l2:=E3 (p8.2 (T9 hx).sh.sr);show (M7 x).bind _=_;rw[c2q hx hS,d1D,List.foldl_nil,b9K hx h1 h2 (c0v hx) (by rw[a9O hR _ (by have:=a9z hx hS;omega) λh hh=>a1j hR (h2 h hh),c3l h1 h2]),d1D,a3i (T9 hx) (by rw[←e];exact c2),d1D,b2D hx,hlive,d1D,hlive2,d1D,B1 (by omega) (by omega)];rfl
  ·have:0<(btc x).length:=List.length_pos_iff.2 hb;rw[if_pos (by simp;omega)];unfold cgn col;rw[if_neg hb,if_neg hb]
theorem c9H:a67 (hO x)=some (hO (col x),((btc x).length:Int),cgn x):=by
 have hR:=hx.sh.sr;have hl:=b46 hx hS hz;obtain⟨c1,c2,c3⟩:=b5b hx hS hz;unfold a67;rw[c9F hx hS,d1D];simp only[jn];by_cases hb:btc x = []
 ·have e:col x=buH x (gbg x):=c2z hb;rw[if_neg (by simp[hb])];unfold cgn;rw[if_pos hb,e,hb];have h1:=a2G hx;have h2:=a1Q hx;have hlive:=a8W (p8.2 hR);have hlive2:=a8W (p8.2 (T9 hx).sh.sr);have l1:=E3 (p8.2 hR);have l2:=E3 (p8.2 (T9 hx).sh.sr);rw[c6U hx hS,d1D,b4d hx h1 h2 (c0v hx) (by rw[c2I hR _ (by have:=a9z hx hS;omega) λh hh=>a1j hR (h2 h hh),c3l h1 h2]),d1D,a4Z (T9 hx) (by rw[←e];exact c2),d1D,b2D hx,show (hO x).S=sO x.S from rfl,hlive,d1D,show (hO (buH x (gbg x))).S=sO (buH x (gbg x)).S from rfl,hlive2,d1D,B1 (by omega) (by omega)];rfl
 ·have hp:0<(btc x).length:=List.length_pos_iff.2 hb;rw[if_pos (by simp;omega)];refine M8 (btc x).length (λk b=>b=hO (((btc x).take k).foldl quH x)) (by omega) rfl (λk b hk hP=>?_) (λb hP=>?_)
  ·subst hP;obtain⟨_,r1,r2,r3,r4⟩:=c0G hx hS hz hk;refine .inl ⟨_,?_,rfl⟩;rw[if_pos (by simpa using hk),n8 hk,d1D,b7w r1 r2 (a1j r1.sh.sr r3),d1D,k7,J6 hk,List.foldl_append];unfold quD;rw[if_pos ⟨r3,r4⟩];rfl
  ·subst hP;refine⟨_,if_neg (by simp),?_⟩;rw[List.take_length];unfold cgn col;rw[if_neg hb,if_neg hb]
end
end Go.Sh
namespace Go.Sh
theorem c5p{x:Hp}(hx:J9 x)(hS:SL x)(hz:zr x = []):(col x).S.Serial=x.S.Serial:=by
 unfold col;split
 ·have g:=a0H (gbg x) hx.sh.sr (a2G hx) (a1Q hx);exact (a2B ((gbg x).flatMap (outs x.S)++(wot x.T (gbg x)).2) (x:=a3m x (gbg x) (wot x.T (gbg x)).1) g.sr).1.Y3.trans g.Y3
 ·exact (c2m hx hS hz).Y3
end Go.Sh
namespace Go.Sh
def Sv(s s':a7):Prop:=s'.S.a8.length=s.S.a8.length∧∀i,i<s.S.a8.length→(ce s i).Gen≤(ce s' i).Gen∧((ce s' i).Gen=(ce s i).Gen→((ce s i).State≠0→(ce s' i).State≠0)∧((ce s' i).State=1→(ce s i).State=0∨((ce s i).State=1∧((ce s i).Val.Started=true→(ce s' i).Val.Started=true))))
theorem Sv.refl(s:a7):Sv s s:=⟨rfl,λi _=>⟨Int.le_refl _,λ_=>⟨id,λh=>.inr ⟨h,id⟩⟩⟩⟩
theorem Sv.trans{a b c:a7}(h:Sv a b)(q:Sv b c):Sv a c:=by
 obtain⟨h1,h2⟩:=h;obtain⟨q1,q2⟩:=q;refine⟨q1.trans h1,λi hi=>?_⟩;obtain⟨a1,a2⟩:=h2 i hi;obtain⟨b1,b2⟩:=q2 i (by omega);refine⟨by omega,λe=>?_⟩;obtain⟨a3,a4⟩:=a2 (by omega);obtain⟨b3,b4⟩:=b2 (by omega);refine⟨λh=>b3 (a3 h),λh=>?_⟩;rcases b4 h with r | ⟨r,r'⟩
 ·exact .inl (Classical.byContradiction λn=>a3 n r)
 ·rcases a4 r with k | ⟨k,k'⟩
  ·exact .inl k
  ·exact .inr ⟨k,λs=>r' (k' s)⟩
def b9y(s:a7)(h:Int):Prop:=∃(i:Nat) (g:Int),i<s.S.a8.length∧h=1+(i:Int)+32*g∧(g<(ce s i).Gen∨(g=(ce s i).Gen∧(ce s i).State≠0∧((ce s i).State=1→(ce s i).Val.Started=true)))
theorem Sv.d0m{s s':a7}(h:Sv s s'){k:Int}(q:b9y s k):b9y s' k:=by
 obtain⟨i,g,hi,e,q⟩:=q;obtain⟨h1,h2⟩:=h;obtain⟨a,b⟩:=h2 i hi;refine⟨i,g,by omega,e,?_⟩;rcases q with q | ⟨q1,q2,q3⟩
 ·exact .inl (by omega)
 ·by_cases c:(ce s' i).Gen=(ce s i).Gen
  ·obtain⟨b1,b2⟩:=b c;refine .inr ⟨by omega,b1 q2,λr=>?_⟩;rcases b2 r with k | ⟨k1,k2⟩
   ·exact absurd k q2
   ·exact k2 (q3 k1)
  ·exact .inl (by omega)
theorem c1z{s:a7}(hR:SR s){h:Int}(hh:h∈lv s)(hs:(ob s h).Started=false):¬b9y s h:=by
 rintro⟨i,g,hi,e,q⟩;obtain⟨j,hj⟩:=(a2p hR).1 hh;have hl:=hR.len;have hij:i=j:=by
  have:=hj.2.2;have:=hj.1;omega
 subst hij;have:=hj.2.2;rcases q with q | ⟨q1,q2,q3⟩
 ·omega
 ·rw[M4 hR hj,q3 hj.2.1] at hs;cases hs
theorem Kin.sv{s s':a7}(hR:SR s)(k:Kin s s'):Sv s s':=⟨k.len,λi hi=>by
 obtain⟨a,b,_,_,_⟩:=k.ce i hi;refine⟨by omega,λ_=>⟨by omega,λh=>.inr ⟨by omega,λq=>?_⟩⟩⟩;have h1:At s (I6 s i) i:=⟨hi,by omega,rfl⟩;have h2:At s' (I6 s i) i:=⟨by rw[k.len];exact hi,h,by rw[b];rfl⟩;have hl:=G2 hR ((a2p hR).2 ⟨i,h1⟩);obtain⟨n,e⟩:=k.ob (I6 s i) (by omega);rw[M4 k.sr h2,M4 hR h1] at e;rw[e];exact q⟩
theorem c4m{s:a7}(hR:SR s){h:Int}(hh:h∈lv s){o:l4}(hs:o.Serial=(ob s h).Serial)(ho:OkO s o)(hst:(ob s h).Started=true→o.Started=true):Sv s (seO s h o):=⟨c0B s h o,λi hi=>by
 have q:=u4 hR hh;rw[b6h hR hh hs ho];split
 ·rename_i e;subst e;refine⟨Int.le_refl _,λ_=>⟨id,λr=>.inr ⟨q.2.1,λk=>hst ?_⟩⟩⟩;rw[M4 hR q];exact k
 ·exact⟨Int.le_refl _,λ_=>⟨id,λr=>.inr ⟨r,id⟩⟩⟩⟩
theorem c3q{s:a7}(hR:SR s){i:Nat}(hi:i<s.S.a8.length)(ht:Th (ce s i))(d:Int):Sv s (mkA s i d):=⟨J5 ..,λj hj=>by
 rw[a2L hR hi ht];split
 ·rename_i e;subst e;exact⟨Int.le_refl _,λ_=>⟨id,λr=>.inr ⟨r,id⟩⟩⟩
 ·exact⟨Int.le_refl _,λ_=>⟨id,λr=>.inr ⟨r,id⟩⟩⟩⟩
theorem c8e{s:a7}{i:Nat}(hi:i<s.S.a8.length):Sv s (gvA s i):=⟨T6 ..,λj hj=>by
 unfold gvA;rw[H6 hi];by_cases e:j=i
 ·subst e;rw[if_pos rfl];split;·exact⟨Int.le_refl _,λ_=>⟨λ_=>(by decide:(3:Int)≠0),λr=>absurd (show (3:Int)=1 from r) (by decide)⟩⟩
  ·refine⟨by show _≤(ce s j).Gen+1;omega,λr=>?_⟩;have:(ce s j).Gen+1=(ce s j).Gen:=r;omega
 ·rw[if_neg e];exact⟨Int.le_refl _,λ_=>⟨id,λr=>.inr ⟨r,id⟩⟩⟩⟩
theorem Gn.sv{s s':a7}{ds:List Int}(g:Gn s s' ds):Sv s s':=⟨g.len,λj hj=>by
 rw[g.ce];split
 ·unfold gnC;split
  ·split;·exact⟨Int.le_refl _,λ_=>⟨λ_=>(by decide:(3:Int)≠0),λr=>absurd (show (3:Int)=1 from r) (by decide)⟩⟩
   ·refine⟨by show _≤(Sh.ce s j).Gen+1;omega,λr=>?_⟩;have:(Sh.ce s j).Gen+1=(Sh.ce s j).Gen:=r;omega
  ·exact⟨Int.le_refl _,λ_=>⟨λ_=>(by decide:(2:Int)≠0),λr=>absurd (show (2:Int)=1 from r) (by decide)⟩⟩
 ·exact⟨Int.le_refl _,λ_=>⟨id,λr=>.inr ⟨r,id⟩⟩⟩⟩
theorem c92{s:a7}(hR:SR s){i:Nat}(hi:i<s.S.a8.length)(h0:(ce s i).State=0){n:Nat}(hn:n≤4){p:Int}(hp : -1≤p∧p≤5):Sv s (W3 s i n p):=⟨a1U hR hi h0 hn hp,λj hj=>by
 rw[a4J hR hi h0 hn hp];split
 ·rename_i e;subst e;exact⟨Int.le_refl _,λ_=>⟨λr=>absurd h0 r,λ_=>.inl h0⟩⟩
 ·exact⟨Int.le_refl _,λ_=>⟨id,λr=>.inr ⟨r,id⟩⟩⟩⟩
theorem b9f{x:Hp}(hR:SR x.S)(h:Int):Sv x.S (A1 x h).S:=(C9 hR h (f:=O4) λc=>A5).sv hR
theorem b6b{x:Hp}(hR:SR x.S)(h:Int):Sv x.S (M3 x h).S:=(C9 hR h (f:=a3O) λc=>H8).sv hR
theorem b7G{x:Hp}(hR:SR x.S)(r:Nat)(h:Int):Sv x.S (B0 x r h).S:=
 (b9f hR h).trans (b6b (x:=wR (A1 x h) (x.Roots.set r h)) (a2P hR h) _)
theorem c03{x:Hp}(hR:SR x.S){h:Int}(hh:h∈lv x.S){n:Nat}(hn:n<(ob x.S h).Fields.length)(v:Int):Sv x.S (a0F x h n v).S:=by
 have k1:=b6e hR v;have hh1:h∈lv (A1 x v).S:=by rw[k1.lv];exact hh
 have hof:(ob (A1 x v).S h).Fields=(ob x.S h).Fields:=by
  obtain⟨n,e⟩:=(C9 hR v (f:=O4) λc=>A5).ob h (by have:=G2 hR hh;omega);show (ob (stO x v O4).S h).Fields=_;rw[e]
 have ho:OkO (A1 x v).S (flg (ob (A1 x v).S h) ((ob x.S h).Fields.set n v)):=by
  have:=G9 k1.sr hh1;refine⟨this.s1,this.s2,this.st,this.wk,this.p1,this.p2,?_⟩;have h4:=this.fl;rw[hof] at h4;simpa using h4
 have k2:=c4m (o:=flg (ob (A1 x v).S h) ((ob x.S h).Fields.set n v)) k1.sr hh1 rfl ho id;exact ((b9f hR v).trans k2).trans (b6b (x:=wS (A1 x v) (seO (A1 x v).S h (flg (ob (A1 x v).S h) ((ob x.S h).Fields.set n v)))) (a0h (o:=flg (ob (A1 x v).S h) ((ob x.S h).Fields.set n v)) k1.sr hh1 rfl ho) _)
theorem c3S{x:Hp}(hR:SR x.S)(v:Int)(t:Tb)(old:Int):Sv x.S (a4N x v t old).S:=
 (b9f hR v).trans (b6b (x:=wT (A1 x v) t) (a2P hR v) old)
theorem c8w{x:Hp}(hR:SR x.S)(h d:Int):Sv x.S (mkd x h d).S:=by
 unfold mkd;split
 ·rename_i q;exact c3q hR q.1 q.2.1 d
 ·exact Sv.refl _
theorem c6G{x:Hp}(hR:SR x.S)(h:Int):Sv x.S (a7p x h).S:=by
 unfold a7p;split
 ·rename_i q;have k:=c3q hR q.1 q.2.1 (-1);split;·exact k.trans (c8e (by rw[k.1];exact q.1))
  ·exact k
 ·exact Sv.refl _
theorem c4B{x:Hp}(hx:J9 x)(n:Nat)(h call:Int):Sv x.S (a1I x n h call).S:=by
 have hR:=hx.sh.sr;unfold a1I;have s1:Sv x.S (mkd (wC x (x.a8.set n (wcl h call))) h 1).S:=c8w (x:=wC x (x.a8.set n (wcl h call))) hR h 1;refine s1.trans (c6G ?_ _);unfold mkd;split
 ·rename_i q;have:=(hR.ok _ q.1 q.2.1).wk;exact b2P hR q.1 q.2.1 (by omega)
 ·exact hR
theorem c7Q{x:Hp}(hR:SR x.S){ds:List Int}(hn:ds.Nodup)(hm:∀d∈ds,d∈lv x.S):Sv x.S (buH x ds).S:=by
 have g:=a0H ds hR hn hm;exact g.sv.trans ((a2B (ds.flatMap (outs x.S)++(wot x.T ds).2) (x:=a3m x ds (wot x.T ds).1) g.sr).1.sv g.sr)
theorem c8Y{x:Hp}(hR:SR x.S){h:Int}(hh:h∈lv x.S):Sv x.S (quH x h).S:=by
 have oko:=G9 hR hh;have ho:OkO x.S (srt (ob x.S h)):=⟨oko.s1,oko.s2,oko.st,oko.wk,oko.p1,oko.p2,oko.fl⟩;exact (c4m (o:=srt (ob x.S h)) hR hh rfl ho λ_=>rfl).trans ((a5N hR hh).1.sv (a0h (o:=srt (ob x.S h)) hR hh rfl ho))
theorem c9l{x:Hp}(hx:J9 x):Sv x.S (stp x).S:=by
 cases h:zr x with
 | nil=>rw[a7Z h];exact Sv.refl _
 | cons z l=>
  have hz:z∈zr x:=by rw[h];exact List.mem_cons_self ..
  have hzl:=(a0j.1 hz).1;rw[a2C h];split;·exact c8Y hx.sh.sr hzl
  ·exact c7Q hx.sh.sr (by simp) (by simpa using hzl)
theorem c9h{x:Hp}(hx:J9 x)(n:Nat):Sv x.S (stN n x).S:=by
 induction n with
 | zero=>exact Sv.refl _
 | succ n ih=>rw[a0u];exact ih.trans (c9l (Z6 hx n))
theorem c6x{x:Hp}(hx:J9 x):Sv x.S (X6 x).S:=c9h hx 100
structure Fw (x y:Hp):Prop where
 sv:Sv x.S y.S
 q:∃l,y.Q=⟨x.Q.L++l,x.Q.Cap⟩∧∀t∈l,t.Kind=1→¬b9y x.S t.At
theorem Fw.of{x y:Hp}(h:Sv x.S y.S)(q:y.Q=x.Q):Fw x y:=⟨h,[],by rw[q,List.append_nil],λt ht=>by cases ht⟩
theorem Fw.refl(x:Hp):Fw x x:=Fw.of (Sv.refl _) rfl
theorem Fw.trans{x y z:Hp}(a:Fw x y)(b:Fw y z):Fw x z:=by
 obtain⟨l,q1,q2⟩:=a.q;obtain⟨m,r1,r2⟩:=b.q;refine⟨a.sv.trans b.sv,l++m,by rw[r1,q1,List.append_assoc],λt ht hk=>?_⟩;rcases List.mem_append.1 ht with h | h
 ·exact q2 t h hk
 ·exact λs=>r2 t h hk (a.sv.d0m s)
theorem b6j{x:Hp}(hx:J9 x):Fw x (X6 x):=by
 obtain⟨l,q1,q2,_⟩:=(a4Y hx).q;exact⟨c6x hx,l,q1,λt ht hk=>c1z hx.sh.sr (q2 t ht hk).1 (q2 t ht hk).2⟩
end Go.Sh
namespace Go.Sh
theorem a3G{x:Hp}(hR:SR x.S)(r:Nat)(h:Int):Fw x (B0 x r h):=Fw.of (b7G hR r h) (a0R x r h).2.2.2
theorem c9L{x:Hp}(hx:J9 x)(hS:SL x)(hz:zr x = [])(hb:x.S.Serial<9223372036854775807)(o:e6):(∃e,Er x o e)∨∃z v,Dn x o z v∧Fw x z:=by
 have hR:=hx.sh.sr;obtain⟨k,a,b,c⟩:=o;by_cases hc:u9 k a b c=0
 ·have:=b91 hc;have hk:k=1∨k=2∨k=3∨k=4∨k=5∨k=6∨k=7∨k=8∨k=9∨k=10∨k=11∨k=12:=by omega
  rcases hk with rfl | rfl | rfl | rfl | rfl | rfl | rfl | rfl | rfl | rfl | rfl | rfl
  ·rcases d1 hx hS hb hc with ⟨e,_,h⟩ | ⟨hn,hcc,i,hF,h⟩;·exact .inl ⟨e,h⟩
   ·obtain⟨hi,h0,_⟩:=hF;have k1:Fw x (wS x (W3 x.S i b.toNat c)):=Fw.of (c92 hR hi h0 hn hcc) rfl;exact .inr ⟨_,_,h,k1.trans (a3G (x:=wS x (W3 x.S i b.toNat c)) (b4B hR hi h0 hn hcc) _ _)⟩
  ·exact .inr ⟨_,_,d2 hx hS hc,a3G hR _ _⟩
  ·exact .inr ⟨_,_,d3 hx hS hc,a3G hR _ _⟩
  ·rcases d4 hx hS hc with ⟨_,h⟩ | ⟨e,_,h⟩ | ⟨_,n,_,_,h⟩;·exact .inl ⟨_,h⟩
   ·exact .inl ⟨_,h⟩
   ·exact .inr ⟨_,_,h,a3G hR _ _⟩
  ·rcases d5 hx hS hc with ⟨_,h⟩ | ⟨e,_,h⟩ | ⟨hl,n,_,hn,h⟩;·exact .inl ⟨_,h⟩
   ·exact .inl ⟨_,h⟩
   ·exact .inr ⟨_,_,h,Fw.of (c03 hR hl hn _) (a6I _ _ _ _).2.2.2⟩
  ·rcases d6 hx hS hc with ⟨_,h⟩ | ⟨e,_,h⟩ | ⟨_,h⟩;·exact .inl ⟨_,h⟩
   ·exact .inl ⟨_,h⟩
   ·exact .inr ⟨_,_,h,Fw.of (c4B hx _ _ _) (b3x _ _ _ _).2.2.2⟩
  ·obtain⟨_,⟨_,h⟩ | ⟨_,h⟩⟩:=d7 hx hS hc;·exact .inl ⟨_,h⟩
   ·exact .inr ⟨_,_,h,a3G hR _ _⟩
  ·rcases d8 hx hS hc with ⟨_,h⟩ | ⟨_,e,_,h⟩ | ⟨_,r,_,_,h⟩;·exact .inl ⟨_,h⟩
   ·exact .inl ⟨_,h⟩
   ·exact .inr ⟨_,_,h,Fw.of (c3S hR _ _ _) (a81 _ _ _ _).2.2.2⟩
  ·rcases d9 hx hS hc with ⟨_,h⟩ | ⟨_,_,h⟩ | ⟨_,v,_,h⟩;·exact .inl ⟨_,h⟩
   ·exact .inl ⟨_,h⟩
   ·exact .inr ⟨_,_,h,a3G hR _ _⟩
  ·exact .inr ⟨_,_,d10 hx hS hz hc,Fw.refl x⟩
  ·obtain⟨h1,h2⟩:=b5j (x:=x) (a:=a) (b:=b) (c:=c) (.inl rfl) hc;exact .inl ⟨14,by decide,h1,h2⟩
  ·obtain⟨h1,h2⟩:=b5j (x:=x) (a:=a) (b:=b) (c:=c) (.inr rfl) hc;exact .inl ⟨14,by decide,h1,h2⟩
 ·obtain⟨h1,h2⟩:=c2F (x:=x) (o:=⟨k,a,b,c⟩) hc;exact .inl ⟨_,hc,h1,h2⟩
theorem c7Y{x:Hp}(hx:J9 x)(hS:SL x)(hz:zr x = [])(hb:x.S.Serial<9223372036854775807)(o:e6):Fw x (dov x o).1:=by
 rcases c9L hx hS hz hb o with ⟨e,_,h,_⟩ | ⟨z,v,d,f⟩
 ·have:dov x o=(x,0,e):=by unfold dov;rw[h];rfl
  rw[this];exact Fw.refl x
 ·have:dov x o=(X6 z,v,0):=by unfold dov;rw[d.mc];rfl
  rw[this];exact f.trans (b6j d.rt)
theorem d0j{x:Hp}(h1:HpS x)(h2:Wk x){L:List Int}(h3:a0S x L){r:Nat}(hr:r<6){h:Int}(hh:h=0∨h∈lv x.S):HpS (B0 x r h)∧Wk (B0 x r h)∧a0S (B0 x r h) L:=by
 have kin:=C9 h1.sr h (f:=O4) λc=>A5;have l1:lv (A1 x h).S=lv x.S:=kin.lv;have f1:a0S (A1 x h) (h::L):=b7I h1.sr h3 h;have s1:HpS (A1 x h):=h1.st h (f:=O4) λc=>A5;have s2:HpS (wR (A1 x h) (x.Roots.set r h)):=s1.roots (by rw[List.length_set];exact h1.r6) λv hv=>by
  rw[l1];rcases List.mem_or_eq_of_mem_set hv with q | q
  ·exact h1.rt v q
  ·exact q▸hh
 have w1:Wk (A1 x h):=h2.st h1.sr h (f:=O4) λc=>A5;have one:∀v k,V5 [v] k=if v=k∧k≠0 then 1 else 0:=λv k=>by rw[D5,M2,Nat.zero_add]
 have f2:a0S (wR (A1 x h) (x.Roots.set r h)) (x.Roots.getD r 0::L):=f1.mv rfl (λ_ _=>rfl) λk hk=>by
  have:=b2b (l:=x.Roots) (r:=r) (by rw[h1.r6];exact hr) h k;rw[one,one] at this;rw[b05 x h];unfold nms otr;dsimp only;rw[H4,H4,b1c,b1c,D5 h L,D5 (x.Roots.getD r 0) L];omega
 exact⟨s2.st _ λc=>H8,Wk.st (x:=wR (A1 x h) (x.Roots.set r h)) w1 s2.sr _ λc=>H8,b0a (x:=wR (A1 x h) (x.Roots.set r h)) s2.sr f2⟩
abbrev unq(x:Hp)(ts:List g7):Hp:=wQ x ⟨ts,x.Q.Cap⟩
noncomputable def b0E(x:Hp)(ts:List g7)(h:Int):Hp:=M3 (B0 (unq x ts) 5 h) h
section
variable{x:Hp}(hx:J9 x){t:g7}{ts:List g7}(hq:x.Q.L=t::ts)
include hx hq
theorem b6u:HpS (unq x ts):=by
 have h:=hx.sh;refine⟨h.sr,h.hr,h.r6,h.c6,h.cap,?_,λu hu=>h.tk u (by rw[hq];exact List.mem_cons_of_mem _ hu),?_,h.rt,h.fl,h.pr,λi hi=>?_⟩
 ·have:=h.q30;rw[hq,List.length_cons] at this;show ts.length≤30;omega
 ·have:=h.td;rw[hq,List.pairwise_cons] at this;exact this.2
 ·obtain⟨a,b,c,d,e⟩:=h.cl i hi;refine⟨a,b,c,d,λq=>⟨(e q).1,?_⟩⟩;have:=(e q).2;rw[Bool.eq_false_iff] at this ⊢;intro r;obtain⟨u,hu,k1,k2⟩:=a4h.1 r;exact this (a4h.2 ⟨u,by rw[hq];exact List.mem_cons_of_mem _ hu,k1,k2⟩)
theorem b7X:a0S (unq x ts) (if t.Kind=1 then [t.At] else []):=hx.fair.mv rfl (λ_ _=>rfl) λh _=>by
 unfold nms otr b3V;dsimp only;rw[hq,List.filter_cons];by_cases k:t.Kind=1
 ·rw[if_pos k,if_pos (by simpa using k),List.map_cons,H4,H4,D5 t.At (List.map _ _),D5 t.At [],M2];omega
 ·rw[if_neg k,if_neg (by simpa using k),M2]
theorem b8m(hk:t.Kind≠1):J9 (unq x ts):=⟨b6u hx hq,hx.wk,by have:=b7X hx hq;rwa [if_neg hk] at this⟩
theorem b8x(hk:t.Kind=1):t.At∈lv x.S∧(ob x.S t.At).Started=true:=by
 rcases (hx.sh.tk t (by rw[hq];exact List.mem_cons_self ..)).2.2 with ⟨_,b,c⟩ | ⟨b,_⟩;·exact⟨b,c⟩
 ·omega
theorem a4C(hk:t.Kind=1):J9 (b0E x ts t.At):=by
 have f:=b7X hx hq;rw[if_pos hk] at f;obtain⟨a,b,c⟩:=d0j (b6u hx hq) (x:=unq x ts) hx.wk f (r:=5) (by decide) (.inr (b8x hx hq hk).1);exact⟨a.st _ λc=>H8,b.st a.sr _ λc=>H8,b0a a.sr c⟩
omit hq in
theorem b8y (hS:SL x) (h:Int):SL (b0E x ts h):=by
 have k:=a3H (x:=unq x ts) hx.sh.sr hS 5 h;exact b59 [h] (a0t (x:=unq x ts) hx.sh.sr 5 h).sr k
omit hq in
theorem c71 (h:Int):Ks x.S (b0E x ts h).S:=by
 have k:=a0t (x:=unq x ts) hx.sh.sr 5 h;exact k.trans (b6a k.sr h)
omit hq in
theorem c2U (h:Int):(b0E x ts h).Roots=x.Roots.set 5 h∧(b0E x ts h).a8=x.a8∧(b0E x ts h).T=x.T∧(b0E x ts h).Q=⟨ts,x.Q.Cap⟩:=by
 obtain⟨a,b,c,d⟩:=b3e (B0 (unq x ts) 5 h) h;obtain⟨a',b',c',d'⟩:=a0R (unq x ts) 5 h;exact⟨a.trans a',b.trans b',c.trans c',d.trans d'⟩
omit hq in
theorem c70 (h:Int):Fw (unq x ts) (b0E x ts h):=Fw.of ((b7G (x:=unq x ts) hx.sh.sr 5 h).trans (b6b (a0t (x:=unq x ts) hx.sh.sr 5 h).sr h)) (c2U hx h).2.2.2
end
def prg(ps:List (List e6))(n:Int):List e6:=if n<0∨(ps.length:Int)≤n then [] else ps.getD n.toNat []
noncomputable def pre(x:Hp)(t:g7)(ts:List g7):Hp:=if t.Kind=1 then X6 (b0E x ts t.At) else unq x ts
noncomputable def ran(ps:List (List e6))(x:Hp)(t:g7)(ts:List g7):Hp:=(runs (pre x t ts) (prg ps t.Prog)).1
noncomputable def dne(ps:List (List e6))(x:Hp)(t:g7)(ts:List g7):Hp:=if t.Kind=1 then X6 (B0 (ran ps x t ts) 5 0) else ran ps x t ts
structure Oh (x:Hp):Prop where
 rt:J9 x
 sl:SL x
 zr:zr x = []
theorem Nxt.ok{x y:Hp}{o:e6}{v e:Int}(n:Nxt x o y v e):Oh y:=⟨n.rt,n.sl,n.zr⟩
theorem c0D{x:Hp}(h:J9 x)(s:SL x):Oh (X6 x):=⟨a13 h,c0E h s,b4Q h⟩
theorem c4j{x:Hp}(hx:Oh x)(l:List e6)(hb:x.S.Serial+l.length<9223372036854775807):Oh (runs x l).1∧Fw x (runs x l).1∧(runs x l).1.S.Serial≤x.S.Serial+l.length∧(runs x l).2.length=l.length:=by
 have key:∀k,k≤l.length→Oh (runs x (l.take k)).1∧Fw x (runs x (l.take k)).1∧(runs x (l.take k)).1.S.Serial≤x.S.Serial+k∧(runs x (l.take k)).2.length=k:=by
  intro k;induction k with
  | zero=>exact λ_=>⟨hx,Fw.refl x,by show x.S.Serial≤_;omega,rfl⟩
  | succ k ih=>
   intro hk;obtain⟨a,b,c,d⟩:=ih (by omega);have hk':k<l.length:=by omega
   have n:=a5H a.rt a.sl a.zr (by omega) l[k];rw[J6 hk',a7W];exact⟨n.ok,b.trans (c7Y a.rt a.sl a.zr (by omega) _),by have:=n.ev.s2;show (dov _ _).1.S.Serial≤_;omega,by simp[d]⟩
 have:=key l.length (Nat.le_refl _);rwa [List.take_length] at this
section
variable{x:Hp}(hx:Oh x){t:g7}{ts:List g7}(hq:x.Q.L=t::ts)(ps:List (List e6))
include hx hq
theorem b8Z:Oh (pre x t ts):=by
 unfold pre;split
 ·rename_i k;exact c0D (a4C hx.rt hq k) (b8y hx.rt hx.sl _)
 ·rename_i k;exact⟨b8m hx.rt hq k,hx.sl,hx.zr⟩
theorem c8R:Fw (unq x ts) (pre x t ts):=by
 unfold pre;split
 ·rename_i k;exact (c70 hx.rt _).trans (b6j (a4C hx.rt hq k))
 ·exact Fw.refl _
theorem b5R:(pre x t ts).S.Serial=x.S.Serial:=by
 unfold pre;split
 ·rename_i k;rw[(a4Y (a4C hx.rt hq k)).Y3,(c71 hx.rt _).Y3]
 ·rfl
variable(hb:x.S.Serial+(prg ps t.Prog).length<9223372036854775807)
include hb
theorem b55:Oh (ran ps x t ts)∧Fw (unq x ts) (ran ps x t ts)∧(ran ps x t ts).S.Serial≤x.S.Serial+(prg ps t.Prog).length:=by
 have e:=b5R hx hq;obtain⟨a,b,c,_⟩:=c4j (b8Z hx hq) (prg ps t.Prog) (by rw[e];exact hb);exact⟨a,(c8R hx hq).trans b,by rw[e] at c;exact c⟩
theorem c5t:Oh (dne ps x t ts)∧Fw (unq x ts) (dne ps x t ts)∧(dne ps x t ts).S.Serial≤x.S.Serial+(prg ps t.Prog).length∧(t.Kind=1→sd (dne ps x t ts) 5=0):=by
 obtain⟨a,b,c⟩:=b55 hx hq ps hb;unfold dne;split
 ·have hz:=X5 a.rt (r:=5) (by decide) (h:=0) (.inl rfl);have k:=a0t a.rt.sh.sr 5 0;refine⟨c0D hz (a3H a.rt.sh.sr a.sl 5 0),(b.trans (a3G a.rt.sh.sr 5 0)).trans (b6j hz),?_,λ_=>(a7T a.rt (a:=5) (by decide) (h:=0) (.inl rfl)).1⟩;rw[(a4Y hz).Y3,k.Y3];exact c
 ·exact⟨a,b,c,λq=>absurd q (by assumption)⟩
end
end Go.Sh
namespace Go.Sh
def cst(ps:List (List e6))(t:g7):Int:=1+((prg ps t.Prog).length:Int)
def can(ps:List (List e6))(p:Hp × Int):Prop:=∃t ts,p.1.Q.L=t::ts∧cst ps t≤p.2
noncomputable def nxd(ps:List (List e6))(p:Hp × Int):Hp × Int:=match p.1.Q.L with
 | []=>p
 | t::ts=>if cst ps t≤p.2 then (dne ps p.1 t ts,p.2-cst ps t) else p
noncomputable def dN(ps:List (List e6)):Nat→Hp × Int→Hp × Int
 | 0,p=>p
 | n+1,p=>dN ps n (nxd ps p)
section
variable(ps:List (List e6))
theorem b1R(n:Nat)(p:Hp × Int):dN ps (n+1) p=nxd ps (dN ps n p):=by
 induction n generalizing p with
 | zero=>rfl
 | succ n ih=>exact ih (nxd ps p)
theorem c5W{p:Hp × Int}(h:p.1.Q.L = []):nxd ps p=p:=by unfold nxd;rw[h]
theorem a9W{p:Hp × Int}{t:g7}{ts:List g7}(h:p.1.Q.L=t::ts):nxd ps p=if cst ps t≤p.2 then (dne ps p.1 t ts,p.2-cst ps t) else p:=by unfold nxd;rw[h]
theorem b6P{p:Hp × Int}{t:g7}{ts:List g7}(h:p.1.Q.L=t::ts):can ps p↔cst ps t≤p.2:=by
 constructor
 ·rintro⟨u,us,e,c⟩;rw[h] at e;injection e with e1 e2
  rw[e1];exact c
 ·exact λc=>⟨t,ts,h,c⟩
theorem a9o(t:g7):1≤cst ps t:=by unfold cst;omega
theorem b9N{p:Hp × Int}(hb:0≤p.2):∃n:Nat,(n:Int)≤p.2∧¬can ps (dN ps n p)∧∀j,j<n→can ps (dN ps j p):=by
 have key:∀m:Nat,(∃n:Nat,n≤m∧¬can ps (dN ps n p))∨((dN ps m p).2+m≤p.2∧0≤(dN ps m p).2):=by
  intro m;induction m with
  | zero=>exact .inr ⟨by show p.2+((0:Nat):Int)≤_;omega,hb⟩
  | succ m ih=>
   rcases ih with ⟨n,h1,h2⟩ | ⟨h1,h2⟩;·exact .inl ⟨n,by omega,h2⟩
   ·by_cases q:can ps (dN ps m p)
    ·right;obtain⟨t,ts,e,c⟩:=q;have:=a9o ps t;rw[b1R,a9W ps e,if_pos c];dsimp only;omega
    ·exact .inl ⟨m,by omega,q⟩
 have hex:∃n:Nat,(n:Int)≤p.2∧¬can ps (dN ps n p):=by
  rcases key (p.2.toNat+1) with ⟨n,h1,h2⟩ | ⟨h1,h2⟩
  ·rcases Nat.lt_or_ge n (p.2.toNat+1) with q | q
   ·exact⟨n,by omega,h2⟩
   ·have hn:n=p.2.toNat+1:=by omega
    rcases key p.2.toNat with ⟨n,h1,h2⟩ | ⟨h1,h3⟩;·exact⟨n,by omega,h2⟩
    ·refine⟨p.2.toNat,by omega,λ⟨t,ts,e,c⟩=>?_⟩;have:=a9o ps t;omega
  ·omega
 obtain⟨n,⟨hn,hz⟩,hmin⟩:=a0E hex;refine⟨n,hn,hz,λj hj=>Classical.byContradiction λq=>?_⟩;have:=hmin j ⟨by omega,q⟩;omega
theorem b5e{p:Hp × Int}(hx:Oh p.1)(hb:0≤p.2)(hs:p.1.S.Serial+p.2<9223372036854775807):∀n,Oh (dN ps n p).1∧0≤(dN ps n p).2∧(dN ps n p).2≤p.2∧(dN ps n p).1.S.Serial+(dN ps n p).2≤p.1.S.Serial+p.2
 | 0=>⟨hx,hb,Int.le_refl _,Int.le_refl _⟩
 | n+1=>by
  obtain⟨a,b,c,d⟩:=b5e hx hb hs n;rw[b1R];cases e:(dN ps n p).1.Q.L with
  | nil=>rw[c5W ps e];exact⟨a,b,c,d⟩
  | cons t ts=>
   rw[a9W ps e];split
   ·rename_i q;have q2:=q;unfold cst at q2;obtain⟨r1,_,r3,_⟩:=c5t a e ps (by omega);refine⟨r1,?_,?_,?_⟩;·dsimp only;omega
    ·have:=a9o ps t;dsimp only;omega
    ·dsimp only;unfold cst;omega
   ·exact⟨a,b,c,d⟩
end
noncomputable def dn(ps:List (List e6))(p:Hp × Int):Nat:=if h:0≤p.2 then Classical.choose (b9N ps h) else 0
theorem b9O(ps:List (List e6)){p:Hp × Int}(h:0≤p.2):(dn ps p:Int)≤p.2∧¬can ps (dN ps (dn ps p) p)∧∀j,j<dn ps p→can ps (dN ps j p):=by
 unfold dn;rw[dif_pos h];exact Classical.choose_spec (b9N ps h)
noncomputable def dr(ps:List (List e6))(p:Hp × Int):Hp × Int:=dN ps (dn ps p) p
theorem c9M(ps:List (List e6)){x:Hp}{f:Int}(hx:Oh x)(hf:0≤f)(hs:x.S.Serial+f<9223372036854775807):Oh (dr ps (x,f)).1∧0≤(dr ps (x,f)).2∧(dr ps (x,f)).2≤f∧(dr ps (x,f)).1.S.Serial+(dr ps (x,f)).2≤x.S.Serial+f:=b5e ps (p:=(x,f)) hx hf hs _
end Go.Sh
namespace Go.Sh
section
variable{x:Hp}(hx:HpS x)(hS:∀k∈lv x.S,(ob x.S k).Strong≤9223372036854775807)
include hx hS
theorem c3i{h:Int}(hh:h=0∨h∈lv x.S):h≤9223372036854775807:=by
 rcases hh with q | q
 ·omega
 ·have:=G2 hx.sr q;omega
theorem c4e(k:Int){h:Int}(hh:h≤9223372036854775807):Y8 x k h=some (if k<0∨5<k then (x,6) else if h=0∨h∈lv x.S then (B0 x k.toNat h,0) else (x,3)):=by
 have hR:=hx.sr;have r6:=hx.r6;unfold Y8;by_cases hk:k<0∨5<k
 ·rw[if_pos hk,if_pos (by rw[r6];simp;omega)]
 ·rw[if_neg hk,if_neg (by rw[r6];simp;omega),a1V hR hh,d1D];by_cases hn:h=0∨h∈lv x.S
  ·rw[if_pos hn,decide_eq_true hn,if_neg (by simp)];obtain⟨n,rfl⟩:∃n:Nat,k=n:=⟨k.toNat,by omega⟩;have hn6:n<6:=by omega
   have hnl:n<x.Roots.length:=by omega
   have old:x.Roots[n]≤9223372036854775807:=c3i hx hS (hx.rt _ (List.getElem_mem hnl));have e1:=a4V x h;have hn2:n<(A1 x h).Roots.length:=by rw[e1.1];exact hnl
   rw[n8 hnl,d1D];unfold C8 L3 I9;rw[a4T hR hh hS,d1D];dsimp only;rw[J3 (by omega) (by rw[e1.1];omega),d1D,n8 hn2,d1D,d1D];have hrel:=a10 (x:=wR (A1 x h) (x.Roots.set n h)) (a2P hR h) old;rw[Int.toNat_natCast,e1.1,show A3 ⟨(A1 x h).S,x.Roots.set n h,(A1 x h).a8,(A1 x h).T,(A1 x h).Q⟩ x.Roots[n]=_ from hrel];unfold B0;rw[List.getD_eq_getElem?_getD,List.getElem?_eq_getElem hnl];rfl
  ·rw[if_neg hn,decide_eq_false hn,if_pos (by simp)]
theorem c6q(k:Int){h:Int}(hh:h≤9223372036854775807):T5 (hO x) k h=some (if k<0∨5<k then (hO x,6) else if h=0∨h∈lv x.S then (hO (B0 x k.toNat h),0) else (hO x,3)):=by
 have hR:=hx.sr;have r6:=hx.r6;unfold T5;by_cases hk:k<0∨5<k
 ·rw[if_pos hk,if_pos (by simp;omega)]
 ·rw[if_neg hk,if_neg (by simp;omega),a9T hR hh,d1D];by_cases hn:h=0∨h∈lv x.S
  ·rw[if_pos hn,decide_eq_true hn,if_neg (by simp)];obtain⟨n,rfl⟩:∃n:Nat,k=n:=⟨k.toNat,by omega⟩;have hnl:n<x.Roots.length:=by omega
   have hnl':n<(hO x).Roots.length:=hnl;have old:x.Roots[n]≤9223372036854775807:=c3i hx hS (hx.rt _ (List.getElem_mem hnl));have e1:=a4V x h;have r6':(hO x).Roots.length=6:=r6;rw[n8 hnl',d1D,a7c hR hh hS,d1D,J3 (by omega) (by rw[r6'];omega),d1D,n8 hnl',d1D];have hrel:=a3h (x:=wR (A1 x h) (x.Roots.set n h)) (a2P hR h) old;rw[Int.toNat_natCast];rw[show D1 ⟨(hO (A1 x h)).S,(hO x).Roots.set n h,(hO (A1 x h)).a8,(hO (A1 x h)).T,(hO (A1 x h)).Q⟩ (hO x).Roots[n]=_ from hrel];unfold B0;rw[List.getD_eq_getElem?_getD,List.getElem?_eq_getElem hnl];rfl
  ·rw[if_neg hn,decide_eq_false hn,if_pos (by simp)]
end
theorem b80(ps:List (List e6))(n:Int):a3p ps n=some (prg ps n):=by
 unfold a3p prg;by_cases h:n<0∨(ps.length:Int)≤n
 ·rw[if_pos (by simpa using h),if_pos h]
 ·rw[if_neg (by simpa using h),if_neg h];obtain⟨k,rfl⟩:∃k:Nat,n=k:=⟨n.toNat,by omega⟩;have hk:k<ps.length:=by omega
  rw[n8 hk,d1D,Int.toNat_natCast,List.getD_eq_getElem?_getD,List.getElem?_eq_getElem hk];rfl
abbrev psR(ps:List (List e6)):List (List L8):=ps.map (List.map opR)
theorem c3X(ps:List (List e6))(n:Int):a69 (psR ps) n=some ((prg ps n).map opR):=by
 unfold a69 prg;rw[List.length_map];by_cases h:n<0∨(ps.length:Int)≤n
 ·rw[if_pos (by simpa using h),if_pos h];rfl
 ·rw[if_neg (by simpa using h),if_neg h];obtain⟨k,rfl⟩:∃k:Nat,n=k:=⟨n.toNat,by omega⟩;have hk:k<ps.length:=by omega
  have hk2:k<(psR ps).length:=by simpa using hk
  rw[n8 hk2,d1D,Int.toNat_natCast,List.getD_eq_getElem?_getD,List.getElem?_eq_getElem hk];simp[psR]
def Mp(ps:List (List e6)):Prop:=∀p∈ps,p.length≤6
theorem b1Z{ps:List (List e6)}(h:Mp ps)(n:Int):(prg ps n).length≤6:=by
 unfold prg;split;·simp
 ·rename_i q;have hk:n.toNat<ps.length:=by omega
  rw[List.getD_eq_getElem?_getD,List.getElem?_eq_getElem hk];exact h _ (List.getElem_mem hk)
theorem b9M{ps:List (List e6)}(h:Mp ps)(t:g7):a5r ps t=some (cst ps t):=by
 have:=b1Z h t.Prog;unfold a5r cst;rw[b80,d1D,B1 (by omega) (by omega)]
theorem c2A{ps:List (List e6)}(h:Mp ps)(t:g7):a68 (psR ps) ⟨t.Kind,t.At,t.Prog⟩=some (cst ps t):=by
 have:=b1Z h t.Prog;unfold a68 cst;show (a69 (psR ps) t.Prog).bind _=_;rw[c3X,d1D,List.length_map,B1 (by omega) (by omega)]
theorem b8p(x:Hp):a2l x=some (x.Q.L.isEmpty):=by
 unfold a2l;rw[b6q,d1D];unfold tnx;cases x.Q.L <;> rfl
theorem c2K(x:Hp):b01 (hO x)=some (x.Q.L.isEmpty):=by
 unfold b01;show some ((((x.Q.L.map _).length:Nat):Int)==0)=_;cases x.Q.L with
 | nil=>rfl
 | cons a l=>simp;omega
section
variable{x:Hp}(hx:Oh x){t:g7}{ts:List g7}(hq:x.Q.L=t::ts){ps:List (List e6)}(hm:Mp ps)(hb:x.S.Serial<9000000000000000000)
include hx hq hm hb
theorem c4x:a5s x ps=some (dne ps x t ts,t,0):=by
 have J4:=b1Z hm t.Prog;have pok:=b8Z hx hq;have pser:=b5R hx hq;obtain⟨rok,_,_⟩:=b55 hx hq ps (by omega);have hrun:=(run_eq pok.rt pok.sl pok.zr (prg ps t.Prog) (by omega) (by rw[pser];omega)).1;have hrun':a2q (pre x t ts) (prg ps t.Prog)=some (ran ps x t ts,(runs (pre x t ts) (prg ps t.Prog)).2):=hrun;have hz:=X5 rok.rt (r:=5) (by decide) (h:=0) (.inl rfl);have zS:=a3H rok.rt.sh.sr rok.sl 5 0;unfold a5s;rw[b6q,d1D];have e:tnx x.Q=(⟨ts,x.Q.Cap⟩,t,0):=by unfold tnx;rw[hq]
 rw[e];dsimp only;rw[if_neg (by simp)];simp only[jn];by_cases k:t.Kind=1
 ·have hk:(t.Kind==1)=true:=by simpa using k
  have hat:=(b8x hx.rt hq k).1;have ush:=b6u hx.rt hq;have hm1:=a1j hx.rt.sh.sr hat;have e1:Y8 ⟨x.S,x.Roots,x.a8,x.T,⟨ts,x.Q.Cap⟩⟩ 5 t.At=some (B0 (unq x ts) 5 t.At,0):=by
   have:=c4e (x:=unq x ts) ush hx.sl 5 hm1;rw[if_neg (by omega),if_pos (.inr hat)] at this;exact this
  have e2:A3 (B0 (unq x ts) 5 t.At) t.At=some (b0E x ts t.At):=a10 (a0t (x:=unq x ts) hx.rt.sh.sr 5 t.At).sr hm1;have e3:=a3i (a4C hx.rt hq k) (b8y hx.rt hx.sl t.At);have e4:pre x t ts=X6 (b0E x ts t.At):=by unfold pre;rw[if_pos k]
  have e5:=c0w rok.rt rok.sl 5 (h:=0) (by decide);rw[if_neg (by omega),if_pos (.inl rfl)] at e5;rw[if_pos hk,e1,d1D];dsimp only;rw[e2,d1D,e3,d1D,b80,d1D,←e4,hrun',d1D,if_pos hk];dsimp only;rw[e5,d1D];refine bnd (a3i hz zS) ?_;unfold dne;rw[if_pos k];rfl
 ·have hk:¬(t.Kind==1)=true:=by simpa using k
  have e4:pre x t ts=unq x ts:=by unfold pre;rw[if_neg k]
  rw[if_neg hk,b80,d1D,show (⟨x.S,x.Roots,x.a8,x.T,⟨ts,x.Q.Cap⟩⟩:b6)=pre x t ts from e4.symm,hrun',d1D,if_neg hk];unfold dne;rw[if_neg k]
theorem c9i:b28 (hO x) (psR ps)=some (hO (dne ps x t ts),tkR t,0):=by
 have J4:=b1Z hm t.Prog;have pok:=b8Z hx hq;have pser:=b5R hx hq;obtain⟨rok,_,_⟩:=b55 hx hq ps (by omega);have hrun:=(run_eq pok.rt pok.sl pok.zr (prg ps t.Prog) (by omega) (by rw[pser];omega)).2;have hrun':b16 (hO (pre x t ts)) ((prg ps t.Prog).map opR)=some (hO (ran ps x t ts),(runs (pre x t ts) (prg ps t.Prog)).2):=hrun;have hz:=X5 rok.rt (r:=5) (by decide) (h:=0) (.inl rfl);have zS:=a3H rok.rt.sh.sr rok.sl 5 0;unfold b28;rw[show (hO x).Q=tqR x.Q from rfl,c80,d1D];have e:tnx x.Q=(⟨ts,x.Q.Cap⟩,t,0):=by unfold tnx;rw[hq]
 rw[e];dsimp only;rw[if_neg (by simp)];simp only[jn];have hkk:(tkR t).Kind=t.Kind:=rfl;have hka:(tkR t).At=t.At:=rfl;have hkp:(tkR t).Prog=t.Prog:=rfl;rw[hkk,hka,hkp];by_cases k:t.Kind=1
 ·have hk:(t.Kind==1)=true:=by simpa using k
  have hat:=(b8x hx.rt hq k).1;have ush:=b6u hx.rt hq;have hm1:=a1j hx.rt.sh.sr hat;have e1:T5 (hO (unq x ts)) 5 t.At=some (hO (B0 (unq x ts) 5 t.At),0):=by
   have:=c6q (x:=unq x ts) ush hx.sl 5 hm1;rw[if_neg (by omega),if_pos (.inr hat)] at this;exact this
  have e2:D1 (hO (B0 (unq x ts) 5 t.At)) t.At=some (hO (b0E x ts t.At)):=a3h (a0t (x:=unq x ts) hx.rt.sh.sr 5 t.At).sr hm1;have e3:=a4Z (a4C hx.rt hq k) (b8y hx.rt hx.sl t.At);have e4:pre x t ts=X6 (b0E x ts t.At):=by unfold pre;rw[if_pos k]
  have e5:=b9c rok.rt rok.sl 5 (h:=0) (by decide);rw[if_neg (by omega),if_pos (.inl rfl)] at e5;rw[if_pos hk,show (⟨(hO x).S,(hO x).Roots,(hO x).a8,(hO x).T,tqR ⟨ts,x.Q.Cap⟩⟩:g5)=hO (unq x ts) from rfl,e1,d1D];dsimp only;rw[e2,d1D,e3,d1D,c3X,d1D,←e4,hrun',d1D,if_pos hk];dsimp only;rw[e5,d1D];refine bnd (a4Z hz zS) ?_;unfold dne;rw[if_pos k];rfl
 ·have hk:¬(t.Kind==1)=true:=by simpa using k
  have e4:pre x t ts=unq x ts:=by unfold pre;rw[if_neg k]
  rw[if_neg hk,c3X,d1D,show (⟨(hO x).S,(hO x).Roots,(hO x).a8,(hO x).T,tqR ⟨ts,x.Q.Cap⟩⟩:g5)=hO (pre x t ts) by rw[e4];rfl,hrun',d1D,if_neg hk];unfold dne;rw[if_neg k]
end
section
variable{x:Hp}(hx:Oh x){ps:List (List e6)}(hm:Mp ps){f:Int}(hf:0≤f)(hf2:f≤1000000)(hb:x.S.Serial<8000000000000000000)
include hx hm hf hf2 hb
def dre(p:Hp × Int):Int:=if p.1.Q.L.isEmpty then 0 else 12
theorem drain_eq:a2k x ps f=some ((dr ps (x,f)).1,(dn ps (x,f):Int),(dr ps (x,f)).2,dre (dr ps (x,f))):=by
 obtain⟨a1,a2,a3⟩:=b9O ps (p:=(x,f)) hf;have all:=b5e ps (p:=(x,f)) hx hf (by show x.S.Serial+f<_;omega);unfold a2k;simp only[jn];dsimp only at a1;refine a1i (λk=>((dN ps k (x,f)).2,(dN ps k (x,f)).1,(k:Int),(dN ps k (x,f)).2,(dN ps k (x,f)).1)) rfl (dn ps (x,f)) (λ_=>True) (by omega) trivial (λk hk _=>.inl ⟨?_,trivial⟩) (λ_=>⟨((dn ps (x,f):Int),(dr ps (x,f)).2,(dr ps (x,f)).1),?_,?_⟩)
 ·obtain⟨b1,b2,b3,b4⟩:=all k;obtain⟨t,ts,e,c⟩:=a3 k hk;dsimp only at b2 b3 b4;have hc:=a9o ps t;rw[b8p,e,d1D];show (a04 _).bind _=_;rw[b6q,d1D];have e2:tnx (dN ps k (x,f)).1.Q=(⟨ts,(dN ps k (x,f)).1.Q.Cap⟩,t,0):=by unfold tnx;rw[e]
  rw[e2];dsimp only;rw[b9M hm,d1D,if_neg (by simp;omega),c4x b1 e hm (by omega),d1D,B1 (by omega) (by omega),k7,b1R,a9W ps e,if_pos c]
 ·rw[b8p,d1D];cases e:(dN ps (dn ps (x,f)) (x,f)).1.Q.L with
  | nil=>rfl
  | cons t ts=>
   have hc:¬cst ps t≤(dN ps (dn ps (x,f)) (x,f)).2:=λq=>a2 ((b6P ps e).2 q);show (a04 _).bind _=_;rw[b6q,d1D];have e2:tnx (dN ps (dn ps (x,f)) (x,f)).1.Q=(⟨ts,(dN ps (dn ps (x,f)) (x,f)).1.Q.Cap⟩,t,0):=by unfold tnx;rw[e]
   rw[e2];dsimp only;rw[b9M hm,d1D,if_pos (by simp;omega)];rfl
 ·dsimp only;rw[b8p,d1D];unfold dre;cases (dr ps (x,f)).1.Q.L.isEmpty <;> rfl
theorem c5u:a7P (hO x) (psR ps) f=some (hO (dr ps (x,f)).1,(dn ps (x,f):Int),(dr ps (x,f)).2,dre (dr ps (x,f))):=by
 obtain⟨a1,a2,a3⟩:=b9O ps (p:=(x,f)) hf;have all:=b5e ps (p:=(x,f)) hx hf (by show x.S.Serial+f<_;omega);unfold a7P;simp only[jn];dsimp only at a1;refine a1i (λk=>((dN ps k (x,f)).2,(k:Int),hO (dN ps k (x,f)).1)) rfl (dn ps (x,f)) (λ_=>True) (by omega) trivial (λk hk _=>.inl ⟨?_,trivial⟩) (λ_=>?_)
 ·obtain⟨b1,b2,b3,b4⟩:=all k;obtain⟨t,ts,e,c⟩:=a3 k hk;dsimp only at b2 b3 b4;have hc:=a9o ps t;rw[c2K,e,d1D];have e2:ix (hO (dN ps k (x,f)).1).Q.L 0=some (tkR t):=by
   show ix ((dN ps k (x,f)).1.Q.L.map tkR) 0=_;rw[e];rfl
  show (ix (hO (dN ps k (x,f)).1).Q.L 0).bind _=_;rw[e2,d1D,show a68 (psR ps) (tkR t)=_ from c2A hm t,d1D,if_neg (by simp;omega),c9i b1 e hm (by omega),d1D,B1 (by omega) (by omega),k7,b1R,a9W ps e,if_pos c]
 ·cases e:(dN ps (dn ps (x,f)) (x,f)).1.Q.L with
  | nil=>
   refine⟨.inr ((dr ps (x,f)).2,(dn ps (x,f):Int),hO (dr ps (x,f)).1),?_,?_⟩
   ·rw[c2K,e];rfl
   ·unfold dre;have e':(dr ps (x,f)).1.Q.L = []:=e;rw[e'];rfl
  | cons t ts=>
   have hc:¬cst ps t≤(dN ps (dn ps (x,f)) (x,f)).2:=λq=>a2 ((b6P ps e).2 q);refine⟨.inl (hO (dr ps (x,f)).1,(dn ps (x,f):Int),(dr ps (x,f)).2,12),?_,?_⟩
   ·rw[c2K,e,d1D];have e2:ix (hO (dN ps (dn ps (x,f)) (x,f)).1).Q.L 0=some (tkR t):=by
     show ix ((dN ps (dn ps (x,f)) (x,f)).1.Q.L.map tkR) 0=_;rw[e];rfl
    show (ix (hO (dN ps (dn ps (x,f)) (x,f)).1).Q.L 0).bind _=_;rw[e2,d1D,show a68 (psR ps) (tkR t)=_ from c2A hm t,d1D,if_pos (by simp;omega)];rfl
   ·unfold dre;have e':(dr ps (x,f)).1.Q.L=t::ts:=e;rw[e'];rfl
end
end Go.Sh
namespace Go.Sh
theorem c93{l:List (List e6)}(h:a5M l=true):Mp l∧l.length≤6:=by
 unfold a5M at h;rw[Bool.and_eq_true,decide_eq_true_iff,List.all_eq_true] at h;refine⟨λp hp=>?_,h.1⟩;have:=h.2 p hp;unfold b1n at this;rw[Bool.and_eq_true,decide_eq_true_iff] at this;exact this.1
end Go.Sh
namespace Go.Sh
end Go.Sh
namespace Go.Sh
end Go.Sh
namespace Go.Sh
end Go.Sh
namespace Go.Sh
noncomputable def eo(ps:List (List e6))(x:Hp)(o:e6):Hp × Int × Int:=
 if o.Kind=11 then (col x,cgn x-((btc x).length:Int),0)
 else if o.Kind=12 then ((dr ps (x,o.A)).1,(dn ps (x,o.A):Int),dre (dr ps (x,o.A)))
 else dov x o
noncomputable def er(ps:List (List e6))(x:Hp)(row:List Int):Hp × Int × Int:=if (V8 row).2≠0 then (x,0,(V8 row).2) else eo ps x (V8 row).1
noncomputable def ers(ps:List (List e6))(x:Hp)(rows:List (List Int)):Hp × List (Int × Int):=rows.foldl (λp r=>((er ps p.1 r).1,p.2 ++ [(er ps p.1 r).2])) (x,[])
theorem c2N(ps:List (List e6))(x:Hp)(l:List (List Int))(r:List Int):ers ps x (l ++ [r])=((er ps (ers ps x l).1 r).1,(ers ps x l).2 ++ [(er ps (ers ps x l).1 r).2]):=by
 unfold ers;rw[List.foldl_append];rfl
theorem b5n(ps:List (List e6)):∀(l:List (List Int)) (x:Hp) (a:List (Int × Int)),l.foldl (λp r=>((er ps p.1 r).1,p.2 ++ [(er ps p.1 r).2])) (x,a)=((ers ps x l).1,a++(ers ps x l).2)
 | [],x,a=>by simp[ers]
 | r::l,x,a=>by
  unfold ers;rw[List.foldl_cons,List.foldl_cons,b5n ps l,b5n ps l _ ([]++_)];simp
theorem b9P(ps:List (List e6))(x:Hp)(l m:List (List Int)):ers ps x (l++m)=((ers ps (ers ps x l).1 m).1,(ers ps x l).2++(ers ps (ers ps x l).1 m).2):=by
 have:ers ps x (l++m)=m.foldl (λp r=>((er ps p.1 r).1,p.2 ++ [(er ps p.1 r).2])) (ers ps x l):=by
  unfold ers;rw[List.foldl_append]
 rw[this];exact b5n ps m (ers ps x l).1 (ers ps x l).2
theorem b9Q(ps:List (List e6))(x:Hp)(l:List (List Int)):(ers ps x l).2.length=l.length:=by
 induction l generalizing x with
 | nil=>rfl
 | cons r l ih=>
  have:=b9P ps x [r] l;rw[List.singleton_append] at this;rw[this,List.length_append,ih];show 1+l.length=l.length+1;omega
theorem b5f{row:List Int}(h:(V8 row).2=0):u9 (V8 row).1.Kind (V8 row).1.A (V8 row).1.B (V8 row).1.C=0:=by
 unfold V8 at h ⊢;rcases four row with ⟨k,a,b,c,rfl⟩ | hl
 ·rw[b5g,Option.getD_some] at h ⊢;by_cases q:u9 k a b c≠0
  ·rw[if_pos q] at h;exact absurd h q
  ·rw[if_neg q];exact Classical.not_not.1 q
 ·rw[(b5h hl).1,Option.getD_some] at h;exact absurd h (by decide)
theorem c2s{a b c:Int}(h:u9 12 a b c=0):0≤a∧a≤200:=in0 (by decide) (show G5 a 0 200 12=0 from h)
section
variable{ps:List (List e6)}(hm:Mp ps){x:Hp}(hx:Oh x)(hb:x.S.Serial<7000000000000000000)
include hm hx hb
theorem c9N{o:e6}(ho:o.Kind=12→0≤o.A∧o.A≤200):Oh (eo ps x o).1∧(eo ps x o).1.S.Serial≤x.S.Serial+201:=by
 unfold eo;split
 ·obtain⟨a,b,c⟩:=b5b hx.rt hx.sl hx.zr;refine⟨⟨a,b,c⟩,?_⟩;show (col x).S.Serial≤_;rw[c5p hx.rt hx.sl hx.zr];omega
 ·split
  ·rename_i h;obtain⟨h0,h2⟩:=ho h;obtain⟨a,b,c,d⟩:=c9M ps hx h0 (by omega);exact⟨a,by show (dr ps (x,o.A)).1.S.Serial≤_;omega⟩
  ·have n:=a5H hx.rt hx.sl hx.zr (by omega) o;have:=n.ev.s2;exact⟨n.ok,by omega⟩
theorem c9O(row:List Int):Oh (er ps x row).1∧(er ps x row).1.S.Serial≤x.S.Serial+201:=by
 unfold er;split;·exact⟨hx,by show x.S.Serial≤_;omega⟩
 ·rename_i h;have hc:=b5f (Classical.not_not.1 h);refine c9N hm hx hb λhk=>?_;rw[hk] at hc;exact c2s hc
end
theorem b8s{ps:List (List e6)}(hm:Mp ps){x:Hp}(hx:Oh x):∀(l:List (List Int)),x.S.Serial+201*(l.length:Int)<7000000000000000000→Oh (ers ps x l).1∧(ers ps x l).1.S.Serial≤x.S.Serial+201*(l.length:Int):=by
 intro l;induction l generalizing x with
 | nil=>exact λ_=>⟨hx,by show x.S.Serial≤_;simp⟩
 | cons r l ih=>
  intro hb;rw[List.length_cons] at hb ⊢;obtain⟨a,b⟩:=c9O hm hx (by omega) r;obtain⟨c,d⟩:=ih a (by omega);have e:=b9P ps x [r] l;rw[List.singleton_append] at e;rw[e];exact⟨c,by
   have:(ers ps (ers ps x [r]).1 l).1.S.Serial≤(er ps x r).1.S.Serial+201*(l.length:Int):=d;show (ers ps (ers ps x [r]).1 l).1.S.Serial≤_;omega⟩
end Go.Sh
namespace Go.Sh
def ctO(l:List b7)(k:Int):Nat:=l.countP λc=>c.State==k
theorem c2D(l:List b7)(c:b7)(k:Int):ctO (l ++ [c]) k=ctO l k+if c.State=k then 1 else 0:=by
 unfold ctO;rw[List.countP_append];simp[List.countP_cons]
end Go.Sh
namespace Go.Sh
inductive Fm (x:Hp) (o:e6) (z:Hp) (v:Int):Prop
 | new (i:Nat) (hF:Fst x.S i) (hk:o.Kind=1) (ha:0≤o.A∧o.A≤5) (hn:o.B.toNat≤4) (hc : -1≤o.C∧o.C≤5) (hv:v=x.S.Serial+1) (hz:z=B0 (wS x (W3 x.S i o.B.toNat o.C)) o.A.toNat (I6 x.S i)):Fm x o z v
 | root (h:Int) (hk:o.Kind≠1) (ha:0≤o.A∧o.A≤5) (hh:h=0∨h∈lv x.S) (hz:z=B0 x o.A.toNat h):Fm x o z v
 | field (h:Int) (n:Nat) (u:Int) (hk:o.Kind=5) (hl:h∈lv x.S) (hn:n<(ob x.S h).Fields.length) (hu:u=0∨u∈lv x.S) (hz:z=a0F x h n u):Fm x o z v
 | weak (h:Int) (hk:o.Kind=6) (ha:0≤o.A∧o.A≤5) (hc : -1≤o.C∧o.C≤5) (hh:h=0∨h∈lv x.S) (hw:wts x.Q o.A=false) (hz:z=a1I x o.A.toNat h o.C):Fm x o z v
 | pair (h u:Int) (r:Tb × Int × Int) (hk:o.Kind=8) (hl:h∈lv x.S) (hu:u=0∨u∈lv x.S) (hr:P8 x.T h u=some r) (h0:r.2.2=0) (hz:z=a4N x u r.1 r.2.1):Fm x o z v
 | same (hk:o.Kind=10) (hz:z=x):Fm x o z v
theorem Fm.ks{x z:Hp}{o:e6}{v:Int}(hx:J9 x)(f:Fm x o z v)(hk:o.Kind≠1):Ks x.S z.S:=by
 have hR:=hx.sh.sr;cases f with
 | new i hF hk'=>exact absurd hk' hk
 | root h _ ha hh hz=>rw[hz];exact a0t hR _ _
 | field h n u _ hl hn hu hz=>rw[hz];exact b4h hR hl hn u
 | weak h _ ha hc hh hw hz=>rw[hz];exact b7Z hx (by omega) h _
 | pair h u r _ hl hu hr h0 hz=>rw[hz];exact b7o hR u _ _
 | same _ hz=>rw[hz];exact Ks.refl hR
end Go.Sh
namespace Go.Sh
def anE(p:Int × Int):k9:=⟨p.1,p.2⟩
def anR(p:Int × Int):H0:=⟨p.1,p.2⟩
section
variable{ps:List (List e6)}(hm:Mp ps){x:Hp}(hx:Oh x)(hb:x.S.Serial<7000000000000000000)
include hm hx hb
theorem c2r : -24≤cgn x-((btc x).length:Int)∧cgn x-((btc x).length:Int)≤24:=by
 have h1:=b46 hx.rt hx.sl hx.zr;have h2:(lv x.S).length≤24:=E3 (p8.2 hx.rt.sh.sr);obtain⟨c1,_,_⟩:=b5b hx.rt hx.sl hx.zr;have h3:(lv (col x).S).length≤24:=E3 (p8.2 c1.sh.sr);unfold cgn;split
 ·rename_i e;rw[e];simp;omega
 ·omega
theorem edo(row:List Int):a4A ⟨x,ps⟩ row=some (⟨(er ps x row).1,ps⟩,anE (er ps x row).2):=by
 unfold a4A;rw[(b2p row).1,d1D];unfold er;by_cases h:(V8 row).2=0
 ·rw[if_neg (show ¬(((V8 row).2 != 0)=true) by simp[h]),if_neg (show ¬((V8 row).2≠0) by simp[h])];have hc:=b5f h;generalize (V8 row).1=o at hc;unfold a5t eo;by_cases k11:o.Kind=11
  ·rw[if_pos (by simp[k11]),if_pos k11];refine Eq.trans (b:=(T2 x).bind λv4=>some (⟨v4.1,ps⟩,⟨p9 (v4.2.2-v4.2.1),0⟩)) rfl ?_;obtain⟨b1,b2⟩:=c2r hm hx hb;rw[c7T hx.rt hx.sl hx.zr,d1D];dsimp only;rw[B1 (by omega) (by omega)];rfl
  ·rw[if_neg (by simp[k11]),if_neg k11];by_cases k12:o.Kind=12
   ·rw[if_pos (by simp[k12]),if_pos k12];refine Eq.trans (b:=(a2k x ps o.A).bind λv5=>some (⟨v5.1,ps⟩,⟨v5.2.1,v5.2.2.2⟩)) rfl ?_;rw[k12] at hc;obtain⟨a0,a2⟩:=c2s hc;rw[drain_eq hx hm a0 (by omega) (by omega),d1D];rfl
   ·rw[if_neg (by simp[k12]),if_neg k12];refine Eq.trans (b:=(o9 x o).bind λv3=>some (⟨v3.1,ps⟩,⟨v3.2.1,v3.2.2⟩)) rfl ?_;rw[(a5H hx.rt hx.sl hx.zr (by omega) o).mc,d1D];rfl
 ·rw[if_pos (by simpa using h),if_pos h];rfl
theorem rdo(row:List Int):b87 ⟨hO x,psR ps⟩ row=some (⟨hO (er ps x row).1,psR ps⟩,anR (er ps x row).2):=by
 unfold b87;rw[(b2p row).2,d1D];unfold er;by_cases h:(V8 row).2=0
 ·rw[if_neg (show ¬(((V8 row).2 != 0)=true) by simp[h]),if_neg (show ¬((V8 row).2≠0) by simp[h])];have hc:=b5f h;generalize (V8 row).1=o at hc;unfold eo;by_cases k11:o.Kind=11
  ·rw[if_pos (by simp[k11,b1F]),if_pos k11];obtain⟨b1,b2⟩:=c2r hm hx hb;dsimp only;rw[c9H hx.rt hx.sl hx.zr,d1D];dsimp only;rw[B1 (by omega) (by omega)];rfl
  ·rw[if_neg (by simp[k11,b1F]),if_neg k11];by_cases k12:o.Kind=12
   ·rw[if_pos (by simp[k12,b1F]),if_pos k12];rw[k12] at hc;obtain⟨a0,a2⟩:=c2s hc;refine Eq.trans (b:=(a7P (hO x) (psR ps) o.A).bind λv3=>some (⟨v3.1,psR ps⟩,⟨v3.2.1,v3.2.2.2⟩)) rfl ?_;rw[c5u hx hm a0 (by omega) (by omega),d1D];rfl
   ·rw[if_neg (by simp[k12,b1F]),if_neg k12];refine Eq.trans (b:=(A9 (hO x) (opR o)).bind λv3=>some (⟨v3.1,psR ps⟩,⟨v3.2.1,v3.2.2⟩)) rfl ?_;rw[(a5H hx.rt hx.sl hx.zr (by omega) o).rf,d1D];rfl
 ·rw[if_pos (by simpa using h),if_pos h];rfl
end
section
variable{ps:List (List e6)}(hm:Mp ps){x:Hp}(hx:Oh x)
include hm hx
theorem b7P{rows:List (List Int)}{k:Nat}(hk:k<rows.length):ers ps x (rows.take (k+1))=((er ps (ers ps x (rows.take k)).1 rows[k]).1,(ers ps x (rows.take k)).2 ++ [(er ps (ers ps x (rows.take k)).1 rows[k]).2]):=by
 rw[List.take_succ_eq_append_getElem hk,c2N]
theorem c9P(rows:List (List Int))(hl:rows.length≤1000)(hb:x.S.Serial<6000000000000000000):a0D ⟨x,ps⟩ rows=some (⟨(ers ps x rows).1,ps⟩,(ers ps x rows).2.map anE):=by
 unfold a0D;simp only[jn];refine M8 rows.length (λk s=>s=((⟨(ers ps x (rows.take k)).1,ps⟩:l7),(ers ps x (rows.take k)).2.map anE)) (by omega) rfl (λk s hk hs=>.inl ⟨_,?_,rfl⟩) (λs hs=>⟨s,if_neg (by simp),by rw[hs,List.take_length]⟩);subst hs;obtain⟨o1,o2⟩:=b8s hm hx (rows.take k) (by simp;omega);have hlen:=b9Q ps x (rows.take k);have hkl:(rows.take k).length=k:=by simp;omega
 dsimp only;rw[if_pos (by simpa using hk),n8 hk,d1D,edo hm o1 (by rw[hkl] at o2;omega),d1D,y5 (by omega) (by simp[hlen];omega),d1D,k7,b7P hm hx hk];simp
theorem d1i(rows:List (List Int))(hl:rows.length≤1000)(hb:x.S.Serial<6000000000000000000):b17 ⟨hO x,psR ps⟩ rows=some (⟨hO (ers ps x rows).1,psR ps⟩,(ers ps x rows).2.map anR):=by
 unfold b17;simp only[jn];refine M8 rows.length (λk s=>s=((⟨hO (ers ps x (rows.take k)).1,psR ps⟩:C2),(ers ps x (rows.take k)).2.map anR)) (by omega) rfl (λk s hk hs=>.inl ⟨_,?_,rfl⟩) (λs hs=>⟨s,if_neg (by simp),by rw[hs,List.take_length]⟩);subst hs;obtain⟨o1,o2⟩:=b8s hm hx (rows.take k) (by simp;omega);have hlen:=b9Q ps x (rows.take k);have hkl:(rows.take k).length=k:=by simp;omega
 dsimp only;rw[if_pos (by simpa using hk),n8 hk,d1D,rdo hm o1 (by rw[hkl] at o2;omega),d1D,y5 (by omega) (by simp[hlen];omega),d1D,k7,b7P hm hx hk];simp
end
def tal(x:Hp):A4:=⟨ctO x.S.S.a8 0,ctO x.S.S.a8 1,ctO x.S.S.a8 2,ctO x.S.S.a8 3⟩
theorem c6D{s:a7}(hR:SR s):N6 s.S=some ⟨ctO s.S.a8 0,ctO s.S.a8 1,ctO s.S.a8 2,ctO s.S.a8 3⟩:=by
 unfold N6;simp only[jn];have hlen:=hR.len;refine M8 s.S.a8.length (λk t=>t=⟨ctO (s.S.a8.take k) 0,ctO (s.S.a8.take k) 1,ctO (s.S.a8.take k) 2,ctO (s.S.a8.take k) 3⟩) (by omega) (by simp[ctO]) (λk t hk ht=>.inl ?_) (λt ht=>⟨_,by simp;rfl,by rw[ht,List.take_length]⟩);have hc:=hR.cell k hk;rw[C6 hk] at hc;subst ht;simp only[Int.ofNat_lt,hk,decide_true,if_true,n8 hk,d1D];have hle:∀j,ctO (s.S.a8.take k) j≤24:=λj=>Nat.le_trans List.countP_le_length (by simp;omega);have h0:=hle 0;have h1:=hle 1;have h2:=hle 2;have h3:=hle 3;rw[List.take_succ_eq_append_getElem hk];simp only[c2D];refine⟨_,?_,rfl⟩;have hst:s.S.a8[k].State=0∨s.S.a8[k].State=1∨s.S.a8[k].State=2∨s.S.a8[k].State=3:=by omega
 rcases hst with e | e | e | e <;> rw[e] <;> simp[A4.ix,A4.l,A4.st,ix] <;> rw[k7,k7] <;> simp
section
variable{ps:List (List e6)}{x:Hp}(hx:J9 x)
include hx
theorem c9Q:a1c ⟨x,ps⟩=some (tal x):=by
 unfold a1c;dsimp only;rw[c6D hx.sh.sr,d1D];rfl
end
end Go.Sh
namespace Go.Sh
theorem Rs.oh{x:Hp}{n:Nat}(h:Rs x n):Oh x:=⟨h.rt,h.sl,h.zr⟩
theorem c98{n last places:Int}{ps:List (List e6)}(hl:ps.length≤12)(hp:∀p∈ps,p.length≤12) :
  (∃e,a1O n last places ps=some (⟨b8H,[]⟩,e)∧b53 n last places (psR ps)=some (⟨hO b8H,[]⟩,e)∧(e=13∨e=1∧¬((1≤n∧n≤24)∧(0≤last∧last≤9)∧1≤places∧places≤8))) ∨
  (∃k p:Nat,n=k∧places=p∧(1≤k∧k≤24)∧Mp ps∧Rs (nwH k last p) 0∧a1O n last places ps=some (⟨nwH k last p,ps⟩,0)∧b53 n last places (psR ps)=some (⟨hO (nwH k last p),psR ps⟩,0)):=by
 have e1:a1L ps=some (a5M ps):=c3Y (by omega) hp;have e2:a7O (psR ps)=some (a5M ps):=b81 (by omega) hp;unfold a1O b53;rw[e1,e2,d1D,d1D];cases hq:a5M ps;·exact .inl ⟨13,rfl,rfl,.inl rfl⟩
 ·simp only[Bool.not_true,Bool.false_eq_true,if_false];by_cases h:(1≤n∧n≤24)∧(0≤last∧last≤9)∧1≤places∧places≤8
  ·right;obtain⟨h1,h2,h3⟩:=h;obtain⟨k,rfl⟩:∃k:Nat,n=k:=⟨n.toNat,by omega⟩;obtain⟨p,rfl⟩:∃p:Nat,places=p:=⟨places.toNat,by omega⟩;obtain⟨a1,a2,hx,hS,hz⟩:=c27 (k:=k) (p:=p) (l:=last) (by omega) h2 (by omega);refine⟨k,p,rfl,rfl,by omega,(c93 hq).1,⟨hx,hS,hz,Int.le_refl _⟩,?_,?_⟩
   ·rw[a1,d1D,hx.sh.r6];rfl
   ·rw[a2,d1D,show (hO (nwH k last p)).Roots.length=6 from hx.sh.r6];rfl
  ·left;have a1:a3u n last places=some b8H:=by
    unfold a3u;rw[if_pos (by simp;omega)];rfl
   have a2:a94 n last places=some (hO b8H):=by
    unfold a94;rw[if_pos (by simp;omega)];rfl
   refine⟨1,?_,?_,.inr ⟨rfl,h⟩⟩;·rw[a1];rfl
   ·rw[a2];rfl
theorem c9a{x:Hp}{n:Nat}(hx:Rs x n)(hn:n≤1000000){ps:List (List e6)}(hm:Mp ps){rows:List (List Int)}(hl:rows.length≤1000){r:C2 × List H0}(h:b17 ⟨hO x,psR ps⟩ rows=some r) :
  a0D ⟨x,ps⟩ rows=some (⟨hOI r.1.X,ps⟩,r.2.map λa=>⟨a.V,a.E⟩)∧Rs (hOI r.1.X) (n+201*rows.length)∧(ers ps x rows).1=hOI r.1.X∧(ers ps x rows).2=r.2.map λa=>(a.V,a.E):=by
 have hs:=hx.Y3;have e:=d1i hm hx.oh rows hl (by omega);rw[h] at e;have e:=Option.some.inj e;obtain⟨o1,o2⟩:=b8s hm hx.oh rows (by omega);have a1:(ers ps x rows).1=hOI r.1.X:=by rw[e,c8f]
 have a2:(ers ps x rows).2=r.2.map λa=>(a.V,a.E):=by
  rw[e,List.map_map];conv=>lhs;rw[←List.map_id (ers ps x rows).2]
  exact List.map_congr_left λp _=>rfl
 refine⟨?_,⟨a1▸o1.rt,a1▸o1.sl,a1▸o1.zr,?_⟩,a1,a2⟩
 ·rw[c9P hm hx.oh rows hl (by omega),a1,a2,List.map_map];congr 1
 ·have:(hOI r.1.X).S.Serial≤x.S.Serial+201*(rows.length:Int):=a1▸o2;show (hOI r.1.X).S.Serial≤((n+201*rows.length:Nat):Int);omega
theorem b8O:Mp []:=λ_ h=>by cases h
end Go.Sh
namespace Go.Sh
end Go.Sh
namespace Go.Sh
theorem d0p(a b c d:Int):a1A a b c d=some [a,b,c,d]:=by
 unfold a1A;rfl
def en(x:Hp):l7:=⟨x,[]⟩
theorem c4G{k:Nat}{l:Int}(hk:1≤k∧k≤24)(hl:0≤l∧l≤9):a5b k l=some (en (nwH k l 8))∧Rs (nwH k l 8) 0:=by
 rcases c98 (n:=(k:Int)) (last:=l) (places:=8) (ps:=[]) (by decide) (λp h=>by cases h) with ⟨e,_,_,h | ⟨_,h⟩⟩ | ⟨k',p,h1,h2,_,_,hr,e1,_⟩
 ·exfalso;rename_i e1 e2;subst h;have hq:a1L []=some true:=by kernel_rfl
  unfold a1O at e1;rw[hq,d1D] at e1;simp only[Bool.not_true,Bool.false_eq_true,if_false] at e1;cases hn:a3u k l 8 with
  | none=>rw[hn] at e1;cases e1
  | some y=>
   rw[hn,d1D] at e1;split at e1
   ·have:(1:Int)=13:=congrArg (λz=>(z.getD (⟨b8H,[]⟩,0)).2) e1;exact absurd this (by decide)
   ·have:(0:Int)=13:=congrArg (λz=>(z.getD (⟨b8H,[]⟩,0)).2) e1;exact absurd this (by decide)
 ·exact absurd ⟨by omega,hl,by omega,by omega⟩ h
 ·obtain rfl:k=k':=by omega
  obtain rfl:p=8:=by omega
  refine⟨?_,hr⟩;unfold a5b;rw[e1];rfl
theorem c6N{n:Int}(h0:0≤n)(h1:n≤255){l:Int}(hl:0≤l∧l≤9):∃k:Nat,1+n % 24=k∧(1≤k∧k≤24)∧a5b (p9 (1+n % 24)) l=some (en (nwH k l 8))∧Rs (nwH k l 8) 0:=by
 obtain⟨k,hk⟩:∃k:Nat,1+n % 24=k:=⟨(1+n % 24).toNat,by omega⟩;have hw:p9 (1+n % 24)=(k:Int):=by rw[B1 (by omega) (by omega)];exact hk
 rw[hw];exact⟨k,hk,by omega,c4G (by omega) hl⟩
theorem d0o{n:Int}(h0:0≤n)(h1:n≤255):p9 n=n:=B1 (by omega) (by omega)
theorem c35{n:Int}(h0:0≤n)(h1:n≤255){b:Int}(hb:0<b):rem (p9 n) b=some (n % b):=by rw[d0o h0 h1,a7S h0 hb]
def c4f:List (List Int):=[[1,0,1,(-1)],[5,0,0,0],[3,0,0,0],[11,0,0,0],[1,0,0,(-1)],[1,1,0,(-1)],[1,2,0,(-1)]]
def d1h:C2 × List H0:=(b17 ⟨hO (nwH 2 3 8),[]⟩ c4f).getD (⟨hO b8H,[]⟩,[])
theorem c6y:b0q=some true:=by
 obtain⟨a1,a2⟩:=c4G (k:=2) (l:=3) (by decide) (by decide);obtain⟨b1,b2,_,_⟩:=c9a a2 (by decide) b8O (rows:=c4f) (by decide) (r:=d1h) (by kernel_rfl);unfold b0q;refine bnd a1 ?_;simp only[d0p,d1D];refine bnd b1 ?_;dsimp only;rw[c9Q b2.rt];kernel_rfl
end Go.Sh
namespace Go.Sh
theorem c7X{x:Hp}{o:e6}{e:Int}(h:Er x o e):dov x o=(x,0,e):=by unfold dov;rw[h.2.1];rfl
theorem c2G{x z:Hp}{o:e6}{v:Int}(h:Dn x o z v):dov x o=(X6 z,v,0):=by unfold dov;rw[h.mc];rfl
end Go.Sh
namespace Go.Sh
end Go.Sh
namespace Go.Sh
end Go.Sh
namespace Go.Sh
end Go.Sh
namespace Go.Sh
end Go.Sh
namespace Go.Sh
end Go.Sh
namespace Go.Sh
end Go.Sh
namespace Go.Sh
structure Bk (x:Hp):Prop where
 ok:Oh x
 rt:x.Roots=List.replicate 6 0
 cl:x.a8=List.replicate 6 ⟨0,false,-1⟩
 hs:∀k v,¬Has x.T k v
 q:x.Q.L = []
 st:∀i,i<x.S.S.a8.length→(ce x.S i).State=0∨(ce x.S i).State=3
theorem Bk.lv{x:Hp}(h:Bk x):lv x.S = []:=List.eq_nil_iff_forall_not_mem.2 λk hk=>by
 obtain⟨i,hi⟩:=(a2p h.ok.rt.sh.sr).1 hk;rcases h.st i hi.1 with e | e <;> rw[hi.2.1] at e <;> exact absurd e (by decide)
theorem c5w{s:a7}{i j:Nat}(a:Fst s i)(b:Fst s j):i=j:=by
 rcases Nat.lt_trichotomy i j with h | h | h
 ·exact absurd a.2.1 (b.2.2 i h)
 ·exact h
 ·exact absurd b.2.1 (a.2.2 j h)
theorem c4r{x:Hp}{h:Int}{f:Int→Int}(q:h∉lv x.S):stO x h f=x:=by unfold stO;rw[if_neg q]
theorem c4p{x:Hp}(hx:J9 x){h:Int}(hz:zr x = [h])(hd:due (ob x.S h)=false)(hn:zr (buH x [h]) = []):X6 x=buH x [h]:=by
 have e1:stN 1 x=buH x [h]:=by
  rw[show (1:Nat)=0+1 from rfl,a0u];show stp x=_;rw[a2C hz,hd];rfl
 obtain⟨n,_,h1,h2,h3⟩:=a7X hx;have hn1:n=1:=by
  rcases Nat.lt_trichotomy n 1 with q | q | q
  ·obtain rfl:n=0:=by omega
   have:zr x = []:=h1;rw[hz] at this;cases this
  ·exact q
  ·have:=h2 1 q;rw[e1] at this;exact absurd hn this
 rw[h3,hn1,e1]
theorem c5j{x:Hp}(b:Bk x)(hb:x.S.Serial<1000000000000){i:Nat}(hF:Fst x.S i):∃z y,er [] x [1,0,0,(-1)]=(z,x.S.Serial+1,0)∧Oh z∧er [] z [3,0,0,0]=(y,0,0)∧Bk y∧y.S.Serial=x.S.Serial+1∧y.S.S.Last=x.S.S.Last∧y.S.S.a8.length=x.S.S.a8.length ∧
  ∀j,j<x.S.S.a8.length→(ce y.S j).State=(if j=i then (if (ce x.S i).Gen=x.S.S.Last then 3 else 0) else (ce x.S j).State)∧(ce y.S j).Gen=(if j=i then (if (ce x.S i).Gen=x.S.S.Last then (ce x.S i).Gen else (ce x.S i).Gen+1) else (ce x.S j).Gen):=by
 have hx:=b.ok.rt;have hR:=hx.sh.sr;obtain⟨hi,h0,_⟩:=id hF;have p1:(0:Nat)≤4:=by decide
 have p2 : -1≤(-1:Int)∧(-1:Int)≤5:=by decide
 have hc1:u9 1 0 0 (-1)=0:=by kernel_rfl
 have hc3:u9 3 0 0 0=0:=by kernel_rfl
 have d1e:V8 [1,0,0,(-1)]=(⟨1,0,0,(-1)⟩,0):=by kernel_rfl
 have d3e:V8 [3,0,0,0]=(⟨3,0,0,0⟩,0):=by kernel_rfl
 have hlv:=b.lv;obtain⟨dn⟩:Nonempty (Dn x ⟨1,0,0,(-1)⟩ (B0 (wS x (W3 x.S i 0 (-1))) 0 (I6 x.S i)) (x.S.Serial+1)):=by
  rcases d1 hx b.ok.sl (by omega) hc1 with ⟨e,m,_⟩ | ⟨_,_,i',hF',d⟩
  ·exfalso;rcases c3m hR (by omega) 0 (-1) with ⟨q,_⟩ | ⟨_,q,_⟩ | ⟨_,_,q,_⟩ | ⟨_,_,j,hj,q⟩;·exact q (by decide)
   ·exact q (by decide)
   ·exact q i hi h0
   ·rw[q] at m;have e1:I6 x.S j=0:=congrArg (λr=>r.2.1) (Option.some.inj m);have:=a7C hR (i:=j) hj.1;omega
  ·rw[c5w hF hF'];exact⟨d⟩
 have m1:=b4B hR hi h0 p1 p2;have mlv:lv (W3 x.S i 0 (-1)) = [I6 x.S i]:=by rw[b7h hR hi h0 p1 p2,hlv];rfl
 have mob:=a8Y hR hi h0 p1 p2;have hp:=a7C hR (i:=i) hi;have r1R:SR (wS x (W3 x.S i 0 (-1))).S:=m1;have k1:Kin (wS x (W3 x.S i 0 (-1))).S (A1 (wS x (W3 x.S i 0 (-1))) (I6 x.S i)).S:=C9 r1R (I6 x.S i) (f:=O4) λc=>A5;have in1:I6 x.S i∈lv (wS x (W3 x.S i 0 (-1))).S:=by show _∈lv (W3 x.S i 0 (-1));rw[mlv];exact List.mem_singleton.2 rfl
 have s1:(ob (A1 (wS x (W3 x.S i 0 (-1))) (I6 x.S i)).S (I6 x.S i)).Strong=1:=by
  have:=a7l r1R (I6 x.S i) (f:=O4) (λc=>A5) in1;rw[if_pos rfl,show ob (wS x (W3 x.S i 0 (-1))).S (I6 x.S i)=_ from mob] at this;exact this
 have z1e:B0 (wS x (W3 x.S i 0 (-1))) 0 (I6 x.S i)=wR (A1 (wS x (W3 x.S i 0 (-1))) (I6 x.S i)) (x.Roots.set 0 (I6 x.S i)):=by
  unfold B0;have g0:(wS x (W3 x.S i 0 (-1))).Roots.getD 0 0=0:=by show x.Roots.getD 0 0=0;rw[b.rt];rfl
  rw[g0];exact c4r (a6t k1.sr)
 have hz1:zr (B0 (wS x (W3 x.S i 0 (-1))) 0 (I6 x.S i)) = []:=List.eq_nil_iff_forall_not_mem.2 λk hk=>by
  obtain⟨a,c⟩:=a0j.1 hk;rw[z1e] at a c;have a':k∈lv (A1 (wS x (W3 x.S i 0 (-1))) (I6 x.S i)).S:=a;rw[k1.lv] at a';have a':k∈lv (W3 x.S i 0 (-1)):=a';rw[mlv,List.mem_singleton] at a';subst a';have c':(ob (A1 (wS x (W3 x.S i 0 (-1))) (I6 x.S i)).S (I6 x.S i)).Strong=0:=c;omega
 generalize hz:B0 (wS x (W3 x.S i 0 (-1))) 0 (I6 x.S i)=z at dn z1e hz1;have en:er [] x [1,0,0,(-1)]=(z,x.S.Serial+1,0):=by
  unfold er;rw[d1e,if_neg (by simp)];unfold eo;rw[if_neg (show ¬((1:Int)=11) by decide),if_neg (show ¬((1:Int)=12) by decide),c2G dn,b3l hz1]
 have oz:Oh z:=⟨dn.rt,dn.sl,hz1⟩;have zS:z.S=(A1 (wS x (W3 x.S i 0 (-1))) (I6 x.S i)).S:=by rw[z1e]
 have zrest:z.Roots=x.Roots.set 0 (I6 x.S i)∧z.a8=x.a8∧z.T=x.T∧z.Q=x.Q:=by
  rw[←hz];exact a0R (wS x (W3 x.S i 0 (-1))) 0 (I6 x.S i)
 have zk:Kin (W3 x.S i 0 (-1)) z.S:=by rw[zS];exact k1
 have zlv:lv z.S = [I6 x.S i]:=by rw[zk.lv,mlv]
 have zst:(ob z.S (I6 x.S i)).Strong=1:=by rw[zS];exact s1
 have d:Dn z ⟨3,0,0,0⟩ (B0 z 0 0) 0:=d3 oz.rt oz.sl hc3;have zR:=oz.rt.sh.sr;have w1:A1 z 0=z:=c4r (a6t zR);have we:B0 z 0 0=M3 (wR z (z.Roots.set 0 0)) (I6 x.S i):=by
  unfold B0;rw[w1];have g0:z.Roots.getD 0 0=I6 x.S i:=by rw[zrest.1,b.rt];rfl
  rw[g0]
 have inz:I6 x.S i∈lv (wR z (z.Roots.set 0 0)).S:=by show _∈lv z.S;rw[zlv];exact List.mem_singleton.2 rfl
 have k2:Kin z.S (B0 z 0 0).S:=by rw[we];exact C9 (x:=wR z (z.Roots.set 0 0)) zR (I6 x.S i) (f:=a3O) λc=>H8
 have s2:(ob (B0 z 0 0).S (I6 x.S i)).Strong=0:=by
  rw[we];have:=a7l (x:=wR z (z.Roots.set 0 0)) zR (I6 x.S i) (f:=a3O) (λc=>H8) inz;rw[if_pos rfl,show (ob (wR z (z.Roots.set 0 0)).S (I6 x.S i)).Strong=1 from zst] at this;exact this
 have wrest:=a0R z 0 0;generalize B0 z 0 0=w at d k2 s2 wrest;have wR:=d.rt.sh.sr;have wlv:Sh.lv w.S = [I6 x.S i]:=by rw[k2.lv,zlv]
 have wz:zr w = [I6 x.S i]:=by
  unfold zr;rw[wlv,List.filter_cons,if_pos (by rw[s2];rfl)];rfl
 have hh:I6 x.S i≤9223372036854775807:=by have:=hR.cell i hi;have:=hR.l9;have:=hR.len;unfold I6;omega
 have wdue:due (ob w.S (I6 x.S i))=false:=by
  obtain⟨n1,e1⟩:=zk.ob _ hh;obtain⟨n2,e2⟩:=k2.ob _ hh;rw[e2,e1,mob];rfl
 have hm:∀q ∈ [I6 x.S i],q∈Sh.lv w.S:=λq hq=>by rw[wlv];exact hq
 have ylv:Sh.lv (buH w [I6 x.S i]).S = []:=by
  rw[b47 wR (by simp) hm,wlv];simp
 have yz:zr (buH w [I6 x.S i]) = []:=by unfold zr;rw[ylv];rfl
 have ye:=c4p d.rt wz wdue yz;have ed:er [] z [3,0,0,0]=(X6 w,0,0):=by
  unfold er;rw[d3e,if_neg (by simp)];unfold eo;rw[if_neg (show ¬((3:Int)=11) by decide),if_neg (show ¬((3:Int)=12) by decide),c2G d]
 have oy:Oh (X6 w):=d.nxt.ok;have st:=a4Y d.rt;obtain⟨y1,y2,y3,y4⟩:=a6C wR (by simp) hm;have wc:w.a8=List.replicate 6 ⟨0,false,-1⟩:=by rw[wrest.2.1,zrest.2.1,b.cl]
 have g:=a0H [I6 x.S i] wR (by simp) hm;have k3:Kin (gnL w.S [I6 x.S i]) (buH w [I6 x.S i]).S:=(a2B ([I6 x.S i].flatMap (outs w.S)++(wot w.T [I6 x.S i]).2) (x:=a3m w [I6 x.S i] (wot w.T [I6 x.S i]).1) g.sr).1;have pl:A8 (I6 x.S i)=i:=by
  have:=hR.cell i hi;have:=hR.len;unfold A8 I6;omega
 have wlen:w.S.S.a8.length=x.S.S.a8.length:=by rw[k2.len,zk.len,a1U hR hi h0 p1 p2]
 have wlast:w.S.S.Last=x.S.S.Last:=by rw[k2.last,zk.last];rfl
 have wce:∀j,j<x.S.S.a8.length→(ce w.S j).State=(if j=i then 1 else (ce x.S j).State)∧(ce w.S j).Gen=(ce x.S j).Gen:=λj hj=>by
  obtain⟨a1,a2,_⟩:=zk.ce j (by rw[a1U hR hi h0 p1 p2];exact hj);obtain⟨b1,b2,_⟩:=k2.ce j (by rw[zk.len,a1U hR hi h0 p1 p2];exact hj);rw[b1,a1,b2,a2,a4J hR hi h0 p1 p2];by_cases e:j=i
  ·subst e;rw[if_pos rfl,if_pos rfl];exact⟨rfl,rfl⟩
  ·rw[if_neg e,if_neg e];exact⟨rfl,rfl⟩
 have wwk:(ce w.S i).Val.Weak=0:=by
  have:=(d.rt.wk i (by rw[wlen];exact hi) (by unfold Th;rw[(wce i hi).1,if_pos rfl];exact .inl rfl)).1;rw[this,wc];have:(nmg (List.replicate 6 (⟨0,false,-1⟩:c5)) (1+(i:Int)+32*(ce w.S i).Gen):Nat)=0:=by
   unfold nmg;rw[List.countP_eq_zero];intro c hc;rw[(List.mem_replicate.1 hc).2];have:=(d.rt.sh.sr.cell i (by rw[wlen];exact hi)).2.2.1;simp;omega
  rw[this];rfl
 have yce:∀j,j<x.S.S.a8.length→(ce (buH w [I6 x.S i]).S j).State=(if j=i then (if (ce x.S i).Gen=x.S.S.Last then 3 else 0) else (ce x.S j).State)∧(ce (buH w [I6 x.S i]).S j).Gen=(if j=i then (if (ce x.S i).Gen=x.S.S.Last then (ce x.S i).Gen else (ce x.S i).Gen+1) else (ce x.S j).Gen):=λj hj=>by
  obtain⟨c1,c2,_⟩:=k3.ce j (by rw[g.len,wlen];exact hj);rw[c1,c2,g.ce j,List.map_singleton,pl];by_cases e:j=i
  ·subst e;rw[if_pos (List.mem_singleton.2 rfl),if_pos rfl,if_pos rfl];unfold gnC;rw[if_pos wwk,(wce j hj).2,wlast];split <;> exact⟨rfl,rfl⟩
  ·rw[if_neg (by simpa using e),if_neg e,if_neg e,(wce j hj).2,(wce j hj).1,if_neg e];exact⟨rfl,rfl⟩
 refine⟨z,X6 w,en,oz,ed,⟨oy,?_,?_,?_,?_,?_⟩,?_,?_,?_,?_⟩;·rw[ye,y1,wrest.1,zrest.1,b.rt];rfl
 ·rw[ye,y2,wc];simp[clr,a6q,a2H]
 ·intro k v hk;have:=st.has k v hk;rw[wrest.2.2.1,zrest.2.2.1] at this;exact b.hs k v this
 ·rw[ye,y4,wrest.2.2.2,zrest.2.2.2,b.q,wc];rfl
 ·intro j hj;rw[ye] at hj ⊢;rw[k3.len,g.len,wlen] at hj;rw[(yce j hj).1];split
  ·split;·exact .inr rfl
   ·exact .inl rfl
  ·exact b.st j hj
 ·rw[st.Y3,k2.Y3,zk.Y3];rfl
 ·rw[ye,k3.last,g.last,wlast]
 ·rw[ye,k3.len,g.len,wlen]
 ·rw[ye];exact yce
end Go.Sh
namespace Go.Sh
theorem b4T{f g:Nat→Int}{i:Nat}:∀n,(∀j,j<n→j≠i→g j=f j)→((List.range n).map g).sum=((List.range n).map f).sum+(if i<n then g i-f i else 0)
 | 0,_=>by simp
 | n+1,h=>by
  have ih:=b4T (f:=f) (g:=g) (i:=i) n λj hj=>h j (by omega);rw[List.range_succ,List.map_append,List.map_append,List.sum_append,List.sum_append,ih];simp only[List.map_cons,List.map_nil,List.sum_cons,List.sum_nil];by_cases e:n=i
  ·subst e;rw[if_neg (by omega),if_pos (by omega)];omega
  ·have:=h n (by omega) e;by_cases q:i<n
   ·rw[if_pos q,if_pos (by omega)];omega
   ·rw[if_neg q,if_neg (by omega)];omega
def cpc(x:Hp)(j:Nat):Int:=if (ce x.S j).State=0 then x.S.S.Last+1-(ce x.S j).Gen else 0
def cap(x:Hp):Int:=((List.range x.S.S.a8.length).map (cpc x)).sum
theorem c4s{f:Nat→Int}:∀n,(∀j,j<n→0≤f j)→0≤((List.range n).map f).sum∧(((List.range n).map f).sum=0→∀j,j<n→f j=0)
 | 0,_=>⟨by simp,λ_ j hj=>absurd hj (Nat.not_lt_zero _)⟩
 | n+1,h=>by
  obtain⟨a,b⟩:=c4s (f:=f) n λj hj=>h j (by omega);have c:=h n (by omega);rw[List.range_succ,List.map_append,List.sum_append];simp only[List.map_cons,List.map_nil,List.sum_cons,List.sum_nil];refine⟨by omega,λe j hj=>?_⟩;rcases Nat.lt_or_ge j n with q | q
  ·exact b (by omega) j q
  ·obtain rfl:j=n:=by omega
   omega
theorem c2B{x:Hp}(b:Bk x){j:Nat}(hj:j<x.S.S.a8.length):0≤cpc x j∧((ce x.S j).State=0→1≤cpc x j):=by
 have:=b.ok.rt.sh.sr.cell j hj;unfold cpc;split;·exact⟨by omega,λ_=>by omega⟩
 ·rename_i q;exact⟨by omega,λe=>absurd e q⟩
theorem c5m{x:Hp}(b:Bk x)(h:cap x≠0):∃i,Fst x.S i:=by
 have key:∀n,n≤x.S.S.a8.length→(∃i,Fst x.S i)∨∀j,j<n→(ce x.S j).State≠0:=by
  intro n;induction n with
  | zero=>exact λ_=>.inr λj hj=>absurd hj (Nat.not_lt_zero _)
  | succ n ih=>
   intro hn;rcases ih (by omega) with q | q
   ·exact .inl q
   ·by_cases e:(ce x.S n).State=0
    ·exact .inl ⟨n,by omega,e,q⟩
    ·refine .inr λj hj=>?_;rcases Nat.lt_or_ge j n with r | r
     ·exact q j r
     ·obtain rfl:j=n:=by omega
      exact e
 rcases key _ (Nat.le_refl _) with q | q
 ·exact q
 ·exfalso;apply h;unfold cap;have:∀n,n≤x.S.S.a8.length→((List.range n).map (cpc x)).sum=0:=by
   intro n;induction n with
   | zero=>exact λ_=>rfl
   | succ n ih=>
    intro hn;rw[List.range_succ,List.map_append,List.sum_append,ih (by omega)];have:=q n (by omega);simp[cpc,this]
  exact this _ (Nat.le_refl _)
theorem c7N{k:Nat}{m:Int}(hk:1≤k∧k≤24)(hm:0≤m∧m≤9)(r:Rs (nwH k m 8) 0):Bk (nwH k m 8)∧cap (nwH k m 8)=(k:Int)*(m+1):=by
 have hce:∀i,i<k→ce (nwH k m 8).S i=⟨0,0,z0⟩:=λi hi=>by
  unfold ce nwH;simp[List.getD_eq_getElem?_getD,List.getElem?_replicate,hi]
 have hlen:(nwH k m 8).S.S.a8.length=k:=by simp[nwH]
 refine⟨⟨r.oh,rfl,rfl,λa b h=>?_,rfl,λi hi=>?_⟩,?_⟩
 ·obtain⟨h1,_⟩:=r.rt.sh.pr a b h;have hlv:lv (nwH k m 8).S = []:=List.eq_nil_iff_forall_not_mem.2 λq hq=>by
   obtain⟨i,hi⟩:=(a2p r.rt.sh.sr).1 hq;have h1:i<k:=by rw[←hlen];exact hi.1
   have:=hi.2.1;rw[hce i h1] at this;exact absurd this (by decide)
  rw[hlv] at h1;cases h1
 ·rw[hlen] at hi;rw[hce i hi];exact .inl rfl
 ·unfold cap;rw[hlen];have:∀n,n≤k→((List.range n).map (cpc (nwH k m 8))).sum=(n:Int)*(m+1):=by
   intro n;induction n with
   | zero=>intro _;simp
   | succ n ih=>
    intro hn;rw[List.range_succ,List.map_append,List.sum_append,ih (by omega)];have e:cpc (nwH k m 8) n=m+1:=by
     unfold cpc;rw[hce n (by omega)];show m+1-0=m+1;omega
    simp only[List.map_cons,List.map_nil,List.sum_cons,List.sum_nil,e];push_cast
    rw[Int.add_mul];omega
  exact this k (Nat.le_refl _)
theorem c2o{x y:Hp}{i:Nat}(b:Bk x)(hF:Fst x.S i)(hl:y.S.S.Last=x.S.S.Last)(hn:y.S.S.a8.length=x.S.S.a8.length)
  (hc:∀j,j<x.S.S.a8.length→(ce y.S j).State=(if j=i then (if (ce x.S i).Gen=x.S.S.Last then 3 else 0) else (ce x.S j).State)∧(ce y.S j).Gen=(if j=i then (if (ce x.S i).Gen=x.S.S.Last then (ce x.S i).Gen else (ce x.S i).Gen+1) else (ce x.S j).Gen)):cap y=cap x-1:=by
 unfold cap;rw[hn,b4T (f:=cpc x) (i:=i) x.S.S.a8.length λj hj hne=>?_,if_pos hF.1]
 ·obtain⟨c1,c2⟩:=hc i hF.1;rw[if_pos rfl] at c1 c2;have h1:cpc x i=x.S.S.Last+1-(ce x.S i).Gen:=by unfold cpc;rw[if_pos hF.2.1]
  have h2:cpc y i=x.S.S.Last-(ce x.S i).Gen:=by
   unfold cpc;rw[c1,c2,hl];by_cases e:(ce x.S i).Gen=x.S.S.Last
   ·rw[if_pos e,if_neg (by decide),e];omega
   ·rw[if_neg e,if_pos rfl,if_neg e];omega
  rw[h1,h2];omega
 ·obtain⟨c1,c2⟩:=hc j hj;rw[if_neg hne] at c1 c2;unfold cpc;rw[c1,c2,hl]
theorem c7O{x:Hp}(b:Bk x)(hb:x.S.Serial<1000000)(h:cap x≠0):∃y,a0D ⟨x,[]⟩ [[1,0,0,(-1)],[3,0,0,0]]=some (⟨y,[]⟩,[⟨x.S.Serial+1,0⟩,⟨0,0⟩])∧Bk y∧cap y=cap x-1∧y.S.Serial=x.S.Serial+1∧y.S.S.Last=x.S.S.Last∧y.S.S.a8.length=x.S.S.a8.length:=by
 obtain⟨i,hF⟩:=c5m b h;obtain⟨z,y,e1,oz,e2,by',s1,s2,s3,s4⟩:=c5j b (by omega) hF;refine⟨y,?_,by',c2o b hF s2 s3 s4,s1,s2,s3⟩;rw[c9P b8O b.ok _ (by decide) (by omega)];have:ers [] x [[1,0,0,(-1)],[3,0,0,0]]=(y,[(x.S.Serial+1,0),(0,0)]):=by
  show ((er [] (er [] x [1,0,0,(-1)]).1 [3,0,0,0]).1,([] ++ [(er [] x [1,0,0,(-1)]).2]) ++ [(er [] (er [] x [1,0,0,(-1)]).1 [3,0,0,0]).2])=_;rw[e1,e2];rfl
 rw[this];rfl
theorem topRetires{n last more:Int}(h0:0≤n)(h1:n≤255)(g0:0≤last)(g1:last≤255)(m0:0≤more)(m1:more≤255):a2h n last more=some true:=by
 unfold a2h;rw[c35 h0 h1 (by decide),d1D,c35 g0 g1 (by decide),d1D];obtain⟨k,hk,hk2,a,r0⟩:=c6N h0 h1 (l:=last % 10) (by omega);have hw:p9 (1+n % 24)=(k:Int):=by rw[B1 (by omega) (by omega)];exact hk
 obtain⟨m,hm⟩:∃m:Nat,last % 10=m:=⟨(last % 10).toNat,by omega⟩;have hm9:m≤9:=by omega
 rw[a,d1D,hw,hm,B1 (n:=(m:Int)+1) (by omega) (by omega)];rw[hm] at r0;have hK:(k:Int)*((m:Int)+1)=((k*(m+1):Nat):Int):=by push_cast;rfl
 have hK2:k*(m+1)≤240:=Nat.le_trans (Nat.mul_le_mul hk2.2 (show m+1≤10 by omega)) (by decide);rw[hK,B1 (n:=((k*(m+1):Nat):Int)) (by omega) (by omega)];obtain⟨b0,c0⟩:=c7N hk2 (m:=m) (by omega) r0;rw[hK] at c0;generalize k*(m+1)=K at hK2 c0;simp only[jn,d0p,d1D];refine M8 K (λj s=>∃x,s=(⟨x,[]⟩:l7)∧Bk x∧cap x=(K:Int)-j∧x.S.Serial=j∧x.S.S.a8.length=k) (by omega) ⟨_,rfl,b0,by rw[c0];simp,rfl,by simp[nwH]⟩ (λj s hj hP=>?_) (λs hP=>⟨.inr s,if_neg (by simp),?_⟩)
 ·obtain⟨x,rfl,b,c,sx,lx⟩:=hP;obtain⟨y,e1,b',c',s1,_,s3⟩:=c7O b (by omega) (by omega);refine .inl ⟨⟨y,[]⟩,?_,y,rfl,b',by rw[c',c];omega,by rw[s1,sx];omega,by rw[s3,lx]⟩;dsimp only;rw[if_pos (by simpa using hj),e1,d1D];dsimp only;rw[show (ix [(⟨x.S.Serial+1,0⟩:k9),⟨0,0⟩] 0)=some ⟨x.S.Serial+1,0⟩ from rfl];have l2:((([(⟨x.S.Serial+1,0⟩:k9),⟨0,0⟩].length:Nat):Int) != 2)=false:=rfl;rw[l2];simp only[beq_self_eq_true,a3z,d1D,Bool.false_or];rw[sx,k7];have:((((j:Int)+1)) != ((j+1:Nat):Int))=false:=by simp
  rw[this];rfl
 ·obtain⟨x,rfl,b,c,sx,lx⟩:=hP;have hR:=b.ok.rt.sh.sr;have hall:∀j,j<x.S.S.a8.length→(ce x.S j).State=3:=λj hj=>by
   rcases b.st j hj with e | e
   ·exfalso;have:=(c4s (f:=cpc x) x.S.S.a8.length λj hj=>(c2B b hj).1).2 (by show cap x=0;omega) j hj;have:=(c2B b hj).2 e;omega
   ·exact e
  have hmem:∀q∈x.S.S.a8,q.State=3:=λq hq=>by
   obtain⟨j,hj,rfl⟩:=List.getElem_of_mem hq;have:=hall j hj;rwa [C6 hj] at this
  have t3:ctO x.S.S.a8 3=k:=by
   unfold ctO;rw[List.countP_eq_length.2 λq hq=>by rw[hmem q hq];rfl,lx]
  have tz:∀v:Int,v≠3→ctO x.S.S.a8 v=0:=λv hv=>by
   unfold ctO;rw[List.countP_eq_zero];intro q hq;rw[hmem q hq];simp;omega
  dsimp only;rw[c35 m0 m1 (by decide),d1D];have ha:0≤more % 6∧more % 6≤5:=by omega
  generalize more % 6=av at ha;have hc1:u9 1 av 0 (-1)=0:=by
   show V9 (G5 av 0 5 6) (G5 0 0 4 1) (G5 (-1) (-1) 5 13)=0;unfold V9 G5;rw[if_neg (by omega)];rfl
  have hd:V8 [1,av,0,(-1)]=(⟨1,av,0,(-1)⟩,0):=by
   have:=b5g 1 av 0 (-1);rw[if_neg (by rw[hc1];simp)] at this;have e:=(b2p [1,av,0,(-1)]).1;rw[this] at e;exact (Option.some.inj e).symm
  have he:er [] x [1,av,0,(-1)]=(x,0,4):=by
   unfold er;rw[hd,if_neg (by simp)];unfold eo;rw[if_neg (show ¬((1:Int)=11) by decide),if_neg (show ¬((1:Int)=12) by decide)];rcases d1 b.ok.rt b.ok.sl (by omega) hc1 with ⟨e,mk,er⟩ | ⟨_,_,i,hF,_⟩
   ·rw[c7X er];have:e=4:=by
     rcases c3m hR (by omega) 0 (-1) with ⟨q,_⟩ | ⟨_,q,_⟩ | ⟨_,_,_,q⟩ | ⟨_,_,j,hj,_⟩;·exact absurd (by decide) q
     ·exact absurd (by decide) q
     ·rw[q] at mk;exact (congrArg (λr=>r.2.2) (Option.some.inj mk)).symm
     ·have:=hall j hj.1;rw[hj.2.1] at this;exact absurd this (by decide)
    rw[this]
   ·have:=hall i hF.1;rw[hF.2.1] at this;exact absurd this (by decide)
  rw[edo b8O b.ok (by omega),he,d1D,c9Q b.ok.rt,d1D];simp only[tal,anE];rw[t3,tz 0 (by decide),tz 1 (by decide),tz 2 (by decide),c6y];simp[z7]
end Go.Sh
