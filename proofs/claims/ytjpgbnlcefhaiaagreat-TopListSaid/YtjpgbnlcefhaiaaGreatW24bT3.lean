/-
 More of the theory.
-/
import Derived.Test.YtjpgbnlcefhaiaaGreatW24bT2
set_option linter.unusedVariables false
set_option linter.unusedSimpArgs false
set_option linter.unusedSectionVars false
namespace Go.Sh
theorem c3Q{c:Int}(h:0≤c):1≤R6 c:=by unfold R6;split <;> (try split) <;> omega
theorem b9J{x:Hp}(hR:SR x.S){h:Int}(hh:h∈lv x.S){k:Int}(hk:k∈lv x.S):(ob (quH x h).S k).Strong=if k=h then R6 (ob x.S k).Strong else (ob x.S k).Strong:=by
 have oko:=H9 hR hh;have ho:OkO x.S (srt (ob x.S h)):=⟨oko.s1,oko.s2,oko.st,oko.wk,oko.p1,oko.p2,oko.fl⟩;have r1:=a0x (o:=srt (ob x.S h)) hR hh rfl ho;have l1:lv (seO x.S h (srt (ob x.S h)))=lv x.S:=a23 (o:=srt (ob x.S h)) hR hh rfl ho;have hr:=F5 hR hk;have e1:(ob (seO x.S h (srt (ob x.S h))) k).Strong=(ob x.S k).Strong:=by
  rw[a2g (o:=srt (ob x.S h)) hR hh rfl ho (by omega)];split;·rename_i e;subst e;rfl
  ·rfl
 have:=b1F (x:=⟨seO x.S h (srt (ob x.S h)),x.Roots,x.a8,x.T,⟨x.Q.L ++ [qtk x h],x.Q.Cap⟩⟩) r1 (h:=h) (f:=R6) (λc=>B9) (k:=k) (by
  show k∈lv (seO x.S h (srt (ob x.S h)));rw[l1];exact hk)
 rw[show (ob (quH x h).S k).Strong=_ from this];show (if k=h then R6 (ob (seO x.S h (srt (ob x.S h))) k).Strong else (ob (seO x.S h (srt (ob x.S h))) k).Strong)=_;rw[e1]
theorem c9N{x:Hp}(hx:L3 x)(hz:zr x = []){h:Int}(hh:h∈lv x.S):zr (quH x h) = []:=List.eq_nil_iff_forall_not_mem.2 λk hk=>by
 obtain⟨a,b⟩:=a04.1 hk;rw[b6r hx.sh.sr hh] at a;rw[b9J hx.sh.sr hh a] at b;have h0:=(H9 hx.sh.sr a).st;have hn:(ob x.S k).Strong≠0:=λq=>by
  have:k∈zr x:=a04.2 ⟨a,q⟩;rw[hz] at this;cases this
 split at b;·have:=c3Q h0;omega
 ·exact hn b
structure Qd (x y:Hp) (l:List Int):Prop where
 rt:L3 y
 sl:SL y
 zr:zr y = []
 lv:lv y.S=lv x.S
 ob:∀k∈Sh.lv x.S,∃n,Sh.ob y.S k=stg (if k∈l then srt (Sh.ob x.S k) else Sh.ob x.S k) n
 ro:y.Roots=x.Roots
 ce:y.a8=x.a8
 t:y.T=x.T
 q:y.Q=⟨x.Q.L++l.map (qtk x),x.Q.Cap⟩
 U9:y.S.Serial=x.S.Serial
theorem c61{x:Hp}(hR:SR x.S){h:Int}(hh:h∈lv x.S):(quH x h).S.Serial=x.S.Serial:=(a6c hR hh).1.U9
theorem b9K:∀(l:List Int) {x:Hp},L3 x→SL x→Sh.zr x = []→l.Nodup→(∀h∈l,h∈Sh.lv x.S∧due (Sh.ob x.S h)=true)→Qd x (l.foldl quH x) l
 | [],x,hx,hS,hz,_,_=>⟨hx,hS,hz,rfl,λk hk=>⟨(Sh.ob x.S k).Strong,by rw[if_neg (by simp)];rfl⟩,rfl,rfl,rfl,by simp,rfl⟩
 | h::l,x,hx,hS,hz,hn,hd=>by
  obtain⟨hl,hdu⟩:=hd h (List.mem_cons_self ..);have hR:=hx.sh.sr;rw[List.nodup_cons] at hn;have q2:=hdu;unfold due at q2;rw[Bool.and_eq_true,decide_eq_true_iff,Bool.not_eq_true'] at q2;have h1:=b1l hx hl q2.1 q2.2;have h2:=c4L hR hS hl;have h3:=c9N hx hz hl;have lq:=b6r hR hl;have oq:∀k∈Sh.lv x.S,k≠h→∃n,Sh.ob (quH x h).S k=stg (Sh.ob x.S k) n:=λk hk hne=>by
   obtain⟨n,e⟩:=b3u hR hl hk;rw[if_neg hne] at e;exact⟨n,e⟩
  have ih:=b9K l h1 h2 h3 hn.2 λk hk=>by
   obtain⟨a,b⟩:=hd k (List.mem_cons_of_mem _ hk);obtain⟨n,e⟩:=oq k a λe=>hn.1 (e▸hk);refine⟨by rw[lq];exact a,?_⟩;rw[e];exact b
  obtain⟨_,k1,k2,k3,k4⟩:=a6c hR hl;refine⟨ih.rt,ih.sl,ih.zr,ih.lv.trans lq,λk hk=>?_,ih.ro.trans k1,ih.ce.trans k2,ih.t.trans k3,?_,ih.U9.trans (c61 hR hl)⟩
  ·obtain⟨n,e⟩:=ih.ob k (by rw[lq];exact hk);obtain⟨m,e2⟩:=b3u hR hl hk;refine⟨n,?_⟩;show Sh.ob (l.foldl quH (quH x h)).S k=_;rw[e];by_cases c:k=h
   ·subst c;rw[if_neg hn.1,if_pos (List.mem_cons_self ..),e2,if_pos rfl]
   ·rw[if_neg c] at e2;by_cases c2:k∈l
    ·rw[if_pos c2,if_pos (List.mem_cons_of_mem _ c2),e2]
    ·rw[if_neg c2,if_neg (λq=>by
      rcases List.mem_cons.1 q with r | r
      ·exact c r
      ·exact c2 r),e2]
  ·show (l.foldl quH (quH x h)).Q=_;rw[ih.q,k4];have:l.map (qtk (quH x h))=l.map (qtk x):=List.map_congr_left λk hk=>by
    obtain⟨a,_⟩:=hd k (List.mem_cons_of_mem _ hk);obtain⟨n,e⟩:=oq k a λe=>hn.1 (e▸hk);show (⟨1,k,(Sh.ob (quH x h).S k).Prog⟩:k7)=⟨1,k,(Sh.ob x.S k).Prog⟩;rw[e]
   rw[this];simp
noncomputable def btc(x:Hp):List Int:=(gbg x).filter λh=>due (Sh.ob x.S h)
noncomputable def col(x:Hp):Hp:=if btc x = [] then buH x (gbg x) else (btc x).foldl quH x
theorem b5C{x:Hp}:∀h∈btc x,h∈Sh.lv x.S∧due (Sh.ob x.S h)=true:=λh hh=>by
 obtain⟨a,b⟩:=List.mem_filter.1 hh;exact⟨(a0d.1 a).1,b⟩
theorem c27{x:Hp}(hx:L3 x):(btc x).Nodup:=List.Pairwise.filter _ (a2T hx)
theorem c28{x:Hp}(hx:L3 x)(hS:SL x)(hz:zr x = []):Qd x ((btc x).foldl quH x) (btc x):=b9K _ hx hS hz (c27 hx) b5C
theorem b5H{x:Hp}(hx:L3 x)(hS:SL x)(hz:zr x = []):L3 (col x)∧SL (col x)∧zr (col x) = []:=by
 unfold col;split;·exact⟨V3 hx,c29 hx.sh.sr hS (a2T hx) (a15 hx),b7q (V3 hx) (b7B hx)⟩
 ·have q:=c28 hx hS hz;exact⟨q.rt,q.sl,q.zr⟩
end Go.Sh
namespace Go.Sh
theorem c3k{y:Hp}(h:btc y = []):col y=buH y (gbg y):=by
 unfold col;rw[if_pos h]
section
variable{x:Hp}(hx:L3 x)
include hx
end
end Go.Sh
namespace Go.Sh
structure Rs (x:Hp) (n:Nat):Prop where
 rt:L3 x
 sl:SL x
 zr:zr x = []
 U9:x.S.Serial≤n
end Go.Sh
namespace Go.Sh
section
variable{x:Hp}(hx:L3 x)(hS:SL x)
include hx hS
theorem c3b:O3 x=some (gbg x):=by
 have hB:=c7N hx hS;unfold O3;rw[b9k (p9.2 hx.sh.sr) hx.sh.hr hB.tb hB.fb hB.sb];rfl
theorem c7F:a4x (hO x)=some (gbg x):=by
 have hB:=c7N hx hS;unfold a4x;rw[show (hO x).S=sO x.S from rfl,show (hO x).T=x.T.map J1 from rfl,b5Z (p9.2 hx.sh.sr) hx.sh.hr hB.tb hB.sb];rfl
theorem a9Y:(gbg x).length≤24:=Nat.le_trans (List.length_filter_le ..) (D8 (p9.2 hx.sh.sr))
theorem c8D:a2l x=some (btc x):=by
 have hR:=hx.sh.sr;have hl:=a9Y hx hS;unfold a2l;rw[c3b hx hS,d3e];unfold F4;simp only[jn];refine bnd (a:=btc x) ?_ rfl;refine L9 (gbg x).length (λk b=>b=((gbg x).take k).filter λh=>due (Sh.ob x.S h)) (by omega) rfl (λk b hk hP=>?_) (λb hP=>?_)
 ·subst hP;have hm:=a15 hx _ (List.getElem_mem hk);have hle:(((gbg x).take k).filter λh=>due (Sh.ob x.S h)).length≤24:=Nat.le_trans (List.length_filter_le ..) (by simp;omega);refine .inl ⟨_,?_,rfl⟩;rw[if_pos (by simpa using hk),o5 hk,d3e,K5 hk,List.filter_append];unfold a2Q;rw[b1a hR hm,d3e,d3e];have e:(decide ((ob x.S (gbg x)[k],(0:Int)).1.Prog≥0) && !(ob x.S (gbg x)[k],(0:Int)).1.Started)=due (ob x.S (gbg x)[k]):=rfl;rw[e];cases hd:due (ob x.S (gbg x)[k])
  ·rw[if_neg (by simp),l6];simp[hd]
  ·rw[if_pos rfl,y4 (by omega) (by simp;omega),d3e,l6];simp[hd]
 ·subst hP;refine⟨_,if_neg (by simp),?_⟩;rw[List.take_length];rfl
theorem d0B:b1u (hO x)=some (btc x):=by
 have hR:=hx.sh.sr;have hl:=a9Y hx hS;unfold b1u;rw[c7F hx hS,d3e];simp only[jn];refine L9 (gbg x).length (λk b=>b=((gbg x).take k).filter λh=>due (Sh.ob x.S h)) (by omega) rfl (λk b hk hP=>?_) (λb hP=>?_)
 ·subst hP;have hm:=a15 hx _ (List.getElem_mem hk);have hle:(((gbg x).take k).filter λh=>due (Sh.ob x.S h)).length≤24:=Nat.le_trans (List.length_filter_le ..) (by simp;omega);refine .inl ⟨_,?_,rfl⟩;rw[if_pos (by simpa using hk),o5 hk,d3e,K5 hk,List.filter_append,c3p hx hS (a1w hR hm),d3e,decide_eq_true hm,Bool.true_and];cases hd:due (ob x.S (gbg x)[k])
  ·rw[if_neg (by simp),l6];simp[hd]
  ·rw[if_pos rfl,y4 (by omega) (by simp;omega),d3e,l6];simp[hd]
 ·subst hP;refine⟨_,if_neg (by simp),?_⟩;rw[List.take_length];rfl
noncomputable def cgn(x:Hp):Int:=if btc x = [] then ((lv x.S).length:Int)-((lv (col x).S).length:Int) else 0
omit hx hS in
theorem c34 {l:List Int} (hn:l.Nodup) (hm:∀d∈l,d∈lv x.S):lvo x l=l:=by
 have key:∀(l b:List Int),(b++l).Nodup→(∀d∈l,d∈lv x.S)→l.foldl (λb h=>if h∈lv x.S∧h∉b then b ++ [h] else b) b=b++l:=by
  intro l;induction l with
  | nil=>intro b _ _;simp
  | cons a l ih=>
   intro b hn hm;rw[List.foldl_cons];have ha:a∉b:=λq=>by
    rw[List.nodup_append] at hn;exact hn.2.2 a q a (List.mem_cons_self ..) rfl
   rw[if_pos ⟨hm a (List.mem_cons_self ..),ha⟩,ih (b ++ [a]) (by simpa using hn) λd hd=>hm d (List.mem_cons_of_mem _ hd)];simp
 exact key l [] (by simpa using hn) hm
variable(hz:zr x = [])
include hz
theorem c1u{k:Nat}(hk:k<(btc x).length):(((btc x).take k).foldl quH x)=(((btc x).take k).foldl quH x)∧L3 (((btc x).take k).foldl quH x)∧SL (((btc x).take k).foldl quH x)∧(btc x)[k]∈lv (((btc x).take k).foldl quH x).S∧due (ob (((btc x).take k).foldl quH x).S (btc x)[k])=true:=by
 have hn:=c27 hx;have q:=b9K ((btc x).take k) hx hS hz ((List.take_sublist ..).nodup hn) λh hh=>b5C h (List.mem_of_mem_take hh);obtain⟨a,b⟩:=b5C (btc x)[k] (List.getElem_mem hk);refine⟨rfl,q.rt,q.sl,by rw[q.lv];exact a,?_⟩;obtain⟨n,e⟩:=q.ob _ a;have hnot:(btc x)[k]∉(btc x).take k:=λh=>by
  have:=K5 hk;have hs:((btc x).take (k+1)).Nodup:=(List.take_sublist ..).nodup hn;rw[this,List.nodup_append] at hs;exact hs.2.2 _ h _ (List.mem_singleton_self _) rfl
 rw[e,if_neg hnot];exact b
theorem b5D:(btc x).length≤24:=Nat.le_trans (List.length_filter_le ..) (a9Y hx hS)
theorem c8H:U4 x=some (col x,((btc x).length:Int),cgn x):=by
 have hR:=hx.sh.sr;have hl:=b5D hx hS hz;obtain⟨c1,c2,c3⟩:=b5H hx hS hz;unfold U4;rw[c8D hx hS,d3e];simp only[jn];refine L9 (btc x).length (λk b=>b=((btc x).take k).foldl quH x) (by omega) rfl (λk b hk hP=>?_) (λb hP=>?_)
 ·subst hP;obtain⟨_,r1,r2,r3,r4⟩:=c1u hx hS hz hk;refine .inl ⟨_,?_,rfl⟩;rw[if_pos (by simpa using hk),o5 hk,d3e,b5g r1 r2 (a1w r1.sh.sr r3),d3e,l6,K5 hk,List.foldl_append];unfold quD;rw[if_pos ⟨r3,r4⟩];rfl
 ·subst hP;refine⟨_,if_neg (by simp),?_⟩;rw[List.take_length];by_cases hb:btc x = []
  ·have e:col x=buH x (gbg x):=c3k hb;rw[if_neg (by simp[hb])];unfold cgn;rw[if_pos hb,e,hb];have h1:=a2T hx;have h2:=a15 hx;have hlive:=a1v (p9.2 hR);have hlive2:=a1v (p9.2 (V3 hx).sh.sr);have l1:=D8 (p9.2 hR);have l2:=D8 (p9.2 (V3 hx).sh.sr);show (O3 x).bind _=_;rw[c3b hx hS,d3e,List.foldl_nil,c0s hx h1 h2 (c1h hx) (by rw[b0d hR _ (by have:=a9Y hx hS;omega) λh hh=>a1w hR (h2 h hh),c34 h1 h2]),d3e,a3y (V3 hx) (by rw[←e];exact c2),d3e,b3a hx,hlive,d3e,hlive2,d3e,B6 (by omega) (by omega)];rfl
  ·have:0<(btc x).length:=List.length_pos_iff.2 hb;rw[if_pos (by simp;omega)];unfold cgn col;rw[if_neg hb,if_neg hb]
theorem d0D:a7w (hO x)=some (hO (col x),((btc x).length:Int),cgn x):=by
 have hR:=hx.sh.sr;have hl:=b5D hx hS hz;obtain⟨c1,c2,c3⟩:=b5H hx hS hz;unfold a7w;rw[d0B hx hS,d3e];simp only[jn];by_cases hb:btc x = []
 ·have e:col x=buH x (gbg x):=c3k hb;rw[if_neg (by simp[hb])];unfold cgn;rw[if_pos hb,e,hb];have h1:=a2T hx;have h2:=a15 hx;have hlive:=a7j (p9.2 hR);have hlive2:=a7j (p9.2 (V3 hx).sh.sr);have l1:=D8 (p9.2 hR);have l2:=D8 (p9.2 (V3 hx).sh.sr);rw[c7F hx hS,d3e,b4M hx h1 h2 (c1h hx) (by rw[c3q hR _ (by have:=a9Y hx hS;omega) λh hh=>a1w hR (h2 h hh),c34 h1 h2]),d3e,a5s (V3 hx) (by rw[←e];exact c2),d3e,b3a hx,show (hO x).S=sO x.S from rfl,hlive,d3e,show (hO (buH x (gbg x))).S=sO (buH x (gbg x)).S from rfl,hlive2,d3e,B6 (by omega) (by omega)];rfl
 ·have hp:0<(btc x).length:=List.length_pos_iff.2 hb;rw[if_pos (by simp;omega)];refine L9 (btc x).length (λk b=>b=hO (((btc x).take k).foldl quH x)) (by omega) rfl (λk b hk hP=>?_) (λb hP=>?_)
  ·subst hP;obtain⟨_,r1,r2,r3,r4⟩:=c1u hx hS hz hk;refine .inl ⟨_,?_,rfl⟩;rw[if_pos (by simpa using hk),o5 hk,d3e,b79 r1 r2 (a1w r1.sh.sr r3),d3e,l6,K5 hk,List.foldl_append];unfold quD;rw[if_pos ⟨r3,r4⟩];rfl
  ·subst hP;refine⟨_,if_neg (by simp),?_⟩;rw[List.take_length];unfold cgn col;rw[if_neg hb,if_neg hb]
end
end Go.Sh
namespace Go.Sh
theorem c59{x:Hp}(hx:L3 x)(hS:SL x)(hz:zr x = []):(col x).S.Serial=x.S.Serial:=by
 unfold col;split
 ·have g:=a1q (gbg x) hx.sh.sr (a2T hx) (a15 hx);exact (a3U ((gbg x).flatMap (outs x.S)++(wot x.T (gbg x)).2) (x:=a36 x (gbg x) (wot x.T (gbg x)).1) g.sr).1.U9.trans g.U9
 ·exact (c28 hx hS hz).U9
end Go.Sh
namespace Go.Sh
def Sv(s s':a7):Prop:=s'.S.a8.length=s.S.a8.length∧∀i,i<s.S.a8.length→(ce s i).Gen≤(ce s' i).Gen∧((ce s' i).Gen=(ce s i).Gen→((ce s i).State≠0→(ce s' i).State≠0)∧((ce s' i).State=1→(ce s i).State=0∨((ce s i).State=1∧((ce s i).Val.Started=true→(ce s' i).Val.Started=true))))
theorem Sv.refl(s:a7):Sv s s:=⟨rfl,λi _=>⟨Int.le_refl _,λ_=>⟨id,λh=>.inr ⟨h,id⟩⟩⟩⟩
theorem Sv.trans{a b c:a7}(h:Sv a b)(q:Sv b c):Sv a c:=by
 obtain⟨h1,h2⟩:=h;obtain⟨q1,q2⟩:=q;refine⟨q1.trans h1,λi hi=>?_⟩;obtain⟨a1,a2⟩:=h2 i hi;obtain⟨b1,b2⟩:=q2 i (by omega);refine⟨by omega,λe=>?_⟩;obtain⟨a3,a4⟩:=a2 (by omega);obtain⟨b3,b4⟩:=b2 (by omega);refine⟨λh=>b3 (a3 h),λh=>?_⟩;rcases b4 h with r | ⟨r,r'⟩
 ·exact .inl (Classical.byContradiction λn=>a3 n r)
 ·rcases a4 r with k | ⟨k,k'⟩
  ·exact .inl k
  ·exact .inr ⟨k,λs=>r' (k' s)⟩
def c0g(s:a7)(h:Int):Prop:=∃(i:Nat) (g:Int),i<s.S.a8.length∧h=1+(i:Int)+32*g∧(g<(ce s i).Gen∨(g=(ce s i).Gen∧(ce s i).State≠0∧((ce s i).State=1→(ce s i).Val.Started=true)))
theorem Sv.d1A{s s':a7}(h:Sv s s'){k:Int}(q:c0g s k):c0g s' k:=by
 obtain⟨i,g,hi,e,q⟩:=q;obtain⟨h1,h2⟩:=h;obtain⟨a,b⟩:=h2 i hi;refine⟨i,g,by omega,e,?_⟩;rcases q with q | ⟨q1,q2,q3⟩
 ·exact .inl (by omega)
 ·by_cases c:(ce s' i).Gen=(ce s i).Gen
  ·obtain⟨b1,b2⟩:=b c;refine .inr ⟨by omega,b1 q2,λr=>?_⟩;rcases b2 r with k | ⟨k1,k2⟩
   ·exact absurd k q2
   ·exact k2 (q3 k1)
  ·exact .inl (by omega)
theorem c2n{s:a7}(hR:SR s){h:Int}(hh:h∈lv s)(hs:(ob s h).Started=false):¬c0g s h:=by
 rintro⟨i,g,hi,e,q⟩;obtain⟨j,hj⟩:=(a27 hR).1 hh;have hl:=hR.len;have hij:i=j:=by
  have:=hj.2.2;have:=hj.1;omega
 subst hij;have:=hj.2.2;rcases q with q | ⟨q1,q2,q3⟩
 ·omega
 ·rw[M6 hR hj,q3 hj.2.1] at hs;cases hs
theorem Kin.sv{s s':a7}(hR:SR s)(k:Kin s s'):Sv s s':=⟨k.len,λi hi=>by
 obtain⟨a,b,_,_,_⟩:=k.ce i hi;refine⟨by omega,λ_=>⟨by omega,λh=>.inr ⟨by omega,λq=>?_⟩⟩⟩;have h1:At s (hdl s i) i:=⟨hi,by omega,rfl⟩;have h2:At s' (hdl s i) i:=⟨by rw[k.len];exact hi,h,by rw[b];rfl⟩;have hl:=F5 hR ((a27 hR).2 ⟨i,h1⟩);obtain⟨n,e⟩:=k.ob (hdl s i) (by omega);rw[M6 k.sr h2,M6 hR h1] at e;rw[e];exact q⟩
theorem c49{s:a7}(hR:SR s){h:Int}(hh:h∈lv s){o:m7}(hs:o.Serial=(ob s h).Serial)(ho:OkO s o)(hst:(ob s h).Started=true→o.Started=true):Sv s (seO s h o):=⟨c1n s h o,λi hi=>by
 have q:=x4 hR hh;rw[b6O hR hh hs ho];split
 ·rename_i e;subst e;refine⟨Int.le_refl _,λ_=>⟨id,λr=>.inr ⟨q.2.1,λk=>hst ?_⟩⟩⟩;rw[M6 hR q];exact k
 ·exact⟨Int.le_refl _,λ_=>⟨id,λr=>.inr ⟨r,id⟩⟩⟩⟩
theorem c38{s:a7}(hR:SR s){i:Nat}(hi:i<s.S.a8.length)(ht:Th (ce s i))(d:Int):Sv s (mkA s i d):=⟨K4 ..,λj hj=>by
 rw[a2X hR hi ht];split
 ·rename_i e;subst e;exact⟨Int.le_refl _,λ_=>⟨id,λr=>.inr ⟨r,id⟩⟩⟩
 ·exact⟨Int.le_refl _,λ_=>⟨id,λr=>.inr ⟨r,id⟩⟩⟩⟩
theorem c82{s:a7}{i:Nat}(hi:i<s.S.a8.length):Sv s (gvA s i):=⟨V0 ..,λj hj=>by
 unfold gvA;rw[I4 hi];by_cases e:j=i
 ·subst e;rw[if_pos rfl];split;·exact⟨Int.le_refl _,λ_=>⟨λ_=>(by decide:(3:Int)≠0),λr=>absurd (show (3:Int)=1 from r) (by decide)⟩⟩
  ·refine⟨by show _≤(ce s j).Gen+1;omega,λr=>?_⟩;have:(ce s j).Gen+1=(ce s j).Gen:=r;omega
 ·rw[if_neg e];exact⟨Int.le_refl _,λ_=>⟨id,λr=>.inr ⟨r,id⟩⟩⟩⟩
theorem Gn.sv{s s':a7}{ds:List Int}(g:Gn s s' ds):Sv s s':=⟨g.len,λj hj=>by
 rw[g.ce];split
 ·unfold gnC;split
  ·split;·exact⟨Int.le_refl _,λ_=>⟨λ_=>(by decide:(3:Int)≠0),λr=>absurd (show (3:Int)=1 from r) (by decide)⟩⟩
   ·refine⟨by show _≤(Sh.ce s j).Gen+1;omega,λr=>?_⟩;have:(Sh.ce s j).Gen+1=(Sh.ce s j).Gen:=r;omega
  ·exact⟨Int.le_refl _,λ_=>⟨λ_=>(by decide:(2:Int)≠0),λr=>absurd (show (2:Int)=1 from r) (by decide)⟩⟩
 ·exact⟨Int.le_refl _,λ_=>⟨id,λr=>.inr ⟨r,id⟩⟩⟩⟩
theorem d03{s:a7}(hR:SR s){i:Nat}(hi:i<s.S.a8.length)(h0:(ce s i).State=0){n:Nat}(hn:n≤4){p:Int}(hp : -1≤p∧p≤5):Sv s (mkS s i n p):=⟨a4R hR hi h0 hn hp,λj hj=>by
 rw[a6H hR hi h0 hn hp];split
 ·rename_i e;subst e;exact⟨Int.le_refl _,λ_=>⟨λr=>absurd h0 r,λ_=>.inl h0⟩⟩
 ·exact⟨Int.le_refl _,λ_=>⟨id,λr=>.inr ⟨r,id⟩⟩⟩⟩
theorem b9U{x:Hp}(hR:SR x.S)(h:Int):Sv x.S (A8 x h).S:=(E2 hR h (f:=R6) λc=>B9).sv hR
theorem b6I{x:Hp}(hR:SR x.S)(h:Int):Sv x.S (O2 x h).S:=(E2 hR h (f:=a41) λc=>L6).sv hR
theorem b8j{x:Hp}(hR:SR x.S)(r:Nat)(h:Int):Sv x.S (E1 x r h).S:=
 (b9U hR h).trans (b6I (x:=wR (A8 x h) (x.Roots.set r h)) (a21 hR h) _)
theorem c1Q{x:Hp}(hR:SR x.S){h:Int}(hh:h∈lv x.S){n:Nat}(hn:n<(ob x.S h).Fields.length)(v:Int):Sv x.S (a0T x h n v).S:=by
 have k1:=b6L hR v;have hh1:h∈lv (A8 x v).S:=by rw[k1.lv];exact hh
 have hof:(ob (A8 x v).S h).Fields=(ob x.S h).Fields:=by
  obtain⟨n,e⟩:=(E2 hR v (f:=R6) λc=>B9).ob h (by have:=F5 hR hh;omega);show (ob (stO x v R6).S h).Fields=_;rw[e]
 have ho:OkO (A8 x v).S (flg (ob (A8 x v).S h) ((ob x.S h).Fields.set n v)):=by
  have:=H9 k1.sr hh1;refine⟨this.s1,this.s2,this.st,this.wk,this.p1,this.p2,?_⟩;have h4:=this.fl;rw[hof] at h4;simpa using h4
 have k2:=c49 (o:=flg (ob (A8 x v).S h) ((ob x.S h).Fields.set n v)) k1.sr hh1 rfl ho id;exact ((b9U hR v).trans k2).trans (b6I (x:=wS (A8 x v) (seO (A8 x v).S h (flg (ob (A8 x v).S h) ((ob x.S h).Fields.set n v)))) (a0x (o:=flg (ob (A8 x v).S h) ((ob x.S h).Fields.set n v)) k1.sr hh1 rfl ho) _)
theorem c4C{x:Hp}(hR:SR x.S)(v:Int)(t:Tb)(old:Int):Sv x.S (a5g x v t old).S:=
 (b9U hR v).trans (b6I (x:=wT (A8 x v) t) (a21 hR v) old)
theorem c9k{x:Hp}(hR:SR x.S)(h d:Int):Sv x.S (mkd x h d).S:=by
 unfold mkd;split
 ·rename_i q;exact c38 hR q.1 q.2.1 d
 ·exact Sv.refl _
theorem c7s{x:Hp}(hR:SR x.S)(h:Int):Sv x.S (a7N x h).S:=by
 unfold a7N;split
 ·rename_i q;have k:=c38 hR q.1 q.2.1 (-1);split;·exact k.trans (c82 (by rw[k.1];exact q.1))
  ·exact k
 ·exact Sv.refl _
theorem c5p{x:Hp}(hx:L3 x)(n:Nat)(h call:Int):Sv x.S (a1X x n h call).S:=by
 have hR:=hx.sh.sr;unfold a1X;have s1:Sv x.S (mkd (wC x (x.a8.set n (wcl h call))) h 1).S:=c9k (x:=wC x (x.a8.set n (wcl h call))) hR h 1;refine s1.trans (c7s ?_ _);unfold mkd;split
 ·rename_i q;have:=(hR.ok _ q.1 q.2.1).wk;exact b3m hR q.1 q.2.1 (by omega)
 ·exact hR
theorem c8E{x:Hp}(hR:SR x.S){ds:List Int}(hn:ds.Nodup)(hm:∀d∈ds,d∈lv x.S):Sv x.S (buH x ds).S:=by
 have g:=a1q ds hR hn hm;exact g.sv.trans ((a3U (ds.flatMap (outs x.S)++(wot x.T ds).2) (x:=a36 x ds (wot x.T ds).1) g.sr).1.sv g.sr)
theorem c9M{x:Hp}(hR:SR x.S){h:Int}(hh:h∈lv x.S):Sv x.S (quH x h).S:=by
 have oko:=H9 hR hh;have ho:OkO x.S (srt (ob x.S h)):=⟨oko.s1,oko.s2,oko.st,oko.wk,oko.p1,oko.p2,oko.fl⟩;exact (c49 (o:=srt (ob x.S h)) hR hh rfl ho λ_=>rfl).trans ((a6c hR hh).1.sv (a0x (o:=srt (ob x.S h)) hR hh rfl ho))
theorem d0d{x:Hp}(hx:L3 x):Sv x.S (stp x).S:=by
 cases h:zr x with
 | nil=>rw[a8s h];exact Sv.refl _
 | cons z l=>
  have hz:z∈zr x:=by rw[h];exact List.mem_cons_self ..
  have hzl:=(a04.1 hz).1;rw[a30 h];split;·exact c9M hx.sh.sr hzl
  ·exact c8E hx.sh.sr (by simp) (by simpa using hzl)
theorem c98{x:Hp}(hx:L3 x)(n:Nat):Sv x.S (stN n x).S:=by
 induction n with
 | zero=>exact Sv.refl _
 | succ n ih=>rw[a1J];exact ih.trans (d0d (a0m hx n))
theorem c7i{x:Hp}(hx:L3 x):Sv x.S (a1i x).S:=c98 hx 100
structure Fw (x y:Hp):Prop where
 sv:Sv x.S y.S
 q:∃l,y.Q=⟨x.Q.L++l,x.Q.Cap⟩∧∀t∈l,t.Kind=1→¬c0g x.S t.At
theorem Fw.of{x y:Hp}(h:Sv x.S y.S)(q:y.Q=x.Q):Fw x y:=⟨h,[],by rw[q,List.append_nil],λt ht=>by cases ht⟩
theorem Fw.refl(x:Hp):Fw x x:=Fw.of (Sv.refl _) rfl
theorem Fw.trans{x y z:Hp}(a:Fw x y)(b:Fw y z):Fw x z:=by
 obtain⟨l,q1,q2⟩:=a.q;obtain⟨m,r1,r2⟩:=b.q;refine⟨a.sv.trans b.sv,l++m,by rw[r1,q1,List.append_assoc],λt ht hk=>?_⟩;rcases List.mem_append.1 ht with h | h
 ·exact q2 t h hk
 ·exact λs=>r2 t h hk (a.sv.d1A s)
theorem b6Q{x:Hp}(hx:L3 x):Fw x (a1i x):=by
 obtain⟨l,q1,q2,_⟩:=(a7H hx).q;exact⟨c7i hx,l,q1,λt ht hk=>c2n hx.sh.sr (q2 t ht hk).1 (q2 t ht hk).2⟩
end Go.Sh
namespace Go.Sh
theorem a3V{x:Hp}(hR:SR x.S)(r:Nat)(h:Int):Fw x (E1 x r h):=Fw.of (b8j hR r h) (a3W x r h).2.2.2
theorem d0H{x:Hp}(hx:L3 x)(hS:SL x)(hz:zr x = [])(hb:x.S.Serial<9223372036854775807)(o:g8):(∃e,Er x o e)∨∃z v,Dn x o z v∧Fw x z:=by
 have hR:=hx.sh.sr;obtain⟨k,a,b,c⟩:=o;by_cases hc:z1 k a b c=0
 ·have:=c0L hc;have hk:k=1∨k=2∨k=3∨k=4∨k=5∨k=6∨k=7∨k=8∨k=9∨k=10∨k=11∨k=12:=by omega
  rcases hk with rfl | rfl | rfl | rfl | rfl | rfl | rfl | rfl | rfl | rfl | rfl | rfl
  ·rcases d1 hx hS hb hc with ⟨e,_,h⟩ | ⟨hn,hcc,i,hF,h⟩;·exact .inl ⟨e,h⟩
   ·obtain⟨hi,h0,_⟩:=hF;have k1:Fw x (wS x (mkS x.S i b.toNat c)):=Fw.of (d03 hR hi h0 hn hcc) rfl;exact .inr ⟨_,_,h,k1.trans (a3V (x:=wS x (mkS x.S i b.toNat c)) (b7U hR hi h0 hn hcc) _ _)⟩
  ·exact .inr ⟨_,_,d2 hx hS hc,a3V hR _ _⟩
  ·exact .inr ⟨_,_,d3 hx hS hc,a3V hR _ _⟩
  ·rcases d4 hx hS hc with ⟨_,h⟩ | ⟨e,_,h⟩ | ⟨_,n,_,_,h⟩;·exact .inl ⟨_,h⟩
   ·exact .inl ⟨_,h⟩
   ·exact .inr ⟨_,_,h,a3V hR _ _⟩
  ·rcases d5 hx hS hc with ⟨_,h⟩ | ⟨e,_,h⟩ | ⟨hl,n,_,hn,h⟩;·exact .inl ⟨_,h⟩
   ·exact .inl ⟨_,h⟩
   ·exact .inr ⟨_,_,h,Fw.of (c1Q hR hl hn _) (a69 _ _ _ _).2.2.2⟩
  ·rcases d6 hx hS hc with ⟨_,h⟩ | ⟨e,_,h⟩ | ⟨_,h⟩;·exact .inl ⟨_,h⟩
   ·exact .inl ⟨_,h⟩
   ·exact .inr ⟨_,_,h,Fw.of (c5p hx _ _ _) (b36 _ _ _ _).2.2.2⟩
  ·obtain⟨_,⟨_,h⟩ | ⟨_,h⟩⟩:=d7 hx hS hc;·exact .inl ⟨_,h⟩
   ·exact .inr ⟨_,_,h,a3V hR _ _⟩
  ·rcases d8 hx hS hc with ⟨_,h⟩ | ⟨_,e,_,h⟩ | ⟨_,r,_,_,h⟩;·exact .inl ⟨_,h⟩
   ·exact .inl ⟨_,h⟩
   ·exact .inr ⟨_,_,h,Fw.of (c4C hR _ _ _) (a9q _ _ _ _).2.2.2⟩
  ·rcases d9 hx hS hc with ⟨_,h⟩ | ⟨_,_,h⟩ | ⟨_,v,_,h⟩;·exact .inl ⟨_,h⟩
   ·exact .inl ⟨_,h⟩
   ·exact .inr ⟨_,_,h,a3V hR _ _⟩
  ·exact .inr ⟨_,_,d10 hx hS hz hc,Fw.refl x⟩
  ·obtain⟨h1,h2⟩:=b5O (x:=x) (a:=a) (b:=b) (c:=c) (.inl rfl) hc;exact .inl ⟨14,by decide,h1,h2⟩
  ·obtain⟨h1,h2⟩:=b5O (x:=x) (a:=a) (b:=b) (c:=c) (.inr rfl) hc;exact .inl ⟨14,by decide,h1,h2⟩
 ·obtain⟨h1,h2⟩:=c3o (x:=x) (o:=⟨k,a,b,c⟩) hc;exact .inl ⟨_,hc,h1,h2⟩
theorem c8L{x:Hp}(hx:L3 x)(hS:SL x)(hz:zr x = [])(hb:x.S.Serial<9223372036854775807)(o:g8):Fw x (dov x o).1:=by
 rcases d0H hx hS hz hb o with ⟨e,_,h,_⟩ | ⟨z,v,d,f⟩
 ·have:dov x o=(x,0,e):=by unfold dov;rw[h];rfl
  rw[this];exact Fw.refl x
 ·have:dov x o=(a1i z,v,0):=by unfold dov;rw[d.mc];rfl
  rw[this];exact f.trans (b6Q d.rt)
theorem d1r{x:Hp}(h1:HpS x)(h2:Wk x){L:List Int}(h3:a05 x L){r:Nat}(hr:r<6){h:Int}(hh:h=0∨h∈lv x.S):HpS (E1 x r h)∧Wk (E1 x r h)∧a05 (E1 x r h) L:=by
 have kin:=E2 h1.sr h (f:=R6) λc=>B9;have l1:lv (A8 x h).S=lv x.S:=kin.lv;have f1:a05 (A8 x h) (h::L):=b8l h1.sr h3 h;have s1:HpS (A8 x h):=h1.st h (f:=R6) λc=>B9;have s2:HpS (wR (A8 x h) (x.Roots.set r h)):=s1.roots (by rw[List.length_set];exact h1.r6) λv hv=>by
  rw[l1];rcases List.mem_or_eq_of_mem_set hv with q | q
  ·exact h1.rt v q
  ·exact q▸hh
 have w1:Wk (A8 x h):=h2.st h1.sr h (f:=R6) λc=>B9;have one:∀v k,W9 [v] k=if v=k∧k≠0 then 1 else 0:=λv k=>by rw[E5,O0,Nat.zero_add]
 have f2:a05 (wR (A8 x h) (x.Roots.set r h)) (x.Roots.getD r 0::L):=f1.mv rfl (λ_ _=>rfl) λk hk=>by
  have:=b2J (l:=x.Roots) (r:=r) (by rw[h1.r6];exact hr) h k;rw[one,one] at this;rw[b1z x h];unfold nms otr;dsimp only;rw[I2,I2,b1I,b1I,E5 h L,E5 (x.Roots.getD r 0) L];omega
 exact⟨s2.st _ λc=>L6,Wk.st (x:=wR (A8 x h) (x.Roots.set r h)) w1 s2.sr _ λc=>L6,b0z (x:=wR (A8 x h) (x.Roots.set r h)) s2.sr f2⟩
abbrev unq(x:Hp)(ts:List k7):Hp:=wQ x ⟨ts,x.Q.Cap⟩
noncomputable def b06(x:Hp)(ts:List k7)(h:Int):Hp:=O2 (E1 (unq x ts) 5 h) h
section
variable{x:Hp}(hx:L3 x){t:k7}{ts:List k7}(hq:x.Q.L=t::ts)
include hx hq
theorem b62:HpS (unq x ts):=by
 have h:=hx.sh;refine⟨h.sr,h.hr,h.r6,h.c6,h.cap,?_,λu hu=>h.tk u (by rw[hq];exact List.mem_cons_of_mem _ hu),?_,h.rt,h.fl,h.pr,λi hi=>?_⟩
 ·have:=h.q30;rw[hq,List.length_cons] at this;show ts.length≤30;omega
 ·have:=h.td;rw[hq,List.pairwise_cons] at this;exact this.2
 ·obtain⟨a,b,c,d,e⟩:=h.cl i hi;refine⟨a,b,c,d,λq=>⟨(e q).1,?_⟩⟩;have:=(e q).2;rw[Bool.eq_false_iff] at this ⊢;intro r;obtain⟨u,hu,k1,k2⟩:=a4F.1 r;exact this (a4F.2 ⟨u,by rw[hq];exact List.mem_cons_of_mem _ hu,k1,k2⟩)
theorem b8B:a05 (unq x ts) (if t.Kind=1 then [t.At] else []):=hx.fair.mv rfl (λ_ _=>rfl) λh _=>by
 unfold nms otr b4t;dsimp only;rw[hq,List.filter_cons];by_cases k:t.Kind=1
 ·rw[if_pos k,if_pos (by simpa using k),List.map_cons,I2,I2,E5 t.At (List.map _ _),E5 t.At [],O0];omega
 ·rw[if_neg k,if_neg (by simpa using k),O0]
theorem b84(hk:t.Kind≠1):L3 (unq x ts):=⟨b62 hx hq,hx.wk,by have:=b8B hx hq;rwa [if_neg hk] at this⟩
theorem b9e(hk:t.Kind=1):t.At∈lv x.S∧(ob x.S t.At).Started=true:=by
 rcases (hx.sh.tk t (by rw[hq];exact List.mem_cons_self ..)).2.2 with ⟨_,b,c⟩ | ⟨b,_⟩;·exact⟨b,c⟩
 ·omega
theorem a42(hk:t.Kind=1):L3 (b06 x ts t.At):=by
 have f:=b8B hx hq;rw[if_pos hk] at f;obtain⟨a,b,c⟩:=d1r (b62 hx hq) (x:=unq x ts) hx.wk f (r:=5) (by decide) (.inr (b9e hx hq hk).1);exact⟨a.st _ λc=>L6,b.st a.sr _ λc=>L6,b0z a.sr c⟩
omit hq in
theorem b9f (hS:SL x) (h:Int):SL (b06 x ts h):=by
 have k:=a3X (x:=unq x ts) hx.sh.sr hS 5 h;exact b6G [h] (a0J (x:=unq x ts) hx.sh.sr 5 h).sr k
omit hq in
theorem c8P (h:Int):Ks x.S (b06 x ts h).S:=by
 have k:=a0J (x:=unq x ts) hx.sh.sr 5 h;exact k.trans (b6H k.sr h)
omit hq in
theorem c3C (h:Int):(b06 x ts h).Roots=x.Roots.set 5 h∧(b06 x ts h).a8=x.a8∧(b06 x ts h).T=x.T∧(b06 x ts h).Q=⟨ts,x.Q.Cap⟩:=by
 obtain⟨a,b,c,d⟩:=b3O (E1 (unq x ts) 5 h) h;obtain⟨a',b',c',d'⟩:=a3W (unq x ts) 5 h;exact⟨a.trans a',b.trans b',c.trans c',d.trans d'⟩
omit hq in
theorem c8O (h:Int):Fw (unq x ts) (b06 x ts h):=Fw.of ((b8j (x:=unq x ts) hx.sh.sr 5 h).trans (b6I (a0J (x:=unq x ts) hx.sh.sr 5 h).sr h)) (c3C hx h).2.2.2
end
def prg(ps:List (List g8))(n:Int):List g8:=if n<0∨(ps.length:Int)≤n then [] else ps.getD n.toNat []
noncomputable def pre(x:Hp)(t:k7)(ts:List k7):Hp:=if t.Kind=1 then a1i (b06 x ts t.At) else unq x ts
noncomputable def ran(ps:List (List g8))(x:Hp)(t:k7)(ts:List k7):Hp:=(runs (pre x t ts) (prg ps t.Prog)).1
noncomputable def dne(ps:List (List g8))(x:Hp)(t:k7)(ts:List k7):Hp:=if t.Kind=1 then a1i (E1 (ran ps x t ts) 5 0) else ran ps x t ts
structure Oh (x:Hp):Prop where
 rt:L3 x
 sl:SL x
 zr:zr x = []
theorem Nxt.ok{x y:Hp}{o:g8}{v e:Int}(n:Nxt x o y v e):Oh y:=⟨n.rt,n.sl,n.zr⟩
theorem c1p{x:Hp}(h:L3 x)(s:SL x):Oh (a1i x):=⟨a2h h,c1q h s,b5o h⟩
theorem c46{x:Hp}(hx:Oh x)(l:List g8)(hb:x.S.Serial+l.length<9223372036854775807):Oh (runs x l).1∧Fw x (runs x l).1∧(runs x l).1.S.Serial≤x.S.Serial+l.length∧(runs x l).2.length=l.length:=by
 have key:∀k,k≤l.length→Oh (runs x (l.take k)).1∧Fw x (runs x (l.take k)).1∧(runs x (l.take k)).1.S.Serial≤x.S.Serial+k∧(runs x (l.take k)).2.length=k:=by
  intro k;induction k with
  | zero=>exact λ_=>⟨hx,Fw.refl x,by show x.S.Serial≤_;omega,rfl⟩
  | succ k ih=>
   intro hk;obtain⟨a,b,c,d⟩:=ih (by omega);have hk':k<l.length:=by omega
   have n:=a54 a.rt a.sl a.zr (by omega) l[k];rw[K5 hk',a8p];exact⟨n.ok,b.trans (c8L a.rt a.sl a.zr (by omega) _),by have:=n.ev.s2;show (dov _ _).1.S.Serial≤_;omega,by simp[d]⟩
 have:=key l.length (Nat.le_refl _);rwa [List.take_length] at this
section
variable{x:Hp}(hx:Oh x){t:k7}{ts:List k7}(hq:x.Q.L=t::ts)(ps:List (List g8))
include hx hq
theorem b9F:Oh (pre x t ts):=by
 unfold pre;split
 ·rename_i k;exact c1p (a42 hx.rt hq k) (b9f hx.rt hx.sl _)
 ·rename_i k;exact⟨b84 hx.rt hq k,hx.sl,hx.zr⟩
theorem c9F:Fw (unq x ts) (pre x t ts):=by
 unfold pre;split
 ·rename_i k;exact (c8O hx.rt _).trans (b6Q (a42 hx.rt hq k))
 ·exact Fw.refl _
theorem b6o:(pre x t ts).S.Serial=x.S.Serial:=by
 unfold pre;split
 ·rename_i k;rw[(a7H (a42 hx.rt hq k)).U9,(c8P hx.rt _).U9]
 ·rfl
variable(hb:x.S.Serial+(prg ps t.Prog).length<9223372036854775807)
include hb
theorem b6B:Oh (ran ps x t ts)∧Fw (unq x ts) (ran ps x t ts)∧(ran ps x t ts).S.Serial≤x.S.Serial+(prg ps t.Prog).length:=by
 have e:=b6o hx hq;obtain⟨a,b,c,_⟩:=c46 (b9F hx hq) (prg ps t.Prog) (by rw[e];exact hb);exact⟨a,(c9F hx hq).trans b,by rw[e] at c;exact c⟩
theorem c6d:Oh (dne ps x t ts)∧Fw (unq x ts) (dne ps x t ts)∧(dne ps x t ts).S.Serial≤x.S.Serial+(prg ps t.Prog).length∧(t.Kind=1→sd (dne ps x t ts) 5=0):=by
 obtain⟨a,b,c⟩:=b6B hx hq ps hb;unfold dne;split
 ·have hz:=Z4 a.rt (r:=5) (by decide) (h:=0) (.inl rfl);have k:=a0J a.rt.sh.sr 5 0;refine⟨c1p hz (a3X a.rt.sh.sr a.sl 5 0),(b.trans (a3V a.rt.sh.sr 5 0)).trans (b6Q hz),?_,λ_=>(a8m a.rt (a:=5) (by decide) (h:=0) (.inl rfl)).1⟩;rw[(a7H hz).U9,k.U9];exact c
 ·exact⟨a,b,c,λq=>absurd q (by assumption)⟩
end
end Go.Sh
namespace Go.Sh
def cst(ps:List (List g8))(t:k7):Int:=1+((prg ps t.Prog).length:Int)
def can(ps:List (List g8))(p:Hp × Int):Prop:=∃t ts,p.1.Q.L=t::ts∧cst ps t≤p.2
noncomputable def nxd(ps:List (List g8))(p:Hp × Int):Hp × Int:=match p.1.Q.L with
 | []=>p
 | t::ts=>if cst ps t≤p.2 then (dne ps p.1 t ts,p.2-cst ps t) else p
noncomputable def dN(ps:List (List g8)):Nat→Hp × Int→Hp × Int
 | 0,p=>p
 | n+1,p=>dN ps n (nxd ps p)
section
variable(ps:List (List g8))
theorem b2p(n:Nat)(p:Hp × Int):dN ps (n+1) p=nxd ps (dN ps n p):=by
 induction n generalizing p with
 | zero=>rfl
 | succ n ih=>exact ih (nxd ps p)
theorem c6F{p:Hp × Int}(h:p.1.Q.L = []):nxd ps p=p:=by unfold nxd;rw[h]
theorem b0l{p:Hp × Int}{t:k7}{ts:List k7}(h:p.1.Q.L=t::ts):nxd ps p=if cst ps t≤p.2 then (dne ps p.1 t ts,p.2-cst ps t) else p:=by unfold nxd;rw[h]
theorem b7o{p:Hp × Int}{t:k7}{ts:List k7}(h:p.1.Q.L=t::ts):can ps p↔cst ps t≤p.2:=by
 constructor
 ·rintro⟨u,us,e,c⟩;rw[h] at e;injection e with e1 e2
  rw[e1];exact c
 ·exact λc=>⟨t,ts,h,c⟩
theorem a9N(t:k7):1≤cst ps t:=by unfold cst;omega
theorem c0v{p:Hp × Int}(hb:0≤p.2):∃n:Nat,(n:Int)≤p.2∧¬can ps (dN ps n p)∧∀j,j<n→can ps (dN ps j p):=by
 have key:∀m:Nat,(∃n:Nat,n≤m∧¬can ps (dN ps n p))∨((dN ps m p).2+m≤p.2∧0≤(dN ps m p).2):=by
  intro m;induction m with
  | zero=>exact .inr ⟨by show p.2+((0:Nat):Int)≤_;omega,hb⟩
  | succ m ih=>
   rcases ih with ⟨n,h1,h2⟩ | ⟨h1,h2⟩;·exact .inl ⟨n,by omega,h2⟩
   ·by_cases q:can ps (dN ps m p)
    ·right;obtain⟨t,ts,e,c⟩:=q;have:=a9N ps t;rw[b2p,b0l ps e,if_pos c];dsimp only;omega
    ·exact .inl ⟨m,by omega,q⟩
 have hex:∃n:Nat,(n:Int)≤p.2∧¬can ps (dN ps n p):=by
  rcases key (p.2.toNat+1) with ⟨n,h1,h2⟩ | ⟨h1,h2⟩
  ·rcases Nat.lt_or_ge n (p.2.toNat+1) with q | q
   ·exact⟨n,by omega,h2⟩
   ·have hn:n=p.2.toNat+1:=by omega
    rcases key p.2.toNat with ⟨n,h1,h2⟩ | ⟨h1,h3⟩;·exact⟨n,by omega,h2⟩
    ·refine⟨p.2.toNat,by omega,λ⟨t,ts,e,c⟩=>?_⟩;have:=a9N ps t;omega
  ·omega
 obtain⟨n,⟨hn,hz⟩,hmin⟩:=a0S hex;refine⟨n,hn,hz,λj hj=>Classical.byContradiction λq=>?_⟩;have:=hmin j ⟨by omega,q⟩;omega
theorem b5K{p:Hp × Int}(hx:Oh p.1)(hb:0≤p.2)(hs:p.1.S.Serial+p.2<9223372036854775807):∀n,Oh (dN ps n p).1∧0≤(dN ps n p).2∧(dN ps n p).2≤p.2∧(dN ps n p).1.S.Serial+(dN ps n p).2≤p.1.S.Serial+p.2
 | 0=>⟨hx,hb,Int.le_refl _,Int.le_refl _⟩
 | n+1=>by
  obtain⟨a,b,c,d⟩:=b5K hx hb hs n;rw[b2p];cases e:(dN ps n p).1.Q.L with
  | nil=>rw[c6F ps e];exact⟨a,b,c,d⟩
  | cons t ts=>
   rw[b0l ps e];split
   ·rename_i q;have q2:=q;unfold cst at q2;obtain⟨r1,_,r3,_⟩:=c6d a e ps (by omega);refine⟨r1,?_,?_,?_⟩;·dsimp only;omega
    ·have:=a9N ps t;dsimp only;omega
    ·dsimp only;unfold cst;omega
   ·exact⟨a,b,c,d⟩
end
noncomputable def dn(ps:List (List g8))(p:Hp × Int):Nat:=if h:0≤p.2 then Classical.choose (c0v ps h) else 0
theorem c0x(ps:List (List g8)){p:Hp × Int}(h:0≤p.2):(dn ps p:Int)≤p.2∧¬can ps (dN ps (dn ps p) p)∧∀j,j<dn ps p→can ps (dN ps j p):=by
 unfold dn;rw[dif_pos h];exact Classical.choose_spec (c0v ps h)
noncomputable def dr(ps:List (List g8))(p:Hp × Int):Hp × Int:=dN ps (dn ps p) p
theorem d0I(ps:List (List g8)){x:Hp}{f:Int}(hx:Oh x)(hf:0≤f)(hs:x.S.Serial+f<9223372036854775807):Oh (dr ps (x,f)).1∧0≤(dr ps (x,f)).2∧(dr ps (x,f)).2≤f∧(dr ps (x,f)).1.S.Serial+(dr ps (x,f)).2≤x.S.Serial+f:=b5K ps (p:=(x,f)) hx hf hs _
end Go.Sh
namespace Go.Sh
section
variable{x:Hp}(hx:HpS x)(hS:∀k∈lv x.S,(ob x.S k).Strong≤9223372036854775807)
include hx hS
theorem c30{h:Int}(hh:h=0∨h∈lv x.S):h≤9223372036854775807:=by
 rcases hh with q | q
 ·omega
 ·have:=F5 hx.sr q;omega
theorem c41(k:Int){h:Int}(hh:h≤9223372036854775807):a0f x k h=some (if k<0∨5<k then (x,6) else if h=0∨h∈lv x.S then (E1 x k.toNat h,0) else (x,3)):=by
 have hR:=hx.sr;have r6:=hx.r6;unfold a0f;by_cases hk:k<0∨5<k
 ·rw[if_pos hk,if_pos (by rw[r6];simp;omega)]
 ·rw[if_neg hk,if_neg (by rw[r6];simp;omega),a18 hR hh,d3e];by_cases hn:h=0∨h∈lv x.S
  ·rw[if_pos hn,decide_eq_true hn,if_neg (by simp)];obtain⟨n,rfl⟩:∃n:Nat,k=n:=⟨k.toNat,by omega⟩;have hn6:n<6:=by omega
   have hnl:n<x.Roots.length:=by omega
   have old:x.Roots[n]≤9223372036854775807:=c30 hx hS (hx.rt _ (List.getElem_mem hnl));have e1:=a5p x h;have hn2:n<(A8 x h).Roots.length:=by rw[e1.1];exact hnl
   rw[o5 hnl,d3e];unfold D4 M8 J7;rw[a5n hR hh hS,d3e];dsimp only;rw[K3 (by omega) (by rw[e1.1];omega),d3e,o5 hn2,d3e,d3e];have hrel:=a2e (x:=wR (A8 x h) (x.Roots.set n h)) (a21 hR h) old;rw[Int.toNat_natCast,e1.1,show B1 ⟨(A8 x h).S,x.Roots.set n h,(A8 x h).a8,(A8 x h).T,(A8 x h).Q⟩ x.Roots[n]=_ from hrel];unfold E1;rw[List.getD_eq_getElem?_getD,List.getElem?_eq_getElem hnl];rfl
  ·rw[if_neg hn,decide_eq_false hn,if_pos (by simp)]
theorem c7b(k:Int){h:Int}(hh:h≤9223372036854775807):U8 (hO x) k h=some (if k<0∨5<k then (hO x,6) else if h=0∨h∈lv x.S then (hO (E1 x k.toNat h),0) else (hO x,3)):=by
 have hR:=hx.sr;have r6:=hx.r6;unfold U8;by_cases hk:k<0∨5<k
 ·rw[if_pos hk,if_pos (by simp;omega)]
 ·rw[if_neg hk,if_neg (by simp;omega),b0h hR hh,d3e];by_cases hn:h=0∨h∈lv x.S
  ·rw[if_pos hn,decide_eq_true hn,if_neg (by simp)];obtain⟨n,rfl⟩:∃n:Nat,k=n:=⟨k.toNat,by omega⟩;have hnl:n<x.Roots.length:=by omega
   have hnl':n<(hO x).Roots.length:=hnl;have old:x.Roots[n]≤9223372036854775807:=c30 hx hS (hx.rt _ (List.getElem_mem hnl));have e1:=a5p x h;have r6':(hO x).Roots.length=6:=r6;rw[o5 hnl',d3e,a7B hR hh hS,d3e,K3 (by omega) (by rw[r6'];omega),d3e,o5 hnl',d3e];have hrel:=a3x (x:=wR (A8 x h) (x.Roots.set n h)) (a21 hR h) old;rw[Int.toNat_natCast];rw[show D6 ⟨(hO (A8 x h)).S,(hO x).Roots.set n h,(hO (A8 x h)).a8,(hO (A8 x h)).T,(hO (A8 x h)).Q⟩ (hO x).Roots[n]=_ from hrel];unfold E1;rw[List.getD_eq_getElem?_getD,List.getElem?_eq_getElem hnl];rfl
  ·rw[if_neg hn,decide_eq_false hn,if_pos (by simp)]
end
theorem b9G(ps:List (List g8))(n:Int):a3E ps n=some (prg ps n):=by
 unfold a3E prg;by_cases h:n<0∨(ps.length:Int)≤n
 ·rw[if_pos (by simpa using h),if_pos h]
 ·rw[if_neg (by simpa using h),if_neg h];obtain⟨k,rfl⟩:∃k:Nat,n=k:=⟨n.toNat,by omega⟩;have hk:k<ps.length:=by omega
  rw[o5 hk,d3e,Int.toNat_natCast,List.getD_eq_getElem?_getD,List.getElem?_eq_getElem hk];rfl
abbrev psR(ps:List (List g8)):List (List N6):=ps.map (List.map opR)
theorem c4H(ps:List (List g8))(n:Int):a7y (psR ps) n=some ((prg ps n).map opR):=by
 unfold a7y prg;rw[List.length_map];by_cases h:n<0∨(ps.length:Int)≤n
 ·rw[if_pos (by simpa using h),if_pos h];rfl
 ·rw[if_neg (by simpa using h),if_neg h];obtain⟨k,rfl⟩:∃k:Nat,n=k:=⟨n.toNat,by omega⟩;have hk:k<ps.length:=by omega
  have hk2:k<(psR ps).length:=by simpa using hk
  rw[o5 hk2,d3e,Int.toNat_natCast,List.getD_eq_getElem?_getD,List.getElem?_eq_getElem hk];simp[psR]
def Mp(ps:List (List g8)):Prop:=∀p∈ps,p.length≤6
theorem b2y{ps:List (List g8)}(h:Mp ps)(n:Int):(prg ps n).length≤6:=by
 unfold prg;split;·simp
 ·rename_i q;have hk:n.toNat<ps.length:=by omega
  rw[List.getD_eq_getElem?_getD,List.getElem?_eq_getElem hk];exact h _ (List.getElem_mem hk)
theorem c0u{ps:List (List g8)}(h:Mp ps)(t:k7):a5M ps t=some (cst ps t):=by
 have:=b2y h t.Prog;unfold a5M cst;rw[b9G,d3e,B6 (by omega) (by omega)]
theorem c3l{ps:List (List g8)}(h:Mp ps)(t:k7):a7x (psR ps) ⟨t.Kind,t.At,t.Prog⟩=some (cst ps t):=by
 have:=b2y h t.Prog;unfold a7x cst;show (a7y (psR ps) t.Prog).bind _=_;rw[c4H,d3e,List.length_map,B6 (by omega) (by omega)]
theorem b87(x:Hp):a2x x=some (x.Q.L.isEmpty):=by
 unfold a2x;rw[b6Y,d3e];unfold tnx;cases x.Q.L <;> rfl
theorem c3s(x:Hp):b1v (hO x)=some (x.Q.L.isEmpty):=by
 unfold b1v;show some ((((x.Q.L.map _).length:Nat):Int)==0)=_;cases x.Q.L with
 | nil=>rfl
 | cons a l=>simp;omega
section
variable{x:Hp}(hx:Oh x){t:k7}{ts:List k7}(hq:x.Q.L=t::ts){ps:List (List g8)}(hm:Mp ps)(hb:x.S.Serial<9000000000000000000)
include hx hq hm hb
theorem c5l:a5N x ps=some (dne ps x t ts,t,0):=by
 have J1:=b2y hm t.Prog;have pok:=b9F hx hq;have pser:=b6o hx hq;obtain⟨rok,_,_⟩:=b6B hx hq ps (by omega);have hrun:=(run_eq pok.rt pok.sl pok.zr (prg ps t.Prog) (by omega) (by rw[pser];omega)).1;have hrun':a2C (pre x t ts) (prg ps t.Prog)=some (ran ps x t ts,(runs (pre x t ts) (prg ps t.Prog)).2):=hrun;have hz:=Z4 rok.rt (r:=5) (by decide) (h:=0) (.inl rfl);have zS:=a3X rok.rt.sh.sr rok.sl 5 0;unfold a5N;rw[b6Y,d3e];have e:tnx x.Q=(⟨ts,x.Q.Cap⟩,t,0):=by unfold tnx;rw[hq]
 rw[e];dsimp only;rw[if_neg (by simp)];simp only[jn];by_cases k:t.Kind=1
 ·have hk:(t.Kind==1)=true:=by simpa using k
  have hat:=(b9e hx.rt hq k).1;have ush:=b62 hx.rt hq;have hm1:=a1w hx.rt.sh.sr hat;have e1:a0f ⟨x.S,x.Roots,x.a8,x.T,⟨ts,x.Q.Cap⟩⟩ 5 t.At=some (E1 (unq x ts) 5 t.At,0):=by
   have:=c41 (x:=unq x ts) ush hx.sl 5 hm1;rw[if_neg (by omega),if_pos (.inr hat)] at this;exact this
  have e2:B1 (E1 (unq x ts) 5 t.At) t.At=some (b06 x ts t.At):=a2e (a0J (x:=unq x ts) hx.rt.sh.sr 5 t.At).sr hm1;have e3:=a3y (a42 hx.rt hq k) (b9f hx.rt hx.sl t.At);have e4:pre x t ts=a1i (b06 x ts t.At):=by unfold pre;rw[if_pos k]
  have e5:=c1i rok.rt rok.sl 5 (h:=0) (by decide);rw[if_neg (by omega),if_pos (.inl rfl)] at e5;rw[if_pos hk,e1,d3e];dsimp only;rw[e2,d3e,e3,d3e,b9G,d3e,←e4,hrun',d3e,if_pos hk];dsimp only;rw[e5,d3e];refine bnd (a3y hz zS) ?_;unfold dne;rw[if_pos k];rfl
 ·have hk:¬(t.Kind==1)=true:=by simpa using k
  have e4:pre x t ts=unq x ts:=by unfold pre;rw[if_neg k]
  rw[if_neg hk,b9G,d3e,show (⟨x.S,x.Roots,x.a8,x.T,⟨ts,x.Q.Cap⟩⟩:b6)=pre x t ts from e4.symm,hrun',d3e,if_neg hk];unfold dne;rw[if_neg k]
theorem c99:b3F (hO x) (psR ps)=some (hO (dne ps x t ts),tkR t,0):=by
 have J1:=b2y hm t.Prog;have pok:=b9F hx hq;have pser:=b6o hx hq;obtain⟨rok,_,_⟩:=b6B hx hq ps (by omega);have hrun:=(run_eq pok.rt pok.sl pok.zr (prg ps t.Prog) (by omega) (by rw[pser];omega)).2;have hrun':b2F (hO (pre x t ts)) ((prg ps t.Prog).map opR)=some (hO (ran ps x t ts),(runs (pre x t ts) (prg ps t.Prog)).2):=hrun;have hz:=Z4 rok.rt (r:=5) (by decide) (h:=0) (.inl rfl);have zS:=a3X rok.rt.sh.sr rok.sl 5 0;unfold b3F;rw[show (hO x).Q=tqR x.Q from rfl,c9O,d3e];have e:tnx x.Q=(⟨ts,x.Q.Cap⟩,t,0):=by unfold tnx;rw[hq]
 rw[e];dsimp only;rw[if_neg (by simp)];simp only[jn];have hkk:(tkR t).Kind=t.Kind:=rfl;have hka:(tkR t).At=t.At:=rfl;have hkp:(tkR t).Prog=t.Prog:=rfl;rw[hkk,hka,hkp];by_cases k:t.Kind=1
 ·have hk:(t.Kind==1)=true:=by simpa using k
  have hat:=(b9e hx.rt hq k).1;have ush:=b62 hx.rt hq;have hm1:=a1w hx.rt.sh.sr hat;have e1:U8 (hO (unq x ts)) 5 t.At=some (hO (E1 (unq x ts) 5 t.At),0):=by
   have:=c7b (x:=unq x ts) ush hx.sl 5 hm1;rw[if_neg (by omega),if_pos (.inr hat)] at this;exact this
  have e2:D6 (hO (E1 (unq x ts) 5 t.At)) t.At=some (hO (b06 x ts t.At)):=a3x (a0J (x:=unq x ts) hx.rt.sh.sr 5 t.At).sr hm1;have e3:=a5s (a42 hx.rt hq k) (b9f hx.rt hx.sl t.At);have e4:pre x t ts=a1i (b06 x ts t.At):=by unfold pre;rw[if_pos k]
  have e5:=b9R rok.rt rok.sl 5 (h:=0) (by decide);rw[if_neg (by omega),if_pos (.inl rfl)] at e5;rw[if_pos hk,show (⟨(hO x).S,(hO x).Roots,(hO x).a8,(hO x).T,tqR ⟨ts,x.Q.Cap⟩⟩:g6)=hO (unq x ts) from rfl,e1,d3e];dsimp only;rw[e2,d3e,e3,d3e,c4H,d3e,←e4,hrun',d3e,if_pos hk];dsimp only;rw[e5,d3e];refine bnd (a5s hz zS) ?_;unfold dne;rw[if_pos k];rfl
 ·have hk:¬(t.Kind==1)=true:=by simpa using k
  have e4:pre x t ts=unq x ts:=by unfold pre;rw[if_neg k]
  rw[if_neg hk,c4H,d3e,show (⟨(hO x).S,(hO x).Roots,(hO x).a8,(hO x).T,tqR ⟨ts,x.Q.Cap⟩⟩:g6)=hO (pre x t ts) by rw[e4];rfl,hrun',d3e,if_neg hk];unfold dne;rw[if_neg k]
end
section
variable{x:Hp}(hx:Oh x){ps:List (List g8)}(hm:Mp ps){f:Int}(hf:0≤f)(hf2:f≤1000000)(hb:x.S.Serial<8000000000000000000)
include hx hm hf hf2 hb
def dre(p:Hp × Int):Int:=if p.1.Q.L.isEmpty then 0 else 12
theorem drain_eq:a2w x ps f=some ((dr ps (x,f)).1,(dn ps (x,f):Int),(dr ps (x,f)).2,dre (dr ps (x,f))):=by
 obtain⟨a1,a2,a3⟩:=c0x ps (p:=(x,f)) hf;have all:=b5K ps (p:=(x,f)) hx hf (by show x.S.Serial+f<_;omega);unfold a2w;simp only[jn];dsimp only at a1;refine U6 (λk=>((dN ps k (x,f)).2,(dN ps k (x,f)).1,(k:Int),(dN ps k (x,f)).2,(dN ps k (x,f)).1)) rfl (dn ps (x,f)) (λ_=>True) (by omega) trivial (λk hk _=>.inl ⟨?_,trivial⟩) (λ_=>⟨((dn ps (x,f):Int),(dr ps (x,f)).2,(dr ps (x,f)).1),?_,?_⟩)
 ·obtain⟨b1,b2,b3,b4⟩:=all k;obtain⟨t,ts,e,c⟩:=a3 k hk;dsimp only at b2 b3 b4;have hc:=a9N ps t;rw[b87,e,d3e];show (a1g _).bind _=_;rw[b6Y,d3e];have e2:tnx (dN ps k (x,f)).1.Q=(⟨ts,(dN ps k (x,f)).1.Q.Cap⟩,t,0):=by unfold tnx;rw[e]
  rw[e2];dsimp only;rw[c0u hm,d3e,if_neg (by simp;omega),c5l b1 e hm (by omega),d3e,B6 (by omega) (by omega),l6,b2p,b0l ps e,if_pos c]
 ·rw[b87,d3e];cases e:(dN ps (dn ps (x,f)) (x,f)).1.Q.L with
  | nil=>rfl
  | cons t ts=>
   have hc:¬cst ps t≤(dN ps (dn ps (x,f)) (x,f)).2:=λq=>a2 ((b7o ps e).2 q);show (a1g _).bind _=_;rw[b6Y,d3e];have e2:tnx (dN ps (dn ps (x,f)) (x,f)).1.Q=(⟨ts,(dN ps (dn ps (x,f)) (x,f)).1.Q.Cap⟩,t,0):=by unfold tnx;rw[e]
   rw[e2];dsimp only;rw[c0u hm,d3e,if_pos (by simp;omega)];rfl
 ·dsimp only;rw[b87,d3e];unfold dre;cases (dr ps (x,f)).1.Q.L.isEmpty <;> rfl
theorem c6e:a8h (hO x) (psR ps) f=some (hO (dr ps (x,f)).1,(dn ps (x,f):Int),(dr ps (x,f)).2,dre (dr ps (x,f))):=by
 obtain⟨a1,a2,a3⟩:=c0x ps (p:=(x,f)) hf;have all:=b5K ps (p:=(x,f)) hx hf (by show x.S.Serial+f<_;omega);unfold a8h;simp only[jn];dsimp only at a1;refine U6 (λk=>((dN ps k (x,f)).2,(k:Int),hO (dN ps k (x,f)).1)) rfl (dn ps (x,f)) (λ_=>True) (by omega) trivial (λk hk _=>.inl ⟨?_,trivial⟩) (λ_=>?_)
 ·obtain⟨b1,b2,b3,b4⟩:=all k;obtain⟨t,ts,e,c⟩:=a3 k hk;dsimp only at b2 b3 b4;have hc:=a9N ps t;rw[c3s,e,d3e];have e2:ix (hO (dN ps k (x,f)).1).Q.L 0=some (tkR t):=by
   show ix ((dN ps k (x,f)).1.Q.L.map tkR) 0=_;rw[e];rfl
  show (ix (hO (dN ps k (x,f)).1).Q.L 0).bind _=_;rw[e2,d3e,show a7x (psR ps) (tkR t)=_ from c3l hm t,d3e,if_neg (by simp;omega),c99 b1 e hm (by omega),d3e,B6 (by omega) (by omega),l6,b2p,b0l ps e,if_pos c]
 ·cases e:(dN ps (dn ps (x,f)) (x,f)).1.Q.L with
  | nil=>
   refine⟨.inr ((dr ps (x,f)).2,(dn ps (x,f):Int),hO (dr ps (x,f)).1),?_,?_⟩
   ·rw[c3s,e];rfl
   ·unfold dre;have e':(dr ps (x,f)).1.Q.L = []:=e;rw[e'];rfl
  | cons t ts=>
   have hc:¬cst ps t≤(dN ps (dn ps (x,f)) (x,f)).2:=λq=>a2 ((b7o ps e).2 q);refine⟨.inl (hO (dr ps (x,f)).1,(dn ps (x,f):Int),(dr ps (x,f)).2,12),?_,?_⟩
   ·rw[c3s,e,d3e];have e2:ix (hO (dN ps (dn ps (x,f)) (x,f)).1).Q.L 0=some (tkR t):=by
     show ix ((dN ps (dn ps (x,f)) (x,f)).1.Q.L.map tkR) 0=_;rw[e];rfl
    show (ix (hO (dN ps (dn ps (x,f)) (x,f)).1).Q.L 0).bind _=_;rw[e2,d3e,show a7x (psR ps) (tkR t)=_ from c3l hm t,d3e,if_pos (by simp;omega)];rfl
   ·unfold dre;have e':(dr ps (x,f)).1.Q.L=t::ts:=e;rw[e'];rfl
end
end Go.Sh
namespace Go.Sh
theorem d04{l:List (List g8)}(h:a6a l=true):Mp l∧l.length≤6:=by
 unfold a6a at h;rw[Bool.and_eq_true,decide_eq_true_iff,List.all_eq_true] at h;refine⟨λp hp=>?_,h.1⟩;have:=h.2 p hp;unfold b1V at this;rw[Bool.and_eq_true,decide_eq_true_iff] at this;exact this.1
end Go.Sh
namespace Go.Sh
end Go.Sh
namespace Go.Sh
end Go.Sh
namespace Go.Sh
end Go.Sh
namespace Go.Sh
noncomputable def eo(ps:List (List g8))(x:Hp)(o:g8):Hp × Int × Int:=
 if o.Kind=11 then (col x,cgn x-((btc x).length:Int),0)
 else if o.Kind=12 then ((dr ps (x,o.A)).1,(dn ps (x,o.A):Int),dre (dr ps (x,o.A)))
 else dov x o
noncomputable def er(ps:List (List g8))(x:Hp)(row:List Int):Hp × Int × Int:=if (a0D row).2≠0 then (x,0,(a0D row).2) else eo ps x (a0D row).1
noncomputable def ers(ps:List (List g8))(x:Hp)(rows:List (List Int)):Hp × List (Int × Int):=rows.foldl (λp r=>((er ps p.1 r).1,p.2 ++ [(er ps p.1 r).2])) (x,[])
theorem c3v(ps:List (List g8))(x:Hp)(l:List (List Int))(r:List Int):ers ps x (l ++ [r])=((er ps (ers ps x l).1 r).1,(ers ps x l).2 ++ [(er ps (ers ps x l).1 r).2]):=by
 unfold ers;rw[List.foldl_append];rfl
theorem b5S(ps:List (List g8)):∀(l:List (List Int)) (x:Hp) (a:List (Int × Int)),l.foldl (λp r=>((er ps p.1 r).1,p.2 ++ [(er ps p.1 r).2])) (x,a)=((ers ps x l).1,a++(ers ps x l).2)
 | [],x,a=>by simp[ers]
 | r::l,x,a=>by
  unfold ers;rw[List.foldl_cons,List.foldl_cons,b5S ps l,b5S ps l _ ([]++_)];simp
theorem c0y(ps:List (List g8))(x:Hp)(l m:List (List Int)):ers ps x (l++m)=((ers ps (ers ps x l).1 m).1,(ers ps x l).2++(ers ps (ers ps x l).1 m).2):=by
 have:ers ps x (l++m)=m.foldl (λp r=>((er ps p.1 r).1,p.2 ++ [(er ps p.1 r).2])) (ers ps x l):=by
  unfold ers;rw[List.foldl_append]
 rw[this];exact b5S ps m (ers ps x l).1 (ers ps x l).2
theorem c0z(ps:List (List g8))(x:Hp)(l:List (List Int)):(ers ps x l).2.length=l.length:=by
 induction l generalizing x with
 | nil=>rfl
 | cons r l ih=>
  have:=c0y ps x [r] l;rw[List.singleton_append] at this;rw[this,List.length_append,ih];show 1+l.length=l.length+1;omega
theorem b5L{row:List Int}(h:(a0D row).2=0):z1 (a0D row).1.Kind (a0D row).1.A (a0D row).1.B (a0D row).1.C=0:=by
 unfold a0D at h ⊢;rcases four row with ⟨k,a,b,c,rfl⟩ | hl
 ·rw[c0w,Option.getD_some] at h ⊢;by_cases q:z1 k a b c≠0
  ·rw[if_pos q] at h;exact absurd h q
  ·rw[if_neg q];exact Classical.not_not.1 q
 ·rw[(b5M hl).1,Option.getD_some] at h;exact absurd h (by decide)
theorem c3d{a b c:Int}(h:z1 12 a b c=0):0≤a∧a≤200:=in0 (by decide) (show J9 a 0 200 12=0 from h)
section
variable{ps:List (List g8)}(hm:Mp ps){x:Hp}(hx:Oh x)(hb:x.S.Serial<7000000000000000000)
include hm hx hb
theorem d0J{o:g8}(ho:o.Kind=12→0≤o.A∧o.A≤200):Oh (eo ps x o).1∧(eo ps x o).1.S.Serial≤x.S.Serial+201:=by
 unfold eo;split
 ·obtain⟨a,b,c⟩:=b5H hx.rt hx.sl hx.zr;refine⟨⟨a,b,c⟩,?_⟩;show (col x).S.Serial≤_;rw[c59 hx.rt hx.sl hx.zr];omega
 ·split
  ·rename_i h;obtain⟨h0,h2⟩:=ho h;obtain⟨a,b,c,d⟩:=d0I ps hx h0 (by omega);exact⟨a,by show (dr ps (x,o.A)).1.S.Serial≤_;omega⟩
  ·have n:=a54 hx.rt hx.sl hx.zr (by omega) o;have:=n.ev.s2;exact⟨n.ok,by omega⟩
theorem c7K(row:List Int):Oh (er ps x row).1∧(er ps x row).1.S.Serial≤x.S.Serial+201:=by
 unfold er;split;·exact⟨hx,by show x.S.Serial≤_;omega⟩
 ·rename_i h;have hc:=b5L (Classical.not_not.1 h);refine d0J hm hx hb λhk=>?_;rw[hk] at hc;exact c3d hc
end
theorem b5T{ps:List (List g8)}(hm:Mp ps){x:Hp}(hx:Oh x):∀(l:List (List Int)),x.S.Serial+201*(l.length:Int)<7000000000000000000→Oh (ers ps x l).1∧(ers ps x l).1.S.Serial≤x.S.Serial+201*(l.length:Int):=by
 intro l;induction l generalizing x with
 | nil=>exact λ_=>⟨hx,by show x.S.Serial≤_;simp⟩
 | cons r l ih=>
  intro hb;rw[List.length_cons] at hb ⊢;obtain⟨a,b⟩:=c7K hm hx (by omega) r;obtain⟨c,d⟩:=ih a (by omega);have e:=c0y ps x [r] l;rw[List.singleton_append] at e;rw[e];exact⟨c,by
   have:(ers ps (ers ps x [r]).1 l).1.S.Serial≤(er ps x r).1.S.Serial+201*(l.length:Int):=d;show (ers ps (ers ps x [r]).1 l).1.S.Serial≤_;omega⟩
end Go.Sh
namespace Go.Sh
def ctO(l:List b7)(k:Int):Nat:=l.countP λc=>c.State==k
theorem b7s(l:List b7)(c:b7)(k:Int):ctO (l ++ [c]) k=ctO l k+if c.State=k then 1 else 0:=by
 unfold ctO;rw[List.countP_append];simp[List.countP_cons]
noncomputable def srs(x:Hp):List Int:=(lv x.S).map λh=>U9 x h
theorem c32{s:a7}(hR:SR s){h:Int}(hh:h∈lv s):sk s.S.a8 h=(ob s h).Serial:=by
 obtain⟨i,hi⟩:=(a27 hR).1 hh;rw[c25 hR hi,M6 hR hi]
theorem c97{x:Hp}(hR:SR x.S):(srs x).Pairwise (· < ·):=by
 unfold srs;rw[List.pairwise_map];refine List.Pairwise.imp_of_mem (λ{a b} ha hb h=>?_) (a4r (p9.2 hR)).2.2;rw[c32 hR ha,c32 hR hb] at h;exact h
theorem c5g{x:Hp}(hR:SR x.S):(srs x).mergeSort (λx y=>decide (x≤y))=srs x:=
 List.mergeSort_of_pairwise ((c97 hR).imp λh=>decide_eq_true (by omega))
theorem c1r{x:Hp}(hR:SR x.S):(srs x).length≤24:=by
 unfold srs;rw[List.length_map];exact D8 (p9.2 hR)
end Go.Sh
namespace Go.Sh
inductive Fm (x:Hp) (o:g8) (z:Hp) (v:Int):Prop
 | new (i:Nat) (hF:Fst x.S i) (hk:o.Kind=1) (ha:0≤o.A∧o.A≤5) (hn:o.B.toNat≤4) (hc : -1≤o.C∧o.C≤5) (hv:v=x.S.Serial+1) (hz:z=E1 (wS x (mkS x.S i o.B.toNat o.C)) o.A.toNat (hdl x.S i)):Fm x o z v
 | root (h:Int) (hk:o.Kind≠1) (ha:0≤o.A∧o.A≤5) (hh:h=0∨h∈lv x.S) (hz:z=E1 x o.A.toNat h):Fm x o z v
 | field (h:Int) (n:Nat) (u:Int) (hk:o.Kind=5) (hl:h∈lv x.S) (hn:n<(ob x.S h).Fields.length) (hu:u=0∨u∈lv x.S) (hz:z=a0T x h n u):Fm x o z v
 | weak (h:Int) (hk:o.Kind=6) (ha:0≤o.A∧o.A≤5) (hc : -1≤o.C∧o.C≤5) (hh:h=0∨h∈lv x.S) (hw:wts x.Q o.A=false) (hz:z=a1X x o.A.toNat h o.C):Fm x o z v
 | pair (h u:Int) (r:Tb × Int × Int) (hk:o.Kind=8) (hl:h∈lv x.S) (hu:u=0∨u∈lv x.S) (hr:R2 x.T h u=some r) (h0:r.2.2=0) (hz:z=a5g x u r.1 r.2.1):Fm x o z v
 | same (hk:o.Kind=10) (hz:z=x):Fm x o z v
theorem Fm.ks{x z:Hp}{o:g8}{v:Int}(hx:L3 x)(f:Fm x o z v)(hk:o.Kind≠1):Ks x.S z.S:=by
 have hR:=hx.sh.sr;cases f with
 | new i hF hk'=>exact absurd hk' hk
 | root h _ ha hh hz=>rw[hz];exact a0J hR _ _
 | field h n u _ hl hn hu hz=>rw[hz];exact b4Q hR hl hn u
 | weak h _ ha hc hh hw hz=>rw[hz];exact b8D hx (by omega) h _
 | pair h u r _ hl hu hr h0 hz=>rw[hz];exact b71 hR u _ _
 | same _ hz=>rw[hz];exact Ks.refl hR
end Go.Sh
namespace Go.Sh
def anE(p:Int × Int):l5:=⟨p.1,p.2⟩
def anR(p:Int × Int):D0:=⟨p.1,p.2⟩
section
variable{ps:List (List g8)}(hm:Mp ps){x:Hp}(hx:Oh x)(hb:x.S.Serial<7000000000000000000)
include hm hx hb
theorem c3c : -24≤cgn x-((btc x).length:Int)∧cgn x-((btc x).length:Int)≤24:=by
 have h1:=b5D hx.rt hx.sl hx.zr;have h2:(lv x.S).length≤24:=D8 (p9.2 hx.rt.sh.sr);obtain⟨c1,_,_⟩:=b5H hx.rt hx.sl hx.zr;have h3:(lv (col x).S).length≤24:=D8 (p9.2 c1.sh.sr);unfold cgn;split
 ·rename_i e;rw[e];simp;omega
 ·omega
theorem edo(row:List Int):B7 ⟨x,ps⟩ row=some (⟨(er ps x row).1,ps⟩,anE (er ps x row).2):=by
 unfold B7;rw[(b7u row).1,d3e];unfold er;by_cases h:(a0D row).2=0
 ·rw[if_neg (show ¬(((a0D row).2 != 0)=true) by simp[h]),if_neg (show ¬((a0D row).2≠0) by simp[h])];have hc:=b5L h;generalize (a0D row).1=o at hc;unfold a5O eo;by_cases k11:o.Kind=11
  ·rw[if_pos (by simp[k11]),if_pos k11];refine Eq.trans (b:=(U4 x).bind λv4=>some (⟨v4.1,ps⟩,⟨p7 (v4.2.2-v4.2.1),0⟩)) rfl ?_;obtain⟨b1,b2⟩:=c3c hm hx hb;rw[c8H hx.rt hx.sl hx.zr,d3e];dsimp only;rw[B6 (by omega) (by omega)];rfl
  ·rw[if_neg (by simp[k11]),if_neg k11];by_cases k12:o.Kind=12
   ·rw[if_pos (by simp[k12]),if_pos k12];refine Eq.trans (b:=(a2w x ps o.A).bind λv5=>some (⟨v5.1,ps⟩,⟨v5.2.1,v5.2.2.2⟩)) rfl ?_;rw[k12] at hc;obtain⟨a0,a2⟩:=c3d hc;rw[drain_eq hx hm a0 (by omega) (by omega),d3e];rfl
   ·rw[if_neg (by simp[k12]),if_neg k12];refine Eq.trans (b:=(r7 x o).bind λv3=>some (⟨v3.1,ps⟩,⟨v3.2.1,v3.2.2⟩)) rfl ?_;rw[(a54 hx.rt hx.sl hx.zr (by omega) o).mc,d3e];rfl
 ·rw[if_pos (by simpa using h),if_pos h];rfl
theorem rdo(row:List Int):b3G ⟨hO x,psR ps⟩ row=some (⟨hO (er ps x row).1,psR ps⟩,anR (er ps x row).2):=by
 unfold b3G;rw[(b7u row).2,d3e];unfold er;by_cases h:(a0D row).2=0
 ·rw[if_neg (show ¬(((a0D row).2 != 0)=true) by simp[h]),if_neg (show ¬((a0D row).2≠0) by simp[h])];have hc:=b5L h;generalize (a0D row).1=o at hc;unfold eo;by_cases k11:o.Kind=11
  ·rw[if_pos (by simp[k11,b2b]),if_pos k11];obtain⟨b1,b2⟩:=c3c hm hx hb;dsimp only;rw[d0D hx.rt hx.sl hx.zr,d3e];dsimp only;rw[B6 (by omega) (by omega)];rfl
  ·rw[if_neg (by simp[k11,b2b]),if_neg k11];by_cases k12:o.Kind=12
   ·rw[if_pos (by simp[k12,b2b]),if_pos k12];rw[k12] at hc;obtain⟨a0,a2⟩:=c3d hc;refine Eq.trans (b:=(a8h (hO x) (psR ps) o.A).bind λv3=>some (⟨v3.1,psR ps⟩,⟨v3.2.1,v3.2.2.2⟩)) rfl ?_;rw[c6e hx hm a0 (by omega) (by omega),d3e];rfl
   ·rw[if_neg (by simp[k12,b2b]),if_neg k12];refine Eq.trans (b:=(B3 (hO x) (opR o)).bind λv3=>some (⟨v3.1,psR ps⟩,⟨v3.2.1,v3.2.2⟩)) rfl ?_;rw[(a54 hx.rt hx.sl hx.zr (by omega) o).rf,d3e];rfl
 ·rw[if_pos (by simpa using h),if_pos h];rfl
end
section
variable{ps:List (List g8)}(hm:Mp ps){x:Hp}(hx:Oh x)
include hm hx
theorem b8t{rows:List (List Int)}{k:Nat}(hk:k<rows.length):ers ps x (rows.take (k+1))=((er ps (ers ps x (rows.take k)).1 rows[k]).1,(ers ps x (rows.take k)).2 ++ [(er ps (ers ps x (rows.take k)).1 rows[k]).2]):=by
 rw[List.take_succ_eq_append_getElem hk,c3v]
theorem d0K(rows:List (List Int))(hl:rows.length≤1000)(hb:x.S.Serial<6000000000000000000):K7 ⟨x,ps⟩ rows=some (⟨(ers ps x rows).1,ps⟩,(ers ps x rows).2.map anE):=by
 unfold K7;simp only[jn];refine L9 rows.length (λk s=>s=((⟨(ers ps x (rows.take k)).1,ps⟩:c8),(ers ps x (rows.take k)).2.map anE)) (by omega) rfl (λk s hk hs=>.inl ⟨_,?_,rfl⟩) (λs hs=>⟨s,if_neg (by simp),by rw[hs,List.take_length]⟩);subst hs;obtain⟨o1,o2⟩:=b5T hm hx (rows.take k) (by simp;omega);have hlen:=c0z ps x (rows.take k);have hkl:(rows.take k).length=k:=by simp;omega
 dsimp only;rw[if_pos (by simpa using hk),o5 hk,d3e,edo hm o1 (by rw[hkl] at o2;omega),d3e,y4 (by omega) (by simp[hlen];omega),d3e,l6,b8t hm hx hk];simp
theorem d1t(rows:List (List Int))(hl:rows.length≤1000)(hb:x.S.Serial<6000000000000000000):a8i ⟨hO x,psR ps⟩ rows=some (⟨hO (ers ps x rows).1,psR ps⟩,(ers ps x rows).2.map anR):=by
 unfold a8i;simp only[jn];refine L9 rows.length (λk s=>s=((⟨hO (ers ps x (rows.take k)).1,psR ps⟩:A1),(ers ps x (rows.take k)).2.map anR)) (by omega) rfl (λk s hk hs=>.inl ⟨_,?_,rfl⟩) (λs hs=>⟨s,if_neg (by simp),by rw[hs,List.take_length]⟩);subst hs;obtain⟨o1,o2⟩:=b5T hm hx (rows.take k) (by simp;omega);have hlen:=c0z ps x (rows.take k);have hkl:(rows.take k).length=k:=by simp;omega
 dsimp only;rw[if_pos (by simpa using hk),o5 hk,d3e,rdo hm o1 (by rw[hkl] at o2;omega),d3e,y4 (by omega) (by simp[hlen];omega),d3e,l6,b8t hm hx hk];simp
end
def tal(x:Hp):A4:=⟨ctO x.S.S.a8 0,ctO x.S.S.a8 1,ctO x.S.S.a8 2,ctO x.S.S.a8 3⟩
theorem c7o{s:a7}(hR:SR s):P1 s.S=some ⟨ctO s.S.a8 0,ctO s.S.a8 1,ctO s.S.a8 2,ctO s.S.a8 3⟩:=by
 unfold P1;simp only[jn];have hlen:=hR.len;refine L9 s.S.a8.length (λk t=>t=⟨ctO (s.S.a8.take k) 0,ctO (s.S.a8.take k) 1,ctO (s.S.a8.take k) 2,ctO (s.S.a8.take k) 3⟩) (by omega) (by simp[ctO]) (λk t hk ht=>.inl ?_) (λt ht=>⟨_,by simp;rfl,by rw[ht,List.take_length]⟩);have hc:=hR.cell k hk;rw[D2 hk] at hc;subst ht;simp only[Int.ofNat_lt,hk,decide_true,if_true,o5 hk,d3e];have hle:∀j,ctO (s.S.a8.take k) j≤24:=λj=>Nat.le_trans List.countP_le_length (by simp;omega);have h0:=hle 0;have h1:=hle 1;have h2:=hle 2;have h3:=hle 3;rw[List.take_succ_eq_append_getElem hk];simp only[b7s];refine⟨_,?_,rfl⟩;have hst:s.S.a8[k].State=0∨s.S.a8[k].State=1∨s.S.a8[k].State=2∨s.S.a8[k].State=3:=by omega
 rcases hst with e | e | e | e <;> rw[e] <;> simp[A4.ix,A4.l,A4.st,ix] <;> rw[l6,l6] <;> simp
theorem c8C{n:Int}(h0:0≤n)(h3:n≤3):b81 .i64 n 3=n:=by
 have:n=0∨n=1∨n=2∨n=3:=by omega
 rcases this with rfl | rfl | rfl | rfl <;> decide
theorem c7p{s:a7}(hR:SR s):b1o (pl (sO s))=some ⟨ctO s.S.a8 0,ctO s.S.a8 1,ctO s.S.a8 2,ctO s.S.a8 3⟩:=by
 have J1:(pl (sO s)).a8.length=s.S.a8.length:=by simp[pl,sO]
 unfold b1o;simp only[jn];have hlen:=hR.len;refine L9 s.S.a8.length (λk t=>t=⟨ctO (s.S.a8.take k) 0,ctO (s.S.a8.take k) 1,ctO (s.S.a8.take k) 2,ctO (s.S.a8.take k) 3⟩) (by omega) (by simp[ctO]) (λk t hk ht=>.inl ?_) (λt ht=>⟨_,by simp[J1];rfl,by rw[ht,List.take_length]⟩);have hc:=hR.cell k hk;rw[D2 hk] at hc;have hk':k<(pl (sO s)).a8.length:=by rw[J1];exact hk
 have es:(pl (sO s)).a8[k].State=s.S.a8[k].State:=by simp[pl,sO,plc,cO]
 subst ht;dsimp only;rw[if_pos (by rw[J1];simpa using hk),o5 hk',d3e,es,c8C hc.1 hc.2.1];have hle:∀j,ctO (s.S.a8.take k) j≤24:=λj=>Nat.le_trans List.countP_le_length (by simp;omega);have h0:=hle 0;have h1:=hle 1;have h2:=hle 2;have h3:=hle 3;rw[List.take_succ_eq_append_getElem hk];simp only[b7s];refine⟨_,?_,rfl⟩;have hst:s.S.a8[k].State=0∨s.S.a8[k].State=1∨s.S.a8[k].State=2∨s.S.a8[k].State=3:=by omega
 rcases hst with e | e | e | e <;> rw[e] <;> simp[A4.ix,A4.l,A4.st,ix] <;> rw[l6,l6] <;> simp
section
variable{ps:List (List g8)}{x:Hp}(hx:L3 x)
include hx
theorem d0L:L7 ⟨x,ps⟩=some (tal x):=by
 unfold L7;dsimp only;rw[c7o hx.sh.sr,d3e];rfl
theorem d2H:a8j ⟨hO x,psR ps⟩=some (tal x):=by
 have hl:=hx.sh.sr.len;unfold a8j;show (M4 (sO x.S)).bind _=_;rw[a3g (sO x.S) (by simp[sO];omega),d3e,c7p hx.sh.sr,d3e];rfl
theorem c8M:G0 ⟨x,ps⟩=some (srs x):=by
 have hR:=hx.sh.sr;have l24:(lv x.S).length≤24:=D8 (p9.2 hR);unfold G0;simp only[jn];rw[a1v (p9.2 hR),d3e];refine L9 (lv x.S).length (λk l=>l=((lv x.S).take k).map λh=>U9 x h) (by omega) rfl (λk l hk hl=>.inl ⟨_,?_,rfl⟩) (λl hl=>⟨l,if_neg (by simp),?_⟩)
 ·subst hl;dsimp only;have:=F5 hR (List.getElem_mem hk);rw[if_pos (by simpa using hk),o5 hk,d3e,c5b hx.sh (by omega),d3e,y4 (by omega) (by simp;omega),d3e,l6,List.take_succ_eq_append_getElem hk,List.map_append];rfl
 ·subst hl;rw[List.take_length];show (a8q (srs x)).bind _=_;have:=c1r (x:=x) hR;unfold a8q;rw[if_pos (by omega),c5g hR];rfl
theorem c4W:a5l ⟨hO x,psR ps⟩=some (srs x):=by
 have hR:=hx.sh.sr;have l24:(lv x.S).length≤24:=D8 (p9.2 hR);unfold a5l;show (Z2 (sO x.S)).bind _=_;rw[a7j (p9.2 hR),d3e];simp only[jn];refine L9 (lv x.S).length (λk l=>l=((lv x.S).take k).map λh=>U9 x h) (by omega) rfl (λk l hk hl=>.inl ⟨_,?_,rfl⟩) (λl hl=>⟨l,if_neg (by simp),?_⟩)
 ·subst hl;dsimp only;have:=F5 hR (List.getElem_mem hk);rw[if_pos (by simpa using hk),o5 hk,d3e,c5a hx.sh (by omega),d3e,y4 (by omega) (by simp;omega),d3e,l6,List.take_succ_eq_append_getElem hk,List.map_append];rfl
 ·subst hl;rw[List.take_length];rfl
end
end Go.Sh
namespace Go.Sh
theorem Rs.oh{x:Hp}{n:Nat}(h:Rs x n):Oh x:=⟨h.rt,h.sl,h.zr⟩
theorem d09{n last places:Int}{ps:List (List g8)}(hl:ps.length≤12)(hp:∀p∈ps,p.length≤12) :
  (∃e,a13 n last places ps=some (⟨b57,[]⟩,e)∧b6z n last places (psR ps)=some (⟨hO b57,[]⟩,e)∧(e=13∨e=1∧¬((1≤n∧n≤24)∧(0≤last∧last≤9)∧1≤places∧places≤8))) ∨
  (∃k p:Nat,n=k∧places=p∧(1≤k∧k≤24)∧Mp ps∧Rs (nwH k last p) 0∧a13 n last places ps=some (⟨nwH k last p,ps⟩,0)∧b6z n last places (psR ps)=some (⟨hO (nwH k last p),psR ps⟩,0)):=by
 have e1:a10 ps=some (a6a ps):=c4I (by omega) hp;have e2:a8g (psR ps)=some (a6a ps):=b9H (by omega) hp;unfold a13 b6z;rw[e1,e2,d3e,d3e];cases hq:a6a ps;·exact .inl ⟨13,rfl,rfl,.inl rfl⟩
 ·simp only[Bool.not_true,Bool.false_eq_true,if_false];by_cases h:(1≤n∧n≤24)∧(0≤last∧last≤9)∧1≤places∧places≤8
  ·right;obtain⟨h1,h2,h3⟩:=h;obtain⟨k,rfl⟩:∃k:Nat,n=k:=⟨n.toNat,by omega⟩;obtain⟨p,rfl⟩:∃p:Nat,places=p:=⟨places.toNat,by omega⟩;obtain⟨a1,a2,hx,hS,hz⟩:=c3O (k:=k) (p:=p) (l:=last) (by omega) h2 (by omega);refine⟨k,p,rfl,rfl,by omega,(d04 hq).1,⟨hx,hS,hz,Int.le_refl _⟩,?_,?_⟩
   ·rw[a1,d3e,hx.sh.r6];rfl
   ·rw[a2,d3e,show (hO (nwH k last p)).Roots.length=6 from hx.sh.r6];rfl
  ·left;have a1:a3K n last places=some b57:=by
    unfold a3K;rw[if_pos (by simp;omega)];rfl
   have a2:b0t n last places=some (hO b57):=by
    unfold b0t;rw[if_pos (by simp;omega)];rfl
   refine⟨1,?_,?_,.inr ⟨rfl,h⟩⟩;·rw[a1];rfl
   ·rw[a2];rfl
theorem c90{x:Hp}{n:Nat}(hx:Rs x n)(hn:n≤1000000){ps:List (List g8)}(hm:Mp ps){rows:List (List Int)}(hl:rows.length≤1000){r:A1 × List D0}(h:a8i ⟨hO x,psR ps⟩ rows=some r) :
  K7 ⟨x,ps⟩ rows=some (⟨hOI r.1.X,ps⟩,r.2.map λa=>⟨a.V,a.E⟩)∧Rs (hOI r.1.X) (n+201*rows.length)∧(ers ps x rows).1=hOI r.1.X∧(ers ps x rows).2=r.2.map λa=>(a.V,a.E):=by
 have hs:=hx.U9;have e:=d1t hm hx.oh rows hl (by omega);rw[h] at e;have e:=Option.some.inj e;obtain⟨o1,o2⟩:=b5T hm hx.oh rows (by omega);have a1:(ers ps x rows).1=hOI r.1.X:=by rw[e,a4N]
 have a2:(ers ps x rows).2=r.2.map λa=>(a.V,a.E):=by
  rw[e,List.map_map];conv=>lhs;rw[←List.map_id (ers ps x rows).2]
  exact List.map_congr_left λp _=>rfl
 refine⟨?_,⟨a1▸o1.rt,a1▸o1.sl,a1▸o1.zr,?_⟩,a1,a2⟩
 ·rw[d0K hm hx.oh rows hl (by omega),a1,a2,List.map_map];congr 1
 ·have:(hOI r.1.X).S.Serial≤x.S.Serial+201*(rows.length:Int):=a1▸o2;show (hOI r.1.X).S.Serial≤((n+201*rows.length:Nat):Int);omega
theorem a9n:Mp []:=λ_ h=>by cases h
end Go.Sh
namespace Go.Sh
end Go.Sh
namespace Go.Sh
theorem c2w(a b c d:Int):E6 a b c d=some [a,b,c,d]:=by
 unfold E6;rfl
def en(x:Hp):c8:=⟨x,[]⟩
theorem b1L{k:Nat}{l:Int}(hk:1≤k∧k≤24)(hl:0≤l∧l≤9):a1M k l=some (en (nwH k l 8))∧Rs (nwH k l 8) 0:=by
 rcases d09 (n:=(k:Int)) (last:=l) (places:=8) (ps:=[]) (by decide) (λp h=>by cases h) with ⟨e,_,_,h | ⟨_,h⟩⟩ | ⟨k',p,h1,h2,_,_,hr,e1,_⟩
 ·exfalso;rename_i e1 e2;subst h;have hq:a10 []=some true:=by kernel_rfl
  unfold a13 at e1;rw[hq,d3e] at e1;simp only[Bool.not_true,Bool.false_eq_true,if_false] at e1;cases hn:a3K k l 8 with
  | none=>rw[hn] at e1;cases e1
  | some y=>
   rw[hn,d3e] at e1;split at e1
   ·have:(1:Int)=13:=congrArg (λz=>(z.getD (⟨b57,[]⟩,0)).2) e1;exact absurd this (by decide)
   ·have:(0:Int)=13:=congrArg (λz=>(z.getD (⟨b57,[]⟩,0)).2) e1;exact absurd this (by decide)
 ·exact absurd ⟨by omega,hl,by omega,by omega⟩ h
 ·obtain rfl:k=k':=by omega
  obtain rfl:p=8:=by omega
  refine⟨?_,hr⟩;unfold a1M;rw[e1];rfl
theorem d1C{n:Int}(h0:0≤n)(h1:n≤255):p7 n=n:=B6 (by omega) (by omega)
theorem c4R{n:Int}(h0:0≤n)(h1:n≤255){b:Int}(hb:0<b):rem (p7 n) b=some (n % b):=by rw[d1C h0 h1,a6j h0 hb]
def c42:List (List Int):=[[1,0,1,(-1)],[5,0,0,0],[3,0,0,0],[11,0,0,0],[1,0,0,(-1)],[1,1,0,(-1)],[1,2,0,(-1)]]
def d2G:A1 × List D0:=(a8i ⟨hO (nwH 2 3 8),[]⟩ c42).getD (⟨hO b57,[]⟩,[])
theorem b6R:a35=some true:=by
 obtain⟨a1,a2⟩:=b1L (k:=2) (l:=3) (by decide) (by decide);obtain⟨b1,b2,_,_⟩:=c90 a2 (by decide) a9n (rows:=c42) (by decide) (r:=d2G) (by kernel_rfl);unfold a35;refine bnd a1 ?_;simp only[c2w,d3e];refine bnd b1 ?_;dsimp only;rw[d0L b2.rt];kernel_rfl
end Go.Sh
namespace Go.Sh
end Go.Sh
namespace Go.Sh
end Go.Sh
namespace Go.Sh
def anI(a:D0):l5:=⟨a.V,a.E⟩
def b0B(y:g6)(rows:List (List Int)):A1 × List D0:=(a8i ⟨y,[]⟩ rows).getD (⟨hO b57,[]⟩,[])
def T7(y:g6)(row:List Int):A1 × D0:=(b3G ⟨y,[]⟩ row).getD (⟨hO b57,[]⟩,⟨0,0⟩)
structure Re (y:g6) (n:Nat):Prop where
 id:hO (hOI y)=y
 rs:Rs (hOI y) n
def eI(y:g6):c8:=en (hOI y)
theorem b3I{k:Nat}{l:Int}(h:Rs (nwH k l 8) 0):Re (hO (nwH k l 8)) 0∧eI (hO (nwH k l 8))=en (nwH k l 8):=by
 unfold eI;rw[a4N];exact⟨⟨by rw[a4N],by rw[a4N];exact h⟩,rfl⟩
theorem b6C{y:g6}{n:Nat}(h:Re y n)(hn:n≤1000000){rows:List (List Int)}(hl:rows.length≤1000):K7 (eI y) rows=some (eI (b0B y rows).1.X,(b0B y rows).2.map anI)∧Re (b0B y rows).1.X (n+201*rows.length):=by
 obtain⟨e,r⟩:=h;have hs:=r.U9;have er:=d1t a9n r.oh rows hl (by omega);have eq:b0B y rows=(⟨hO (ers [] (hOI y) rows).1,psR []⟩,(ers [] (hOI y) rows).2.map anR):=by
  unfold b0B;rw[e] at er;show (a8i ⟨y,psR []⟩ rows).getD _=_;rw[er];rfl
 obtain⟨o1,o2⟩:=b5T a9n r.oh rows (by omega);rw[eq];refine⟨?_,⟨by show hO (hOI (hO _))=hO _;rw[a4N],?_⟩⟩
 ·show K7 ⟨hOI y,[]⟩ rows=_;rw[d0K a9n r.oh rows hl (by omega)];show _=some ((⟨hOI (hO (ers [] (hOI y) rows).1),[]⟩:c8),((ers [] (hOI y) rows).2.map anR).map anI);rw[a4N,List.map_map];rfl
 ·show Rs (hOI (hO (ers [] (hOI y) rows).1)) _;rw[a4N];exact⟨o1.rt,o1.sl,o1.zr,by omega⟩
theorem a1U{y:g6}{n:Nat}(h:Re y n)(hn:n≤1000000)(row:List Int):B7 (eI y) row=some (eI (T7 y row).1.X,anI (T7 y row).2)∧Re (T7 y row).1.X (n+201):=by
 obtain⟨e,r⟩:=h;have hs:=r.U9;have er':=rdo a9n r.oh (by omega) row;have eq:T7 y row=(⟨hO (er [] (hOI y) row).1,psR []⟩,anR (er [] (hOI y) row).2):=by
  unfold T7;rw[e] at er';show (b3G ⟨y,psR []⟩ row).getD _=_;rw[er'];rfl
 obtain⟨o1,o2⟩:=c7K a9n r.oh (by omega) row;rw[eq];refine⟨?_,⟨by show hO (hOI (hO _))=hO _;rw[a4N],?_⟩⟩
 ·show B7 ⟨hOI y,[]⟩ row=_;rw[edo a9n r.oh (by omega)];show _=some ((⟨hOI (hO (er [] (hOI y) row).1),[]⟩:c8),anI (anR (er [] (hOI y) row).2));rw[a4N];rfl
 ·show Rs (hOI (hO (er [] (hOI y) row).1)) _;rw[a4N];exact⟨o1.rt,o1.sl,o1.zr,by omega⟩
def O4(y:g6):List Int:=(a5l ⟨y,[]⟩).getD []
def a31(y:g6):A4:=(a8j ⟨y,[]⟩).getD ⟨0,0,0,0⟩
theorem b3H{y:g6}{n:Nat}(h:Re y n):G0 (eI y)=some (O4 y):=by
 have a:=c8M (ps:=[]) h.rs.rt;have b:=c4W (ps:=[]) h.rs.rt;rw[h.id] at b;have:O4 y=srs (hOI y):=by
  unfold O4;show (a5l ⟨y,psR []⟩).getD _=_;rw[b];rfl
 rw[this];exact a
theorem c4Q{y:g6}{n:Nat}(h:Re y n):L7 (eI y)=some (a31 y):=by
 have a:=d0L (ps:=[]) h.rs.rt;have b:=d2H (ps:=[]) h.rs.rt;rw[h.id] at b;have:a31 y=tal (hOI y):=by
  unfold a31;show (a8j ⟨y,psR []⟩).getD _=_;rw[b];rfl
 rw[this];exact a
def a6L(y:g6):g6 × Bool:=
 ((T7 (T7 y [11,0,0,0]).1.X [12,200,0,0]).1.X,((T7 y [11,0,0,0]).2.V==0)&&((T7 (T7 y [11,0,0,0]).1.X [12,200,0,0]).2.V==0)&&((T7 (T7 y [11,0,0,0]).1.X [12,200,0,0]).2.E==0))
def a4f:Nat→g6→g6 × Bool
 | 0,y=>(y,false)
 | n+1,y=>if (a6L y).2 then ((a6L y).1,true) else a4f n (a6L y).1
theorem c9W{y:g6}{n:Nat}(h:Re y n)(hn:n≤900000):Re (a6L y).1 (n+402):=(a1U (a1U h (by omega) [11,0,0,0]).2 (by omega) [12,200,0,0]).2
theorem c1c{y:g6}{n:Nat}(h:Re y n)(hn:n≤100000){t:Nat}(ht:t≤100):b0R (eI y) t=some (eI (a4f t y).1,(a4f t y).2)∧Re (a4f t y).1 (n+402*t):=by
 have key:∀(m j:Nat) (z:g6),m+j=t→Re z (n+402*j)→Re (a4f m z).1 (n+402*t)∧∀N,m<N→∃e:(c8 × Bool) ⊕ c8,lpN (S:=Int × c8) (E:=(c8 × Bool) ⊕ c8) (λ((s13,s14):Int × c8)=>
   if (decide (s13<(t:Int))) then
    (E6 11 0 0 0).bind λv17=>
    (B7 s14 v17).bind λv18=>
    (E6 12 200 0 0).bind λv19=>
    (B7 v18.1 v19).bind λv20=>
    if (((v18.2.V==0)&&(v20.2.V==0))&&(v20.2.E==0)) then
     some (.inr (.inl (v20.1,true)))
    else
    some (.inl (p7 (s13+1),v20.1))
   else
   some (.inr (.inr s14))) N ((j:Int),eI z)=some e∧(match e with | .inl w=>some w | .inr w=>some (w,false))=some (eI (a4f m z).1,(a4f m z).2):=by
  intro m;induction m with
  | zero=>
   intro j z hj hz;refine⟨?_,λN hN=>?_⟩
   ·obtain rfl:j=t:=by omega
    exact hz
   ·obtain⟨N,rfl⟩:∃N',N=N'+1:=⟨N-1,by omega⟩;refine⟨.inr (eI z),?_,rfl⟩;rw[a2B];dsimp only;rw[if_neg (by simp;omega)]
  | succ m ih=>
   intro j z hj hz;obtain⟨a1,a2⟩:=a1U hz (by omega) [11,0,0,0];obtain⟨b1,b2⟩:=a1U a2 (by omega) [12,200,0,0];have hz':Re (a6L z).1 (n+402*(j+1)):=by
    have:=c9W hz (by omega);rwa [show n+402*j+402=n+402*(j+1) by omega] at this
   obtain⟨i1,i2⟩:=ih (j+1) (a6L z).1 (by omega) hz';have step:∀(c:Bool),c=(a6L z).2→a4f (m+1) z=if c then ((a6L z).1,true) else a4f m (a6L z).1:=λc hc=>by rw[hc];rfl
   cases hc:(a6L z).2
   ·rw[step false hc.symm];refine⟨i1,λN hN=>?_⟩;obtain⟨N,rfl⟩:∃N',N=N'+1:=⟨N-1,by omega⟩;obtain⟨e,q1,q2⟩:=i2 N (by omega);refine⟨e,?_,q2⟩;rw[a2B];dsimp only;rw[if_pos (by simp;omega)];simp only[c2w,d3e];rw[a1,d3e];dsimp only;rw[b1,d3e];dsimp only;have:((((anI (T7 z [11,0,0,0]).2).V==0)&&((anI (T7 (T7 z [11,0,0,0]).1.X [12,200,0,0]).2).V==0))&&((anI (T7 (T7 z [11,0,0,0]).1.X [12,200,0,0]).2).E==0))=false:=hc;rw[this];simp only[Bool.false_eq_true,if_false];rw[l6];exact q1
   ·rw[step true hc.symm];refine⟨⟨hz'.id,⟨hz'.rs.rt,hz'.rs.sl,hz'.rs.zr,by have:=hz'.rs.U9;show (hOI (a6L z).1).S.Serial≤_;omega⟩⟩,λN hN=>?_⟩;obtain⟨N,rfl⟩:∃N',N=N'+1:=⟨N-1,by omega⟩;refine⟨.inl (eI (a6L z).1,true),?_,rfl⟩;rw[a2B];dsimp only;rw[if_pos (by simp;omega)];simp only[c2w,d3e];rw[a1,d3e];dsimp only;rw[b1,d3e];dsimp only;have:((((anI (T7 z [11,0,0,0]).2).V==0)&&((anI (T7 (T7 z [11,0,0,0]).1.X [12,200,0,0]).2).V==0))&&((anI (T7 (T7 z [11,0,0,0]).1.X [12,200,0,0]).2).E==0))=true:=hc;rw[this];rfl
 obtain⟨k1,k2⟩:=key t 0 y (by omega) h;refine⟨?_,k1⟩;unfold b0R jn;obtain⟨e,q1,q2⟩:=k2 4611686018427387904 (by omega);rw[show (((0:Nat):Int))=0 from rfl] at q1;simp only[b7P];refine bnd (a:=e) q1 ?_;cases e <;> exact q2
end Go.Sh
namespace Go.Sh
def c69:List (List Int):=[[1,1,1,(-1)],[5,1,0,0],[2,0,1,0]]
def b1U:Nat→g6
 | 0=>hO (nwH 24 9 8)
 | i+1=>(b0B (b1U i) c69).1.X
theorem b9s:∀i,i≤100→Re (b1U i) (603*i)
 | 0,_=>(b3I (b1L (k:=24) (l:=9) (by decide) (by decide)).2).1
 | i+1,h=>by
  have:=(b6C (b9s i (by omega)) (by omega) (rows:=c69) (by decide)).2;rw[show 603*i+201*c69.length=603*(i+1) by show 603*i+201*3=_;omega] at this;exact this
def d2v(k:Nat):g6:=(T7 (b1U k) [3,1,0,0]).1.X
def a4b(k:Nat):g6 × Bool:=a4f 3 (d2v k)
def lE1(k:Nat):Bool:=((a4b k).2&&(((a31 (a4b k).1).a==(p7 (24-(k:Int))))&&(((a31 (a4b k).1).b==(k:Int))&&(((a31 (a4b k).1).c==0)&&(((a31 (a4b k).1).d==0)&&true)))))&&((T7 (a4b k).1 [3,0,0,0]).2.V==0)
def lE2(k:Nat):Bool:=((a31 (T7 (a4b k).1 [3,0,0,0]).1.X).a==24)&&(((a31 (T7 (a4b k).1 [3,0,0,0]).1.X).b==0)&&(((a31 (T7 (a4b k).1 [3,0,0,0]).1.X).c==0)&&(((a31 (T7 (a4b k).1 [3,0,0,0]).1.X).d==0)&&true)))
set_option maxRecDepth 100000 in
theorem d0R : [1,2,3,4,5,6,7,8].all (λk=>lE1 k&&lE2 k)=true:=by kernel_rfl
set_option maxRecDepth 100000 in
theorem d0S : [9,10,11,12,13].all (λk=>lE1 k&&lE2 k)=true:=by kernel_rfl
set_option maxRecDepth 100000 in
theorem d0T : [14,15,16,17].all (λk=>lE1 k&&lE2 k)=true:=by kernel_rfl
set_option maxRecDepth 100000 in
theorem d0U : [18,19,20].all (λk=>lE1 k&&lE2 k)=true:=by kernel_rfl
set_option maxRecDepth 100000 in
theorem d0V : [21,22].all (λk=>lE1 k&&lE2 k)=true:=by kernel_rfl
theorem d2w{k:Nat}(h:1≤k)(h2:k≤22):lE1 k=true∧lE2 k=true:=by
 rw[←Bool.and_eq_true];have a:=List.all_eq_true.1 d0R k;have b:=List.all_eq_true.1 d0S k;have c:=List.all_eq_true.1 d0T k;have d:=List.all_eq_true.1 d0U k;have e:=List.all_eq_true.1 d0V k;rcases Nat.lt_or_ge k 9 with q | q
 ·exact a (by simp;omega)
 ·rcases Nat.lt_or_ge k 14 with q | q
  ·exact b (by simp;omega)
  ·rcases Nat.lt_or_ge k 18 with q | q
   ·exact c (by simp;omega)
   ·rcases Nat.lt_or_ge k 21 with q | q
    ·exact d (by simp;omega)
    ·exact e (by simp;omega)
theorem topList{n:Int}(h0:0≤n)(h1:n≤255):a6z n=some true:=by
 unfold a6z;obtain⟨k,hk⟩:∃k:Nat,1+n % 22=k:=⟨(1+n % 22).toNat,by omega⟩;have hw:p7 (1+n % 22)=(k:Int):=by rw[B6 (by omega) (by omega)];exact hk
 have hk2:1≤k∧k≤22:=by omega
 have e1:a1M 24 9=some (eI (b1U 0)):=by
  obtain⟨a,b⟩:=b1L (k:=24) (l:=9) (by decide) (by decide);rw[show (eI (b1U 0))=en (nwH 24 9 8) from (b3I b).2];exact a
 rw[c4R h0 h1 (by decide),d3e,e1,d3e,hw];simp only[jn,c2w,d3e];refine U6 (λj=>((j:Int),eI (b1U j))) rfl k (λ_=>True) (by omega) trivial (λj hj _=>.inl ⟨?_,trivial⟩) (λ_=>⟨eI (b1U k),if_neg (by simp),?_⟩)
 ·dsimp only;rw[if_pos (by simpa using hj),show K7 (eI (b1U j)) [[1,1,1,(-1)],[5,1,0,0],[2,0,1,0]]=_ from (b6C (b9s j (by omega)) (by omega) (rows:=c69) (by decide)).1,d3e,l6];rfl
 ·obtain⟨a1,a2⟩:=a1U (b9s k (by omega)) (by omega) [3,1,0,0];obtain⟨b1,b2⟩:=c1c a2 (by omega) (t:=3) (by decide);obtain⟨c1,c2⟩:=a1U b2 (by omega) [3,0,0,0];obtain⟨q1,q2⟩:=d2w hk2.1 hk2.2;have q3:(a4b k).2=true:=by
   unfold lE1 at q1;rw[Bool.and_eq_true,Bool.and_eq_true] at q1;exact q1.1.1
  refine bnd a1 ?_;refine bnd (a:=(eI (a4b k).1,(a4b k).2)) b1 ?_;refine bnd (a:=(eI (T7 (a4b k).1 [3,0,0,0]).1.X,anI (T7 (a4b k).1 [3,0,0,0]).2)) c1 ?_;dsimp only;rw[show L7 (eI (a4b k).1)=_ from c4Q b2,show L7 (eI (T7 (a4b k).1 [3,0,0,0]).1.X)=_ from c4Q c2,q3,beq_self_eq_true,a1A,d3e];have e2:(((true&&(((a31 (a4b k).1).a==(p7 (24-(k:Int))))&&(((a31 (a4b k).1).b==(k:Int))&&(((a31 (a4b k).1).c==0)&&(((a31 (a4b k).1).d==0)&&true)))))&&((anI (T7 (a4b k).1 [3,0,0,0]).2).V==0)))=true:=by
   have:=q1;unfold lE1 at this;rw[q3] at this;exact this
  rw[e2,beq_self_eq_true,a1A,d3e];have e3:=q2;unfold lE2 at e3;rw[e3,b6R];rfl
end Go.Sh
namespace Go.Sh
def c9P:List (List Int):=[[1,0,1,(-1)],[1,1,1,(-1)],[8,0,1,0]]
def d1l:List (List Int):=[[9,1,0,0],[3,1,0,0],[3,0,0,0],[11,0,0,0]]
def c6U(k:Nat)(b:Bool):g6:=if b then (T7 (b0B (hO (nwH k 9 8)) c9P).1.X [5,1,0,0]).1.X else (b0B (hO (nwH k 9 8)) c9P).1.X
def d2z(k:Nat)(b:Bool):g6:=(T7 (c6U k b) [3,1,0,0]).1.X
def b4y(k:Nat)(b:Bool):A1 × D0:=T7 (d2z k b) [11,0,0,0]
def a4d(k:Nat)(b:Bool):A1 × List D0:=b0B (b4y k b).1.X d1l
def b4x(k:Nat)(b:Bool):Bool:=
 ((b4y k b).2.V==0)&&((O4 (b4y k b).1.X).length==2)&&((a4d k b).2.length==4)&&(((a4d k b).2.getD 0 ⟨7,7⟩).V==2)&&(((a4d k b).2.getD 3 ⟨7,7⟩).V==(if b then 2 else 0))&&((O4 (a4d k b).1.X).length==0)
set_option maxRecDepth 100000 in
theorem d1e : [2,3,4,5,6,7,8,9,10,11,12].all (λk=>b4x k true&&b4x k false)=true:=by kernel_rfl
set_option maxRecDepth 100000 in
theorem d1f : [13,14,15,16,17,18].all (λk=>b4x k true&&b4x k false)=true:=by kernel_rfl
set_option maxRecDepth 100000 in
theorem d1g : [19,20,21,22,23].all (λk=>b4x k true&&b4x k false)=true:=by kernel_rfl
theorem d2A{k:Nat}(h:2≤k)(h2:k≤23)(b:Bool):b4x k b=true:=by
 have a:=List.all_eq_true.1 d1e k;have c:=List.all_eq_true.1 d1f k;have d:=List.all_eq_true.1 d1g k;have key:(b4x k true&&b4x k false)=true:=by
  rcases Nat.lt_or_ge k 13 with q | q
  ·exact a (by simp;omega)
  ·rcases Nat.lt_or_ge k 19 with q | q
   ·exact c (by simp;omega)
   ·exact d (by simp;omega)
 rw[Bool.and_eq_true] at key;cases b;·exact key.2
 ·exact key.1
theorem c0B{α:Type}{l:List α}{i:Nat}(h:i<l.length)(d:α):ix l (i:Int)=some (l.getD i d):=by
 rw[o5 h];congr 1;rw[List.getD_eq_getElem?_getD,List.getElem?_eq_getElem h];rfl
theorem b4Y{α β:Type}(f:α→β)(l:List α)(i:Nat)(d:α):(l.map f).getD i (f d)=f (l.getD i d):=by
 rw[List.getD_eq_getElem?_getD,List.getD_eq_getElem?_getD,List.getElem?_map];cases l[i]? <;> rfl
theorem topPairs{n:Int}{b:Bool}(h0:0≤n)(h1:n≤255):a4D n b=some true:=by
 unfold a4D;obtain⟨k,hk⟩:∃k:Nat,2+n % 22=k:=⟨(2+n % 22).toNat,by omega⟩;have hw:p7 (2+n % 22)=(k:Int):=by rw[B6 (by omega) (by omega)];exact hk
 have hk2:2≤k∧k≤23:=by omega
 obtain⟨a,r0⟩:=b1L (k:=k) (l:=9) (by omega) (by decide);obtain⟨r1,r2⟩:=b3I r0;rw[c4R h0 h1 (by decide),d3e,hw,a,d3e,←r2];simp only[jn,c2w,d3e];obtain⟨s1,s2⟩:=b6C r1 (by decide) (rows:=c9P) (by decide);obtain⟨t1,t2⟩:=a1U s2 (by decide) [5,1,0,0];refine bnd s1 ?_;have hpa:Re (c6U k b) 1000:=by
  unfold c6U;cases b;·exact⟨s2.id,s2.rs.rt,s2.rs.sl,s2.rs.zr,by have:=s2.rs.U9;exact Int.le_trans this (by decide)⟩
  ·exact⟨t2.id,t2.rs.rt,t2.rs.sl,t2.rs.zr,by have:=t2.rs.U9;exact Int.le_trans this (by decide)⟩
 obtain⟨u1,u2⟩:=a1U hpa (by decide) [3,1,0,0];obtain⟨v1,v2⟩:=a1U u2 (by decide) [11,0,0,0];obtain⟨w1,w2⟩:=b6C v2 (by decide) (rows:=d1l) (by decide);have hE:=d2A hk2.1 hk2.2 b;unfold b4x at hE;rw[Bool.and_eq_true,Bool.and_eq_true,Bool.and_eq_true,Bool.and_eq_true,Bool.and_eq_true,beq_iff_eq,beq_iff_eq,beq_iff_eq,beq_iff_eq,beq_iff_eq,beq_iff_eq] at hE;obtain⟨⟨⟨⟨⟨c1,c2⟩,c3⟩,c4⟩,c5⟩,c6⟩:=hE;have key:∀(m:Int),m=(if b then 2 else 0)→((B7 (eI (c6U k b)) [3,1,0,0]).bind λv12=>(B7 v12.1 [11,0,0,0]).bind λv14=>(K7 v14.1 [[9,1,0,0],[3,1,0,0],[3,0,0,0],[11,0,0,0]]).bind λv17=>
   (w7 ((v14.2.V==0)==true) [] (G0 v14.1)).bind λv20=>
   (w7 ((((v14.2.V==0)&&((v20.length:Int)==2))&&((v17.2.length:Int)==4))==true) (⟨0,0⟩:l5) (ix v17.2 0)).bind λv21=>
   (w7 (((((v14.2.V==0)&&((v20.length:Int)==2))&&((v17.2.length:Int)==4))&&(v21.V==2))==true) (⟨0,0⟩:l5) (ix v17.2 3)).bind λv22=>
   (w7 ((((((v14.2.V==0)&&((v20.length:Int)==2))&&((v17.2.length:Int)==4))&&(v21.V==2))&&(v22.V==m))==true) [] (G0 v17.1)).bind λv23=>
   (w7 (((((((v14.2.V==0)&&((v20.length:Int)==2))&&((v17.2.length:Int)==4))&&(v21.V==2))&&(v22.V==m))&&((v23.length:Int)==0))==true) false a35).bind λv24=>
   some (((((((v14.2.V==0)&&((v20.length:Int)==2))&&((v17.2.length:Int)==4))&&(v21.V==2))&&(v22.V==m))&&((v23.length:Int)==0))&&v24))=some true:=λm hm=>by
  refine bnd u1 ?_;refine bnd (a:=(eI (b4y k b).1.X,anI (b4y k b).2)) v1 ?_;refine bnd (a:=(eI (a4d k b).1.X,(a4d k b).2.map anI)) w1 ?_;dsimp only;have e1:((anI (b4y k b).2).V==0)=true:=by rw[show (anI (b4y k b).2).V=(b4y k b).2.V from rfl,c1];rfl
  have l4:((((a4d k b).2.map anI).length:Int)==4)=true:=by rw[List.length_map,c3];rfl
  have hlen:((a4d k b).2.map anI).length=4:=by rw[List.length_map,c3]
  have i0:ix ((a4d k b).2.map anI) 0=some (anI ((a4d k b).2.getD 0 ⟨7,7⟩)):=by
   have:=c0B (l:=(a4d k b).2.map anI) (i:=0) (by omega) (anI ⟨7,7⟩);rw[b4Y] at this;exact this
  have i3:ix ((a4d k b).2.map anI) 3=some (anI ((a4d k b).2.getD 3 ⟨7,7⟩)):=by
   have:=c0B (l:=(a4d k b).2.map anI) (i:=3) (by omega) (anI ⟨7,7⟩);rw[b4Y] at this;exact this
  have e2:(((O4 (b4y k b).1.X).length:Int)==2)=true:=by rw[c2];rfl
  have e3:((anI ((a4d k b).2.getD 0 ⟨7,7⟩)).V==2)=true:=by rw[show (anI ((a4d k b).2.getD 0 ⟨7,7⟩)).V=((a4d k b).2.getD 0 ⟨7,7⟩).V from rfl,c4];rfl
  have e4:((anI ((a4d k b).2.getD 3 ⟨7,7⟩)).V==m)=true:=by rw[show (anI ((a4d k b).2.getD 3 ⟨7,7⟩)).V=((a4d k b).2.getD 3 ⟨7,7⟩).V from rfl,c5,hm];simp
  have e5:(((O4 (a4d k b).1.X).length:Int)==0)=true:=by rw[c6];rfl
  rw[e1,show G0 (eI (b4y k b).1.X)=_ from b3H v2,show G0 (eI (a4d k b).1.X)=_ from b3H w2,i0,i3,l4,b6R];simp only[beq_self_eq_true,a1A,d3e,e2,e3,e4,e5,Bool.and_self]
 cases b;·exact key 0 rfl
 ·refine bnd t1 ?_;exact key 2 rfl
end Go.Sh
namespace Go.Sh
theorem d2C{j:Nat}(h:j<100):quo .i64 (j:Int) 4=some ((j / 4:Nat):Int):=by
 have:∀j:Fin 100,quo .i64 ((j.1:Nat):Int) 4=some ((j.1 / 4:Nat):Int):=by decide
 exact this ⟨j,h⟩
theorem d1q{y:g6}{n:Nat}(h:Re y n)(s:Int):b0S (eI y) s=some (decide (s∈O4 y)):=by
 unfold b0S;rw[b3H h,d3e];simp only[jn];have hl:(O4 y).length≤1000:=by
  have b:=c4W (ps:=[]) h.rs.rt;rw[h.id] at b;have e:O4 y=srs (hOI y):=by
   unfold O4;show (a5l ⟨y,psR []⟩).getD _=_;rw[b];rfl
  have:=c1r (x:=hOI y) h.rs.rt.sh.sr;rw[e];omega
 refine a1u (O4 y).length (λk=>∀i,(hi:i<k)→(hk:i<(O4 y).length)→(O4 y)[i]≠s) (by omega) (λi hi=>by omega) (λk hk hP=>?_) (λhP=>⟨.inr (),if_neg (by simp),?_⟩)
 ·rw[if_pos (by simpa using hk),o5 hk,d3e];by_cases e:(O4 y)[k]=s
  ·right;refine⟨.inl true,by rw[if_pos (by simpa using e)],?_⟩;rw[decide_eq_true (e▸List.getElem_mem hk)]
  ·left;refine⟨by rw[if_neg (by simpa using e),l6],λi hi hi2=>?_⟩;rcases Nat.lt_or_ge i k with q | q
   ·exact hP i q hi2
   ·obtain rfl:i=k:=by omega
    exact e
 ·rw[decide_eq_false];intro hm;obtain⟨i,hi,e⟩:=List.getElem_of_mem hm;exact hP i hi hi e
def sk0:g6:=(T7 (hO (nwH 24 9 8)) [1,0,0,(-1)]).1.X
def c2k(y:g6)(j:Nat):g6:=if j % 4=0 then (T7 y [1,p7 (1+((j / 4:Nat):Int)),4,(-1)]).1.X else y
def stk:Nat→g6
 | 0=>sk0
 | j+1=>(T7 (c2k (stk j) j) [5,p7 (1+((j / 4:Nat):Int)),((j % 4:Nat):Int),0]).1.X
def sdk(k:Nat):Nat→g6
 | 0=>stk k
 | i+1=>(T7 (sdk k i) [3,(i:Int),0,0]).1.X
theorem c94:Re sk0 201:=(a1U (b3I (b1L (k:=24) (l:=9) (by decide) (by decide)).2).1 (by decide) [1,0,0,(-1)]).2
theorem d1u{y:g6}{n:Nat}(h:Re y n)(hn:n≤100000)(j:Nat):Re (c2k y j) (n+201):=by
 unfold c2k;split;·exact (a1U h (by omega) _).2
 ·exact⟨h.id,h.rs.rt,h.rs.sl,h.rs.zr,by have:=h.rs.U9;omega⟩
theorem b91:∀j,j≤100→Re (stk j) (201+402*j)
 | 0,_=>c94
 | j+1,h=>by
  have:=(a1U (d1u (b91 j (by omega)) (by omega) j) (by omega) [5,p7 (1+((j / 4:Nat):Int)),((j % 4:Nat):Int),0]).2;rw[show 201+402*j+201+201=201+402*(j+1) by omega] at this;exact this
theorem b9X{k:Nat}(hk:k≤100):∀i,i≤100→Re (sdk k i) (201+402*k+201*i)
 | 0,_=>b91 k hk
 | i+1,h=>by
  have:=(a1U (b9X hk i (by omega)) (by omega) [3,(i:Int),0,0]).2;rw[show 201+402*k+201*i+201=201+402*k+201*(i+1) by omega] at this;exact this
def c2j(k:Nat):Bool:=(a4f 3 (sdk k 6)).2&&(((O4 (a4f 3 (sdk k 6)).1).contains 1)==decide (11≤k))
set_option maxRecDepth 100000 in
theorem d1w : [1,2,3,4,5].all c2j=true:=by kernel_rfl
set_option maxRecDepth 100000 in
theorem d1x : [6,7,8].all c2j=true:=by kernel_rfl
set_option maxRecDepth 100000 in
theorem d1y : [9,10].all c2j=true:=by kernel_rfl
set_option maxRecDepth 100000 in
theorem d1z : [11,12].all c2j=true:=by kernel_rfl
theorem d2I{k:Nat}(h:1≤k)(h2:k≤12):(a4f 3 (sdk k 6)).2=true∧decide ((1:Int)∈O4 (a4f 3 (sdk k 6)).1)=decide (11≤k):=by
 have a:=List.all_eq_true.1 d1w k;have b:=List.all_eq_true.1 d1x k;have c:=List.all_eq_true.1 d1y k;have d:=List.all_eq_true.1 d1z k;have key:c2j k=true:=by
  rcases Nat.lt_or_ge k 6 with q | q
  ·exact a (by simp;omega)
  ·rcases Nat.lt_or_ge k 9 with q | q
   ·exact b (by simp;omega)
   ·rcases Nat.lt_or_ge k 11 with q | q
    ·exact c (by simp;omega)
    ·exact d (by simp;omega)
 unfold c2j at key;rw[Bool.and_eq_true,beq_iff_eq] at key;refine⟨key.1,?_⟩;rw[←key.2];simp
theorem topStuck{n:Int}(h0:0≤n)(h1:n≤255):a7P n=some true:=by
 unfold a7P;obtain⟨k,hk⟩:∃k:Nat,1+n % 12=k:=⟨(1+n % 12).toNat,by omega⟩;have hw:p7 (1+n % 12)=(k:Int):=by rw[B6 (by omega) (by omega)];exact hk
 have hk2:1≤k∧k≤12:=by omega
 obtain⟨a,r0⟩:=b1L (k:=24) (l:=9) (by decide) (by decide);obtain⟨r1,r2⟩:=b3I r0;rw[show a1M 24 9=_ from a,d3e,←r2];simp only[jn,c2w,d3e];refine bnd (a1U r1 (by decide) [1,0,0,(-1)]).1 ?_;rw[c4R h0 h1 (by decide),d3e,hw];refine U6 (λj=>((j:Int),eI (stk j))) rfl k (λ_=>True) (by omega) trivial (λj hj _=>.inl ⟨?_,trivial⟩) (λ_=>⟨eI (stk k),if_neg (by simp),?_⟩)
 ·have hs:=b91 j (by omega);have hj12:j<12:=by omega
  have hrem:rem (j:Int) 4=some ((j % 4:Nat):Int):=by rw[a6j (by omega) (by decide)];rfl
  dsimp only;rw[if_pos (by simpa using hj),d2C (by omega),d3e,hrem,d3e];have fin:∀y,Re y (201+402*j+201)→y=c2k (stk j) j→((B7 (eI y) [5,p7 (1+((j / 4:Nat):Int)),((j % 4:Nat):Int),0]).bind λv56=>some (Sum.inl (β:=c8) (p7 ((j:Int)+1),v56.1)))=some (.inl (((j+1:Nat):Int),eI (stk (j+1)))):=λy hy e=>by
   rw[(a1U hy (by omega) _).1,d3e,l6,e];rfl
  by_cases q:j % 4=0
  ·rw[if_pos (by rw[q];rfl),(a1U hs (by omega) _).1,d3e];dsimp only;refine fin _ (a1U hs (by omega) _).2 ?_;unfold c2k;rw[if_pos q]
  ·rw[if_neg (by simp;omega)];refine fin _ ⟨hs.id,hs.rs.rt,hs.rs.sl,hs.rs.zr,by have:=hs.rs.U9;omega⟩ ?_;unfold c2k;rw[if_neg q]
 ·refine U6 (λi=>((i:Int),eI (sdk k i))) rfl 6 (λ_=>True) (by decide) trivial (λi hi _=>.inl ⟨?_,trivial⟩) (λ_=>⟨eI (sdk k 6),if_neg (by simp),?_⟩)
  ·have hs:=b9X (k:=k) (by omega) i (by omega);dsimp only;rw[if_pos (by simp;omega),(a1U hs (by omega) _).1,d3e,l6];rfl
  ·have hs:=b9X (k:=k) (by omega) 6 (by decide);obtain⟨b1,b2⟩:=c1c hs (by omega) (t:=3) (by decide);obtain⟨q1,q2⟩:=d2I hk2.1 hk2.2;refine bnd b1 ?_;dsimp only;rw[q1,beq_self_eq_true,a1A,d1q b2,d3e,q2];have e:(true&&(decide (11≤k)==(decide ((k:Int)≥11))))=true:=by
    rw[Bool.true_and,beq_iff_eq];exact decide_eq_decide.2 (by omega)
   rw[e,beq_self_eq_true,a1A,b6R];rfl
end Go.Sh
namespace Go.Sh
end Go.Sh
