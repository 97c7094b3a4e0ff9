/- A part. -/
import Derived.Test.YtppgkaeodaaidaaGreatDoorU3lT
set_option linter.unusedVariables false
set_option linter.unusedSimpArgs false
set_option linter.unusedSectionVars false
namespace Go.Sh
abbrev Hp:=b7
abbrev wS(x:Hp)(s:a7):Hp:=⟨s,x.Roots,x.a8,x.T,x.Q⟩
abbrev wR(x:Hp)(l:List Int):Hp:=⟨x.S,l,x.a8,x.T,x.Q⟩
abbrev wC(x:Hp)(l:List l7):Hp:=⟨x.S,x.Roots,l,x.T,x.Q⟩
abbrev wT(x:Hp)(t:Tb):Hp:=⟨x.S,x.Roots,x.a8,t,x.Q⟩
abbrev wQ(x:Hp)(q:TQ):Hp:=⟨x.S,x.Roots,x.a8,x.T,q⟩
def Ib(l:List l7)(h:Int):Nat:=l.countP λc=>(h != 0)&&(c.Target==h)
def Dw(q:TQ):List Int:=(q.L.filter (·.Kind==1)).map (·.At)
def QQ(q:TQ)(w:Int):Bool:=q.L.any λt=>t.Kind==2&&t.At==w
def rV(x:Hp):List Int:=nz x.Roots++Dw x.Q
noncomputable def sN(x:Hp)(h:Int):Nat:=ld x.S h+own x.T h+bx (rV x) h
def K7(s:a7)(i:Nat)(c:c5):a7:=⟨⟨s.S.a8.set i c,s.S.Last⟩,s.Serial⟩
theorem aX(s:a7)(i:Nat)(c:c5):(K7 s i c).S.a8.length=s.S.a8.length:=by simp[K7]
variable {s:a7}{i:Nat}{c:c5}{s':a7}
theorem P5(hi:i<s.S.a8.length)(c:c5)(j:Nat):ce (K7 s i c) j=if j=i then c else ce s j:=mz hi _ _ j
theorem SR.K7(hR:SR s)(hi:i<s.S.a8.length)(u:0<=c.State/\c.State<=3/\0<=c.Gen/\c.Gen<=s.S.Last)(A:¬Th c->OZ (oo c.Val))(g:Th c->Dm s c.Val/\Th (ce s i)/\c.Val.Serial=(ce s i).Val.Serial):SR (K7 s i c):=by
 have key:∀j,Th (ce (Sh.K7 s i c) j)->Th (ce s j)/\(ce (Sh.K7 s i c) j).Val.Serial=(ce s j).Val.Serial:=λj hj=>by
  rw[P5 hi] at hj |-;split at hj
  .rename_i e;subst e;rw[zc rfl];exact (g hj).2
  .rename_i e;rw[za e];exact⟨hj,rfl⟩
 refine⟨by rw[aX];exact hR.len,hR.l0,hR.l9,hR.V3,λj hj=>?_,λj hj hn=>?_,λj hj hn=>?_,λj k hj hk a b e=>?_⟩
 .rw[aX] at hj;rw[P5 hi];split;·exact u
  .exact hR.cell j hj
 .rw[aX] at hj;rw[P5 hi] at hn |-;split at hn
  .rename_i e;rw[zc e];exact A hn
  .rename_i e;rw[za e];exact hR.no j hj hn
 .rw[aX] at hj;rw[P5 hi] at hn |-;split at hn
  .rename_i e;rw[zc e];have:=(g hn).1;exact⟨this.s1,this.s2,this.st,this.wk,this.p1,this.p2,this.fl⟩
  .rename_i e;rw[za e];have:=hR.ok j hj hn;exact⟨this.s1,this.s2,this.st,this.wk,this.p1,this.p2,this.fl⟩
 .rw[aX] at hj hk;obtain⟨m,o⟩:=key j a;obtain⟨q,r⟩:=key k b;rw[o,r] at e;exact hR.dif j k hj hk m q e
theorem Rw(hi:i<s.S.a8.length)(c:c5){h:Int}{j:Nat}(hj:j≠i):aY (K7 s i c) h j↔aY s h j:=by
 unfold aY;rw[aX,P5 hi,za hj]
theorem Ax(hi:i<s.S.a8.length)(c:c5){h:Int}{j:Nat}(hj:j≠i):At (K7 s i c) h j↔At s h j:=by
 unfold At;rw[aX,P5 hi,za hj]
theorem NV(hR:SR s)(hi:i<s.S.a8.length)(hc:c.State≠1)(o:SR (K7 s i c)):lv (K7 s i c)=(lv s).filter λh=>decide (G4 h≠i):=by
 have m:∀h,¬At (K7 s i c) h i:=λh q=>by
  have:=q.2.1;rw[P5 hi,zc rfl] at this;exact hc this
 refine Tk hR o _ (λh=>?_) (λh j k q r=>?_)
 .rw[zG];constructor
  .rintro⟨j,hj⟩;have g:j≠i:=λe=>m h (e▸hj);have:=(Ax hi c g).1 hj;exact⟨⟨j,this⟩,by rw[this.d.G4 hR];exact g⟩
  .rintro⟨⟨j,hj⟩,hp⟩;rw[hj.d.G4 hR] at hp;exact⟨j,(Ax hi c hp).2 hj⟩
 .have g:j≠i:=λe=>m h (e▸q);have u:=(Ax hi c g).1 q;have:=aY.one hR u.d r.d;subst this;rw[P5 hi,za g]
theorem Oe(hR:SR s)(hi:i<s.S.a8.length)(e:SR (K7 s i c)){k:Int}(hk:k∈lv s)(hp:G4 k≠i):ob (K7 s i c) k=ob s k:=by
 have q:=C8 hR hk;rw[V5 e ((Ax hi c hp).2 q),V5 hR q,P5 hi,za hp]
structure Kn (s s':a7):Prop where
 sr:SR s'
 len:s'.S.a8.length=s.S.a8.length
 lv:lv s'=lv s
 ad:∀k i,aY s' k i↔aY s k i
 ob:∀k,k∈Sh.lv s->∃n m,ob s' k=⟨(ob s k).Serial,n,m,(ob s k).Prog,(ob s k).Started,(ob s k).Fields⟩
theorem yO.kn(hR:SR s)(k:yO s s'):Kn s s':=⟨k.sr,k.len,k.lv,k.ad,λh hh=>by
 obtain⟨n,e⟩:=k.ob h ΩJ;exact⟨n,_,e⟩⟩
theorem Kn.ld{s s':a7}(k:Kn s s')(h:Int):ld s' h=ld s h:=by
 unfold Sh.ld;rw[k.lv];congr 1;refine we λx hx=>?_;obtain⟨n,m,e⟩:=k.ob x hx;unfold Sh.outs;rw[e]
structure pY (x:Hp):Prop where
 sr:SR x.S
 hr:HR x.T
 r6:x.Roots.length=6
 c6:x.a8.length=6
 cap:x.Q.Cap=30
 q30:x.Q.L.length<=30
 tk:∀t∈x.Q.L,0<=t.Prog/\t.Prog<=5/\((t.Kind=1/\t.At∈lv x.S/\(ob x.S t.At).Started=true)\/(t.Kind=2/\0<=t.At/\t.At<=5))
 td:x.Q.L.Pairwise λa b=>¬(a.Kind=b.Kind/\a.At=b.At)
 rt:∀h∈x.Roots,h=0\/h∈lv x.S
 fl:∀h∈lv x.S,∀v∈(ob x.S h).Fields,v=0\/v∈lv x.S
 pr:∀k v,Has x.T k v->k∈lv x.S/\v∈lv x.S
 cl:∀i (hi:i<x.a8.length),-1<=x.a8[i].Call/\x.a8[i].Call<=5/\(x.a8[i].Target=0->x.a8[i].Intact=false)/\(x.a8[i].Target≠0->∃p,aY x.S x.a8[i].Target p)/\(x.a8[i].Intact=true->x.a8[i].Target∈lv x.S/\QQ x.Q i=false)
def Wk(x:Hp):Prop:=∀i,i<x.S.S.a8.length->Th (ce x.S i)->(ce x.S i).Val.Weak=(Ib x.a8 (1+(i:Int)+32*(ce x.S i).Gen):Int)/\((ce x.S i).State=2->1<=(ce x.S i).Val.Weak/\(ce x.S i).Val.Fields = []/\(ce x.S i).Val.Strong=0)
def ed(x:Hp)(L:List Int):Prop:=∀h∈lv x.S,(ob x.S h).Strong<12->(ob x.S h).Strong=((sN x h+bx L h:Nat):Int)
structure R9 (x:Hp):Prop where
 sh:pY x
 wk:Wk x
 fair:ed x []
theorem pY.of{x:Hp}(h:pY x)(hS:SR s')(hl:lv s'=lv x.S)(hd:∀k i,aY x.S k i->aY s' k i)(j:∀k∈lv x.S,(ob x.S k).Started=true->(ob s' k).Started=true)(hfl:∀k∈lv x.S,∀v∈(ob s' k).Fields,v=0\/v∈lv x.S):pY (wS x s'):=by
 refine⟨hS,h.hr,h.r6,h.c6,h.cap,h.q30,λt ht=>?_,h.td,λk hk=>?_,λk hk=>?_,λk v g=>?_,λi hi=>?_⟩
 .obtain⟨a,b,c⟩:=h.tk t ht;refine⟨a,b,?_⟩;rcases c with ⟨c1,c2,m⟩ | c;·exact .inl ⟨c1,by rw[hl];exact c2,j _ c2 m⟩
  .exact .inr c
 .dsimp only;rw[hl];exact h.rt k hk
 .dsimp only at hk |-;rw[hl] at hk |-;exact hfl k hk
 .dsimp only;rw[hl];exact h.pr k v g
 .obtain⟨a,b,c,d,e⟩:=h.cl i hi;refine⟨a,b,c,λq=>?_,λq=>?_⟩
  .obtain⟨p,hp⟩:=d q;exact⟨p,hd _ _ hp⟩
  .dsimp only;rw[hl];exact e q
theorem pY.kn{x:Hp}(h:pY x)(k:Kn x.S s'):pY (wS x s'):=by
 refine h.of k.sr k.lv (λj i q=>(k.ad j i).2 q) (λj hj q=>?_) (λj hj=>?_)
 .obtain⟨n,m,e⟩:=k.ob j hj;rw[e];exact q
 .obtain⟨n,m,e⟩:=k.ob j hj;rw[e];exact h.fl j hj
theorem pY.Dy{x:Hp}(h:pY x)(k:yO x.S s'):pY (wS x s'):=h.kn (k.kn h.sr)
theorem Wk.Dy{x:Hp}(h:Wk x)(k:yO x.S s'):Wk (wS x s'):=by
 intro i hi ht;dsimp only at hi ht |-;rw[k.len] at hi;obtain⟨a,b,c,d,e⟩:=k.ce i hi;unfold Th at ht;rw[a] at ht;obtain⟨f,g⟩:=h i hi ht;rw[a,b,c];refine⟨f,λq=>?_⟩;have j:=e Δ;rw[<-c,j];exact g q
theorem pY.roots{x:Hp}(h:pY x){l:List Int}(hl:l.length=6)(hr:∀v∈l,v=0\/v∈lv x.S):pY (wR x l):=⟨h.sr,h.hr,hl,h.c6,h.cap,h.q30,h.tk,h.td,hr,h.fl,h.pr,h.cl⟩
theorem pY.table{x:Hp}(h:pY x){t:Tb}(hr:HR t)(hp:∀k v,Has t k v->k∈lv x.S/\v∈lv x.S):pY (wT x t):=⟨h.sr,hr,h.r6,h.c6,h.cap,h.q30,h.tk,h.td,h.rt,h.fl,hp,h.cl⟩
def aq(c:Int):Int:=if 12<=c then 12 else if c<0 then 1 else c+1
def mq(c:Int):Int:=if 12<=c then 12 else if c<1 then c else c-1
theorem G8{c:Int}(h:0<=c):0<=aq c:=Δg
theorem U4{c:Int}(h:0<=c):0<=mq c:=by unfold mq;split <;> (try split) <;> omega
noncomputable def wx(x:Hp)(h:Int)(f:Int->Int):Hp:=if h∈lv x.S then wS x (eK x.S h (ET (ob x.S h) (f (ob x.S h).Strong))) else x
noncomputable def F2(x:Hp)(h:Int):Hp:=wx x h aq
noncomputable def W8(x:Hp)(h:Int):Hp:=wx x h mq
theorem CO(x:Hp)(h:Int)(f:Int->Int):wx x h f=wS x (wx x h f).S:=by
 unfold wx;split <;> rfl
theorem xO(x:Hp)(h:Int):F2 x h=wS x (F2 x h).S:=CO x h aq
theorem a1G(x:Hp)(h:Int):W8 x h=wS x (W8 x h).S:=CO x h mq
section
variable{x:Hp}(hR:SR x.S)(h:Int){f:Int->Int}(hf:∀c,0<=c->0<=f c)
include hR hf
theorem K2:yO x.S (wx x h f).S:=by
 unfold wx;split
 .rename_i q;exact Xj hR q (hf _ (N5 hR q).st)
 .exact yO.refl hR
theorem xV{k:Int}(hk:k∈lv x.S):(ob (wx x h f).S k).Strong=if k=h then f (ob x.S k).Strong else (ob x.S k).Strong:=by
 unfold wx;split
 .rename_i q;dsimp only;have ho:Dm x.S (ET (ob x.S h) (f (ob x.S h).Strong)):=by
   have:=N5 hR q;exact⟨this.s1,this.s2,hf _ this.st,this.wk,this.p1,this.p2,this.fl⟩
  rw[gG (o:=ET (ob x.S h) (f (ob x.S h).Strong)) hR q rfl ho (by have:=L5 hR hk;omega)];split;·rename_i e;subst e;rfl
  .rfl
 .rename_i q;rw[za];intro e;subst e;exact q hk
theorem AX(k:Int):sN (wx x h f) k=sN x k:=by
 rw[CO];unfold sN rV;dsimp only;rw[(K2 hR h hf).ld hR]
end
theorem pY.st{x:Hp}(h:pY x)(k:Int){f:Int->Int}(hf:∀c,0<=c->0<=f c):pY (wx x k f):=by
 rw[CO];exact h.Dy (K2 h.sr k hf)
theorem Wk.st{x:Hp}(h:Wk x)(hR:SR x.S)(k:Int){f:Int->Int}(hf:∀c,0<=c->0<=f c):Wk (wx x k f):=by
 rw[CO];exact h.Dy (K2 hR k hf)
theorem W6(h:Int):bx [] h=0:=by unfold bx;split <;> rfl
theorem K8(v:Int)(L:List Int)(h:Int):bx (v::L) h=bx L h+if v=h/\h≠0 then 1 else 0:=by
 unfold bx;by_cases h0:h=0
 .simp[h0]
 .rw[za h0,za h0,List.count_cons];by_cases e:v=h
  .simp[e,h0]
  .simp[e]
variable {x:Hp}{v:Int}
theorem Kb(hR:SR x.S){L:List Int}(hf:ed x L)(v:Int):ed (F2 x v) (v::L):=by
 intro h hh g;unfold F2 at hh g |-;rw[(K2 hR v λc=>G8).lv] at hh;rw[xV hR v (λc=>G8) hh] at g |-;rw[AX hR v λc=>G8,K8];have h0:h≠0:=λe=>sM hR (e▸hh);have hp:=(N5 hR hh).st;by_cases e:h=v
 .subst e;rw[zc rfl] at g |-;have:=hf h hh (by unfold aq at g;split at g <;> omega);rw[zc ⟨rfl,h0⟩];unfold aq at g |-;split at g;·omega
  .rename_i q;rw[za q,za Δ];omega
 .rw[za e] at g |-;rw[za (λq=>e q.1.symm)];exact hf h hh g
theorem wi{x:Hp}(hR:SR x.S){L:List Int}{v:Int}(hf:ed x (v::L)):ed (W8 x v) L:=by
 intro h hh g;unfold W8 at hh g |-;rw[(K2 hR v λc=>U4).lv] at hh;rw[xV hR v (λc=>U4) hh] at g |-;rw[AX hR v λc=>U4];have h0:h≠0:=λe=>sM hR (e▸hh);have hp:=(N5 hR hh).st;by_cases e:h=v
 .subst e;rw[zc rfl] at g |-;have:=hf h hh (by unfold mq at g;split at g <;> omega);rw[K8,zc ⟨rfl,h0⟩] at this;unfold mq at g |-;split at g;·omega
  .rename_i q;rw[za q,za Δ];omega
 .rw[za e] at g |-;have:=hf h hh g;rw[K8,za (λq=>e q.1.symm)] at this;exact this
theorem ed.mv{x':Hp}{L L':List Int}(hf:ed x L)(hl:lv x'.S=lv x.S)(hs:∀h∈lv x.S,(ob x'.S h).Strong=(ob x.S h).Strong)(hn:∀h∈lv x.S,sN x' h+bx L' h=sN x h+bx L h):ed x' L':=by
 intro h hh e;rw[hl] at hh;rw[hs h hh] at e |-;rw[hf h hh e,hn h hh]
theorem AZ:∀ {l:List Int} {r:Nat} (hr:r<l.length) (h k:Int),bx (l.set r h) k+bx [l.getD r 0] k=bx l k+bx [h] k
 | [],_,hr,_,_=>by simp at hr
 | a::l,0,_,h,k=>by
  rw[List.set_cons_zero,List.getD_cons_zero,K8 h l,K8 a l,K8 a [],K8 h [],W6];omega
 | a::l,r+1,hr,h,k=>by
  rw[List.set_cons_succ,List.getD_cons_succ,K8 a,K8 a l];have:=AZ (l:=l) (r:=r) (Ω hr) h k;omega
theorem um{x1:Hp}(hx:R9 x){old new:Int}(g:pY (F2 x new)->Wk (F2 x new)->pY x1/\Wk x1)
  (hl:lv x1.S=lv (F2 x new).S)(hs:∀h∈lv x.S,(ob x1.S h).Strong=(ob (F2 x new).S h).Strong)(hn:∀h∈lv x.S,sN x1 h+bx [old] h=sN x h+bx [new] h):R9 (W8 x1 old):=by
 have l1:lv (F2 x new).S=lv x.S:=(K2 hx.sh.sr new λc=>G8).lv;have f1:ed (F2 x new) [new]:=Kb hx.sh.sr hx.fair new;obtain⟨e,w2⟩:=g (hx.sh.st new λc=>G8) (hx.wk.st hx.sh.sr new λc=>G8);have f2:ed x1 [old]:=f1.mv hl (λh hh=>hs h (l1▸hh)) λh hh=>by
  rw[hn h (l1▸hh)];unfold F2;rw[AX hx.sh.sr new λc=>G8]
 exact⟨e.st _ λc=>U4,w2.st e.sr _ λc=>U4,wi e.sr f2⟩
noncomputable def K1(x:Hp)(r:Nat)(h:Int):Hp:=W8 (wR (F2 x h) (x.Roots.set r h)) (x.Roots.getD r 0)
theorem cd(hx:R9 x){r:Nat}(hr:r<6){h:Int}(hh:h=0\/h∈lv x.S):R9 (K1 x r h):=by
 have l1:lv (F2 x h).S=lv x.S:=(K2 hx.sh.sr h λc=>G8).lv;refine um hx (λa b=>⟨a.roots (by rw[zas];exact hx.sh.r6) (λv hv=>?_),b⟩) rfl (λ_ _=>rfl) (λk hk=>?_)
 .rw[l1];rcases zan hv with q | q
  .exact hx.sh.rt v q
  .exact q▸hh
 .have hi:=(K2 hx.sh.sr h λc=>G8).ld hx.sh.sr k;rw[xO];unfold sN rV;dsimp only;rw[show ld (F2 x h).S k=ld x.S k from hi,P0,P0,xY,xY];have:=AZ (l:=x.Roots) (r:=r) (by rw[hx.sh.r6];exact hr) h k;omega
theorem OQ{α:Type}:∀ {l:List α} (hn:l.Nodup) {a:α} (ha:a∈l) (f g:α->Nat) (h:∀x∈l,x≠a->f x=g x),(l.map g).sum+f a=(l.map f).sum+g a
 | [],_,_,ha,_,_,_=>by cases ha
 | b::l,hn,a,ha,f,g,h=>by
  rw[zax] at hn;rw[ut,ut,zch,zch];rcases zV.1 ha with e | e
  .subst e;have:l.map g=l.map f:=we λx hx=>(h x (zx _ hx) λe=>hn.1 (e▸hx)).symm;rw[this];omega
  .have:=OQ hn.2 e f g λx hx=>h x (zx _ hx);have:=h b (zm ..) λq=>hn.1 (q▸e);omega
abbrev rJ(o:u0)(l:List Int):u0:=⟨o.Serial,o.Strong,o.Weak,o.Prog,o.Started,l⟩
theorem NM{s:a7}(hR:SR s){h:Int}(hh:h∈lv s){o:u0}(hs:o.Serial=(ob s h).Serial)(ho:Dm s o)(y:Int):ld (eK s h o) y+bx (ob s h).Fields y=ld s y+bx o.Fields y:=by
 have m:=L5 hR hh;have:=OQ (vn (A6.2 hR)) hh (λx=>bx (outs s x) y) (λx=>bx (outs (eK s h o) x) y) λx hx g=>by
  have:=L5 hR hx;unfold outs;rw[gG hR hh hs ho Δ,za g]
 have e:bx (outs (eK s h o) h) y=bx o.Fields y:=by
  unfold outs;rw[gG hR hh hs ho Δ,zc rfl,xY]
 have j:bx (outs s h) y=bx (ob s h).Fields y:=xY _ _;rw[e,j] at this;unfold ld;rw[iS hR hh hs ho];exact this
noncomputable def dQ(x:Hp)(h:Int)(k:Nat)(v:Int):Hp:=W8 (wS (F2 x v) (eK (F2 x v).S h (rJ (ob (F2 x v).S h) ((ob x.S h).Fields.set k v)))) ((ob x.S h).Fields.getD k 0)
theorem FY(hx:R9 x){h:Int}(hh:h∈lv x.S){k:Nat}(hk:k<(ob x.S h).Fields.length)(hv:v=0\/v∈lv x.S):R9 (dQ x h k v):=by
 have Dy:=K2 hx.sh.sr v (f:=aq) λc=>G8;have l1:lv (F2 x v).S=lv x.S:=Dy.lv;have g:SR (F2 x v).S:=Dy.sr;have m:h∈lv (F2 x v).S:=by rw[l1];exact hh
 have F:=L5 hx.sh.sr hh;have B:(ob (F2 x v).S h).Fields=(ob x.S h).Fields:=by
  obtain⟨n,e⟩:=Dy.ob h Δ;show (ob (wx x v aq).S h).Fields=_;rw[e]
 have ho:Dm (F2 x v).S (rJ (ob (F2 x v).S h) ((ob x.S h).Fields.set k v)):=by
  have:=N5 g m;refine⟨this.s1,this.s2,this.st,this.wk,this.p1,this.p2,?_⟩;have E:=this.fl;rw[B] at E;simpa using E
 have A:∀j,j∈lv x.S->ob (eK (F2 x v).S h (rJ (ob (F2 x v).S h) ((ob x.S h).Fields.set k v))) j=if j=h then rJ (ob (F2 x v).S h) ((ob x.S h).Fields.set k v) else ob (F2 x v).S j:=λj hj=>by
  have:=L5 hx.sh.sr hj;exact gG (o:=rJ (ob (F2 x v).S h) ((ob x.S h).Fields.set k v)) g m rfl ho Δ
 refine um hx (λa b=>⟨?_,?_⟩) (iS (o:=rJ (ob (F2 x v).S h) ((ob x.S h).Fields.set k v)) g m rfl ho) (λj hj=>?_) (λj hj=>?_)
 .refine a.of (de (o:=rJ (ob (F2 x v).S h) ((ob x.S h).Fields.set k v)) g m rfl ho) (iS (o:=rJ (ob (F2 x v).S h) ((ob x.S h).Fields.set k v)) g m rfl ho) (λj i q=>(MC (o:=rJ (ob (F2 x v).S h) ((ob x.S h).Fields.set k v)) g m rfl ho).2 q) (λj hj q=>?_) (λj hj u hu=>?_)
  .rw[A j (l1▸hj)];split;·rename_i e;subst e;exact q
   .exact q
  .rw[A j (l1▸hj)] at hu;split at hu
   .rename_i e;subst e;rcases zan hu with q | q
    .exact a.fl j hj u (by rw[B];exact q)
    .rw[l1,q];exact hv
   .exact a.fl j hj u hu
 .intro i hi ht;dsimp only at hi ht |-;have hp:=C8 g m;unfold eK at hi;rw[R5] at hi;have C:=Hz (o:=rJ (ob (F2 x v).S h) ((ob x.S h).Fields.set k v)) g m rfl ho i;rw[C] at ht |-;split at ht
  .rename_i e;subst e;rw[zc rfl];have:=b _ hp.1 (.inl hp.2.1);dsimp only;refine⟨?_,λq=>absurd q (by rw[hp.2.1];decide)⟩;rw[<-this.1,V5 g hp]
  .rename_i e;rw[za e];exact b i hi ht
 .rw[A j hj];split;·rename_i e;subst e;rfl
  .rfl
 .have hi:=NM (o:=rJ (ob (F2 x v).S h) ((ob x.S h).Fields.set k v)) g m rfl ho j;have r:=Dy.ld hx.sh.sr j;have r:ld (F2 x v).S j=ld x.S j:=r;rw[r,B] at hi;dsimp only at hi;have:=AZ hk v j;have hrest:F2 x v=wS x (F2 x v).S:=xO x v;unfold sN rV;dsimp only;rw[show (F2 x v).T=x.T by rw[hrest],show (F2 x v).Roots=x.Roots by rw[hrest],show (F2 x v).Q=x.Q by rw[hrest]];omega
theorem TX{t:Tb}(hT:HR t){k:Int}{r:Tb × Int × Int}(h:V0 t k v=some r)(h0:r.2.2=0):HR r.1/\(∀y,own r.1 y+bx [r.2.1] y=own t y+bx [v] y)/\∀k' e,Has r.1 k' e->Has t k' e\/(k'=k/\e=v/\v≠0):=by
 obtain⟨r',j,m,_,o⟩:=MD hT k v;rw[h] at j;cases j;refine⟨m,?_⟩;have g:∀(i:Nat) (p:c8) (y:Int),i<t.length->own (t.set i p) y+(if (pt t i).State=1/\(pt t i).Val=y/\y≠0 then 1 else 0)=own t y+if p.State=1/\p.Val=y/\y≠0 then 1 else 0:=λi p y hi=>by
  have key:∀q:c8,(if ((q.State==1)&&((y != 0)&&(q.Val==y)))=true then 1 else 0:Nat)=if q.State=1/\q.Val=y/\y≠0 then 1 else 0:=λq=>by
   by_cases c:q.State=1/\q.Val=y/\y≠0
   .rw[zc c,zc (by simp[c.1,c.2.1,c.2.2])]
   .rw[za c,za (by simp only[zo,wl,zcr,ne_eq];exact λq=>c ⟨q.1,q.2.2,q.2.1⟩)]
  have:=On hi p y;rw[key,key] at this;exact this
 rcases o with ⟨_,rfl⟩ | ⟨hk,hv,⟨i,hi,rfl⟩ | ⟨hn,rfl⟩⟩ | ⟨hk,hv,⟨i,hi,rfl⟩ | ⟨d,hn,hd,hf,hp,rfl⟩ | ⟨hn,ha,rfl⟩⟩;·simp at h0
 .refine⟨λy=>?_,λk' e q=>.inl ((Br hT hi k' e).1 q).2⟩;have:=g i ⟨2,0,0⟩ y hi.1;rw[K8,K8,W6];subst hv;dsimp only at this |-;rw[za (show ¬((2:Int)=1/\(0:Int)=y/\y≠0) by omega)] at this;rw[za (show ¬((0:Int)=y/\y≠0) by omega)];simp only[hi.2.1,true_and] at this;omega
 .refine⟨λy=>?_,λk' e q=>.inl q⟩;rw[hv]
 .refine⟨λy=>?_,λk' e q=>?_⟩
  .have:=g i ⟨1,k,v⟩ y hi.1;rw[K8,K8,W6];simp only[hi.2.1,true_and] at this;dsimp only;omega
  .rcases (GO hT (.old i hi) rfl k' e).1 q with ⟨a,b⟩ | ⟨_,b⟩;·exact .inr ⟨a,b,hv⟩
   .exact .inl b
 .refine⟨λy=>?_,λk' e q=>?_⟩
  .have:=g d ⟨1,k,v⟩ y hd;rw[K8,K8,W6];dsimp only;rw[za (show ¬((0:Int)=y/\y≠0) by omega)];simp only[hf,false_and,true_and,wf] at this;omega
  .rcases (GO hT hp rfl k' e).1 q with ⟨a,b⟩ | ⟨_,b⟩;·exact .inr ⟨a,b,hv⟩
   .exact .inl b
 .simp at h0
noncomputable def mN(x:Hp)(v:Int)(t:Tb)(old:Int):Hp:=W8 (wT (F2 x v) t) old
theorem Jo(hx:R9 x){k:Int}(hk:k∈lv x.S)(hv:v=0\/v∈lv x.S){r:Tb × Int × Int}(h:V0 x.T k v=some r)(h0:r.2.2=0):R9 (mN x v r.1 r.2.1):=by
 have Dy:=K2 hx.sh.sr v (f:=aq) λc=>G8;have l1:lv (F2 x v).S=lv x.S:=Dy.lv;obtain⟨p1,p2,o⟩:=TX hx.sh.hr h h0;refine um hx (λa b=>⟨a.table p1 λk' m q=>?_,b⟩) rfl (λ_ _=>rfl) (λj hj=>?_)
 .rw[l1];rcases o k' m q with q | ⟨rfl,rfl,g⟩
  .exact hx.sh.pr k' m q
  .exact⟨hk,hv.resolve_left g⟩
 .have e:ld (F2 x v).S j=ld x.S j:=Dy.ld hx.sh.sr j;have hrest:F2 x v=wS x (F2 x v).S:=xO x v;unfold sN rV;dsimp only;rw[show (F2 x v).Roots=x.Roots by rw[hrest],show (F2 x v).Q=x.Q by rw[hrest],e];have:=p2 j;omega
instance(s:a7)(h:Int)(i:Nat):Decidable (aY s h i):=by unfold aY;infer_instance
abbrev wkg(o:u0)(n:Int):u0:=⟨o.Serial,o.Strong,n,o.Prog,o.Started,o.Fields⟩
def rR(s:a7)(i:Nat)(d:Int):a7:=putAt s i (wkg (ce s i).Val ((ce s i).Val.Weak+d))
def Eh(s:a7)(i:Nat):a7:=K7 s i (if (ce s i).Gen=s.S.Last then ⟨3,(ce s i).Gen,z0⟩ else ⟨0,(ce s i).Gen+1,z0⟩)
def cX(s:a7)(i:Nat):Int:=1+(i:Int)+32*(ce s i).Gen
theorem Nu{s:a7}{i:Nat}(hi:i<s.S.a8.length)(ht:Th (ce s i)):aY s (cX s i) i:=⟨hi,ht,rfl⟩
theorem AE{s:a7}(hR:SR s){i:Nat}(hi:i<s.S.a8.length):1<=cX s i:=by
 have:=hR.cell i hi;unfold cX;omega
section
variable{s:a7}(hR:SR s){i:Nat}(hi:i<s.S.a8.length)(ht:Th (ce s i))
include hR hi ht
theorem BU{d:Int}(hd:0<=(ce s i).Val.Weak+d):SR (rR s i d):=by
 have:=hR.ok i hi ht;exact hR.put hi ht rfl ⟨this.s1,this.s2,this.st,hd,this.p1,this.p2,this.fl⟩
theorem iN(d:Int)(j:Nat):ce (rR s i d) j=if j=i then ⟨(ce s i).State,(ce s i).Gen,wkg (ce s i).Val ((ce s i).Val.Weak+d)⟩ else ce s j:=oc hi _ j
theorem oK{d:Int}(hd:0<=(ce s i).Val.Weak+d):Kn s (rR s i d):=by
 have hS:=BU hR hi ht hd;refine⟨hS,R5 ..,Ti hR hi rfl hS,λk j=>Aw hi _,λk hk=>?_⟩;have q:=C8 hR hk;rw[V5 hS ((Bk hi _).2 q),V5 hR q,iN hR hi ht];split
 .rename_i e;rw[e];exact⟨_,_,rfl⟩
 .exact⟨_,_,rfl⟩
theorem oM{d:Int}(hd:0<=(ce s i).Val.Weak+d){k:Int}(hk:k∈lv s):(ob (rR s i d) k).Strong=(ob s k).Strong:=by
 have hS:=BU hR hi ht hd;have q:=C8 hR hk;rw[V5 hS ((Bk hi _).2 q),V5 hR q,iN hR hi ht];split
 .rename_i e;rw[e]
 .rfl
omit ht in
theorem Gk:SR (Eh s i):=by
 have hc:=hR.cell i hi;have no:OZ (oo z0):=⟨rfl,rfl,rfl,rfl,rfl,rfl⟩;unfold Eh;split;·exact hR.K7 hi ⟨Ψ,Ψ,hc.2.2.1,hc.2.2.2⟩ (λ_=>no) (λq=>absurd q (by unfold Th;simp))
 .refine hR.K7 hi ⟨Ψ,Ψ,?_,?_⟩ (λ_=>no) (λq=>absurd q (by unfold Th;simp));·show 0<=(ce s i).Gen+1;omega
  .show (ce s i).Gen+1<=s.S.Last;omega
omit hR ht in
theorem Gg:∃c,(c.State=0\/c.State=3)/\Eh s i=K7 s i c/\∀j,ce (Eh s i) j=if j=i then c else ce s j:=by
 unfold Eh;split;·exact⟨_,.inr rfl,rfl,λj=>P5 hi _ j⟩
 .exact⟨_,.inl rfl,rfl,λj=>P5 hi _ j⟩
omit ht in
theorem Gi (g:(ce s i).State=2):lv (Eh s i)=lv s:=by
 obtain⟨c,c1,c2,_⟩:=Gg (s:=s) hi;have hS:=Gk hR hi;rw[c2] at hS |-;rw[NV hR hi Δ hS,zaz];intro h hh;rw[zG];intro e;have:=(C8 hR hh).2.1;rw[e] at this;omega
omit ht in
theorem Gj (g:(ce s i).State=2) {k:Int} (hk:k∈lv s):ob (Eh s i) k=ob s k:=by
 obtain⟨c,c1,c2,_⟩:=Gg (s:=s) hi;have hS:=Gk hR hi;rw[c2] at hS |-;refine Oe hR hi hS hk λe=>?_;have:=(C8 hR hk).2.1;rw[e] at this;omega
omit ht in
theorem a0I {k:Int} {j:Nat}:aY (Eh s i) k j↔aY s k j/\j≠i:=by
 obtain⟨c,c1,c2,g⟩:=Gg (s:=s) hi;by_cases e:j=i
 .subst e;constructor
  .rintro⟨_,h,_⟩;rw[g,zc rfl] at h;unfold Th at h;omega
  .rintro⟨_,h⟩;exact absurd rfl h
 .rw[c2,Rw hi c e];simp[e]
theorem WX(e:(ce s i).State=2)(y:Int):ld (Eh s i) y=ld s y:=by
 unfold ld;rw[Gi hR hi e];congr 1;refine we λx hx=>?_;unfold outs;rw[Gj hR hi e hx]
end
def mK(x:Hp)(h:Int)(d:Int):Hp:=if aY x.S h (G4 h) then wS x (rR x.S (G4 h) d) else x
def rp(x:Hp)(h:Int):Hp:=
 if aY x.S h (G4 h) then
  (if (ce x.S (G4 h)).State=2/\(ce x.S (G4 h)).Val.Weak=1 then wS x (Eh (rR x.S (G4 h) (-1)) (G4 h)) else wS x (rR x.S (G4 h) (-1)))
 else x
abbrev lE(h call:Int):l7:=⟨h,h != 0,call⟩
def wy(x:Hp)(w:Nat):Int:=(x.a8.getD w ⟨0,false,0⟩).Target
def gg(x:Hp)(w:Nat)(h call:Int):Hp:=rp (mK (wC x (x.a8.set w (lE h call))) h 1) (wy x w)
theorem Xu{l:List l7}{w:Nat}(hw:w<l.length)(c:l7){k:Int}(hk:k≠0):Ib (l.set w c) k+(if l[w].Target=k then 1 else 0)=Ib l k+if c.Target=k then 1 else 0:=by
 unfold Ib;rw[List.countP_set hw];have e:∀d:l7,(((k != 0)&&(d.Target==k))=true)=(d.Target=k):=λd=>by simp[hk]
 simp only[e];have:(if l[w].Target=k then 1 else 0)<=l.countP λc=>(k != 0)&&(c.Target==k):=by
  split
  .rename_i q;exact zbr.2 ⟨l[w],zk hw,by simp[q,hk]⟩
  .exact rg _
 omega
theorem vx{l:List l7}{i:Nat}(hi:i<l.length)(h0:l[i].Target≠0):0<Ib l l[i].Target:=zbr.2 ⟨l[i],zk hi,by simp[h0]⟩
theorem KF{x:Hp}(hx:R9 x){w:Nat}(hw:w<6){h call:Int}(hh:h=0\/h∈lv x.S)(hc : -1<=call/\call<=5)(hq:QQ x.Q w=false):R9 (gg x w h call):=by
 have hR:=hx.sh.sr;have hwl:w<x.a8.length:=by rw[hx.sh.c6];exact hw
 have htg:wy x w=x.a8[w].Target:=by
  unfold wy;rw[zg,zd hwl];rfl
 have s1:pY (wC x (x.a8.set w (lE h call))):=by
  have:=hx.sh;refine⟨this.sr,this.hr,this.r6,Ω this.c6,this.cap,this.q30,this.tk,this.td,this.rt,this.fl,this.pr,λi hi=>?_⟩;dsimp only at hi |-;rw[zcc];rw[zas] at hi;split
  .rename_i e;subst e;dsimp only;refine⟨hc.1,hc.2,λq=>by simp[q],λq=>?_,λq=>?_⟩;·exact⟨_,(C8 hR (hh.resolve_left q)).d⟩
   .have q:h≠0:=by simpa using q
    exact⟨hh.resolve_left q,hq⟩
  .exact this.cl i hi
 have k2:∃s2,mK (wC x (x.a8.set w (lE h call))) h 1=wS (wC x (x.a8.set w (lE h call))) s2/\Kn x.S s2/\(∀k∈lv x.S,(ob s2 k).Strong=(ob x.S k).Strong) /\
   ∀i,i<x.S.S.a8.length->(ce s2 i).State=(ce x.S i).State/\(ce s2 i).Gen=(ce x.S i).Gen/\(ce s2 i).Val.Fields=(ce x.S i).Val.Fields/\(ce s2 i).Val.Strong=(ce x.S i).Val.Strong/\(Th (ce x.S i)->(ce s2 i).Val.Weak=(ce x.S i).Val.Weak+if h=cX x.S i then 1 else 0):=by
  unfold mK;rcases hh with h0 | hh
  .have hno:¬aY x.S h (G4 h):=λq=>by have:=q.Us hR;omega
   rw[za hno];refine⟨x.S,rfl,(yO.refl hR).kn hR,λ_ _=>rfl,λi hi=>⟨rfl,rfl,rfl,rfl,λht=>?_⟩⟩;have:=AE hR hi;rw[za Δ];omega
  .have hp:=C8 hR hh;have hwk:=(hR.ok _ hp.1 (.inl hp.2.1)).wk;rw[zc hp.d];refine⟨_,rfl,oK hR hp.1 (.inl hp.2.1) Δ,λk hk=>oM hR hp.1 (.inl hp.2.1) Δ hk,λi hi=>?_⟩;rw[iN hR hp.1 (.inl hp.2.1)];split
   .rename_i e;subst e;refine⟨rfl,rfl,rfl,rfl,λ_=>?_⟩;rw[zc (show h=cX x.S (G4 h) from hp.2.2)]
   .rename_i e;refine⟨rfl,rfl,rfl,rfl,λht=>?_⟩;rw[za];·omega
    .intro q;exact e (aY.one hR (q▸Nu hi ht) hp.d)
 obtain⟨s2,e2,C,st2,r⟩:=k2;have R:=C.sr;have len2:=C.len;have hS2:pY (wS (wC x (x.a8.set w (lE h call))) s2):=s1.kn C;have H:∀i,i<x.S.S.a8.length->cX s2 i=cX x.S i:=λi hi=>by unfold cX;rw[(r i hi).2.1]
 have th2:∀i,i<x.S.S.a8.length->(Th (ce s2 i)↔Th (ce x.S i)):=λi hi=>by unfold Th;rw[(r i hi).1]
 have wk2:∀i,i<x.S.S.a8.length->Th (ce x.S i)->(ce s2 i).Val.Weak=(Ib (x.a8.set w (lE h call)) (cX x.S i):Int)+if wy x w=cX x.S i then 1 else 0:=λi hi ht=>by
  have h0:cX x.S i≠0:=by have:=AE hR hi;omega
  have:=Xu hwl (lE h call) h0;rw[(r i hi).2.2.2.2 ht,(hx.wk i hi ht).1,htg];dsimp only at this;unfold cX at this |-;by_cases a:h=1+(i:Int)+32*(ce x.S i).Gen <;> by_cases b:x.a8[w].Target=1+(i:Int)+32*(ce x.S i).Gen
  .rw[zc a,zc b] at *;omega
  .rw[zc a,za b] at *;omega
  .rw[za a,zc b] at *;omega
  .rw[za a,za b] at *;omega
 have V:∀i,i<x.S.S.a8.length->(ce s2 i).State=2->(ce s2 i).Val.Fields = []/\(ce s2 i).Val.Strong=0:=λi hi q=>by
  obtain⟨a,_,b,c,_⟩:=r i hi;rw[a] at q;rw[b,c];exact ((hx.wk i hi (.inr q)).2 q).2
 have nms2:∀k,sN (wS (wC x (x.a8.set w (lE h call))) s2) k=sN x k:=λk=>by
  unfold sN rV;dsimp only;rw[C.ld]
 have fair2:ed (wS (wC x (x.a8.set w (lE h call))) s2) []:=hx.fair.mv C.lv st2 λk _=>by rw[nms2]
 unfold gg;rw[e2];unfold rp;dsimp only;by_cases T:wy x w=0
 .have hno:¬aY s2 (wy x w) (G4 (wy x w)):=λq=>by have:=q.Us R;omega
  rw[za hno];refine⟨hS2,λi hi ht=>?_,fair2⟩;dsimp only at hi ht |-;rw[len2] at hi;have o:=(th2 i hi).1 ht;have h0:=AE hR hi;have hw2:=wk2 i hi o;rw[za Δ] at hw2;rw[show (1+(i:Int)+32*(ce s2 i).Gen)=cX x.S i from H i hi];refine⟨Δ,λq=>⟨?_,V i hi q⟩⟩;have q':(ce x.S i).State=2:=by rw[<-(r i hi).1];exact q
  have:=((hx.wk i hi o).2 q').1;rw[(r i hi).2.2.2.2 o];split <;> omega
 .obtain⟨p,hp⟩:∃p,aY x.S (wy x w) p:=by
   rw[htg] at T |-;exact (hx.sh.cl w hwl).2.2.2.1 T
  have hpp:=hp.G4 hR;have K:aY s2 (wy x w) p:=(C.ad _ _).2 hp;have hth:wy x w=cX x.S p:=hp.2.2;rw[hpp,zc K];have E:=K.1;have hw2:=wk2 p hp.1 hp.2.1;rw[zc hth] at hw2;have hd:0<=(ce s2 p).Val.Weak+(-1):=Δ
  have B:=oK R E K.2.1 hd;have G:=B.sr;have N:=iN R E K.2.1 (-1);have g:pY (wS (wC x (x.a8.set w (lE h call))) (rR s2 p (-1))):=hS2.kn B;have fair3:ed (wS (wC x (x.a8.set w (lE h call))) (rR s2 p (-1))) []:=fair2.mv B.lv (λk hk=>oM R E K.2.1 hd hk) λk _=>by
   unfold sN rV;dsimp only;rw[B.ld]
  have wk3:∀i,i<x.S.S.a8.length->Th (ce x.S i)->(ce (rR s2 p (-1)) i).Val.Weak=(Ib (x.a8.set w (lE h call)) (cX x.S i):Int):=λi hi ht=>by
   rw[N];by_cases e:i=p
   .subst e;rw[zc rfl];dsimp only;omega
   .rw[za e,wk2 i hi ht,za];·omega
    .intro q;exact e (aY.one hR (q▸Nu hi ht) hp)
  have m:∀i,(ce (rR s2 p (-1)) i).State=(ce s2 i).State/\(ce (rR s2 p (-1)) i).Gen=(ce s2 i).Gen/\(ce (rR s2 p (-1)) i).Val.Fields=(ce s2 i).Val.Fields/\(ce (rR s2 p (-1)) i).Val.Strong=(ce s2 i).Val.Strong:=λi=>by
   rw[N];split
   .rename_i e;subst e;exact⟨rfl,rfl,rfl,rfl⟩
   .exact⟨rfl,rfl,rfl,rfl⟩
  by_cases hg:(ce s2 p).State=2/\(ce s2 p).Val.Weak=1
  .-- the slot is given back
   rw[zc hg];have A:p<(rR s2 p (-1)).S.a8.length:=by rw[B.len];exact E
   have P:(ce (rR s2 p (-1)) p).State=2:=by rw[(m p).1];exact hg.1
   have hn0:Ib (x.a8.set w (lE h call)) (wy x w)=0:=by rw[hth];omega
   have F:=Gi G A P;have hob:=λk hk=>Gj (k:=k) G A P hk;obtain⟨c,c1,c2,c3⟩:=Gg (s:=rR s2 p (-1)) A;refine⟨⟨Gk G A,g.hr,g.r6,g.c6,g.cap,g.q30,λt htt=>?_,g.td,λv hv=>?_,λv hv u hu=>?_,λk v hkv=>?_,λi hi=>?_⟩,λi hi ht=>?_,?_⟩
   .obtain⟨a,b,d⟩:=g.tk t htt;refine⟨a,b,?_⟩;dsimp only at d |-;rw[F];rcases d with ⟨d1,d2,d3⟩ | d;·exact .inl ⟨d1,d2,by rw[hob _ d2];exact d3⟩
    .exact .inr d
   .dsimp only;rw[F];exact g.rt v hv
   .dsimp only at hv hu |-;rw[F] at hv |-;rw[hob _ hv] at hu;exact g.fl v hv u hu
   .dsimp only;rw[F];exact g.pr k v hkv
   .obtain⟨a1,a2,a3,a4,a5⟩:=g.cl i hi;refine⟨a1,a2,a3,λq=>?_,λq=>?_⟩
    .obtain⟨j,hj⟩:=a4 q;refine⟨j,(a0I G A).2 ⟨hj,λe=>?_⟩⟩;subst e;have e1:=(C.ad _ _).1 ((B.ad _ _).1 hj);have e2:(x.a8.set w (lE h call))[i].Target=wy x w:=e1.2.2.trans hp.2.2.symm;have:=vx hi q;dsimp only at this;rw[e2] at this;omega
    .dsimp only;rw[F];exact a5 q
   .dsimp only at hi ht |-;rw[show (Eh (rR s2 p (-1)) p).S.a8.length=x.S.S.a8.length by rw[c2,aX,B.len,len2]] at hi;rw[c3] at ht |-;split at ht;·unfold Th at ht;omega
    .rename_i e;rw[za e];have o:Th (ce x.S i):=(th2 i hi).1 (by unfold Th at ht |-;rw[(m i).1] at ht;exact ht);have:=wk3 i hi o;rw[show (1+(i:Int)+32*(ce (rR s2 p (-1)) i).Gen)=cX x.S i by rw[(m i).2.1];exact H i hi];refine⟨this,λq=>?_⟩;rw[(m i).1] at q;rw[(m i).2.2.1,(m i).2.2.2,N,za e];refine⟨?_,V i hi q⟩;have q':(ce x.S i).State=2:=by rw[<-(r i hi).1];exact q
     have:=((hx.wk i hi o).2 q').1;rw[(r i hi).2.2.2.2 o];split <;> omega
   .refine fair3.mv F (λk hk=>by rw[hob k hk]) λk _=>?_;unfold sN rV;dsimp only;rw[WX G A (.inr P) P]
  .rw[za hg];refine⟨g,λi hi ht=>?_,fair3⟩;dsimp only at hi ht |-;rw[B.len,len2] at hi;have o:Th (ce x.S i):=(th2 i hi).1 (by unfold Th at ht |-;rw[(m i).1] at ht;exact ht);have:=wk3 i hi o;rw[show (1+(i:Int)+32*(ce (rR s2 p (-1)) i).Gen)=cX x.S i by rw[(m i).2.1];exact H i hi];refine⟨this,λq=>?_⟩;rw[(m i).1] at q;rw[(m i).2.2.1,(m i).2.2.2];refine⟨?_,V i hi q⟩;rw[N];split
   .rename_i e;subst e;dsimp only;have:(ce s2 i).Val.Weak≠1:=λq2=>hg ⟨q,q2⟩;omega
   .have q':(ce x.S i).State=2:=by rw[<-(r i hi).1];exact q
    have:=((hx.wk i hi o).2 q').1;rw[(r i hi).2.2.2.2 o];split <;> omega
def uw(c:l7):u6:=⟨c.Target,c.Intact,c.Call⟩
def hO(x:Hp):e6:=⟨sO x.S,x.Roots,x.a8.map uw,x.T.map O2,sW x.Q⟩
structure HB (x:Hp):Prop where
 sb:SB x.S
 fb:FB x.S
 rb:LB x.Roots
 cb:∀c∈x.a8,c.Target<=9223372036854775807
 tb:TB x.T
 qb:∀t∈x.Q.L,t.At<=9223372036854775807
theorem Tf{β:Type}{b:Nat}{f:Int × List β->Option ((Int × List β) ⊕ List β)}(n:Nat)(g:Nat->β)(hb:0<b)(h:n*b<=140737488355328)
  (hs:∀(k:Nat) acc,k<n->f ((k:Int),acc)=(app b acc [g k]).bind λv=>some (.inl (z8 ((k:Int)+1),v)))(he:∀acc,f ((n:Int),acc)=some (.inr acc)):lp f (0,[])=some ((List.range n).map g):=by
 have hl:n*1<=n*b:=Nat.mul_le_mul_left _ hb;refine cP (gu n (λk l=>l=(List.range k).map g) (λe=>e=(List.range n).map g) Δ Ψ ?_ ?_)
 .rintro k l hk rfl;have j:(k+1)*b<=n*b:=zp _ hk;refine .inl ⟨(List.range (k+1)).map g,?_,rfl⟩;rw[hs k _ hk,B5 hb Ξ,a4L,p9,List.range_succ,n7];rfl
 .rintro l rfl;exact⟨_,he _,rfl⟩
theorem UD{s:a7}(hR:SR s){h:Int}(hh:h∈lv s):eK s h (ob s h)=s:=by
 have q:=C8 hR hh;unfold eK putAt;rw[V5 hR q];have e:s.S.a8.set (G4 h) ⟨(ce s (G4 h)).State,(ce s (G4 h)).Gen,(ce s (G4 h)).Val⟩=s.S.a8:=by
  rw[show (⟨(ce s (G4 h)).State,(ce s (G4 h)).Gen,(ce s (G4 h)).Val⟩:c5)=ce s (G4 h) from rfl,I0 q.1];exact List.set_getElem_self q.1
 rw[e]
section
variable{x:Hp}(hR:SR x.S)
include hR
theorem SP{h:Int}(hh:h<=9223372036854775807):la x h=some (decide (h∈lv x.S)):=by
 unfold la;obtain⟨e,g,j⟩:=Y8 (A6.2 hR) hh;rw[g,a4L];congr 1;rw[zao,wl,zG,j]
theorem AI{h:Int}(hh:h<=9223372036854775807):gB (hO x) h=some (decide (h∈lv x.S)):=by
 unfold gB;obtain⟨e,g,j⟩:=Y8 (A6.2 hR) hh;rw[show (hO x).S=sO x.S from rfl,mw x.S ΩL hh,g,ww,a4L];congr 1;rw[zao,wl,zG,j]
theorem gv{h:Int}(hh:h<=9223372036854775807):P7 x h=some (decide (h=0\/h∈lv x.S)):=by
 unfold P7;by_cases q:h=0
 .subst q;simp[B8]
 .have e:(h==0)=false:=by simpa using q
  rw[e];simp only[qr,iv,zbv];rw[SP hR hh,a4L];simp[q]
theorem vr{h:Int}(hh:h<=9223372036854775807):eF (hO x) h=some (decide (h=0\/h∈lv x.S)):=by
 unfold eF;by_cases q:h=0
 .subst q;simp[B8]
 .have e:(h==0)=false:=by simpa using q
  rw[e];simp only[qr,iv,zbv];rw[AI hR hh,a4L];simp[q]
theorem a0Q{c:Int}(hc:c<=9223372036854775807):rC c=some (aq c):=by
 unfold rC jM J8 aq;simp only[a4L];by_cases q:12<=c
 .rw[zc (Ω q),zc q,a4L]
 .rw[za (Ω q),za q,a4L];by_cases e:c<0
  .rw[zc (show 0 > c from e),zc e];rfl
  .rw[za (show ¬0 > c from e),za e,E3 Δ Δ]
theorem IJ{c:Int}(hc:c<=9223372036854775807):vG c=some (aq c):=by
 unfold vG cI aq;simp only[a4L];by_cases q:12<=c
 .rw[zc (Ω q),zc q]
 .rw[za (Ω q),za q];by_cases e:c<0
  .rw[zc (Ω e),zc e]
  .rw[za (Ω e),za e,E3 Δ Δ]
omit hR in
theorem Ue {s:a7} (hR:SR s) {h:Int} (hh:h∈lv s) {n:Int} (hn:0<=n):O8 s h (ET (ob s h) n)=some (eK s h (ET (ob s h) n),0):=by
 have:=N5 hR hh;exact wq (o:=ET (ob s h) n) hR hh rfl ⟨this.s1,this.s2,hn,this.wk,this.p1,this.p2,this.fl⟩
omit hR in
theorem wu {s:a7} (hR:SR s) {h:Int} (hh:h∈lv s) {o:u0} (hs:o.Serial=(ob s h).Serial) (ho:Dm s o):R7 (sO s) h (oo o)=some (sO (eK s h o),0):=by
 have:=L5 hR hh;rw[UI s hR.len Δ o,wq hR hh hs ho];rfl
theorem ns{h:Int}(hh:h<=9223372036854775807)(hB:∀k∈lv x.S,(ob x.S k).Strong<=9223372036854775807):bR x h=some (F2 x h):=by
 unfold bR al F2 wx;obtain⟨e,m,g⟩:=Y8 (A6.2 hR) hh;rw[m,a4L];by_cases q:h∈lv x.S
 .have j:=g.2 q;subst j;rw[zc q,a0Q hR (hB h q)];simp only[qr,wd,a4L];have:=Ue hR q (G8 (N5 hR q).st);rw[this];rfl
 .have:(e==0)=false:=by simpa using λc=>q (g.1 c)
  rw[this,za q];rfl
theorem qW{h:Int}(hh:h<=9223372036854775807)(hB:∀k∈lv x.S,(ob x.S k).Strong<=9223372036854775807):bY (hO x) h=some (hO (F2 x h)):=by
 unfold bY kf F2 wx;obtain⟨e,m,g⟩:=Y8 (A6.2 hR) hh;have r:K0 (hO x).S h=some (oo (ob x.S h),e):=by
  rw[show (hO x).S=sO x.S from rfl,mw x.S ΩL hh,m];rfl
 rw[r,a4L];by_cases q:h∈lv x.S
 .have j:=g.2 q;subst j;have hs:vG (oo (ob x.S h),(0:Int)).1.Strong=some (aq (ob x.S h).Strong):=IJ hR (hB h q);rw[zc q,hs,a4L];simp only[a4L,za6,zj,wf];have ok:=N5 hR q;have:=wu (o:=ET (ob x.S h) (aq (ob x.S h).Strong)) hR q rfl ⟨ok.s1,ok.s2,G8 ok.st,ok.wk,ok.p1,ok.p2,ok.fl⟩;rw[show R7 (hO x).S h ⟨(oo (ob x.S h)).Serial,aq (ob x.S h).Strong,(oo (ob x.S h)).Weak,(oo (ob x.S h)).Prog,(oo (ob x.S h)).Started,(oo (ob x.S h)).Fields⟩=_ from this];rfl
 .have he:(e != 0)=true:=by simpa using λc=>q (g.1 c)
  have hb:(oo (ob x.S h)).Strong<=9223372036854775807:=by
   rw[tv (A6.2 hR) hh q];decide
  rw[IJ hR hb,a4L,a4L];simp only[he,wd];rw[za q];rfl
omit hR in
theorem a0m (c:Int) (g : -1000000<=c):fp c=some (mq c):=by
 unfold fp wZ gp J8 mq;simp only[a4L];by_cases q:12<=c
 .rw[zc (Ω q),zc q];rfl
 .rw[za (Ω q),za q];by_cases e:c<1
  .rw[zc (Ω e),zc e];rfl
  .rw[za (Ω e),za e,E3 Δ Δ];rfl
theorem gF{h:Int}(hh:h<=9223372036854775807):F9 x h=some (W8 x h):=by
 unfold F9 T3 W8 wx;obtain⟨e,m,g⟩:=Y8 (A6.2 hR) hh;rw[m,a4L];by_cases q:h∈lv x.S
 .have j:=g.2 q;subst j;have ok:=N5 hR q;rw[zc q,a0m _ (by have:=ok.st;dsimp only;omega)];simp only[qr,wd,a4L];have:=Ue hR q (U4 ok.st);rw[this];rfl
 .have:(e==0)=false:=by simpa using λc=>q (g.1 c)
  rw[this,za q];rfl
theorem jD{h:Int}(hh:h<=9223372036854775807):H5 (hO x) h=some (hO (W8 x h)):=by
 unfold H5 kf W8 wx;obtain⟨e,u,m⟩:=Y8 (A6.2 hR) hh;have A:K0 (hO x).S h=some (oo (ob x.S h),e):=by
  rw[show (hO x).S=sO x.S from rfl,mw x.S ΩL hh,u];rfl
 rw[A,a4L];by_cases q:h∈lv x.S
 .have r:=m.2 q;subst r;have ok:=N5 hR q;have put:∀n,0<=n->R7 (hO x).S h ⟨(oo (ob x.S h)).Serial,n,(oo (ob x.S h)).Weak,(oo (ob x.S h)).Prog,(oo (ob x.S h)).Started,(oo (ob x.S h)).Fields⟩=some (sO (eK x.S h (ET (ob x.S h) n)),0):=λn hn=>
   wu (o:=ET (ob x.S h) n) hR q rfl ⟨ok.s1,ok.s2,hn,ok.wk,ok.p1,ok.p2,ok.fl⟩
  have hs:(oo (ob x.S h)).Strong=(ob x.S h).Strong:=rfl;rw[zc q];unfold AO cI mq;simp only[a4L,hs];by_cases g:12<=(ob x.S h).Strong
  .rw[zc (Ω g),zc g];simp only[a4L,za6,zj,wf];rw[put 12 Θ];rfl
  .rw[za (Ω g),za g];by_cases j:(ob x.S h).Strong<1
   .rw[zc (Ω j),zc j];simp only[a4L,show ((11:Int) != 0)=true from rfl,wd];rw[show ET (ob x.S h) (ob x.S h).Strong=ob x.S h from rfl,UD hR q]
   .rw[za (Ω j),za j,E3 Δ (by have:=ok.st;omega)];simp only[a4L,za6,zj,wf];rw[put _ Δ];rfl
 .have he:(e != 0)=true:=by simpa using λc=>q (m.1 c)
  rw[za q,tv (A6.2 hR) hh q];unfold AO cI;simp only[a4L];rfl
end
theorem QK{x:Hp}(hR:SR x.S)(hB:SB x.S):∀k∈lv x.S,(ob x.S k).Strong<=9223372036854775807:=λk hk=>(xX (A6.2 hR) hB hk).2
theorem nv(x:Hp)(h:Int):(F2 x h).Roots=x.Roots/\(F2 x h).a8=x.a8/\(F2 x h).T=x.T/\(F2 x h).Q=x.Q:=by
 rw[xO];exact⟨rfl,rfl,rfl,rfl⟩
theorem iR{x:Hp}(hR:SR x.S)(h:Int):SR (F2 x h).S:=(K2 hR h λc=>G8).sr
section
variable{x:Hp}(hx:R9 x)(hS:∀k∈lv x.S,(ob x.S k).Strong<=9223372036854775807)
include hx hS
theorem vm{h:Int}(hh:h=0\/h∈lv x.S):h<=9223372036854775807:=by
 rcases hh with q | q
 .omega
 .have:=L5 hx.sh.sr q;omega
theorem OF(k:Int){h:Int}(hh:h<=9223372036854775807):cE x k h=some (if k<0\/5<k then (x,6) else if h=0\/h∈lv x.S then (K1 x k.toNat h,0) else (x,3)):=by
 have hR:=hx.sh.sr;have r6:=hx.sh.r6;unfold cE;by_cases hk:k<0\/5<k
 .rw[zc hk,zc Ω8]
 .rw[za hk,za Ω8,gv hR hh,a4L];by_cases hn:h=0\/h∈lv x.S
  .rw[zc hn,zB hn,za Ψ];obtain⟨n,rfl⟩:∃n:Nat,k=n:=⟨k.toNat,Δ⟩;have m:n<6:=by omega
   have hnl:n<x.Roots.length:=Δ
   have old:x.Roots[n]<=9223372036854775807:=vm hx hS (hx.sh.rt _ (zk hnl));have g:=nv x h;have j:n<(F2 x h).Roots.length:=by rw[g.1];exact hnl
   rw[x8 hnl,a4L];unfold I5 V7 Q8;rw[ns hR hh hS,a4L];dsimp only;rw[P4 Δ (by rw[g.1];omega),a4L,x8 j,a4L,a4L];have e:=gF (x:=wR (F2 x h) (x.Roots.set n h)) (iR hR h) old;rw[zO,g.1,show F9 ⟨(F2 x h).S,x.Roots.set n h,(F2 x h).a8,(F2 x h).T,(F2 x h).Q⟩ x.Roots[n]=_ from e];unfold K1;rw[zg,zd hnl];rfl
  .rw[za hn,zH hn,zc Ψ]
theorem Mv(k:Int){h:Int}(hh:h<=9223372036854775807):ax (hO x) k h=some (if k<0\/5<k then (hO x,6) else if h=0\/h∈lv x.S then (hO (K1 x k.toNat h),0) else (hO x,3)):=by
 have hR:=hx.sh.sr;have r6:=hx.sh.r6;unfold ax;by_cases hk:k<0\/5<k
 .rw[zc hk,zc Ξ]
 .rw[za hk,za Ξ,vr hR hh,a4L];by_cases hn:h=0\/h∈lv x.S
  .rw[zc hn,zB hn,za Ψ];obtain⟨n,rfl⟩:∃n:Nat,k=n:=⟨k.toNat,Δ⟩;have hnl:n<x.Roots.length:=by omega
   have e:n<(hO x).Roots.length:=hnl;have old:x.Roots[n]<=9223372036854775807:=vm hx hS (hx.sh.rt _ (zk hnl));have j:=nv x h;have r6':(hO x).Roots.length=6:=r6;rw[x8 e,a4L,qW hR hh hS,a4L,P4 Δ (by rw[r6'];omega),a4L,x8 e,a4L];have g:=jD (x:=wR (F2 x h) (x.Roots.set n h)) (iR hR h) old;rw[zO];rw[show H5 ⟨(hO (F2 x h)).S,(hO x).Roots.set n h,(hO (F2 x h)).a8,(hO (F2 x h)).T,(hO (F2 x h)).Q⟩ (hO x).Roots[n]=_ from g];unfold K1;rw[zg,zd hnl];rfl
  .rw[za hn,zH hn,zc Ψ]
omit hx hS in
theorem a2r {l:List Int} {n:Nat} (hn:n<l.length):rq l n=some (l[n],0)/\xF l n=some (l[n],0):=by
 constructor
 .unfold rq pG;rw[a4L,za Ξ,x8 hn,a4L]
 .unfold xF;rw[za Ξ,x8 hn,a4L]
omit hx hS in
theorem YN {l:List Int} {k:Int} (hk:¬(0<=k/\k<l.length)):rq l k=some (0,5)/\xF l k=some (0,5):=by
 constructor
 .unfold rq pG;rw[a4L,zc Ξ]
 .unfold xF;rw[zc Ξ]
theorem yk(h k:Int)(hh:h<=9223372036854775807):(∃e,e≠0/\Y2 x.S h k=some (0,e)/\gy (sO x.S) h k=some (0,e)) \/
  (h∈lv x.S/\∃n:Nat,k=n/\∃hn:n<(ob x.S h).Fields.length,Y2 x.S h k=some ((ob x.S h).Fields[n],0)/\gy (sO x.S) h k=some ((ob x.S h).Fields[n],0)):=by
 have hR:=hx.sh.sr;obtain⟨e,g,j⟩:=Y8 (A6.2 hR) hh;have m:K0 (sO x.S) h=some (oo (ob x.S h),e):=by
  rw[mw x.S ΩL hh,g];rfl
 unfold Y2 gy;rw[g,a4L,m,a4L];by_cases q:h∈lv x.S
 .have:=j.2 q;subst this;rw[za Ψ,za Ψ,show (oo (ob x.S h),(0:Int)).1.Fields=(ob x.S h).Fields from rfl];by_cases hk:0<=k/\k<(ob x.S h).Fields.length
  .right;obtain⟨n,rfl⟩:∃n:Nat,k=n:=⟨k.toNat,Δ⟩;have hn:n<(ob x.S h).Fields.length:=by omega
   refine⟨q,n,rfl,hn,?_,?_⟩
   .rw[(a2r hn).1];rfl
   .rw[(a2r hn).2];rfl
  .left;refine⟨5,Θ,?_,?_⟩
   .rw[(YN hk).1];rfl
   .rw[(YN hk).2];rfl
 .left;have he:(e != 0)=true:=by simpa using λc=>q (j.1 c)
  refine⟨e,Ω he,?_,?_⟩;·simp only[he,wd]
  .simp only[he,wd]
theorem Ud{s:a7}(hR:SR s){h:Int}(hh:h∈lv s){n:Nat}(hn:n<(ob s h).Fields.length)(v:Int) :
  sz s h n v=some (eK s h (rJ (ob s h) ((ob s h).Fields.set n v)),0)/\AQ (sO s) h n v=some (sO (eK s h (rJ (ob s h) ((ob s h).Fields.set n v))),0):=by
 have ok:=N5 hR hh;have hf:=ok.fl;have r:=L5 hR hh;have ho:Dm s (rJ (ob s h) ((ob s h).Fields.set n v)):=⟨ok.s1,ok.s2,ok.st,ok.wk,ok.p1,ok.p2,Ω hf⟩;have j:=wq (o:=rJ (ob s h) ((ob s h).Fields.set n v)) hR hh rfl ho;have m:=wu (o:=rJ (ob s h) ((ob s h).Fields.set n v)) hR hh rfl ho;constructor
 .unfold sz;rw[BR (A6.2 hR) hh,a4L,za Ψ];unfold CX pG;dsimp only;rw[a4L,za Ξ,mJ Δ Δ,a4L];have e:yT (List.replicate (ob s h).Fields.length (0:Int)) (ob s h).Fields=some (ob s h).Fields:=by
   unfold yT;rw[zc Ψ];simp
  rw[e,a4L,x8 hn,a4L,a4L,za Ψ,zO];dsimp only;rw[show O8 s h ⟨(ob s h).Serial,(ob s h).Strong,(ob s h).Weak,(ob s h).Prog,(ob s h).Started,(ob s h).Fields.set n v⟩=_ from j];rfl
 .unfold AQ;rw[mw s ΩL Δ,BR (A6.2 hR) hh,ww,a4L,za Ψ];unfold Co;have g:n<(oo (ob s h)).Fields.length:=hn;have q:(oo (ob s h)).Fields.length<=4:=hf;dsimp only;rw[za Ξ,P4 Δ Δ,a4L,x8 g,a4L,a4L,za Ψ,zO];dsimp only;rw[show R7 (sO s) h ⟨(oo (ob s h)).Serial,(oo (ob s h)).Strong,(oo (ob s h)).Weak,(oo (ob s h)).Prog,(oo (ob s h)).Started,(oo (ob s h)).Fields.set n v⟩=_ from m];rfl
theorem Sf(h k v:Int)(hh:h<=9223372036854775807)(hv:v<=9223372036854775807) :
  (∃e,e≠0/\bQ x h k v=some (x,e)/\jC (hO x) h k v=some (hO x,e)) \/
  (h∈lv x.S/\(v=0\/v∈lv x.S)/\∃n:Nat,k=n/\n<(ob x.S h).Fields.length/\bQ x h k v=some (dQ x h n v,0)/\jC (hO x) h k v=some (hO (dQ x h n v),0)):=by
 have hR:=hx.sh.sr;unfold bQ jC;rcases yk hx hS h k hh with ⟨e,he,f1,f2⟩ | ⟨hl,n,rfl,hn,f1,f2⟩
 .left;have A:(e != 0)=true:=by simpa using he
  refine⟨e,he,?_,?_⟩;·rw[f1,a4L,zc A]
  .rw[show (hO x).S=sO x.S from rfl,f2,a4L,zc A]
 .rw[f1,a4L,za Ψ,show (hO x).S=sO x.S from rfl,f2,a4L,za Ψ,gv hR hv,a4L,vr hR hv,a4L];by_cases j:v=0\/v∈lv x.S
  .right;refine⟨hl,j,n,rfl,hn,?_⟩;rw[zB j,za Ψ,za Ψ];have Dy:=K2 hR v (f:=aq) λc=>G8;have q:SR (F2 x v).S:=Dy.sr;have r:h∈lv (F2 x v).S:=by rw[show lv (F2 x v).S=lv x.S from Dy.lv];exact hl
   have u:(ob (F2 x v).S h).Fields=(ob x.S h).Fields:=by
    obtain⟨m,e⟩:=Dy.ob h hh;show (ob (wx x v aq).S h).Fields=_;rw[e]
   have C:n<(ob (F2 x v).S h).Fields.length:=by rw[u];exact hn
   have old:(ob x.S h).Fields[n]<=9223372036854775807:=vm hx hS (hx.sh.fl h hl _ (zk hn));have ok:=N5 q r;have B:SR (eK (F2 x v).S h (rJ (ob (F2 x v).S h) ((ob (F2 x v).S h).Fields.set n v))):=de (o:=rJ (ob (F2 x v).S h) ((ob (F2 x v).S h).Fields.set n v)) q r rfl ⟨ok.s1,ok.s2,ok.st,ok.wk,ok.p1,ok.p2,Ω ok.fl⟩;obtain⟨p1,p2⟩:=Ud hx hS q r C v;have hd:(ob x.S h).Fields.getD n 0=(ob x.S h).Fields[n]:=by
    rw[zg,zd hn];rfl
   constructor
   .unfold M2 cY;rw[ns hR hv hS,a4L];dsimp only;rw[p1,a4L,a4L];have g:=gF (x:=wS (F2 x v) (eK (F2 x v).S h (rJ (ob (F2 x v).S h) ((ob (F2 x v).S h).Fields.set n v)))) B old;rw[show F9 ⟨eK (F2 x v).S h (rJ (ob (F2 x v).S h) ((ob (F2 x v).S h).Fields.set n v)),(F2 x v).Roots,(F2 x v).a8,(F2 x v).T,(F2 x v).Q⟩ (ob x.S h).Fields[n]=_ from g];unfold dQ;rw[hd,u];rfl
   .rw[qW hR hv hS,a4L,show (hO (F2 x v)).S=sO (F2 x v).S from rfl,p2,a4L];have g:=jD (x:=wS (F2 x v) (eK (F2 x v).S h (rJ (ob (F2 x v).S h) ((ob (F2 x v).S h).Fields.set n v)))) B old;dsimp only;rw[show H5 ⟨sO (eK (F2 x v).S h (rJ (ob (F2 x v).S h) ((ob (F2 x v).S h).Fields.set n v))),(hO (F2 x v)).Roots,(hO (F2 x v)).a8,(hO (F2 x v)).T,(hO (F2 x v)).Q⟩ (ob x.S h).Fields[n]=_ from g];unfold dQ;rw[hd,u];rfl
  .left;refine⟨3,Θ,?_,?_⟩;·rw[zH j,zc Ψ]
   .rw[zH j,zc Ψ]
theorem XM(k v:Int)(hk:k<=9223372036854775807)(hv:v<=9223372036854775807) :
  (∃e,e≠0/\eC x k v=some (x,e)/\mZ (hO x) k v=some (hO x,e)) \/
  (k∈lv x.S/\(v=0\/v∈lv x.S)/\∃r,V0 x.T k v=some r/\r.2.2=0/\eC x k v=some (mN x v r.1 r.2.1,0)/\mZ (hO x) k v=some (hO (mN x v r.1 r.2.1),0)):=by
 have hR:=hx.sh.sr;unfold eC mZ;by_cases u:k=0
 .left;subst u;exact⟨2,Θ,Ψ,Ψ⟩
 .rw[za (Ω u),za (Ω u),gv hR hk,a4L,AI hR hk,a4L,gv hR hv,vr hR hv];have m:(k=0\/k∈lv x.S)↔k∈lv x.S:=by simp[u]
  by_cases hl:k∈lv x.S/\(v=0\/v∈lv x.S)
  .obtain⟨hl,hn⟩:=hl;rw[zB (m.2 hl),zB hl,zB hn];simp only[zbu,qr,iv,a4L,Bool.or_self,zj,wf];obtain⟨r,A,E,F,B,C⟩:=QD hx.sh.hr k v;rw[A,a4L,show (hO x).T=x.T.map O2 from rfl,B,a4L];by_cases h0:r.2.2=0
   .right;refine⟨hl,hn,r,rfl,h0,?_⟩;have o:(r.2.2 != 0)=false:=by simpa using h0
    have old:r.2.1<=9223372036854775807:=by
     rcases C with ⟨_,rfl⟩ | ⟨_,_,⟨i,hi,rfl⟩ | ⟨_,rfl⟩⟩ | ⟨_,_,⟨i,hi,rfl⟩ | ⟨d,_,_,_,_,rfl⟩ | ⟨_,_,rfl⟩⟩;·simp
     .exact vm hx hS (.inr (hx.sh.pr k _ ⟨i,hi,rfl⟩).2)
     .simp
     .exact vm hx hS (.inr (hx.sh.pr k _ ⟨i,hi,rfl⟩).2)
     .simp
     .simp
    constructor
    .rw[o];simp only[zj,wf];unfold N4 aI;rw[ns hR hv hS,a4L,a4L];dsimp only;have j:=gF (x:=wT (F2 x v) r.1) (iR hR v) old;rw[show F9 ⟨(F2 x v).S,(F2 x v).Roots,(F2 x v).a8,r.1,(F2 x v).Q⟩ r.2.1=_ from j];rfl
    .dsimp only;rw[o];simp only[zj,wf];rw[qW hR hv hS,a4L];have j:=jD (x:=wT (F2 x v) r.1) (iR hR v) old;rw[show H5 ⟨(hO (F2 x v)).S,(hO (F2 x v)).Roots,(hO (F2 x v)).a8,r.1.map O2,(hO (F2 x v)).Q⟩ r.2.1=_ from j];rfl
   .left;have o:(r.2.2 != 0)=true:=by simpa using h0
    refine⟨r.2.2,h0,by rw[zc o],by dsimp only;rw[zc o]⟩
  .left;refine⟨3,Θ,?_,?_⟩
   .by_cases g:k∈lv x.S
    .have:¬(v=0\/v∈lv x.S):=λq=>hl ⟨g,q⟩;rw[zB (m.2 g),zH this];rfl
    .rw[zH λq=>g (m.1 q)];rfl
   .by_cases g:k∈lv x.S
    .have:¬(v=0\/v∈lv x.S):=λq=>hl ⟨g,q⟩;rw[zB g,zH this];rfl
    .rw[zH g];rfl
end
theorem NJ{s:a7}(hR:SR s){h:Int}{i:Nat}(q:aY s h i):U0 s.S h=some ((Eh s i).S,0):=by
 have hi:=q.1;have hc:=hR.cell i hi;have l9:=hR.l9;unfold U0 Eh;rw[oa hR q,a4L,za Ψ,IN hi,a4L];by_cases g:(ce s i).Gen=s.S.Last
 .rw[zc (Ω g),zc g,nM rfl hi hR.len];rfl
 .rw[za (Ω g),za g,nM rfl hi hR.len,E3 Δ Δ];rfl
theorem YZ{s:a7}{i:Nat}(hi:i<s.S.a8.length):ix (sO s).a8 (i:Int)=some (cO (ce s i)):=by
 rw[OI,IN hi];rfl
theorem OJ(s:a7)(i:Nat)(c:c5):sO (K7 s i c)=⟨(sO s).a8.set i (cO c),s.S.Last,s.Serial⟩:=by
 unfold sO K7;rw[zbt]
theorem CT(t:p7)(p:B2)(hl:t.a8.length<=1000)(hp:p.a8.length=t.a8.length):bW t p=some ⟨(List.range t.a8.length).map λk=>⟨(p.a8.getD k ⟨0,0,0⟩).State,(p.a8.getD k ⟨0,0,0⟩).Gen,(t.a8.getD k ⟨0,0,oo z0⟩).Val⟩,t.Last,t.Serial⟩:=by
 unfold bW;simp only[jn];rw[Tf (b:=80) t.a8.length (λk=>⟨(p.a8.getD k ⟨0,0,0⟩).State,(p.a8.getD k ⟨0,0,0⟩).Gen,(t.a8.getD k ⟨0,0,oo z0⟩).Val⟩) Δ Δ (λk acc hk=>?_) (λacc=>Ψ)];·rfl
 .have e:k<p.a8.length:=by omega
  simp only[zQ,hk,zY,wd,x8 hk,x8 e,a4L];rw[zg,zd e,zg,zd hk];rfl
theorem Sw{s:a7}(hR:SR s){h:Int}{i:Nat}(q:aY s h i):qI (sO s) h=some (sO (Eh s i)):=by
 have hi:=q.1;have hc:=hR.cell i hi;have l9:=hR.l9;have hlen:=hR.len;have hr:=q.Us hR;have E:sX h:=((tV hR).2 q).2.1;have u:(h-1) % 32=i:=((tV hR).2 q).2.2.1;have O2:i<(pl (sO s)).a8.length:=by rw[dV,F0];exact hi
 have key:∀st g,(st:Int)=st->bW (sO s) ⟨(pl (sO s)).a8.set i ⟨st,g,0⟩,(pl (sO s)).Last⟩=some ⟨(sO s).a8.set i ⟨st,g,oo (ce s i).Val⟩,s.S.Last,s.Serial⟩:=λst g _=>by
  rw[CT _ _ Ωz (by simp[dV])];congr 1;congr 1;refine zbd Ψ λk C F=>?_;have hk:k<s.S.a8.length:=by simpa[F0] using C
  have m:k<(sO s).a8.length:=by rw[F0];exact hk
  have r:k<(pl (sO s)).a8.length:=by rw[dV];exact m
  simp only[rx,List.getElem_range,zcc];have A:(sO s).a8.getD k ⟨0,0,oo z0⟩=cO (ce s k):=by
   rw[zg,zd m,I0 hk];simp[sO]
  have B:((pl (sO s)).a8.set i ⟨st,g,0⟩).getD k ⟨0,0,0⟩=if k=i then ⟨st,g,0⟩ else Dh k (cO (ce s k)):=by
   rw[mz O2];split;·rfl
   .rw[zg,zd r,I0 hk];simp[pl,sO]
  rw[A,B];by_cases e:k=i
  .subst e;rw[zc rfl,zc rfl];rfl
  .rw[za e,za (zav e)];rw[I0 hk];simp[sO,Dh,cO]
 have fin:∀st g,(dx ⟨(sO s).a8.set i ⟨st,g,oo (ce s i).Val⟩,s.S.Last,s.Serial⟩ (i:Int) ⟨0,0,0,0,false,[]⟩)=some (sO (K7 s i ⟨st,g,z0⟩)):=λst g=>by
  unfold dx;have o:i<((sO s).a8.set i ⟨st,g,oo (ce s i).Val⟩).length:=by simp[F0];exact hi
  rw[P4 Δ (by simp[F0];omega),a4L,x8 o,a4L,OJ];simp[cO,oo,zcn]
 unfold qI Ck Eh;rw[jm _ Ωz,a4L,xh s Δ,oa hR q,a4L,za Ψ];rw[Jq Ωx,a4L];have j:(Dh i ((sO s).a8[i]'Ωx)).Gen=(ce s i).Gen:=by
  rw[I0 hi];simp[Dh,sO,cO]
 have hlast:(pl (sO s)).Last=s.S.Last:=rfl;have w3:∀c:A7,aV (pl (sO s)) (i:Int) c=some ⟨(pl (sO s)).a8.set i c,(pl (sO s)).Last⟩:=λc=>by
  unfold aV;rw[P4 Δ (by rw[dV,F0];omega),a4L,x8 O2,a4L,zO]
 rw[j,hlast,qG,zc E,u];by_cases g:(ce s i).Gen=s.S.Last
 .rw[zc (by simp[g]),zc g,w3,a4L,a4L,za Ψ,key _ _ rfl,a4L,a4L,fin];rfl
 .rw[za Ξ,za g,w3,a4L,a4L,za Ψ,key _ _ rfl,a4L,a4L,E3 Δ Δ,fin];rfl
section
variable{x:Hp}(hR:SR x.S)
include hR
theorem Et{h d:Int}(hh:h<=9223372036854775807)(hw:aY x.S h (G4 h) -> -1000<=(ce x.S (G4 h)).Val.Weak+d/\(ce x.S (G4 h)).Val.Weak+d<=1000):eD x h d=some (mK x h d):=by
 unfold eD mK;by_cases q:aY x.S h (G4 h)
 .have:=hw q;rw[zc q,oa hR q,a4L];simp only[qr,wd];rw[IN q.1,a4L,E3 Δ Δ,HA hR q,a4L];rfl
 .have e:∀i,¬aY x.S h i:=λi hi=>q (by rw[hi.G4 hR];exact hi);rw[za q,tK hR hh e,a4L];have:((if h=0 then 2 else 3:Int)==0)=false:=by simpa using ic h
  simp only[this,zj,wf]
theorem KA{h:Int}(hh:h<=9223372036854775807)(hw:aY x.S h (G4 h)->1<=(ce x.S (G4 h)).Val.Weak/\(ce x.S (G4 h)).Val.Weak<=1000):gO x h=some (rp x h):=by
 unfold gO;rw[Et hR hh (λq=>by have:=hw q;omega),a4L];unfold mK rp;by_cases q:aY x.S h (G4 h)
 .have hw:=hw q;rw[zc q,zc q];have Zt:=BU hR q.1 q.2.1 (d:=-1) Δ;have g:aY (rR x.S (G4 h) (-1)) h (G4 h):=(Aw q.1 _).2 q;dsimp only;rw[oa Zt g,a4L,za Ψ,IN g.1,a4L,iN hR q.1 q.2.1,zc rfl];dsimp only;by_cases c:(ce x.S (G4 h)).State=2/\(ce x.S (G4 h)).Val.Weak=1
  .rw[zc c,zc (by simp[c.1,c.2]),NJ Zt g,a4L];rfl
  .rw[za c,za (by simp only[zo,wl];omega)]
 .have e:∀i,¬aY x.S h i:=λi hi=>q (by rw[hi.G4 hR];exact hi);rw[za q,za q,tK hR hh e,a4L];have:((if h=0 then 2 else 3:Int) != 0)=true:=by simpa using ic h
  simp only[this,wd]
theorem QM{h:Int}(hh:h<=9223372036854775807)(hw:aY x.S h (G4 h)->1<=(ce x.S (G4 h)).Val.Weak/\(ce x.S (G4 h)).Val.Weak<=1000):bZ (hO x) h=some (hO (rp x h)):=by
 have hl:=hR.len;unfold bZ;rw[show (hO x).S=sO x.S from rfl,jm _ Ωz,a4L,xh x.S hh];unfold rp;by_cases q:aY x.S h (G4 h)
 .have hw:=hw q;have hr:=q.Us hR;rw[zc q,oa hR q,a4L,za Ψ,YZ q.1,a4L];have Zt:=BU hR q.1 q.2.1 (d:=-1) Δ;have j:aY (rR x.S (G4 h) (-1)) h (G4 h):=(Aw q.1 _).2 q;have hs:R7 (sO x.S) h (oo (wkg (ce x.S (G4 h)).Val ((ce x.S (G4 h)).Val.Weak + -1)))=some (sO (rR x.S (G4 h) (-1)),0):=by
   rw[UI x.S hl hh,HA hR q];rfl
  have e:z8 ((cO (ce x.S (G4 h))).Val.Weak-1)=(ce x.S (G4 h)).Val.Weak + -1:=by
   show z8 ((ce x.S (G4 h)).Val.Weak-1)=_;rw[E3 Δ Δ];omega
  rw[e];rw[show R7 (sO x.S) h ⟨(cO (ce x.S (G4 h))).Val.Serial,(cO (ce x.S (G4 h))).Val.Strong,(ce x.S (G4 h)).Val.Weak + -1,(cO (ce x.S (G4 h))).Val.Prog,(cO (ce x.S (G4 h))).Val.Started,(cO (ce x.S (G4 h))).Val.Fields⟩=_ from hs,a4L,YZ j.1,a4L,iN hR q.1 q.2.1,zc rfl];by_cases c:(ce x.S (G4 h)).State=2/\(ce x.S (G4 h)).Val.Weak=1
  .rw[zc c,zc (by simp[cO,c.1,c.2]),Sw Zt j,a4L];rfl
  .rw[za c,za (by simp only[cO,zo,wl,zI];omega)];rfl
 .have g:∀i,¬aY x.S h i:=λi hi=>q (by rw[hi.G4 hR];exact hi);rw[za q,tK hR hh g,a4L];have:((if h=0 then 2 else 3:Int) != 0)=true:=by simpa using ic h
  simp only[this,wd]
end
theorem Vg{l:List l7}(hl:l.length<=1000){n:Nat}(hn:n<l.length)(h call:Int):wI l n h call=some (l.set n (lE h call),l[n].Target,0):=by
 unfold wI nK cq;simp only[a4L];rw[za Ξ,mJ Δ Δ,a4L];have e:yT (List.replicate l.length (⟨0,false,0⟩:l7)) l=some l:=by
  unfold yT;rw[zc Ψ];simp
 rw[e,a4L,a4L,x8 hn,a4L,a4L,zO]
theorem MM{l:List l7}(hl:l.length<=1000){n:Nat}(hn:n<l.length)(h call:Int):AR (l.map uw) n h call=some ((l.set n (lE h call)).map uw,l[n].Target,0):=by
 unfold AR;have e:n<(l.map uw).length:=Ω hn
 rw[za Ξ,P4 Δ Ξ,a4L,x8 e,a4L,a4L,zO,zbt];simp[uw]
theorem a04(l:List l7)(h:Int):Ib l h<=l.length:=za3
theorem YD{x:Hp}(hx:R9 x)(k h call:Int)(hh:h<=9223372036854775807)(hc : -1<=call/\call<=5) :
  (∃e,e≠0/\ak x k h call=some (x,e)/\fF (hO x) k h call=some (hO x,e)) \/
  ((h=0\/h∈lv x.S)/\∃n:Nat,k=n/\n<6/\QQ x.Q n=false/\ak x k h call=some (gg x n h call,0)/\fF (hO x) k h call=some (hO (gg x n h call),0)):=by
 have hR:=hx.sh.sr;have c6:=hx.sh.c6;have q30:=hx.sh.q30;unfold ak fF;by_cases hk:k<0\/5<k
 .left;have u:((decide (k<0))||(decide (k>=(x.a8.length:Int))))=true:=by rw[c6];simp;omega
  have A:((decide (k<0))||(decide (k > 5)))=true:=by simp;omega
  refine⟨7,Θ,?_,?_⟩;·rw[u];rfl
  .rw[A];rfl
 .obtain⟨n,rfl⟩:∃n:Nat,k=n:=⟨k.toNat,Δ⟩;have C:n<6:=by omega
  have u:((decide ((n:Int)<0))||(decide ((n:Int)>=(x.a8.length:Int))))=false:=by rw[c6];simp;omega
  have A:((decide ((n:Int)<0))||(decide ((n:Int) > 5)))=false:=by simp;omega
  rw[u,A];simp only[qr,iv,zbv];have G:kz x.Q n=some (QQ x.Q n):=Yp Δ;have H:mY (hO x).Q n=some (QQ x.Q n):=XV Δ;rw[G,a4L,H,a4L,gv hR hh,a4L,vr hR hh,a4L];by_cases hw:QQ x.Q n=true
  .left;rw[zc hw,zc hw];exact⟨7,Θ,rfl,rfl⟩
  .have hw:QQ x.Q n=false:=by simpa using hw
   rw[hw,za (show ¬(false=true) by decide),za (show ¬(false=true) by decide)];by_cases hl:h=0\/h∈lv x.S
   .right;refine⟨hl,n,rfl,C,hw,?_⟩;have hnl:n<x.a8.length:=by omega
    rw[zB hl,za Ψ,za Ψ,Vg Δ hnl,a4L,show (hO x).a8=x.a8.map uw from rfl,MM Δ hnl,a4L];have g:wy x n=x.a8[n].Target:=by
     unfold wy;rw[zg,zd hnl];rfl
    have wkb:∀i,i<x.S.S.a8.length->Th (ce x.S i)->0<=(ce x.S i).Val.Weak/\(ce x.S i).Val.Weak<=6:=λi hi ht=>by
     have:=(hx.wk i hi ht).1;have:=a04 x.a8 (1+(i:Int)+32*(ce x.S i).Gen);omega
    have N:∃s2,mK (wC x (x.a8.set n (lE h call))) h 1=wS (wC x (x.a8.set n (lE h call))) s2/\SR s2/\(∀k i,aY s2 k i↔aY x.S k i)/\(∀i,i<x.S.S.a8.length->Th (ce x.S i)->(ce x.S i).Val.Weak<=(ce s2 i).Val.Weak/\(ce s2 i).Val.Weak<=(ce x.S i).Val.Weak+1) /\
      (h≠0->K0 (sO x.S) h=some (oo (ce x.S (G4 h)).Val,0)/\R7 (sO x.S) h (oo (wkg (ce x.S (G4 h)).Val ((ce x.S (G4 h)).Val.Weak+1)))=some (sO s2,0))/\(h=0->s2=x.S):=by
     unfold mK;by_cases h0:h=0
     .have E:¬aY x.S h (G4 h):=λq=>by have:=q.Us hR;omega
      rw[za E];exact⟨x.S,rfl,hR,λ_ _=>Iff.rfl,λi _ _=>Δ,λq=>absurd h0 q,λ_=>rfl⟩
     .have B:=hl.resolve_left h0;have hp:=C8 hR B;have hb:=wkb _ hp.1 (.inl hp.2.1);rw[zc hp.d];have kn:=oK hR hp.1 (.inl hp.2.1) (d:=1) Δ;refine⟨_,rfl,kn.sr,kn.ad,λi hi ht=>?_,λ_=>⟨?_,?_⟩,λq=>absurd q h0⟩
      .rw[iN hR hp.1 (.inl hp.2.1)];split;·rename_i e;subst e;dsimp only;omega
       .omega
      .rw[mw x.S ΩL hh,a0f hR hp];rfl
      .rw[UI x.S hR.len hh,HA hR hp.d];rfl
    obtain⟨s2,K,R,m3,m4,m5,m6⟩:=N;have j:wy x n<=9223372036854775807:=by
     by_cases q:wy x n=0
     .omega
     .obtain⟨p,hp⟩:=(hx.sh.cl n hnl).2.2.2.1 (by rw[<-g];exact q);have:=hp.Us hR;rw[g];omega
    have o:aY s2 (wy x n) (G4 (wy x n))->1<=(ce s2 (G4 (wy x n))).Val.Weak/\(ce s2 (G4 (wy x n))).Val.Weak<=1000:=λq=>by
     have m:=(m3 _ _).1 q;have r:=m.Us hR;have:=(hx.wk _ m.1 m.2.1).1;have hp:0<Ib x.a8 x.a8[n].Target:=vx hnl (by rw[<-g];omega);rw[<-g,m.2.2] at hp;have:=m4 _ m.1 m.2.1;have:=wkb _ m.1 m.2.1;omega
    have u1:=KA (x:=wS (wC x (x.a8.set n (lE h call))) s2) R j o;have P:=QM (x:=wS (wC x (x.a8.set n (lE h call))) s2) R j o;have F:aY x.S h (G4 h) -> -1000<=(ce x.S (G4 h)).Val.Weak+1/\(ce x.S (G4 h)).Val.Weak+1<=1000:=λq=>by
     have:=wkb _ q.1 q.2.1;omega
    have mm:=Et (x:=wC x (x.a8.set n (lE h call))) (d:=1) hR hh F;constructor
    .dsimp only;rw[show eD ⟨x.S,x.Roots,x.a8.set n (lE h call),x.T,x.Q⟩ h 1=_ from mm,a4L,K,<-g,u1,a4L];unfold gg;rw[K]
    .unfold gg;rw[K];dsimp only;by_cases h0:h=0
     .rw[za (Ω h0),<-g];rw[m6 h0] at P |-;rw[show bZ ⟨(hO x).S,(hO x).Roots,(x.a8.set n (lE h call)).map uw,(hO x).T,(hO x).Q⟩ (wy x n)=_ from P,a4L]
     .obtain⟨V,g2⟩:=m5 h0;have hp:=C8 hR (hl.resolve_left h0);have hb:=wkb _ hp.1 (.inl hp.2.1);rw[zc (Ω h0),show (hO x).S=sO x.S from rfl,V,a4L];have e:z8 ((oo (ce x.S (G4 h)).Val).Weak+1)=(ce x.S (G4 h)).Val.Weak+1:=by
       show z8 ((ce x.S (G4 h)).Val.Weak+1)=_;rw[E3 Δ Δ]
      dsimp only;rw[e];rw[show R7 (sO x.S) h ⟨(oo (ce x.S (G4 h)).Val).Serial,(oo (ce x.S (G4 h)).Val).Strong,(ce x.S (G4 h)).Val.Weak+1,(oo (ce x.S (G4 h)).Val).Prog,(oo (ce x.S (G4 h)).Val).Started,(oo (ce x.S (G4 h)).Val).Fields⟩=_ from g2,a4L,<-g];dsimp only;rw[show bZ ⟨sO s2,(hO x).Roots,(x.a8.set n (lE h call)).map uw,(hO x).T,(hO x).Q⟩ (wy x n)=_ from P,a4L]
   .left;rw[zH hl];refine⟨3,Θ,?_,?_⟩ <;> rw[zc Ωm]
section
variable{x:Hp}(hx:R9 x)(hS:∀k∈lv x.S,(ob x.S k).Strong<=9223372036854775807)
include hx hS
end
theorem NG{α:Type}{l:List α}{i:Nat}(h:i<l.length)(d:α):l.getD i d=l[i]:=by
 rw[zg,zd h];rfl
def TkS(a b:p8):Prop:=a.Kind=b.Kind/\a.At=b.At
instance(a b:p8):Decidable (TkS a b):=by unfold TkS;infer_instance
section
variable{x:Hp}(hR:SR x.S)
include hR
omit hR in
theorem Sb:YJ x.S x.T (rV x)↔ed x []:=by
 constructor
 .intro h k hk e;have:=h k hk e;unfold EM inr at this;rw[zc hk] at this;rw[W6];unfold sN;omega
 .intro h k hk e;have:=h k hk e;rw[W6] at this;unfold sN at this;unfold EM inr;rw[zc hk];omega
end
section
variable{x:Hp}(hx:R9 x)(hB:HB x)
include hx hB
end
def SL(x:Hp):Prop:=∀k∈lv x.S,(ob x.S k).Strong<=9223372036854775807
theorem SB.sl{x:Hp}(hR:SR x.S)(h:SB x.S):SL x:=λk hk=>QK hR h k hk
theorem YX{x:Hp}(hx:R9 x)(hS:SL x):HB x:=by
 have hR:=hx.sh.sr;have bd:∀v,v=0\/v∈lv x.S->v<=9223372036854775807:=λv q=>by
  rcases q with q | q
  .omega
  .have:=L5 hR q;omega
 refine⟨a3t.2 λi hi=>?_,a2F.2 λi hi v hv=>?_,λv hv=>bd v (hx.sh.rt v hv),λc hc=>?_,λp hp=>?_,λt ht=>?_⟩
 .by_cases t:Th (ce x.S i)
  .rcases t with t | t
   .have q:At x.S (1+(i:Int)+32*(ce x.S i).Gen) i:=⟨hi,t,rfl⟩;have:=hS _ ((iV hR).2 ⟨i,q⟩);rwa [V5 hR q] at this
   .have:=((hx.wk i hi (.inr t)).2 t).2.2;omega
  .have:=(hR.no i hi t).2.1;simp only[oo] at this;omega
 .by_cases t:Th (ce x.S i)
  .rcases t with t | t
   .have q:At x.S (1+(i:Int)+32*(ce x.S i).Gen) i:=⟨hi,t,rfl⟩;have hm:=(iV hR).2 ⟨i,q⟩;exact bd v (hx.sh.fl _ hm v (by rw[V5 hR q];exact hv))
   .rw[((hx.wk i hi (.inr t)).2 t).2.1] at hv;cases hv
  .have:=(hR.no i hi t).2.2.2.2.2;simp only[oo] at this;rw[zN this] at hv;cases hv
 .obtain⟨i,hi,rfl⟩:=zbk hc;by_cases e:x.a8[i].Target=0
  .omega
  .obtain⟨p,hp⟩:=(hx.sh.cl i hi).2.2.2.1 e;have:=hp.Us hR;omega
 .obtain⟨i,hi,rfl⟩:=zbk hp;have e:pt x.T i=x.T[i]:=by
   unfold pt;rw[zg,zd hi];rfl
  by_cases s1:(pt x.T i).State=1
  .obtain⟨a,b⟩:=hx.sh.pr (pt x.T i).Key (pt x.T i).Val ⟨i,⟨hi,s1,rfl⟩,rfl⟩;rw[e] at a b;exact⟨bd _ (.inr a),bd _ (.inr b)⟩
  .obtain⟨a,b⟩:=(hx.sh.hr.st i hi).2 s1;rw[e] at a b;omega
 .obtain⟨_,_,q | q⟩:=hx.sh.tk t ht;·exact bd _ (.inr q.2.1)
  .omega
theorem Xf(c:Int):aq c<=12:=Δg
theorem WM{c:Int}(h:c<=9223372036854775807):mq c<=9223372036854775807:=by unfold mq;split <;> (try split) <;> omega
theorem SL.of{x y:Hp}(h:SL x)(hl:lv y.S=lv x.S)(hs:∀k∈lv x.S,(ob y.S k).Strong=(ob x.S k).Strong):SL y:=λk hk=>by
 rw[hl] at hk;rw[hs k hk];exact h k hk
theorem SL.st{x:Hp}(h:SL x)(hR:SR x.S)(v:Int){f:Int->Int}(hf:∀c,0<=c->0<=f c)(hb:∀c,c<=9223372036854775807->f c<=9223372036854775807):SL (wx x v f):=λk hk=>by
 rw[(K2 hR v hf).lv] at hk;rw[xV hR v hf hk];split;·exact hb _ (h k hk)
 .exact h k hk
theorem SL.F2{x:Hp}(h:SL x)(hR:SR x.S)(v:Int):SL (F2 x v):=h.st hR v (λc=>G8) λc _=>by have:=Xf c;omega
theorem SL.rls{x:Hp}(h:SL x)(hR:SR x.S)(v:Int):SL (W8 x v):=h.st hR v (λc=>U4) λc hc=>WM hc
theorem Mt{x:Hp}(hR:SR x.S)(v:Int):SR (W8 x v).S:=(K2 hR v λc=>U4).sr
theorem kq{x:Hp}(hR:SR x.S)(h:SL x)(r:Nat)(v:Int):SL (K1 x r v):=by
 unfold K1;exact SL.rls (x:=wR (F2 x v) (x.Roots.set r v)) (h.F2 hR v) (iR hR v) _
theorem PL{x:Hp}(hR:SR x.S)(hS:SL x){h:Int}(hh:h∈lv x.S)(k:Nat)(v:Int):SL (dQ x h k v):=by
 have Dy:=K2 hR v (f:=aq) λc=>G8;have g:SR (F2 x v).S:=Dy.sr;have q:h∈lv (F2 x v).S:=by rw[show lv (F2 x v).S=lv x.S from Dy.lv];exact hh
 have r:(ob (F2 x v).S h).Fields=(ob x.S h).Fields:=by
  obtain⟨m,e⟩:=Dy.ob h ΩJ;show (ob (wx x v aq).S h).Fields=_;rw[e]
 have ok:=N5 g q;have ho:Dm (F2 x v).S (rJ (ob (F2 x v).S h) ((ob x.S h).Fields.set k v)):=⟨ok.s1,ok.s2,ok.st,ok.wk,ok.p1,ok.p2,by have:=ok.fl;rw[r] at this;simpa using this⟩;have u:=de (o:=rJ (ob (F2 x v).S h) ((ob x.S h).Fields.set k v)) g q rfl ho;unfold dQ;refine SL.rls (x:=wS (F2 x v) (eK (F2 x v).S h (rJ (ob (F2 x v).S h) ((ob x.S h).Fields.set k v)))) ?_ u _;refine (hS.F2 hR v).of (iS g q rfl ho) λj hj=>?_;dsimp only;rw[gG (o:=rJ (ob (F2 x v).S h) ((ob x.S h).Fields.set k v)) g q rfl ho (by have:=L5 g hj;omega)];split;·rename_i e;rw[e]
 .rfl
theorem TV{x:Hp}(hR:SR x.S)(hS:SL x)(v:Int)(t:Tb)(old:Int):SL (mN x v t old):=by
 unfold mN;exact SL.rls (x:=wT (F2 x v) t) (hS.F2 hR v) (iR hR v) _
theorem a0Z{x:Hp}(hR:SR x.S)(hS:SL x)(h:Int){d:Int}(hd:aY x.S h (G4 h)->0<=(ce x.S (G4 h)).Val.Weak+d):SL (mK x h d):=by
 unfold mK;split
 .rename_i q;exact hS.of (oK hR q.1 q.2.1 (hd q)).lv λk hk=>oM hR q.1 q.2.1 (hd q) hk
 .exact hS
theorem OW{x:Hp}(hR:SR x.S)(hS:SL x)(h:Int)(hd:aY x.S h (G4 h)->1<=(ce x.S (G4 h)).Val.Weak):SL (rp x h):=by
 unfold rp;split
 .rename_i q;have hd:=hd q;have kn:=oK (d:=-1) hR q.1 q.2.1 Δ;have s1:SL (wS x (rR x.S (G4 h) (-1))):=hS.of kn.lv λk hk=>oM hR q.1 q.2.1 Δ hk;split
  .rename_i c;have e:G4 h<(rR x.S (G4 h) (-1)).S.a8.length:=by rw[kn.len];exact q.1
   have g:ce (rR x.S (G4 h) (-1)) (G4 h)=⟨(ce x.S (G4 h)).State,(ce x.S (G4 h)).Gen,wkg (ce x.S (G4 h)).Val ((ce x.S (G4 h)).Val.Weak + -1)⟩:=by
    rw[iN hR q.1 q.2.1,zc rfl]
   have j:(ce (rR x.S (G4 h) (-1)) (G4 h)).State=2:=by rw[g];exact c.1
   exact s1.of (Gi kn.sr e j) λk hk=>by
    dsimp only;rw[Gj kn.sr e j hk]
  .exact s1
 .exact hS
theorem Ve{x:Hp}(hx:R9 x)(hS:SL x){n:Nat}(hn:n<6)(h call:Int):SL (gg x n h call):=by
 have hR:=hx.sh.sr;have hnl:n<x.a8.length:=by have:=hx.sh.c6;omega
 have ok:∀k i,aY x.S k i->0<=(ce x.S i).Val.Weak:=λk i q=>(hR.ok i q.1 q.2.1).wk;have tw:∀i,aY x.S (wy x n) i->1<=(ce x.S i).Val.Weak:=λi q=>by
  have g:wy x n=x.a8[n].Target:=by
   unfold wy;rw[zg,zd hnl];rfl
  have r:=q.Us hR;have p:=vx hnl (by rw[<-g];omega);rw[<-g,q.2.2] at p;have:=(hx.wk i q.1 q.2.1).1;omega
 unfold gg;have s1:SL (mK (wC x (x.a8.set n (lE h call))) h 1):=a0Z (x:=wC x (x.a8.set n (lE h call))) hR hS h λq=>by
  have:=ok _ _ q;dsimp only;omega
 by_cases q:aY x.S h (G4 h)
 .have e:mK (wC x (x.a8.set n (lE h call))) h 1=wS (wC x (x.a8.set n (lE h call))) (rR x.S (G4 h) 1):=by
   unfold mK;rw[zc q]
  have hd:=ok _ _ q;have kn:=oK (d:=1) hR q.1 q.2.1 Δ;rw[e] at s1 |-;refine OW kn.sr s1 _ λj=>?_;dsimp only at j |-;have o:=(kn.ad _ _).1 j;have:=tw _ o;rw[iN hR q.1 q.2.1];split
  .rename_i m;rw[m] at this;show 1<=(ce x.S (G4 h)).Val.Weak+1;omega
  .exact this
 .have e:mK (wC x (x.a8.set n (lE h call))) h 1=wC x (x.a8.set n (lE h call)):=by
   unfold mK;rw[za q]
  rw[e] at s1 |-;exact OW (x:=wC x (x.a8.set n (lE h call))) hR s1 _ λj=>tw _ j
section
variable{x:Hp}(hx:R9 x)(hS:SL x)
include hx hS
end
def YK(x:Hp):Prop:=Sm x.S/\x.Roots.length<=20/\x.a8.length<=20/\x.T.length<=20/\x.Q.L.length<=60
instance(x:Hp):Decidable (YK x):=by unfold YK;infer_instance
def Xc:Hp:=⟨⟨⟨[],0⟩,0⟩,[],[],[],⟨[],0⟩⟩
theorem CP(x:Hp)(h:Int)(f:Int->Int):(wx x h f).Roots=x.Roots/\(wx x h f).a8=x.a8/\(wx x h f).T=x.T/\(wx x h f).Q=x.Q:=by
 unfold wx;split <;> exact⟨rfl,rfl,rfl,rfl⟩
theorem kp(x:Hp)(r:Nat)(h:Int):(K1 x r h).Roots=x.Roots.set r h/\(K1 x r h).a8=x.a8/\(K1 x r h).T=x.T/\(K1 x r h).Q=x.Q:=by
 obtain⟨a,b,c,d⟩:=CP (wR (F2 x h) (x.Roots.set r h)) (x.Roots.getD r 0) mq;obtain⟨j,e,g,d'⟩:=CP x h aq;exact⟨a,b.trans e,c.trans g,d.trans d'⟩
section
variable{x:Hp}(hB:HB x)
include hB
end
abbrev PG(o:u0):u0:=⟨o.Serial,0,o.Weak,o.Prog,o.Started,[]⟩
def QT(s:a7)(i:Nat):c5:=
 if (ce s i).Val.Weak=0 then (if (ce s i).Gen=s.S.Last then ⟨3,(ce s i).Gen,z0⟩ else ⟨0,(ce s i).Gen+1,z0⟩) else ⟨2,(ce s i).Gen,PG (ce s i).Val⟩
def Gf(s:a7)(d:Int):a7:=K7 s (G4 d) (QT s (G4 d))
def oA(s:a7)(ds:List Int):a7:=ds.foldl Gf s
theorem a0G(s:a7)(i:Nat):(QT s i).State≠1:=by
 unfold QT;split;·split <;> simp
 .simp
theorem LR{s:a7}(hR:SR s){a b:Int}(ha:a∈lv s)(hb:b∈lv s)(h:a≠b):G4 a≠G4 b:=λe=>by
 have g:=C8 hR ha;have j:=C8 hR hb;rw[e] at g;exact h (g.2.2.trans j.2.2.symm)
section
variable{s:a7}(hR:SR s){d:Int}(hd:d∈lv s)
include hR hd
theorem LD:SR (Gf s d):=by
 have q:=C8 hR hd;have hc:=hR.cell _ q.1;have ho:=hR.ok _ q.1 (.inl q.2.1);have no:OZ (oo z0):=⟨rfl,rfl,rfl,rfl,rfl,rfl⟩;unfold Gf QT;split
 .split;·exact hR.K7 q.1 ⟨Ψ,Ψ,hc.2.2.1,hc.2.2.2⟩ (λ_=>no) (λq=>absurd q (by unfold Th;simp))
  .refine hR.K7 q.1 ⟨Ψ,Ψ,?_,?_⟩ (λ_=>no) (λq=>absurd q (by unfold Th;simp));·show 0<=(ce s (G4 d)).Gen+1;omega
   .show (ce s (G4 d)).Gen+1<=s.S.Last;omega
 .exact hR.K7 q.1 ⟨Ψ,Ψ,hc.2.2.1,hc.2.2.2⟩ (λq=>absurd (.inr rfl) q) (λ_=>⟨⟨ho.s1,ho.s2,md _,ho.wk,ho.p1,ho.p2,rg _⟩,.inl q.2.1,rfl⟩)
theorem Sx(j:Nat):ce (Gf s d) j=if j=G4 d then QT s (G4 d) else ce s j:=P5 (C8 hR hd).1 _ j
theorem a0E:lv (Gf s d)=(lv s).filter λh=>decide (h≠d):=by
 have hS:=LD hR hd;unfold Gf at hS |-;have hc:=a0G s (G4 d);rw[NV hR (C8 hR hd).1 hc hS];refine za4 λh hh=>zbc.2 ⟨λq e=>q (by rw[e]),λq=>LR hR hh hd q⟩
theorem a0F{k:Int}(hk:k∈lv s)(e:k≠d):ob (Gf s d) k=ob s k:=by
 have hS:=LD hR hd;unfold Gf at hS |-;exact Oe hR (C8 hR hd).1 hS hk (LR hR hk hd e)
end
structure Gn (s s':a7) (ds:List Int):Prop where
 sr:SR s'
 len:s'.S.a8.length=s.S.a8.length
 last:s'.S.Last=s.S.Last
 V3:s'.Serial=s.Serial
 lv:lv s'=(lv s).filter λh=>decide (h∉ds)
 ob:∀k∈Sh.lv s,k∉ds->ob s' k=ob s k
 ce:∀j,ce s' j=if j∈ds.map G4 then QT s j else ce s j
theorem fk:∀(ds:List Int) {s:a7} (hR:SR s),ds.Nodup->(∀d∈ds,d∈lv s)->Gn s (oA s ds) ds
 | [],s,hR,_,_=>⟨hR,rfl,rfl,rfl,(zaz.2 (λa _=>Ψ)).symm,λ_ _ _=>rfl,λj=>by simp[oA]⟩
 | d::ds,s,hR,hn,hm=>by
  rw[zax] at hn;have hd:=hm d (zm ..);have m:=a0E hR hd;have u:∀e∈ds,e∈lv (Gf s d):=λe he=>by
   rw[m,zy,zG];exact⟨hm e (zx _ he),λq=>hn.1 (q▸he)⟩
  have ih:=fk ds (LD hR hd) hn.2 u;refine⟨ih.sr,ih.len.trans (aX ..),ih.last,ih.V3,?_,λk hk g=>?_,λj=>?_⟩
  .show lv (oA (Gf s d) ds)=_;rw[ih.lv,m,List.filter_filter];refine za4 λh hh=>?_;rw[zao];simp only[zo,zG,zV,not_or];exact⟨λq=>⟨q.2,q.1⟩,λq=>⟨q.2,q.1⟩⟩
  .show ob (oA (Gf s d) ds) k=_;rw[zV,not_or] at g;rw[ih.ob k (by rw[m,zy,zG];exact⟨hk,g.1⟩) g.2,a0F hR hd hk g.1]
  .show ce (oA (Gf s d) ds) j=_;have A:∀e∈ds,G4 e≠G4 d:=λe he=>LR hR (hm e (zx _ he)) hd λq=>hn.1 (q▸he);rw[ih.ce];by_cases o:j∈ds.map G4
   .obtain⟨e,he,rfl⟩:=zP.1 o;rw[zc o,zc (by rw[ut];exact zx _ o)];unfold QT;rw[Sx hR hd,za (A e he)];rfl
   .rw[za o,Sx hR hd,ut];by_cases r:j=G4 d
    .subst r;rw[zc rfl,zc (zm ..)]
    .rw[za r,za];rw[zV];exact λq=>q.elim r o
theorem EU{α:Type}(p:α->Bool)(f:α->Nat):∀l:List α,(l.map f).sum=((l.filter p).map f).sum+((l.filter λx => !p x).map f).sum
 | []=>rfl
 | x::l=>by
  rw[ut,zch,EU p f l,my,my];cases p x <;> simp <;> omega
theorem Ky(f:Int->List Int)(y:Int):∀l:List Int,bx (l.flatMap f) y=(l.map λx=>bx (f x) y).sum
 | []=>W6 y
 | x::l=>by rw[zba,P0,Ky f y l,ut,zch]
theorem Gn.ld{s s':a7}{ds:List Int}(hR:SR s)(hn:ds.Nodup)(hm:∀d∈ds,d∈Sh.lv s)(g:Gn s s' ds)(y:Int):ld s' y+bx (ds.flatMap (outs s)) y=ld s y:=by
 unfold Sh.ld;rw[g.lv,EU (λh=>decide (h∉ds)) (λx=>bx (outs s x) y) (Sh.lv s),Ky];have e:((Sh.lv s).filter λh=>decide (h∉ds)).map (λx=>bx (outs s' x) y)=((Sh.lv s).filter λh=>decide (h∉ds)).map λx=>bx (outs s x) y:=we λx hx=>by
  rw[zy,zG] at hx;unfold Sh.outs;rw[g.ob x hx.1 hx.2]
 have j:((Sh.lv s).filter λx => !decide (x∉ds)).Perm ds:=by
  rw[List.perm_ext_iff_of_nodup ((vn (A6.2 hR)).filter _) hn];intro a;rw[zy];simp only[decide_not,Bool.not_not,zG];exact⟨λq=>q.2,λq=>⟨hm a q,q⟩⟩
 rw[e,(j.map λx=>bx (outs s x) y).sum_nat]
theorem Jh{L:List p8}(hd:L.Pairwise λa b=>¬(a.Kind=b.Kind/\a.At=b.At))(k:Int):((L.filter (·.Kind==k)).map (·.At)).Nodup:=by
 unfold List.Nodup;rw[List.pairwise_map];refine (hd.filter _).imp_of_mem λ{a b} ha hb h e=>?_;rw[zy,wl] at ha hb;exact h ⟨ha.2.trans hb.2.symm,e⟩
theorem CQ{L:List p8}{m:List Int}(hd:L.Pairwise λa b=>¬(a.Kind=b.Kind/\a.At=b.At))(h:∀t∈L,(t.Kind=1/\t.At∈m)\/(t.Kind=2/\0<=t.At/\t.At<=5)):L.length<=m.length+6:=by
 have j:L.length=(L.filter (·.Kind==1)).length+(L.filter (·.Kind==2)).length:=by
  rw[uP (λt:p8=>t.Kind==1) L];congr 2;refine za4 λt ht=>?_;rcases h t ht with q | q
  .simp[q.1]
  .simp[q.1]
 have g:=jZ (Jh hd 1) (m:=m) λa ha=>by
  obtain⟨t,ht,rfl⟩:=zP.1 ha;rw[zy,wl] at ht;rcases h t ht.1 with q | q
  .exact q.2
  .omega
 have e:=jZ (Jh hd 2) (m:=[0,1,2,3,4,5]) λa ha=>by
  obtain⟨t,ht,rfl⟩:=zP.1 ha;rw[zy,wl] at ht;rcases h t ht.1 with q | q
  .omega
  .simp only[zV,zb9,or_false];omega
 rw[zX] at g e;simp only[zl,zT] at e;omega
theorem lF{q:TQ}{w:Int}:QQ q w=true↔∃t∈q.L,t.Kind=2/\t.At=w:=by
 unfold QQ;rw[List.any_eq_true];simp
variable {h:Int}{ds:List Int}{x:Hp}{t:Tb}{z:Int}
theorem vt{q:TQ}:h∈Dw q↔∃t∈q.L,t.Kind=1/\t.At=h:=by
 unfold Dw;rw[zP];simp only[zy,wl];exact⟨λ⟨t,⟨a,b⟩,c⟩=>⟨t,a,b,c⟩,λ⟨t,a,b,c⟩=>⟨t,⟨a,b⟩,c⟩⟩
abbrev cz:l7:=⟨0,false,0⟩
def jh(ds:List Int)(c:l7):Bool:=c.Intact&&c.Target != 0&&decide (c.Target∈ds)
def ql(ds:List Int)(c:l7):l7:=if jh ds c then ⟨c.Target,false,c.Call⟩ else c
def yg(l:List l7)(ds:List Int):List l7:=l.map (ql ds)
def cls(l:List l7)(ds:List Int):List Nat:=(List.range l.length).filter λw=>jh ds (l.getD w cz)&&decide (0<=(l.getD w cz).Call)
def ta(l:List l7)(ds:List Int):List p8:=(cls l ds).map λ(w:Nat)=>⟨2,(w:Int),(l.getD w cz).Call⟩
theorem FJ(ds:List Int)(c:l7):(ql ds c).Target=c.Target/\(ql ds c).Call=c.Call/\((ql ds c).Intact=true↔c.Intact=true/\jh ds c=false):=by
 unfold ql;cases h:jh ds c
 .rw[za Ψ];simp
 .rw[zc rfl];simp
theorem Xt(l:List l7)(ds:List Int)(h:Int):Ib (yg l ds) h=Ib l h:=by
 unfold Ib yg;rw[List.countP_map];congr 1;funext c
 simp only[Function.comp_apply,(FJ ds c).1]
theorem jj{l:List l7}{t:p8}:t∈ta l ds↔∃w,∃hw:w<l.length,t=⟨2,(w:Int),l[w].Call⟩/\jh ds l[w]=true/\0<=l[w].Call:=by
 unfold ta cls;rw[zP];constructor
 .rintro⟨w,hw,rfl⟩;rw[zy,zcm] at hw;obtain⟨j,g⟩:=hw;have e:l.getD w cz=l[w]:=by rw[zg,zd j];rfl
  rw[e] at g |-;rw[zo,zG] at g;exact⟨w,j,rfl,g.1,g.2⟩
 .rintro⟨w,hw,rfl,g,m⟩;have e:l.getD w cz=l[w]:=by rw[zg,zd hw];rfl
  refine⟨w,?_,by rw[e]⟩;rw[zy,zcm,e,zo,zG];exact⟨hw,g,m⟩
theorem DZ(l:List l7)(ds:List Int):(ta l ds).Pairwise λa b=>¬(a.Kind=b.Kind/\a.At=b.At):=by
 unfold ta cls;rw[List.pairwise_map];refine (zb4 _ (List.nodup_range (n:=l.length))).imp λ{a b} h=>?_;rintro⟨_,e⟩;dsimp only at e;omega
def kH(x:Hp)(ds:List Int)(t:Tb):Hp:=⟨oA x.S ds,x.Roots,yg x.a8 ds,t,⟨x.Q.L++ta x.a8 ds,x.Q.Cap⟩⟩
theorem BG(q:TQ)(l:List p8)(c:Int)(h:∀t∈l,t.Kind≠1):Dw ⟨q.L++l,c⟩=Dw q:=by
 unfold Dw;dsimp only;rw[zar];have:l.filter (λt=>t.Kind==1) = []:=by
  rw[List.filter_eq_nil_iff];intro t ht;simpa using h t ht
 rw[this,t6]
theorem PB(hx:R9 x)(hn:ds.Nodup)(hm:∀d∈ds,d∈lv x.S)
  (ho:∀d∈ds,d∉rV x)(hf:∀h∈lv x.S,h∉ds->∀v∈(ob x.S h).Fields,v∉ds)(hp:∀k v,Has x.T k v->k∉ds->v∉ds)
  {vals:List Int}(ht:HR t)(h1:∀k v,Has t k v↔k∉ds/\Has x.T k v)(h2:∀y,own t y+bx vals y=own x.T y) :
  pY (kH x ds t)/\Wk (kH x ds t)/\ed (kH x ds t) (ds.flatMap (outs x.S)++vals):=by
 have hS:=hx.sh;have hR:=hS.sr;have g:=fk ds hR hn hm;have o:∀h,h∈lv (oA x.S ds)↔h∈lv x.S/\h∉ds:=λh=>by rw[g.lv,zy,zG]
 have hlen:(lv x.S).length<=24:=J5 (A6.2 hR);have hcl:∀w (hw:w<x.a8.length),jh ds x.a8[w]=true->x.a8[w].Intact=true:=λw hw q=>by
  unfold jh at q;rw[zo,zo] at q;exact q.1.1
 have G:(x.Q.L++ta x.a8 ds).Pairwise λa b=>¬(a.Kind=b.Kind/\a.At=b.At):=by
  rw[zbb];refine⟨hS.td,DZ ..,λa ha b hb q=>?_⟩;obtain⟨w,hw,rfl,hh,_⟩:=jj.1 hb;have:=((hS.cl w hw).2.2.2.2 (hcl w hw hh)).2;rw[zbj] at this;exact this (lF.2 ⟨a,ha,q.1,q.2⟩)
 have H:∀t∈x.Q.L++ta x.a8 ds,0<=t.Prog/\t.Prog<=5/\((t.Kind=1/\t.At∈lv (oA x.S ds)/\(ob (oA x.S ds) t.At).Started=true)\/(t.Kind=2/\0<=t.At/\t.At<=5)):=λt A=>by
  rcases zC.1 A with q | q
  .obtain⟨a,b,c⟩:=hS.tk t q;refine⟨a,b,?_⟩;rcases c with ⟨c1,c2,c3⟩ | c
   .have hnd:t.At∉ds:=λhd=>ho _ hd (zC.2 (.inr (vt.2 ⟨t,q,c1,rfl⟩)));exact .inl ⟨c1,(o _).2 ⟨c2,hnd⟩,by rw[g.ob _ c2 hnd];exact c3⟩
   .exact .inr c
  .obtain⟨w,hw,rfl,hh,hc⟩:=jj.1 q;have c6:=hS.c6;have:=(hS.cl w hw).2.1;exact⟨hc,this,.inr ⟨rfl,Ωy,Ωy⟩⟩
 have F:(x.Q.L++ta x.a8 ds).length<=30:=by
  have:=CQ (m:=lv x.S) G λt A=>by
   rcases (H t A).2.2 with q | q
   .exact .inl ⟨q.1,((o _).1 q.2.1).1⟩
   .exact .inr q
  omega
 have N:∀i:Nat,QQ x.Q i=false->(∀hi:i<x.a8.length,jh ds x.a8[i]=false)->QQ ⟨x.Q.L++ta x.a8 ds,x.Q.Cap⟩ i=false:=λi q1 P=>by
  rw[zbj] at q1 |-;intro q;obtain⟨t,ht,a,b⟩:=lF.1 q;rcases zC.1 ht with c | c
  .exact q1 (lF.2 ⟨t,c,a,b⟩)
  .obtain⟨w,hw,rfl,hh,_⟩:=jj.1 c;dsimp only at b;have:w=i:=by omega
   subst this;rw[P hw] at hh;cases hh
 refine⟨⟨g.sr,ht,hS.r6,?_,hS.cap,F,H,G,λh hh=>?_,λh hh v hv=>?_,λk v V=>?_,λi hi=>?_⟩,λi hi hti=>?_,λh hh B=>?_⟩
 .unfold kH yg;rw[zX];exact hS.c6
 .rcases hS.rt h hh with q | q
  .exact .inl q
  .have h0:h≠0:=λe=>sM hR (e▸q);exact .inr ((o h).2 ⟨q,λhd=>ho h hd (zC.2 (.inl (oO.2 ⟨hh,h0⟩)))⟩)
 .obtain⟨a,b⟩:=(o h).1 hh;have K:v∈(ob x.S h).Fields:=by
   have e:=g.ob h a b;unfold kH at hv;rwa [e] at hv
  rcases hS.fl h a v K with q | q
  .exact .inl q
  .exact .inr ((o v).2 ⟨q,hf h a b v K⟩)
 .obtain⟨a,b⟩:=(h1 k v).1 V;obtain⟨c,d⟩:=hS.pr k v b;exact⟨(o k).2 ⟨c,a⟩,(o v).2 ⟨d,hp k v b a⟩⟩
 .have r:i<x.a8.length:=by
   unfold kH yg at hi;simpa using hi
  have e:(kH x ds t).a8[i]=ql ds x.a8[i]:=rx _;obtain⟨a1,a2,a3,a4,a5⟩:=hS.cl i r;obtain⟨b1,b2,R⟩:=FJ ds x.a8[i];rw[e,b1,b2];refine⟨a1,a2,λq=>?_,λq=>?_,λq=>?_⟩
  .rw[zbj];intro P;rw[a3 q] at R;exact absurd (R.1 P).1 Θ
  .obtain⟨p,C,E,u⟩:=a4 q;refine⟨p,by show p<(oA x.S ds).S.a8.length;rw[g.len];exact C,?_⟩;show Th (ce (oA x.S ds) p)/\_=1+(p:Int)+32*(ce (oA x.S ds) p).Gen;rw[g.ce];split
   .have hw:=(hx.wk p C E).1;have:=vx r q;rw[u] at this;unfold QT;rw[za Δ];exact⟨.inr rfl,u⟩
   .exact⟨E,u⟩
  .obtain⟨c1,c2⟩:=R.1 q;obtain⟨d1,d2⟩:=a5 c1;have h0:x.a8[i].Target≠0:=λe=>sM hR (e▸d1);refine⟨(o _).2 ⟨d1,λhd=>?_⟩,N i d2 λ_=>c2⟩;have:jh ds x.a8[i]=true:=by
    unfold jh;simp[c1,h0,hd]
   rw[this] at c2;cases c2
 .have r:i<x.S.S.a8.length:=by
   have:=g.len;have hi:i<(oA x.S ds).S.a8.length:=hi;omega
  show (ce (oA x.S ds) i).Val.Weak=(Ib (yg x.a8 ds) (1+(i:Int)+32*(ce (oA x.S ds) i).Gen):Int)/\((ce (oA x.S ds) i).State=2->_);have j:Th (ce (oA x.S ds) i):=hti;show _/\((ce (oA x.S ds) i).State=2->1<=(ce (oA x.S ds) i).Val.Weak/\(ce (oA x.S ds) i).Val.Fields = []/\(ce (oA x.S ds) i).Val.Strong=0);rw[Xt];rw[g.ce] at j |-;split
  .rename_i q;rw[zc q] at j;obtain⟨d,hd,rfl⟩:=zP.1 q;have hp:=C8 hR (hm d hd);have hw:=(hx.wk _ r (.inl hp.2.1)).1;unfold QT at j |-;split at j
   .exfalso;unfold Th at j;split at j <;> simp at j
   .rename_i P;rw[za P];have:=(hR.ok _ r (.inl hp.2.1)).wk;exact⟨hw,λ_=>⟨Ωy,rfl,rfl⟩⟩
  .rename_i q;rw[za q] at j;exact hx.wk i r j
 .obtain⟨a,b⟩:=(o h).1 hh;have e:=g.ob h a b;have e':ob (kH x ds t).S h=ob x.S h:=e;rw[e'] at B |-;have hf:=hx.fair h a B;rw[W6] at hf;rw[hf];have i1:=g.ld hR hn hm h;have i2:=h2 h;have i3:Dw ⟨x.Q.L++ta x.a8 ds,x.Q.Cap⟩=Dw x.Q:=BG _ _ _ λt ht=>by
   obtain⟨w,_,rfl,_⟩:=jj.1 ht;simp
  unfold sN rV kH;dsimp only;rw[i3,P0 (ds.flatMap (outs x.S)),P0];omega
theorem CC:∀(l:List Int) {x:Hp},pY x->Wk x->ed x l->R9 (l.foldl W8 x)
 | [],x,e,g,j=>⟨e,g,j⟩
 | v::l,x,e,g,j=>CC l (e.st v λc=>U4) (g.st e.sr v λc=>U4) (wi e.sr j)
abbrev gb(o:u0):u0:=⟨o.Serial,o.Strong,o.Weak,o.Prog,true,o.Fields⟩
abbrev yv(x:Hp)(h:Int):p8:=⟨1,h,(ob x.S h).Prog⟩
noncomputable def jB(x:Hp)(h:Int):Hp:=F2 ⟨eK x.S h (gb (ob x.S h)),x.Roots,x.a8,x.T,⟨x.Q.L ++ [yv x h],x.Q.Cap⟩⟩ h
theorem xC(hx:R9 x)(hh:h∈lv x.S)(hp:0<=(ob x.S h).Prog)(hs:(ob x.S h).Started=false):R9 (jB x h):=by
 have hS:=hx.sh;have hR:=hS.sr;have oko:=N5 hR hh;have ho:Dm x.S (gb (ob x.S h)):=⟨oko.s1,oko.s2,oko.st,oko.wk,oko.p1,oko.p2,oko.fl⟩;have N:=de (o:=gb (ob x.S h)) hR hh rfl ho;have l1:=iS (o:=gb (ob x.S h)) hR hh rfl ho;have E:∀j,j∈lv x.S->ob (eK x.S h (gb (ob x.S h))) j=if j=h then gb (ob x.S h) else ob x.S j:=λj hj=>by
  have:=L5 hR hj;exact gG (o:=gb (ob x.S h)) hR hh rfl ho Δ
 have hlen:(lv x.S).length<=24:=J5 (A6.2 hR);have s1:pY (wS x (eK x.S h (gb (ob x.S h)))):=hS.of N l1 (λk i q=>(MC (o:=gb (ob x.S h)) hR hh rfl ho).2 q) (λk hk q=>by
  rw[E k hk];split;·rfl
  .exact q) λk hk v hv=>by
  rw[E k hk] at hv;split at hv;·rename_i e;subst e;exact hS.fl k hk v hv
  .exact hS.fl k hk v hv
 have w1:Wk (wS x (eK x.S h (gb (ob x.S h)))):=λi hi ht=>by
  have O2:=C8 hR hh;have hc:=Hz (o:=gb (ob x.S h)) hR hh rfl ho i;dsimp only at hi ht |-;rw[hc] at ht |-;have u:i<x.S.S.a8.length:=by unfold eK at hi;rwa [R5] at hi
  split at ht
  .rename_i e;subst e;rw[zc rfl];dsimp only;have:=hx.wk _ u (.inl O2.2.1);rw[V5 hR O2];exact⟨this.1,λq=>absurd q (by rw[O2.2.1];decide)⟩
  .rename_i e;rw[za e];exact hx.wk i u ht
 have B:(x.Q.L ++ [yv x h]).Pairwise λa b=>¬(a.Kind=b.Kind/\a.At=b.At):=by
  rw[zbb];refine⟨hS.td,Ψ,λa ha b hb q=>?_⟩;rw[zR] at hb;subst hb;dsimp only at q;rcases (hS.tk a ha).2.2 with c | c
  .rw[q.2,hs] at c;exact absurd c.2.2 Θ
  .omega
 have C:∀t∈x.Q.L ++ [yv x h],0<=t.Prog/\t.Prog<=5/\((t.Kind=1/\t.At∈lv (eK x.S h (gb (ob x.S h)))/\(ob (eK x.S h (gb (ob x.S h))) t.At).Started=true)\/(t.Kind=2/\0<=t.At/\t.At<=5)):=λt ht=>by
  rcases zC.1 ht with q | q
  .exact s1.tk t q
  .rw[zR] at q;subst q;refine⟨hp,oko.p2,.inl ⟨rfl,by rw[l1];exact hh,?_⟩⟩;dsimp only;rw[E h hh,zc rfl]
 have A:(x.Q.L ++ [yv x h]).length<=30:=by
  have:=CQ (m:=lv x.S) B λt ht=>by
   rcases (C t ht).2.2 with q | q
   .exact .inl ⟨q.1,by rw[<-l1];exact q.2.1⟩
   .exact .inr q
  omega
 have s2:pY ⟨eK x.S h (gb (ob x.S h)),x.Roots,x.a8,x.T,⟨x.Q.L ++ [yv x h],x.Q.Cap⟩⟩:=by
  refine⟨s1.sr,s1.hr,s1.r6,s1.c6,s1.cap,A,C,B,s1.rt,s1.fl,s1.pr,λi hi=>?_⟩;obtain⟨a,b,c,d,e⟩:=s1.cl i hi;refine⟨a,b,c,d,λq=>⟨(e q).1,?_⟩⟩;have:=(e q).2;rw[zbj] at this |-;intro K;obtain⟨t,ht,k1,k2⟩:=lF.1 K;rcases zC.1 ht with F | F
  .exact this (lF.2 ⟨t,F,k1,k2⟩)
  .rw[zR] at F;subst F;dsimp only at k1;omega
 have w2:Wk ⟨eK x.S h (gb (ob x.S h)),x.Roots,x.a8,x.T,⟨x.Q.L ++ [yv x h],x.Q.Cap⟩⟩:=w1;refine⟨s2.st h λc=>G8,w2.st s2.sr h λc=>G8,λk hk g=>?_⟩;have r:k∈lv x.S:=by
  have:lv (jB x h).S=lv x.S:=(K2 s2.sr h λc=>G8).lv.trans l1;rw[<-this];exact hk
 have H:(ob (jB x h).S k).Strong=if k=h then aq (ob x.S k).Strong else (ob x.S k).Strong:=by
  have:=xV (x:=⟨eK x.S h (gb (ob x.S h)),x.Roots,x.a8,x.T,⟨x.Q.L ++ [yv x h],x.Q.Cap⟩⟩) s2.sr h (f:=aq) (λc=>G8) (k:=k) (by rw[<-l1] at r;exact r);refine zcf this ?_;dsimp only;rw[E k r];by_cases e:k=h
  .subst e;rw[zc rfl,zc rfl,zc rfl]
  .rw[za e,za e,za e]
 have G:sN (jB x h) k=sN x k+if k=h then 1 else 0:=by
  have:=AX (x:=⟨eK x.S h (gb (ob x.S h)),x.Roots,x.a8,x.T,⟨x.Q.L ++ [yv x h],x.Q.Cap⟩⟩) s2.sr h (f:=aq) (λc=>G8) k;refine zcf this ?_;have hi:=NM (o:=gb (ob x.S h)) hR hh rfl ho k;dsimp only at hi;have h0:k≠0:=λe=>sM hR (e▸r);unfold sN rV Dw;dsimp only;rw[zar,n7,P0,P0,P0];have:bx (List.map (·.At) (List.filter (λt:p8=>t.Kind==1) [yv x h])) k=if k=h then 1 else 0:=by
   show bx [h] k=_;rw[K8,W6];by_cases e:k=h
   .rw[zc ⟨e.symm,h0⟩,zc e]
   .rw[za (λq=>e q.1.symm),za e]
  rw[this];omega
 rw[H] at g |-;rw[G,W6];have hpos:=(N5 hR r).st;by_cases e:k=h
 .rw[zc e] at g |-;rw[zc e];have:=hx.fair k r (by unfold aq at g;split at g <;> omega);rw[W6] at this;unfold aq at g |-;split at g;·omega
  .rename_i q;rw[za q,za Δ];omega
 .rw[za e] at g |-;rw[za e];have:=hx.fair k r g;rw[W6] at this;exact this
noncomputable def zr(x:Hp):List Int:=(lv x.S).filter λh=>(ob x.S h).Strong==0
theorem dZ:h∈zr x↔h∈lv x.S/\(ob x.S h).Strong=0:=by
 unfold zr;rw[zy,wl]
theorem HX(hx:R9 x)(hz:z∈zr x):sN x z=0:=by
 obtain⟨a,b⟩:=dZ.1 hz;have:=hx.fair z a Δ;rw[W6] at this;omega
theorem Kz{l:List Int}(h0:h≠0)(e:bx l h=0):h∉l:=λq=>by
 have:=fP.2 ⟨h0,q⟩;omega
theorem SZ{α:Type}(f:α->Nat):∀ {l:List α} {a:α},a∈l->f a<=(l.map f).sum
 | b::l,a,h=>by
  rw[ut,zch];rcases zV.1 h with e | e
  .subst e;omega
  .have:=SZ f e;omega
theorem Gr{s:a7}{a y:Int}(ha:a∈lv s):bx (outs s a) y<=ld s y:=SZ (λx=>bx (outs s x) y) ha
theorem GK{k v:Int}(h:Has t k v)(h0:v≠0):0<own t v:=zbr.2 ⟨⟨k,v⟩,jk.2 h,by simp[h0]⟩
def pH(t:Tb)(ks:List Int):Tb × List Int:=(ba t ks).getD (t,[])
theorem kE(hT:HR t)(ks:List Int)(g:ks.length<=1000):ba t ks=some (pH t ks)/\HR (pH t ks).1/\(pH t ks).2.length<=ks.length/\iz (t.map O2) ks=some ((pH t ks).1.map O2,(pH t ks).2) /\
  (∀k v,Has (pH t ks).1 k v↔k∉ks/\Has t k v)/\∀y,own (pH t ks).1 y+bx (pH t ks).2 y=own t y:=by
 obtain⟨a,e,j,m,A,o,q,r,B,C,u⟩:=KJ hT ks g;have:pH t ks=(a,e):=by unfold pH;rw[j];rfl
 rw[this];exact⟨j,m,o,q,r,u⟩
noncomputable def iH(x:Hp)(ds:List Int):Hp:=(ds.flatMap (outs x.S)++(pH x.T ds).2).foldl W8 (kH x ds (pH x.T ds).1)
theorem km:∀(l:List Int) {x:Hp},SR x.S->yO x.S (l.foldl W8 x).S/\l.foldl W8 x=wS x (l.foldl W8 x).S
 | [],x,h=>⟨yO.refl h,rfl⟩
 | v::l,x,h=>by
  have k1:=K2 h v (f:=mq) λc=>U4;obtain⟨k2,e⟩:=km l (x:=W8 x v) k1.sr;refine⟨k1.trans k2,?_⟩;show l.foldl W8 (W8 x v)=wS x (l.foldl W8 (W8 x v)).S;rw[e,a1G x v]
theorem DW(hx:R9 x)(hn:ds.Nodup)(hm:∀d∈ds,d∈lv x.S)
  (ho:∀d∈ds,d∉rV x)(hf:∀h∈lv x.S,h∉ds->∀v∈(ob x.S h).Fields,v∉ds)(hp:∀k v,Has x.T k v->k∉ds->v∉ds):R9 (iH x ds):=by
 have hl:ds.length<=24:=ul (jZ hn hm) (J5 (A6.2 hx.sh.sr));obtain⟨_,w1,_,_,w2,w3⟩:=kE hx.sh.hr ds Δ;obtain⟨a,b,c⟩:=PB hx hn hm ho hf hp w1 w2 w3;exact CC _ a b c
theorem Lb(hR:SR x.S)(hn:ds.Nodup)(hm:∀d∈ds,d∈lv x.S):lv (iH x ds).S=(lv x.S).filter λh=>decide (h∉ds):=by
 have g:=fk ds hR hn hm;exact (km (ds.flatMap (outs x.S)++(pH x.T ds).2) (x:=kH x ds (pH x.T ds).1) g.sr).1.lv.trans g.lv
theorem Lc(hR:SR x.S)(hn:ds.Nodup)(hm:∀d∈ds,d∈lv x.S){k:Int}(hk:k∈lv x.S)(hd:k∉ds):∃n,ob (iH x ds).S k=ET (ob x.S k) n:=by
 have g:=fk ds hR hn hm;have hr:=L5 hR hk;obtain⟨n,e⟩:=(km (ds.flatMap (outs x.S)++(pH x.T ds).2) (x:=kH x ds (pH x.T ds).1) g.sr).1.ob k Δ;refine⟨n,?_⟩;have j:ob (iH x ds).S k=_:=e;have m:ob (kH x ds (pH x.T ds).1).S k=ob x.S k:=g.ob k hk hd;rw[j,m]
theorem uG(hR:SR x.S)(hn:ds.Nodup)(hm:∀d∈ds,d∈lv x.S):(iH x ds).Roots=x.Roots/\(iH x ds).a8=yg x.a8 ds/\(iH x ds).T=(pH x.T ds).1/\(iH x ds).Q=⟨x.Q.L++ta x.a8 ds,x.Q.Cap⟩:=by
 have g:=fk ds hR hn hm;have e:=(km (ds.flatMap (outs x.S)++(pH x.T ds).2) (x:=kH x ds (pH x.T ds).1) g.sr).2;have j:iH x ds=wS (kH x ds (pH x.T ds).1) (iH x ds).S:=e;rw[j];exact⟨rfl,rfl,rfl,rfl⟩
theorem Df(hx:R9 x)(hz:z∈zr x):R9 (iH x [z]):=by
 obtain⟨a,b⟩:=dZ.1 hz;have h0:z≠0:=λe=>sM hx.sh.sr (e▸a);have hn:=HX hx hz;unfold sN at hn;refine DW hx Ψ (Ω a) (λd hd=>?_) (λh hh j v hv q=>?_) (λk v g _ q=>?_)
 .rw[zR] at hd;subst hd;exact Kz h0 Δ
 .rw[zR] at q;subst q;have:=Gr (y:=v) hh;have m:=fP.2 ⟨h0,show v∈outs x.S h from oO.2 ⟨hv,h0⟩⟩;omega
 .rw[zR] at q;subst q;have:=GK g h0;omega
def due(o:u0):Bool:=decide (0<=o.Prog) && !o.Started
noncomputable def OP(x:Hp):Hp:=match zr x with
 | []=>x
 | z::_=>if due (ob x.S z) then jB x z else iH x [z]
noncomputable def Ac:Nat->Hp->Hp
 | 0,x=>x
 | n+1,x=>Ac n (OP x)
theorem fN(n:Nat)(x:Hp):Ac (n+1) x=OP (Ac n x):=by
 induction n generalizing x with
 | zero=>rfl
 | succ n ih=>exact ih (OP x)
theorem sA(h:zr x = []):OP x=x:=by unfold OP;rw[h]
theorem ky{l:List Int}(h:zr x=z::l):OP x=if due (ob x.S z) then jB x z else iH x [z]:=by unfold OP;rw[h]
theorem QJ{x:Hp}(hx:R9 x):R9 (OP x):=by
 cases h:zr x with
 | nil=>rw[sA h];exact hx
 | cons z l=>
  have hz:z∈zr x:=by rw[h];exact zm ..
  rw[ky h];split
  .rename_i q;unfold due at q;rw[zo,zG,zbp] at q;exact xC hx (dZ.1 hz).1 q.1 q.2
  .exact Df hx hz
theorem cQ{x:Hp}(hx:R9 x)(n:Nat):R9 (Ac n x):=by
 induction n with
 | zero=>exact hx
 | succ n ih=>rw[fN];exact QJ ih
section
variable{x:Hp}(hR:SR x.S){h:Int}(hh:h∈lv x.S)
include hR hh
theorem oT:yO (eK x.S h (gb (ob x.S h))) (jB x h).S/\(jB x h).Roots=x.Roots/\(jB x h).a8=x.a8/\(jB x h).T=x.T/\(jB x h).Q=⟨x.Q.L ++ [yv x h],x.Q.Cap⟩:=by
 have oko:=N5 hR hh;have g:=de (o:=gb (ob x.S h)) hR hh rfl ⟨oko.s1,oko.s2,oko.st,oko.wk,oko.p1,oko.p2,oko.fl⟩;refine⟨K2 (x:=⟨eK x.S h (gb (ob x.S h)),x.Roots,x.a8,x.T,⟨x.Q.L ++ [yv x h],x.Q.Cap⟩⟩) g h λc=>G8,?_⟩;have e:jB x h=wS ⟨eK x.S h (gb (ob x.S h)),x.Roots,x.a8,x.T,⟨x.Q.L ++ [yv x h],x.Q.Cap⟩⟩ (jB x h).S:=xO _ h;rw[e];exact⟨rfl,rfl,rfl,rfl⟩
theorem GP:lv (jB x h).S=lv x.S:=by
 have oko:=N5 hR hh;exact (oT hR hh).1.lv.trans (iS (o:=gb (ob x.S h)) hR hh rfl ⟨oko.s1,oko.s2,oko.st,oko.wk,oko.p1,oko.p2,oko.fl⟩)
theorem Ch{k:Int}(hk:k∈lv x.S):∃n,ob (jB x h).S k=ET (if k=h then gb (ob x.S h) else ob x.S k) n:=by
 have oko:=N5 hR hh;have hr:=L5 hR hk;obtain⟨n,e⟩:=(oT hR hh).1.ob k Δ;refine⟨n,?_⟩;rw[e,gG (o:=gb (ob x.S h)) hR hh rfl ⟨oko.s1,oko.s2,oko.st,oko.wk,oko.p1,oko.p2,oko.fl⟩ Δ]
end
noncomputable def mu(x:Hp):Nat:=(lv x.S).length+((lv x.S).filter λh => !(ob x.S h).Started).length
theorem a2X{x:Hp}(hR:SR x.S):mu x<=48:=by
 have e:(lv x.S).length<=24:=J5 (A6.2 hR);have g:((lv x.S).filter λh => !(ob x.S h).Started).length<=(lv x.S).length:=wt ..;unfold mu;omega
theorem a1U{x:Hp}(hx:R9 x)(h:zr x ≠ []):mu (OP x)<mu x:=by
 cases hz:zr x with
 | nil=>exact absurd hz h
 | cons z l=>
  have j:z∈zr x:=by rw[hz];exact zm ..
  have g:=(dZ.1 j).1;have hR:=hx.sh.sr;rw[ky hz];split
  .rename_i q;unfold due at q;rw[zo,zG,zbp] at q;unfold mu;rw[GP hR g];have:=filter_lt (p:=λh => !(ob (jB x z).S h).Started) (q:=λh => !(ob x.S h).Started) (l:=lv x.S) (λk hk hp=>by
    obtain⟨n,e⟩:=Ch hR g hk;rw[e] at hp;split at hp;·exact absurd hp Ψ
    .exact hp) z g (by rw[q.2];rfl) (by
    obtain⟨n,e⟩:=Ch hR g g;rw[e,zc rfl];rfl)
   omega
  .unfold mu;have hn:([z]:List Int).Nodup:=by simp
   have hm:∀d ∈ [z],d∈lv x.S:=Ω g
   rw[Lb hR hn hm,List.filter_filter];have m:((lv x.S).filter λh=>decide (h ∉ [z])).length<((lv x.S).filter λ_=>true).length:=filter_lt (λ_ _ _=>rfl) z g rfl Ψ;rw[zaz.2 (λ_ _=>rfl)] at m;have o:((lv x.S).filter λa=>(!(ob (iH x [z]).S a).Started)&&decide (a ∉ [z])).length<=((lv x.S).filter λh => !(ob x.S h).Started).length:=by
    rw[<-zbq,<-zbq];refine List.countP_mono_left λa ha hp=>?_;rw[zo,zG] at hp;obtain⟨n,e⟩:=Lc hR hn hm ha hp.2;rw[e] at hp;exact hp.1
   omega
noncomputable def eM(x:Hp):Hp:=Ac 100 x
theorem xR{x:Hp}(hx:R9 x):∃n,n<=48/\zr (Ac n x) = []/\(∀j,j<n->zr (Ac j x) ≠ [])/\eM x=Ac n x:=by
 have key:∀m,(∃n,n<=m/\zr (Ac n x) = [])\/mu (Ac m x)+m<=mu x:=by
  intro m;induction m with
  | zero=>exact .inr (zq _)
  | succ m ih=>
   rcases ih with ⟨n,u,o⟩ | ih;·exact .inl ⟨n,Δ,o⟩
   .by_cases q:zr (Ac m x) = []
    .exact .inl ⟨m,Δ,q⟩
    .have:=a1U (cQ hx m) q;rw[<-fN] at this;exact .inr Δ
 have A:=a2X hx.sh.sr;have r:∃n,n<=48/\zr (Ac n x) = []:=by
  rcases key 49 with ⟨n,u,o⟩ | h
  .rcases zE n 49 with q | q
   .exact⟨n,Δ,o⟩
   .rcases key 48 with h | h
    .exact h
    .have:mu (Ac 48 x)=0:=by omega
     refine⟨48,zq _,?_⟩;have hl:(lv (Ac 48 x).S).length=0:=by unfold mu at this;omega
     unfold zr;rw[zN hl];rfl
  .omega
 obtain⟨n,⟨hn,hz⟩,g⟩:=dP r;refine⟨n,hn,hz,λj hj q=>?_,?_⟩
 .have:=g j ⟨Δ,q⟩;omega
 .have:∀k,Ac (n+k) x=Ac n x:=λk=>by
   induction k with
   | zero=>rfl
   | succ k ih=>rw[show n+(k+1)=(n+k)+1 by omega,fN,ih,sA hz]
  have e:=this (100-n);rw[show n+(100-n)=100 by omega] at e;exact e
theorem gH{x:Hp}(hx:R9 x):R9 (eM x):=cQ hx 100
theorem EP{x:Hp}(hx:R9 x):zr (eM x) = []:=by
 obtain⟨n,_,h,_,e⟩:=xR hx;rw[e];exact h
theorem Kl{x:Hp}(h:zr x = []):eM x=x:=by
 have:∀n,Ac n x=x:=λn=>by
  induction n with
  | zero=>rfl
  | succ n ih=>rw[fN,ih,sA h]
 exact this 100
section
variable{x:Hp}(hR:SR x.S)
include hR
theorem fw{h:Int}(hh:h∈lv x.S):h<=9223372036854775807:=ΩJ
theorem xk{h:Int}(hh:h∈lv x.S):B3 x.S h=some (ob x.S h,0):=by
 obtain⟨e,g,j⟩:=Y8 (A6.2 hR) (fw hR hh);rw[g,j.2 hh]
theorem uX{h:Int}(hh:h∈lv x.S):K0 (sO x.S) h=some (oo (ob x.S h),0):=by
 have:=hR.len;rw[mw x.S Δ (fw hR hh),xk hR hh];rfl
theorem zero_eq:eH x=some (zr x):=by
 have e:(lv x.S).length<=24:=J5 (A6.2 hR);unfold eH;simp only[jn];rw[fv (A6.2 hR),a4L];rw[K4 (lv x.S) (λb h=>if (ob x.S h).Strong==0 then b ++ [h] else b) id (λk b=>b.length<=k) Δ (zq _) (λk hk b hb=>?_) (λb hb=>Ψ)]
 .rw[foldl_filter];rfl
 .simp only[zQ,hk,zY,wd,x8 hk,a4L,xk hR (zk hk)];by_cases c:((ob x.S (lv x.S)[k]).Strong==0)=true
  .rw[zc c,zc c,B5 Δ Ξ,a4L,p9];exact⟨rfl,Ξ⟩
  .rw[za c,za c,p9];exact⟨rfl,Δ⟩
theorem Vp:qP (hO x)=some (zr x):=by
 have e:(lv x.S).length<=24:=J5 (A6.2 hR);unfold qP;simp only[jn];rw[show (hO x).S=sO x.S from rfl,qB (A6.2 hR),a4L];rw[K4 (lv x.S) (λb h=>if (ob x.S h).Strong==0 then b ++ [h] else b) id (λk b=>b.length<=k) Δ (zq _) (λk hk b hb=>?_) (λb hb=>Ψ)]
 .rw[foldl_filter];rfl
 .simp only[zQ,hk,zY,wd,x8 hk,a4L,uX hR (zk hk)];by_cases c:((ob x.S (lv x.S)[k]).Strong==0)=true
  .rw[show ((oo (ob x.S (lv x.S)[k])).Strong==0)=true from c,zc rfl,zc c,B5 Δ Ξ,a4L,p9];exact⟨rfl,Ξ⟩
  .rw[za (show ¬((oo (ob x.S (lv x.S)[k])).Strong==0)=true from c),za c,p9];exact⟨rfl,Δ⟩
end
noncomputable def Zp(x:Hp)(h:Int):Hp:=if h∈lv x.S/\due (ob x.S h)=true then jB x h else x
theorem HF{s:a7}(hR:SR s){h:Int}(hl:h∈lv s):Dm s (gb (ob s h)):=by
 have oko:=N5 hR hl;exact⟨oko.s1,oko.s2,oko.st,oko.wk,oko.p1,oko.p2,oko.fl⟩
theorem Om(o:u0):Q7 o=some (due o):=by
 unfold Q7 due;congr 1
section
variable{x:Hp}(hx:R9 x)(hS:SL x){h:Int}(hh:h<=9223372036854775807)
include hx hS hh
theorem Ci(hl:h∈lv x.S)(hd:due (ob x.S h)=true):x.Q.L.length<30:=by
 have hb:0<=(ob x.S h).Prog/\(ob x.S h).Started=false:=by
  unfold due at hd;rw[zo,zG,zbp] at hd;exact hd
 have:=(xC hx hl hb.1 hb.2).sh.q30;rw[(oT hx.sh.sr hl).2.2.2.2] at this;simp at this;omega
theorem EE:Z1 x h=some (Zp x h):=by
 have hR:=hx.sh.sr;have cap:=hx.sh.cap;obtain⟨e,r,m⟩:=Y8 (A6.2 hR) hh;unfold Z1 Zp;rw[r,a4L];by_cases hl:h∈lv x.S
 .have g:e=0:=m.2 hl;subst g;have j:(((0:Int) != 0)==false)=true:=rfl;simp only[j,iv,Om,a4L];cases hd:due (ob x.S h);·rw[zc Ψ,za Ψ]
  .rw[za Ψ,zc ⟨hl,rfl⟩];have hr:=Ci hx hS hh hl hd;have hok:=HF hR hl;have l1:=iS (o:=gb (ob x.S h)) hR hl rfl hok;have u:=de (o:=gb (ob x.S h)) hR hl rfl hok;rw[wq (o:=gb (ob x.S h)) hR hl rfl hok,a4L,Zu _ Δ,a4L];have et:UQ x.Q ⟨1,h,(ob x.S h).Prog⟩=(⟨x.Q.L ++ [yv x h],x.Q.Cap⟩,0):=by
    unfold UQ;rw[za Δ]
   rw[et];dsimp only;rw[ns u hh (λk hk=>?_),a4L];·rfl
   .dsimp only at hk |-;rw[l1] at hk;rw[gG (o:=gb (ob x.S h)) hR hl rfl hok (fw hR hk)];split;·exact hS h hl
    .exact hS k hk
 .have g:e≠0:=λq=>hl (m.1 q);have j:(e != 0)=true:=by simpa using g
  rw[j];simp only[show ((true==false)=true)=False by simp,B8,wf,a4L,Bool.true_or,wd];rw[za (λq=>hl q.1)]
theorem RT:pb (hO x) h=some (decide (h∈lv x.S)&&due (ob x.S h)):=by
 have hR:=hx.sh.sr;have hlen:=hR.len;obtain⟨e,g,j⟩:=Y8 (A6.2 hR) hh;unfold pb;rw[show (hO x).S=sO x.S from rfl,mw x.S Δ hh,g,ww,a4L,AI hR hh,a4L];unfold due oo;rw[Bool.and_assoc]
theorem Jv:gC (hO x) h=some (hO (Zp x h)):=by
 have hR:=hx.sh.sr;have cap:=hx.sh.cap;unfold gC Zp;rw[RT hx hS hh,a4L];by_cases hl:h∈lv x.S
 .rw[zB hl,zag];cases hd:due (ob x.S h);·rw[zc Ψ,za Ψ]
  .rw[za Ψ,zc ⟨hl,rfl⟩];have hr:=Ci hx hS hh hl hd;have hok:=HF hR hl;have l1:=iS (o:=gb (ob x.S h)) hR hl rfl hok;have e:=de (o:=gb (ob x.S h)) hR hl rfl hok;rw[show (hO x).S=sO x.S from rfl,uX hR hl,a4L];have es:R7 (sO x.S) h (oo (gb (ob x.S h)))=some (sO (eK x.S h (gb (ob x.S h))),0):=wu hR hl rfl hok;have es':R7 (sO x.S) h ⟨(oo (ob x.S h)).Serial,(oo (ob x.S h)).Strong,(oo (ob x.S h)).Weak,(oo (ob x.S h)).Prog,true,(oo (ob x.S h)).Fields⟩=some (sO (eK x.S h (gb (ob x.S h))),0):=es;rw[es',a4L];have ea:lr (hO x).Q ⟨1,h,(oo (ob x.S h)).Prog⟩=some (sW ⟨x.Q.L ++ [yv x h],x.Q.Cap⟩,0):=by
    have:=Zq (q:=x.Q) (yv x h) Δ;have et:UQ x.Q (yv x h)=(⟨x.Q.L ++ [yv x h],x.Q.Cap⟩,0):=by
     unfold UQ;rw[za Δ]
    rw[et] at this;exact this
   rw[ea,a4L];have er:=qW (x:=⟨eK x.S h (gb (ob x.S h)),x.Roots,x.a8,x.T,⟨x.Q.L ++ [yv x h],x.Q.Cap⟩⟩) e hh (λk hk=>by
    dsimp only at hk |-;rw[l1] at hk;rw[gG (o:=gb (ob x.S h)) hR hl rfl hok (fw hR hk)];split;·exact hS h hl
    .exact hS k hk)
   have er':bY ⟨sO (eK x.S h (gb (ob x.S h))),(hO x).Roots,(hO x).a8,(hO x).T,sW ⟨x.Q.L ++ [yv x h],x.Q.Cap⟩⟩ h=_:=er;dsimp only;rw[er',a4L];rfl
 .rw[zH hl,zbi];rw[zc Ψ,za (λq=>hl q.1)]
end
noncomputable def lvo(x:Hp)(l:List Int):List Int:=l.foldl (λb h=>if h∈lv x.S/\h∉b then b ++ [h] else b) []
theorem IW{x:Hp}{z:Int}(hz:z∈lv x.S):lvo x [z] = [z]:=by
 unfold lvo;simp[hz]
section
variable{x:Hp}(hR:SR x.S)
include hR
theorem vl(l:List Int)(hl:l.length<=1000)(hb:∀h∈l,h<=9223372036854775807):az x l=some (lvo x l):=by
 unfold az;simp only[jn];have key:=K4 (f:=λ((g,o,r):Int × (List (Int × Bool)) × (List Int))=>
   if (decide (g<(l.length:Int))) then
     (ix l g).bind λu=>
     (B3 x.S u).bind λC=>
     if ((C.2==0)==true) then
      if (!((C0 o u).getD (false:Bool))) then
       (app 8 r [u]).bind λE=>
       some (Sum.inl (z8 (g+1),(r7 o u true),E))
      else
      some (.inl (z8 (g+1),o,r))
     else
     some (.inl (z8 (g+1),o,r))
   else
   some (.inr r)) l (λ(b:List (Int × Bool) × List Int) h=>if h∈lv x.S/\h∉b.2 then (r7 b.1 h true,b.2 ++ [h]) else b) (λb=>b.2) (λk b=>b.2.length<=k/\∀d,(C0 b.1 d).getD false=decide (d∈b.2)) (b0:=([],[])) Δ ⟨zq _,λd=>by simp[C0]⟩ (λk hk b A=>?_) (λb A=>Ψ)
 .rw[key,a4L];congr 1;have:∀(l:List Int) (m:List (Int × Bool)) (b:List Int),(l.foldl (λ(b:List (Int × Bool) × List Int) h=>if h∈lv x.S/\h∉b.2 then (r7 b.1 h true,b.2 ++ [h]) else b) (m,b)).2=l.foldl (λb h=>if h∈lv x.S/\h∉b then b ++ [h] else b) b:=λl=>by
   induction l with
   | nil=>intro m b;rfl
   | cons h l ih=>
    intro m b;rw[zaw,zaw];by_cases c:h∈lv x.S/\h∉b
    .rw[zc c,zc c,ih]
    .rw[za c,za c,ih]
  exact this l [] []
 .obtain⟨H,j⟩:=A;obtain⟨e,G,F⟩:=Y8 (A6.2 hR) (hb _ (zk hk));simp only[zQ,hk,zY,wd,x8 hk,a4L,G,j];by_cases hl:l[k]∈lv x.S
  .have B:e=0:=F.2 hl;subst B;by_cases hm:l[k]∈b.2
   .rw[zc Ωm,za (by simp[hm]),za (λq=>q.2 hm),p9];exact⟨rfl,Δ,j⟩
   .rw[zc Ωm,zc (by simp[hm]),zc ⟨hl,hm⟩,B5 Δ Ξ,a4L,p9];refine⟨rfl,Ξ,λd=>?_⟩;rw[rQ];by_cases q:d=l[k]
    .rw[zc q];simp[q]
    .rw[za q,j];simp[q]
  .have B:e≠0:=λq=>hl (F.1 q);rw[za (by simp[B]),za (λq=>hl q.1),p9];exact⟨rfl,Δ,j⟩
theorem RU(l:List Int)(hl:l.length<=1000)(hb:∀h∈l,h<=9223372036854775807):qQ (hO x) l=some (lvo x l):=by
 unfold qQ;simp only[jn];rw[K4 l (λb h=>if h∈lv x.S/\h∉b then b ++ [h] else b) id (λk b=>b.length<=k) Δ (zq _) (λk hk b g=>?_) (λb hb=>Ψ)];·rfl
 .simp only[zQ,hk,zY,wd,x8 hk,a4L,AI hR (hb _ (zk hk))];by_cases hl:l[k]∈lv x.S
  .have h0:l[k]≠0:=λe=>sM hR (e▸hl);rw[zB hl];simp only[qr,iv,uZ b _ (by omega:b.length<=1000000),a4L,zag];by_cases hm:l[k]∈b
   .rw[za (by simp[hm,h0]),za (λq=>q.2 hm),p9];exact⟨rfl,Δ⟩
   .rw[zc (by simp[hm]),zc ⟨hl,hm⟩,B5 Δ Ξ,a4L,p9];exact⟨rfl,Ξ⟩
  .rw[zH hl];simp only[show ((false==true)=true)=False by simp,B8,wf,a4L,zbi];rw[za Ψ,za (λq=>hl q.1),p9];exact⟨rfl,Δ⟩
end
theorem BA{α β:Type}(p:α->Bool)(f:α->β):∀(xs:List α) (acc:List β),xs.foldl (λb x=>if p x then b ++ [f x] else b) acc=acc++(xs.filter p).map f
 | [],acc=>by simp
 | x::xs,acc=>by
  rw[zaw,BA p f xs];by_cases h:p x=true
  .simp[h]
  .simp[h]
theorem getD_at{α:Type}{l:List α}{i:Nat}(h:i<l.length)(d:α):l.getD i d=l[i]:=by
 rw[zg,zd h];rfl
theorem PC(c:l7)(ds:List Int)(hl:ds.length<=1000):cT c ds=some (jh ds c):=by
 unfold cT jh;rw[contains_eq _ _ Δ];cases (c.Intact&&c.Target != 0);·rfl
 .simp[B8]
def qe(l:List l7)(ds:List Int):List Nat:=(List.range l.length).filter λw=>jh ds (l.getD w cz)
variable {ds:List Int}{w k:Nat}
theorem a1l{l:List l7}(h:w∈qe l ds):w<l.length:=by
 unfold qe at h;rw[zy,zcm] at h;exact h.1
theorem XO(l:List l7)(ds:List Int):(qe l ds).length<=l.length:=by
 unfold qe;exact ul (wt ..) Ψ
theorem a1m(l:List l7)(ds:List Int):(qe l ds).Nodup:=zb4 _ List.nodup_range
theorem WD(l:List l7)(ds:List Int):cls l ds=(qe l ds).filter λw=>decide (0<=(l.getD w cz).Call):=by
 unfold cls qe;rw[List.filter_filter];refine za4 λw _=>?_;rw[Bool.and_comm]
def oH(l:List Nat):List Int:=l.map λ(n:Nat)=>(n:Int)
theorem Gt{l:List Nat}(h:k<l.length):ix (oH l) (k:Int)=some ((l[k]:Nat):Int):=by
 unfold oH;rw[dI,x8 h];rfl
theorem mF(l:List Nat):(oH l).length=l.length:=zX ..
theorem Qm(l:List l7)(ds:List Int)(hl:l.length<=1000)(hd:ds.length<=1000):N8 l ds=some (oH (qe l ds)):=by
 unfold N8;simp only[jn];have hr:(List.range l.length).length=l.length:=Ψ
 have key:=K4 (List.range l.length) (λ(b:List Int) (w:Nat)=>if jh ds (l.getD w cz) then b ++ [(w:Int)] else b) id (λk b=>b.length<=k) (b0:=[]) (f:=λ((e,g):Int × (List Int))=>
   if (decide (e<(l.length:Int))) then
     (ix l e).bind λj=>
     (cT j ds).bind λm=>
     if m then
      (app 8 g [e]).bind λo=>
      some (Sum.inl (z8 (e+1),o))
     else
     some (.inl (z8 (e+1),g))
   else
   some (.inr g)) Δ (zq _) (λk hk b hb=>?_) (λb hb=>Ψ)
 .rw[key,BA];rfl
 .rw[hr] at hk;simp only[zQ,hk,zY,wd,x8 hk,a4L,PC _ _ hd,List.getElem_range,getD_at hk];by_cases c:jh ds l[k]=true
  .rw[zc c,zc c,B5 Δ Ξ,a4L,p9];exact⟨rfl,Ξ⟩
  .rw[za c,za c,p9];exact⟨rfl,Δ⟩
theorem PF(l:List l7)(hl:l.length<=1000):cq l=some l:=by
 unfold cq;rw[mJ Δ Δ,a4L];unfold yT;rw[zc Ψ,a4L];simp
def uI(l:List l7)(K:List Nat):List l7:=(List.range l.length).map λi=>if i∈K then ⟨(l.getD i cz).Target,false,(l.getD i cz).Call⟩ else l.getD i cz
theorem mi(l:List l7)(K:List Nat):(uI l K).length=l.length:=by simp[uI]
theorem uJ{l:List l7}{K:List Nat}{i:Nat}(h:i<(uI l K).length):(uI l K)[i]=if i∈K then ⟨(l.getD i cz).Target,false,(l.getD i cz).Call⟩ else l.getD i cz:=by simp[uI]
theorem RI(l:List l7):uI l []=l:=by
 refine zbd (mi ..) λi g e=>?_;rw[uJ,za Ψ,getD_at e]
theorem PE{l:List l7}{K:List Nat}(hw:w<l.length):uI l (K ++ [w])=(uI l K).set w ⟨(l.getD w cz).Target,false,(l.getD w cz).Call⟩:=by
 refine zbd (by rw[zas,mi,mi]) λi m o=>?_;rw[uJ,zcc];by_cases e:w=i
 .subst e;rw[zc rfl,zc Ψ]
 .rw[za e,uJ];by_cases q:i∈K
  .rw[zc (zac _ q),zc q]
  .rw[za,za q];rw[zC,zR];exact λg=>g.elim q λj=>e j.symm
theorem RH(l:List l7)(ds:List Int):uI l (qe l ds)=yg l ds:=by
 refine zbd (by rw[mi];simp[yg]) λi e g=>?_;have hi:i<l.length:=by rw[mi] at e;exact e
 have ec:(yg l ds)[i]=ql ds l[i]:=rx _;rw[uJ,ec,getD_at hi];unfold ql;by_cases c:jh ds l[i]=true
 .rw[zc c,zc];unfold qe;rw[zy,zcm,getD_at hi];exact⟨hi,c⟩
 .rw[za c,za];unfold qe;rw[zy,zcm,getD_at hi];exact λq=>c q.2
theorem R8{α:Type}{l:List α}(h:k<l.length):l.take (k+1)=l.take k ++ [l[k]]:=zn h
theorem RG(l:List l7)(ds:List Int)(hl:l.length<=1000)(hd:ds.length<=1000):kB l ds=some (yg l ds,oH (cls l ds)):=by
 unfold kB;rw[Qm l ds hl hd,a4L,PF l hl,a4L];simp only[jn,mF];have hp:=XO l ds;refine N7 (qe l ds).length (λk (b:List l7 × List Int)=>b.1=uI l ((qe l ds).take k)/\b.2=oH (((qe l ds).take k).filter λw=>decide (0<=(l.getD w cz).Call))) Δ ⟨by simp[RI],by simp[oH]⟩ ?_ ?_
 .rintro k ⟨j,m⟩ hk ⟨rfl,rfl⟩;left;have hw:=a1l (zk hk);have e:(qe l ds)[k]∉(qe l ds).take k:=λq=>by
   have hn:=a1m l ds;rw[<-zck k (qe l ds),zb6] at hn;exact hn.2.2 _ q (qe l ds)[k] (by rw[zau hk];exact zm ..) rfl
  have g:(qe l ds)[k]<(uI l ((qe l ds).take k)).length:=by rw[mi];exact hw
  have o:ix (uI l ((qe l ds).take k)) (((qe l ds)[k]:Nat):Int)=some (l.getD (qe l ds)[k] cz):=by rw[x8 g,uJ,za e]
  have u:(qe l ds)[k]<((uI l ((qe l ds).take k)).set (qe l ds)[k] ⟨(l.getD (qe l ds)[k] cz).Target,false,(l.getD (qe l ds)[k] cz).Call⟩).length:=by rw[zas];exact g
  have r:ix ((uI l ((qe l ds).take k)).set (qe l ds)[k] ⟨(l.getD (qe l ds)[k] cz).Target,false,(l.getD (qe l ds)[k] cz).Call⟩) (((qe l ds)[k]:Nat):Int)=some ⟨(l.getD (qe l ds)[k] cz).Target,false,(l.getD (qe l ds)[k] cz).Call⟩:=by rw[x8 u,List.getElem_set_self]
  dsimp only;simp only[zQ,hk,zY,wd,Gt hk,a4L,o,zO,r];have A:(oH (((qe l ds).take k).filter λw=>decide (0<=(l.getD w cz).Call))).length<=1000:=by
   rw[mF];exact ul (wt ..) Ξ
  rw[R8 hk,PE hw,zar];by_cases c:0<=(l.getD (qe l ds)[k] cz).Call
  .rw[zc (zB c),B5 Δ Ωw,a4L,p9];refine⟨_,rfl,rfl,?_⟩;rw[my,zc (zB c)];simp[oH]
  .rw[za (λq=>c (zbh q)),p9];refine⟨_,rfl,rfl,?_⟩;rw[my,za (λq=>c (zbh q))];simp[oH]
 .rintro⟨j,m⟩ ⟨rfl,rfl⟩;refine⟨_,za Ψ,?_⟩;dsimp only;rw[zM,RH,<-WD]
theorem a2J(c:l7)(ds:List Int)(hd:ds.length<=1000):((B8 ((uw c).Intact==true) 0 (gA ds (uw c).Target)).bind λv=>some ((uw c).Intact&&decide (v > 0)))=some (jh ds c):=by
 unfold jh uw;dsimp only;cases e:c.Intact;·rfl
 .simp only[qr,iv];rw[uk _ _ Δ,a4L];congr 1;rw[zag,zag,zao];simp only[zG,zo,zcr];have:=fP (l:=ds) (h:=c.Target);constructor
  .intro q;exact this.1 Δ
  .intro q;have:=this.2 q;omega
theorem WC(l:List l7)(ds:List Int)(hl:l.length<=1000)(hd:ds.length<=1000):rY (l.map uw) ds=some ((yg l ds).map uw,oH (cls l ds)):=by
 unfold rY;simp only[jn,zX];refine N7 l.length (λk (b:List u6 × List Int)=>b.1=((yg l ds).take k).map uw/\b.2=oH ((List.range k).filter λw=>jh ds (l.getD w cz)&&decide (0<=(l.getD w cz).Call))) Δ ⟨Ψ,by simp[oH]⟩ ?_ ?_
 .rintro k ⟨j,m⟩ hk ⟨rfl,rfl⟩;left;have g:k<(yg l ds).length:=by simp[yg];exact hk
  have o:ix (l.map uw) (k:Int)=some (uw l[k]):=by rw[dI,x8 hk];rfl
  have q:(oH ((List.range k).filter λw=>jh ds (l.getD w cz)&&decide (0<=(l.getD w cz).Call))).length<=1000:=by
   rw[mF];exact ul (wt ..) Ξ
  dsimp only;simp only[zQ,hk,zY,wd,o,a4L];obtain⟨v,hv,e⟩:=E7 (a2J l[k] ds hd);rw[hv,a4L];have e:=t8 e;rw[e,R8 g,n7,List.range_succ,zar];have ec:(yg l ds)[k]=ql ds l[k]:=rx _;have lc:(List.map uw (List.take k (yg l ds))).length<=1000:=by simp[yg];omega
  rw[ec];unfold ql;by_cases c:jh ds l[k]=true
  .rw[zc c,zc c];by_cases c2:0<=l[k].Call
   .rw[zc (by simpa[uw] using c2),B5 Δ Ωw,a4L,B5 Δ Ωw,a4L,p9];refine⟨_,rfl,rfl,?_⟩;simp only[my,zcp,getD_at hk,c,c2,zY,Bool.and_self,wd];simp[oH]
   .rw[za (by simpa[uw] using c2),B5 Δ Ωw,a4L,p9];refine⟨_,rfl,rfl,?_⟩;simp only[my,zcp,getD_at hk,c,c2,zab,Bool.and_false,zj,wf,t6]
  .rw[za c,za c,B5 Δ Ωw,a4L,p9];refine⟨_,rfl,rfl,?_⟩;have c:jh ds l[k]=false:=by simpa using c
   simp only[my,zcp,getD_at hk,c,zbi,zj,wf,t6]
 .rintro⟨j,m⟩ ⟨rfl,rfl⟩;refine⟨_,za Ψ,?_⟩;dsimp only;rw[zaj (by simp[yg])];rfl
def Dg(x:Hp)(ds:List Int):Hp:=⟨x.S,x.Roots,yg x.a8 ds,x.T,⟨x.Q.L++ta x.a8 ds,x.Q.Cap⟩⟩
theorem gK(l:List l7)(ds:List Int):(ta l ds).length=(cls l ds).length:=zX ..
theorem RJ{l:List l7}(h:w∈cls l ds):w<l.length:=by
 unfold cls at h;rw[zy,zcm] at h;exact h.1
theorem RL{l:List l7}(h:k<(ta l ds).length):(ta l ds)[k]=⟨2,(((cls l ds)[k]'(by rw[<-gK];exact h):Nat):Int),(l.getD ((cls l ds)[k]'(by rw[<-gK];exact h)) cz).Call⟩:=rx _
theorem It{l:List l7}(h:w<l.length):ix (yg l ds) (w:Int)=some (ql ds l[w]):=by
 unfold yg;rw[dI,x8 h];rfl
section
variable{x:Hp}{ds:List Int}(hc:x.a8.length<=6)(hd:ds.length<=1000)(hq:(x.Q.L++ta x.a8 ds).length<=30)(hcap:x.Q.Cap=30)
include hc hd hq hcap
theorem DU{k:Nat}(hk:k<(ta x.a8 ds).length):UQ ⟨x.Q.L++(ta x.a8 ds).take k,x.Q.Cap⟩ (ta x.a8 ds)[k]=(⟨x.Q.L++(ta x.a8 ds).take (k+1),x.Q.Cap⟩,0):=by
 rw[zD] at hq;unfold UQ;rw[za (by dsimp only;rw[zD,n9,hcap];omega),R8 hk,pu]
theorem Lg:fK x ds=some (Dg x ds):=by
 unfold fK;rw[RG _ _ Δ hd,a4L];dsimp only;simp only[jn,mF];have g:=hq;rw[zD] at g;refine N7 (cls x.a8 ds).length (λk (q:TQ)=>q=⟨x.Q.L++(ta x.a8 ds).take k,x.Q.Cap⟩) (by rw[<-gK];omega) Ψ ?_ ?_
 .rintro k q hk rfl;left;have hw:=RJ (zk hk);have e:k<(ta x.a8 ds).length:=by rw[gK];exact hk
  simp only[zQ,hk,zY,wd,Gt hk,a4L,It hw];have et:(⟨2,(((cls x.a8 ds)[k]:Nat):Int),(ql ds x.a8[(cls x.a8 ds)[k]]).Call⟩:p8)=(ta x.a8 ds)[k]:=by
   rw[RL,(FJ ds _).2.1,getD_at hw]
  rw[et,Zu _ (by dsimp only;rw[zD,n9];omega),DU hc hd hq hcap e,a4L,p9 (by rw[<-gK] at hk;omega)];exact⟨_,rfl,rfl⟩
 .rintro q rfl;refine⟨_,za Ψ,?_⟩;rw[<-gK,zM];rfl
theorem a0b{K:C6->Option e6}:((lp (S:=Int × C6) (E:=C6) (λ((g,j):Int × C6)=>
   if (decide (g<((oH (cls x.a8 ds)).length:Int))) then
    (ix (oH (cls x.a8 ds)) g).bind λm=>
    (ix ((yg x.a8 ds).map uw) m).bind λo=>
    (lr j (⟨2,m,o.Call⟩:y4)).bind λr=>
    some (.inl (z8 (g+1),r.1))
   else
   some (.inr j)) (0,sW x.Q)).bind K)=K (sW (Dg x ds).Q):=by
 have A:=hq;rw[zD] at A;have key:=gu (f:=λ((g,j):Int × C6)=>
   if (decide (g<((oH (cls x.a8 ds)).length:Int))) then
    (ix (oH (cls x.a8 ds)) g).bind λm=>
    (ix ((yg x.a8 ds).map uw) m).bind λo=>
    (lr j (⟨2,m,o.Call⟩:y4)).bind λr=>
    some (Sum.inl (z8 (g+1),r.1))
   else
   some (.inr j)) (t0:=sW x.Q) (cls x.a8 ds).length (λk (q:C6)=>q=sW ⟨x.Q.L++(ta x.a8 ds).take k,x.Q.Cap⟩) (λq=>q=sW (Dg x ds).Q) (by rw[<-gK];omega) Ψ ?_ ?_
 .obtain⟨e,B,C⟩:=key;rw[B,a4L,C]
 .rintro k q hk rfl;left;have hw:=RJ (zk hk);have u:k<(ta x.a8 ds).length:=by rw[gK];exact hk
  have ei:ix ((yg x.a8 ds).map uw) (((cls x.a8 ds)[k]:Nat):Int)=some (uw (ql ds x.a8[(cls x.a8 ds)[k]])):=by rw[dI,It hw];rfl
  simp only[mF,zQ,hk,zY,wd,Gt hk,a4L,ei];have et:(⟨2,(((cls x.a8 ds)[k]:Nat):Int),(uw (ql ds x.a8[(cls x.a8 ds)[k]])).Call⟩:y4)=Dk (ta x.a8 ds)[k]:=by
   rw[RL,getD_at hw];show (⟨2,_,(ql ds x.a8[(cls x.a8 ds)[k]]).Call⟩:y4)=_;rw[(FJ ds _).2.1];rfl
  rw[et,Zq _ (by dsimp only;rw[zD,n9];omega),DU hc hd hq hcap u,a4L,p9 (by rw[<-gK] at hk;omega)];exact⟨_,rfl,rfl⟩
 .rintro q rfl;refine⟨_,za (by rw[mF];simp),?_⟩;rw[<-gK,zM];rfl
end
theorem xQ(s:a7)(i:Nat)(c d:c5):K7 (K7 s i c) i d=K7 s i d:=by
 unfold K7;dsimp only;rw[zcn]
section
variable{s:a7}(hR:SR s){d:Int}(hd:d∈lv s)
include hR hd
def k1(s:a7)(d:Int):a7:=K7 s (G4 d) ⟨1,(ce s (G4 d)).Gen,PG (ob s d)⟩
def k2(s:a7)(d:Int):a7:=K7 s (G4 d) ⟨2,(ce s (G4 d)).Gen,PG (ob s d)⟩
theorem FP:Dm s (PG (ob s d)):=by
 have ho:=N5 hR hd;exact⟨ho.s1,ho.s2,md _,ho.wk,ho.p1,ho.p2,rg _⟩
theorem LI:eK s d (PG (ob s d))=k1 s d:=by
 have q:=C8 hR hd;unfold eK putAt k1 K7;rw[q.2.1]
theorem Zb:At (k1 s d) d (G4 d):=by
 have q:=C8 hR hd;refine⟨by unfold k1;rw[aX];exact q.1,?_,?_⟩;·unfold k1;rw[P5 q.1,zc rfl]
 .unfold k1;rw[P5 q.1,zc rfl];exact q.2.2
theorem Zc:SR (k1 s d):=by rw[<-LI hR hd];exact de (o:=PG (ob s d)) hR hd rfl (FP hR hd)
theorem Zf:SR (k2 s d):=by
 have q:=C8 hR hd;have hc:=hR.cell _ q.1;unfold k2;refine hR.K7 q.1 ⟨Ψ,Ψ,hc.2.2.1,hc.2.2.2⟩ (λq=>absurd (.inr rfl) q) (λ_=>⟨FP hR hd,.inl q.2.1,?_⟩);show (ob s d).Serial=_;rw[V5 hR q]
theorem Zd:aY (k2 s d) d (G4 d):=by
 have q:=C8 hR hd;refine⟨by unfold k2;rw[aX];exact q.1,?_,?_⟩;·unfold k2;rw[P5 q.1,zc rfl];exact .inr rfl
 .unfold k2;rw[P5 q.1,zc rfl];exact q.2.2
theorem Xi:Z8 (k1 s d).S d=some ((k2 s d).S,0):=by
 have q:=C8 hR hd;have g:=Zc hR hd;have j:=Zb hR hd;have hr:=L5 hR hd;have hlen:=g.len;have o:sX d:=((tV g).2 j.d).2.1;have m:(d-1) % 32=(G4 d:Nat):=((tV g).2 j.d).2.2.1;have u:(d-1) / 32=(ce s (G4 d)).Gen:=by
  have:=q.2.2;have r:=hR.len;have:=q.1;omega
 unfold Z8 F5;rw[oa g j.d,a4L,za Ψ,IN j.1,a4L,j.2.1,za Ψ,a4L,za Ψ,jT Δ,a4L,zc o,m,lR Δ,a4L,zc o,u,nM rfl j.1 hlen,a4L];have e:(ce (k1 s d) (G4 d)).Val=PG (ob s d):=by unfold k1;rw[P5 q.1,zc rfl]
 rw[e];congr 2;show (K7 (k1 s d) (G4 d) _).S=(k2 s d).S;unfold k1 k2;rw[xQ]
theorem YW(hw:(ob s d).Weak=0):Eh (k2 s d) (G4 d)=Gf s d:=by
 have q:=C8 hR hd;have e:ce (k2 s d) (G4 d)=⟨2,(ce s (G4 d)).Gen,PG (ob s d)⟩:=by unfold k2;rw[P5 q.1,zc rfl]
 unfold Eh Gf QT;rw[e];rw[V5 hR q] at hw;rw[zc hw];unfold k2;rw[xQ];rfl
theorem Ze(hw:(ob s d).Weak≠0):k2 s d=Gf s d:=by
 have q:=C8 hR hd;unfold k2 Gf QT;rw[V5 hR q] at hw |-;rw[za hw]
end
theorem Qc{x:Hp}(hR:SR x.S){d:Int}(hd:d∈lv x.S):bk x d=some (wS x (Gf x.S d)):=by
 unfold bk;rw[xk hR hd,a4L];have e:O8 x.S d (⟨(ob x.S d).Serial,0,(ob x.S d).Weak,(ob x.S d).Prog,(ob x.S d).Started,[]⟩:u0)=some (k1 x.S d,0):=by
  rw[<-LI hR hd];exact wq (o:=PG (ob x.S d)) hR hd rfl (FP hR hd)
 rw[e,a4L,Xi hR hd,a4L];by_cases hw:(ob x.S d).Weak=0
 .rw[zc (Ω hw),NJ (Zf hR hd) (Zd hR hd),a4L,YW hR hd hw];rfl
 .rw[za (Ω hw)];show some (wS x (k2 x.S d))=_;rw[Ze hR hd hw]
theorem a0S{s:a7}(hR:SR s){d:Int}(hd:d∈lv s):vK (sO (k1 s d)) d=some (sO (k2 s d)):=by
 have q:=C8 hR hd;have j:=Zc hR hd;have A:=Zb hR hd;have hlen:=j.len;have hr:=L5 hR hd;have hi:=A.1;have g:G4 d<(sO (k1 s d)).a8.length:=by rw[F0];exact hi
 have O2:G4 d<(pl (sO (k1 s d))).a8.length:=by rw[dV];exact g
 have hlen2:(sO (k1 s d)).a8.length<=24:=by rw[F0];exact hlen
 unfold vK Cm vF;rw[jm _ Δ,a4L,xh (k1 s d) Δ,oa j A.d,a4L,za Ψ,Jq g,a4L];have u:(Dh (G4 d) (sO (k1 s d)).a8[G4 d]).State=1:=by
  have:=A.2.1;rw[I0 hi] at this;simpa[Dh,sO,cO] using this
 have m:(Dh (G4 d) (sO (k1 s d)).a8[G4 d]).Gen=(ce s (G4 d)).Gen:=by
  have:(ce (k1 s d) (G4 d)).Gen=(ce s (G4 d)).Gen:=by unfold k1;rw[P5 q.1,zc rfl]
  rw[I0 hi] at this;simpa[Dh,sO,cO] using this
 rw[u,za Ψ,a4L,za Ψ,a4L];dsimp only;rw[Jq g,a4L];have w3:∀c:A7,aV (pl (sO (k1 s d))) ((G4 d:Nat):Int) c=some ⟨(pl (sO (k1 s d))).a8.set (G4 d) c,(pl (sO (k1 s d))).Last⟩:=λc=>by
  unfold aV;rw[P4 Δ (by rw[dV];omega),a4L,x8 O2,a4L,zO]
 rw[w3,a4L,a4L,CT _ _ Δ (by simp[dV]),a4L,m];unfold k2;rw[<-xQ s (G4 d) ⟨1,(ce s (G4 d)).Gen,PG (ob s d)⟩,OJ];show some _=some (⟨(sO (k1 s d)).a8.set (G4 d) _,_,_⟩:p7);congr 1;congr 1;refine zbd Ψ λk C E=>?_;have hk:k<(k1 s d).S.a8.length:=by simpa[F0] using C
 have o:k<(sO (k1 s d)).a8.length:=by rw[F0];exact hk
 have r:k<(pl (sO (k1 s d))).a8.length:=by rw[dV];exact o
 simp only[rx,List.getElem_range,zcc];rw[mz O2,getD_at o,getD_at r];by_cases e:k=G4 d
 .subst e;rw[zc rfl,zc rfl];have B:(sO (k1 s d)).a8[G4 d].Val=oo (PG (ob s d)):=by
   have:(ce (k1 s d) (G4 d)).Val=PG (ob s d):=by unfold k1;rw[P5 q.1,zc rfl]
   rw[<-this,I0 hi];simp[sO,cO]
  rw[B];rfl
 .rw[za e,za (zav e)];simp[sO,pl,Dh,cO]
theorem a0H{x:Hp}(hR:SR x.S){d:Int}(hd:d∈lv x.S):nb (hO x) d=some (hO (wS x (Gf x.S d))):=by
 unfold nb;rw[show (hO x).S=sO x.S from rfl,uX hR hd,a4L];have e:R7 (sO x.S) d (⟨(oo (ob x.S d)).Serial,0,(oo (ob x.S d)).Weak,(oo (ob x.S d)).Prog,(oo (ob x.S d)).Started,[]⟩:J2)=some (sO (k1 x.S d),0):=by
  rw[<-LI hR hd];exact wu (o:=PG (ob x.S d)) hR hd rfl (FP hR hd)
 rw[e,a4L,a0S hR hd,a4L];by_cases hw:(ob x.S d).Weak=0
 .rw[zc (by simpa[oo] using hw),Sw (Zf hR hd) (Zd hR hd),a4L,YW hR hd hw];rfl
 .rw[za (by simpa[oo] using hw)];show some (hO (wS x (k2 x.S d)))=_;rw[Ze hR hd hw]
theorem OC:∀(l:List Int) {x:Hp},SR x.S->SR (l.foldl W8 x).S
 | [],x,h=>h
 | v::l,x,h=>OC l (x:=W8 x v) (Mt h v)
theorem Hr:∀(l:List Int) {x:Hp},SR x.S->SL x->SL (l.foldl W8 x)
 | [],x,_,h=>h
 | v::l,x,hR,h=>Hr l (x:=W8 x v) (Mt hR v) (h.rls hR v)
theorem Qw(l:List Int){k:Nat}(hk:k<l.length)(x:Hp):(l.take (k+1)).foldl W8 x=W8 ((l.take k).foldl W8 x) l[k]:=by
 rw[R8 hk,za5];rfl
theorem Hn{y:Hp}(hR:SR y.S)(l:List Int)(hl:l.length<=1000000)(hb:∀v∈l,v<=9223372036854775807){K:Hp->Option Hp}:((lp (S:=Int × b7) (E:=b7) (λ((e,g):Int × b7)=>
     if (decide (e<(l.length:Int))) then
      (ix l e).bind λj=>
      (F9 g j).bind λm=>
      some (.inl (z8 (e+1),m))
     else
     some (.inr g)) (0,y)).bind K)=K (l.foldl W8 y):=by
 have key:=K4 l W8 id (λk z=>SR z.S) (b0:=y) (f:=λ((e,g):Int × b7)=>
     if (decide (e<(l.length:Int))) then
      (ix l e).bind λj=>
      (F9 g j).bind λm=>
      some (Sum.inl (z8 (e+1),m))
     else
     some (.inr g)) Δ hR (λk hk z hz=>?_) (λz hz=>Ψ)
 .rw[key,a4L];rfl
 .simp only[zQ,hk,zY,wd,x8 hk,a4L,gF hz (hb _ (zk hk))];rw[p9];exact⟨rfl,Mt hz _⟩
theorem Cy{y:Hp}(hR:SR y.S)(l:List Int)(hl:l.length<=1000000)(hb:∀v∈l,v<=9223372036854775807){K:e6->Option e6}:((lp (S:=Int × e6) (E:=e6) (λ((g,j):Int × e6)=>
      if (decide (g<(l.length:Int))) then
       (ix l g).bind λm=>
       (H5 j m).bind λo=>
       some (.inl (z8 (g+1),o))
      else
      some (.inr j)) (0,hO y)).bind K)=K (hO (l.foldl W8 y)):=by
 have key:=gu (f:=λ((g,j):Int × e6)=>
      if (decide (g<(l.length:Int))) then
       (ix l g).bind λm=>
       (H5 j m).bind λo=>
       some (Sum.inl (z8 (g+1),o))
      else
      some (.inr j)) (t0:=hO y) l.length (λk z=>z=hO ((l.take k).foldl W8 y)) (λz=>z=hO (l.foldl W8 y)) Δ rfl ?_ ?_
 .obtain⟨e,q,r⟩:=key;rw[q,a4L,r]
 .rintro k z hk rfl;left;have hz:=OC (l.take k) hR;simp only[zQ,hk,zY,wd,x8 hk,a4L,jD hz (hb _ (zk hk))];rw[p9,<-Qw l hk];exact⟨_,rfl,rfl⟩
 .rintro z rfl;exact⟨_,za Ψ,by rw[zM]⟩
theorem IF(s:a7)(ds:List Int){k:Nat}(hk:k<ds.length):oA s (ds.take (k+1))=Gf (oA s (ds.take k)) ds[k]:=by
 unfold oA;rw[R8 hk,za5];rfl
section
variable{y:Hp}(hR:SR y.S){ds:List Int}(hn:ds.Nodup)(hm:∀d∈ds,d∈lv y.S)
include hR hn hm
theorem BM{k:Nat}(hk:k<ds.length):SR (oA y.S (ds.take k))/\ds[k]∈lv (oA y.S (ds.take k)):=by
 have g:=fk (ds.take k) hR ((List.take_sublist k ds).nodup hn) λd hd=>hm d (zak hd);refine⟨g.sr,?_⟩;rw[g.lv,zy,zG];refine⟨hm _ (zk hk),λq=>?_⟩;rw[<-zck k ds,zb6] at hn;exact hn.2.2 _ q ds[k] (by rw[zau hk];exact zm ..) rfl
theorem Qa(hl:ds.length<=1000){K:Hp->Option Hp}:((lp (S:=Int × b7) (E:=b7) (λ((g,j):Int × b7)=>
    if (decide (g<(ds.length:Int))) then
     (ix ds g).bind λm=>
     (bk j m).bind λo=>
     some (.inl (z8 (g+1),o))
    else
    some (.inr j)) (0,y)).bind K)=K (wS y (oA y.S ds)):=by
 have key:=gu (f:=λ((g,j):Int × b7)=>
    if (decide (g<(ds.length:Int))) then
     (ix ds g).bind λm=>
     (bk j m).bind λo=>
     some (Sum.inl (z8 (g+1),o))
    else
    some (.inr j)) (t0:=y) ds.length (λk z=>z=wS y (oA y.S (ds.take k))) (λz=>z=wS y (oA y.S ds)) Δ rfl ?_ ?_
 .obtain⟨e,q,r⟩:=key;rw[q,a4L,r]
 .rintro k z hk rfl;left;obtain⟨q,r⟩:=BM hR hn hm hk;simp only[zQ,hk,zY,wd,x8 hk,a4L,Qc (x:=wS y (oA y.S (ds.take k))) q r];rw[p9,IF _ _ hk];exact⟨_,rfl,rfl⟩
 .rintro z rfl;exact⟨_,za Ψ,by rw[zM]⟩
theorem IS(hl:ds.length<=1000){K:e6->Option e6}:((lp (S:=Int × e6) (E:=e6) (λ((g,j):Int × e6)=>
     if (decide (g<(ds.length:Int))) then
      (ix ds g).bind λm=>
      (nb j m).bind λo=>
      some (.inl (z8 (g+1),o))
     else
     some (.inr j)) (0,hO y)).bind K)=K (hO (wS y (oA y.S ds))):=by
 have key:=gu (f:=λ((g,j):Int × e6)=>
     if (decide (g<(ds.length:Int))) then
      (ix ds g).bind λm=>
      (nb j m).bind λo=>
      some (Sum.inl (z8 (g+1),o))
     else
     some (.inr j)) (t0:=hO y) ds.length (λk z=>z=hO (wS y (oA y.S (ds.take k)))) (λz=>z=hO (wS y (oA y.S ds))) Δ rfl ?_ ?_
 .obtain⟨e,q,r⟩:=key;rw[q,a4L,r]
 .rintro k z hk rfl;left;obtain⟨q,r⟩:=BM hR hn hm hk;simp only[zQ,hk,zY,wd,x8 hk,a4L,a0H (x:=wS y (oA y.S (ds.take k))) q r];rw[p9,IF _ _ hk];exact⟨_,rfl,rfl⟩
 .rintro z rfl;exact⟨_,za Ψ,by rw[zM]⟩
end
section
variable{x:Hp}(hx:R9 x){ds:List Int}(hn:ds.Nodup)(hm:∀d∈ds,d∈lv x.S)
include hx hn hm
theorem FT:ds.length<=24:=ul (jZ hn hm) (J5 (A6.2 hx.sh.sr))
theorem FZ{d:Int}(hd:d∈lv x.S):(ob x.S d).Fields.length<=4:=(N5 hx.sh.sr hd).fl
theorem GH{d:Int}(hd:d∈lv x.S):(outs x.S d).length<=4:=ul (Ty _) (FZ hx hn hm hd)
theorem rI:∀(l:List Int),(∀d∈l,d∈lv x.S)->(l.flatMap (outs x.S)).length<=4*l.length
 | [],_=>by simp
 | d::l,h=>by
  rw[zba,zD,zl];have:=rI l λe he=>h e (zx _ he);have:=GH hx hn hm (h d (zm ..));omega
theorem Oj:∀v∈ds.flatMap (outs x.S)++(pH x.T ds).2,v<=9223372036854775807:=λv hv=>by
 rcases zC.1 hv with q | q
 .obtain⟨d,hd,q⟩:=mt.1 q;obtain⟨q,_⟩:=oO.1 q;rcases hx.sh.fl d (hm d hd) v q with e | e
  .omega
  .exact fw hx.sh.sr e
 .by_cases h0:v=0
  .omega
  .have hl:=FT hx hn hm;have j:=(kE hx.sh.hr ds Δ).2.2.2.2.2 v;have m:=fP.2 ⟨h0,q⟩;have g:0<own x.T v:=by omega
   obtain⟨p,hp,hq⟩:=zbr.1 g;have hq:(v != 0&&p.Val==v)=true:=hq;rw[zo,wl] at hq;have:=(hx.sh.pr _ _ (jk.1 hp)).2;rw[hq.2] at this;exact fw hx.sh.sr this
theorem Jm:(ds.flatMap (outs x.S)++(pH x.T ds).2).length<=200:=by
 have hl:=FT hx hn hm;have e:=rI hx hn hm ds hm;have g:=(kE hx.sh.hr ds Δ).2.2.1;rw[zD];omega
theorem Nv(hq:(x.Q.L++ta x.a8 ds).length<=30){l:List Int}(N:az x l=some ds):cg x l=some (iH x ds):=by
 have hl:=FT hx hn hm;have hR:=hx.sh.sr;obtain⟨w1,w2,w3,V,w5,w6⟩:=kE hx.sh.hr ds Δ;have ol:=Jm hx hn hm;have fl:=rI hx hn hm ds hm;unfold cg;rw[N,a4L,Lg (by have:=hx.sh.c6;omega) Δ hq hx.sh.cap,a4L];simp only[jn];have key:=K4 ds (λb d=>b++outs x.S d) id (λk b=>b.length<=4*k) (b0:=[]) (f:=λ((o,r):Int × (List Int))=>
   if (decide (o<(ds.length:Int))) then
    (ix ds o).bind λC=>
    (B3 (Dg x ds).S C).bind λF=>
    (jG F.1.Fields).bind λG=>
    (app 8 r G).bind λH=>
    some (Sum.inl (z8 (o+1),H))
   else
   some (.inr r)) Δ Ψ (λk hk b hb=>?_) (λb hb=>Ψ)
 .rw[key,a4L,gq,zbz];dsimp only[id];rw[show (Dg x ds).T=x.T from rfl,w1,a4L];have u:=ol;rw[zD] at u;rw[B5 Δ Δ,a4L];have k1:=Qa (y:=⟨(Dg x ds).S,(Dg x ds).Roots,(Dg x ds).a8,(pH x.T ds).1,(Dg x ds).Q⟩) hR hn hm Δ (K:=λe=>(lp (S:=Int × b7) (E:=b7) (λ((m,q):Int × b7)=>
     if (decide (m<((ds.flatMap (outs x.S)++(pH x.T ds).2).length:Int))) then
      (ix (ds.flatMap (outs x.S)++(pH x.T ds).2) m).bind λA=>
      (F9 q A).bind λB=>
      some (.inl (z8 (m+1),B))
     else
     some (.inr q)) (0,e)).bind λj=>some j)
  refine zcf k1 ?_;have g:=fk ds hR hn hm;have k2:=Hn (y:=wS (⟨(Dg x ds).S,(Dg x ds).Roots,(Dg x ds).a8,(pH x.T ds).1,(Dg x ds).Q⟩:Hp) (oA x.S ds)) g.sr _ Δ (Oj hx hn hm) (K:=λj=>some j);refine zcf k2 ?_;rfl
 .have hd:=hm _ (zk hk);have P:=FZ hx hn hm hd;have R:=GH hx hn hm hd;simp only[zQ,hk,zY,wd,x8 hk,a4L,show (Dg x ds).S=x.S from rfl,xk hR hd,Jg _ (by omega:(ob x.S ds[k]).Fields.length<=1000000)];have e:nz (ob x.S ds[k]).Fields=outs x.S ds[k]:=rfl;rw[e,B5 Δ Δ,a4L,p9];exact⟨rfl,by rw[zD];omega⟩
theorem DX(hq:(x.Q.L++ta x.a8 ds).length<=30){l:List Int}(N:qQ (hO x) l=some ds):na (hO x) l=some (hO (iH x ds)):=by
 have hl:=FT hx hn hm;have hR:=hx.sh.sr;obtain⟨w1,w2,w3,P,w5,w6⟩:=kE hx.sh.hr ds Δ;have ol:=Jm hx hn hm;have fl:=rI hx hn hm ds hm;have c6:=hx.sh.c6;unfold na;rw[N,a4L,show (hO x).a8=x.a8.map uw from rfl,WC _ _ Δ Δ,a4L];simp only[jn];rw[show (hO x).Q=sW x.Q from rfl,a0b Δ Δ hq hx.sh.cap];have key:=K4 ds (λb d=>b++outs x.S d) id (λk b=>b.length<=4*k) (b0:=[]) (f:=λ((o,r):Int × (List Int))=>
    if (decide (o<(ds.length:Int))) then
     (ix ds o).bind λC=>
     (K0 (hO x).S C).bind λF=>
     (gx F.1.Fields).bind λG=>
     (app 8 r G).bind λH=>
     some (Sum.inl (z8 (o+1),H))
    else
    some (.inr r)) Δ Ψ (λk hk b hb=>?_) (λb hb=>Ψ)
 .rw[key,a4L,gq,zbz];dsimp only[id];rw[show (hO x).T=x.T.map O2 from rfl,P,a4L];dsimp only;have u:=ol;rw[zD] at u;rw[B5 Δ Δ,a4L];have k1:=IS (y:=⟨(Dg x ds).S,(Dg x ds).Roots,(Dg x ds).a8,(pH x.T ds).1,(Dg x ds).Q⟩) hR hn hm Δ (K:=λe=>(lp (S:=Int × e6) (E:=e6) (λ((m,q):Int × e6)=>
      if (decide (m<((ds.flatMap (outs x.S)++(pH x.T ds).2).length:Int))) then
       (ix (ds.flatMap (outs x.S)++(pH x.T ds).2) m).bind λA=>
       (H5 q A).bind λB=>
       some (.inl (z8 (m+1),B))
      else
      some (.inr q)) (0,e)).bind λj=>some j)
  refine zcf k1 ?_;have g:=fk ds hR hn hm;have k2:=Cy (y:=wS (⟨(Dg x ds).S,(Dg x ds).Roots,(Dg x ds).a8,(pH x.T ds).1,(Dg x ds).Q⟩:Hp) (oA x.S ds)) g.sr _ Δ (Oj hx hn hm) (K:=λj=>some j);refine zcf k2 ?_;rfl
 .have hd:=hm _ (zk hk);have R:=FZ hx hn hm hd;have V:=GH hx hn hm hd;simp only[zQ,hk,zY,wd,x8 hk,a4L,show (hO x).S=sO x.S from rfl,uX hR hd];have e:gx (oo (ob x.S ds[k])).Fields=some (outs x.S ds[k]):=BW _ (by show (ob x.S ds[k]).Fields.length<=_;omega);rw[e,a4L,B5 Δ Δ,a4L,p9];exact⟨rfl,by rw[zD];omega⟩
end
theorem WA{x:Hp}(hR:SR x.S)(hS:SL x){ds:List Int}(hn:ds.Nodup)(hm:∀d∈ds,d∈lv x.S)(t:Tb):SL (kH x ds t):=λk hk=>by
 have g:=fk ds hR hn hm;have hk:k∈lv (oA x.S ds):=hk;rw[g.lv,zy,zG] at hk;have e:ob (kH x ds t).S k=ob x.S k:=g.ob k hk.1 hk.2;rw[e];exact hS k hk.1
theorem RC{x:Hp}(hR:SR x.S)(hS:SL x){ds:List Int}(hn:ds.Nodup)(hm:∀d∈ds,d∈lv x.S):SL (iH x ds):=
 Hr _ (x:=kH x ds (pH x.T ds).1) (fk ds hR hn hm).sr (WA hR hS hn hm _)
theorem Uf{x:Hp}(hR:SR x.S)(hS:SL x){h:Int}(hh:h∈lv x.S):SL (jB x h):=by
 have hok:=HF hR hh;have e:=de (o:=gb (ob x.S h)) hR hh rfl hok;refine SL.F2 (x:=⟨eK x.S h (gb (ob x.S h)),x.Roots,x.a8,x.T,⟨x.Q.L ++ [yv x h],x.Q.Cap⟩⟩) (λk hk=>?_) e h;dsimp only at hk |-;rw[iS (o:=gb (ob x.S h)) hR hh rfl hok] at hk;rw[gG (o:=gb (ob x.S h)) hR hh rfl hok (fw hR hk)];split;·exact hS h hh
 .exact hS k hk
theorem a1V{x:Hp}(hx:R9 x)(hS:SL x):SL (OP x):=by
 cases h:zr x with
 | nil=>rw[sA h];exact hS
 | cons z l=>
  have hz:=(dZ.1 (show z∈zr x by rw[h];exact zm ..)).1;rw[ky h];split;·exact Uf hx.sh.sr hS hz
  .exact RC hx.sh.sr hS Ψ (Ω hz)
theorem HG{x:Hp}(hx:R9 x)(hS:SL x)(n:Nat):SL (Ac n x):=by
 induction n with
 | zero=>exact hS
 | succ n ih=>rw[fN];exact a1V (cQ hx n) ih
theorem OM{x:Hp}(hx:R9 x)(hS:SL x):SL (eM x):=HG hx hS 100
section
variable{x:Hp}(hx:R9 x)(hS:SL x)
include hx hS
theorem EY{z:Int}(hz:z∈zr x):(x.Q.L++ta x.a8 [z]).length<=30:=by
 have g:=(Df hx hz).sh.q30;have e:=(dZ.1 hz).1;rw[(uG hx.sh.sr (ds:=[z]) Ψ (Ω e)).2.2.2] at g;exact g
theorem Qz(h:zr x = []):((eH x).bind λg=>
  if ((g.length:Int)==0) then
   some (Sum.inr x)
  else
  (ix g 0).bind λj=>
  (B3 x.S j).bind λm=>
  (Q7 m.1).bind λo=>
  if o then
   (Z1 x j).bind λq=>
   some (.inl q)
  else
  (cut g 0 1).bind λr=>
  (cg x r).bind λe=>
  some (Sum.inl (α:=Hp) (β:=Hp) e))=some (.inr x):=by
 rw[zero_eq hx.sh.sr,a4L,h];rfl
theorem a2v(z:Int)(l:List Int):cut (z::l) 0 1=some [z]:=by
 unfold cut;rw[zc Ξ];simp
theorem Mw(h:zr x ≠ []):((eH x).bind λm=>
  if ((m.length:Int)==0) then
   some (Sum.inr x)
  else
  (ix m 0).bind λo=>
  (B3 x.S o).bind λq=>
  (Q7 q.1).bind λr=>
  if r then
   (Z1 x o).bind λu=>
   some (.inl u)
  else
  (cut m 0 1).bind λA=>
  (cg x A).bind λj=>
  some (Sum.inl (α:=Hp) (β:=Hp) j))=some (.inl (OP x)):=by
 cases hz:zr x with
 | nil=>exact absurd hz h
 | cons z l=>
  have g:z∈zr x:=by rw[hz];exact zm ..
  have e:=(dZ.1 g).1;have hR:=hx.sh.sr;rw[zero_eq hR,a4L,hz,za Ξ,show ix (z::l) 0=some z from rfl,a4L,xk hR e,a4L,Om,a4L,ky hz];by_cases hd:due (ob x.S z)=true
  .rw[zc hd,zc hd,EE hx hS (fw hR e),a4L];unfold Zp;rw[zc ⟨e,hd⟩]
  .rw[za hd,za hd,a2v hx hS,a4L,Nv hx (ds:=[z]) Ψ (Ω e) (EY hx hS g) (by rw[vl hR [z] Ψ (Ω (fw hR e)),IW e]),a4L]
theorem jE:U9 x=some (eM x):=by
 obtain⟨n,hn,e,g,m⟩:=xR hx;unfold U9;refine fu (λj=>Ac j x) rfl n (λ_=>True) Δ trivial (λk hk _=>.inl ⟨?_,trivial⟩) (λ_=>⟨Ac n x,?_,by rw[m]⟩)
 .have:=Mw (cQ hx k) (HG hx hS k) (g k hk);rw[<-fN] at this;exact this
 .exact Qz (cQ hx n) (HG hx hS n) e
theorem Yd{k:Nat}(hk:k<100)(h:zr x ≠ []){E:Type}{e:E}:((qP (hO x)).bind λj=>
     if ((j.length:Int)==0) then
      some (Sum.inr e)
     else
     (ix j 0).bind λo=>
     (pb (hO x) o).bind λq=>
     if q then
      (gC (hO x) o).bind λr=>
      some (.inl (z8 ((k:Int)+1),r))
     else
     (cut j 0 1).bind λu=>
     (na (hO x) u).bind λA=>
     some (Sum.inl (z8 ((k:Int)+1),A)))=some (.inl (((k+1:Nat):Int),hO (OP x))):=by
 cases hz:zr x with
 | nil=>exact absurd hz h
 | cons z l=>
  have m:z∈zr x:=by rw[hz];exact zm ..
  have g:=(dZ.1 m).1;have hR:=hx.sh.sr;rw[Vp hR,a4L,hz,za Ξ,show ix (z::l) 0=some z from rfl,a4L,RT hx hS (fw hR g),a4L,zB g,zag,ky hz,p9];by_cases hd:due (ob x.S z)=true
  .rw[zc hd,zc hd,Jv hx hS (fw hR g),a4L];unfold Zp;rw[zc ⟨g,hd⟩]
  .rw[za hd,za hd,a2v hx hS,a4L,DX hx (ds:=[z]) Ψ (Ω g) (EY hx hS m) (by rw[RU hR [z] Ψ (Ω (fw hR g)),IW g]),a4L]
theorem ny:T5 (hO x)=some (hO (eM x)):=by
 obtain⟨n,hn,g,m,o⟩:=xR hx;unfold T5;simp only[jn];refine fu (λj=>((j:Int),hO (Ac j x))) Ωm n (λ_=>True) Δ trivial (λk hk _=>.inl ⟨?_,trivial⟩) (λ_=>⟨.inl (hO (Ac n x)),?_,by rw[o]⟩)
 .dsimp only;rw[zc Ξ];have:=Yd (cQ hx k) (HG hx hS k) (k:=k) Δ (m k hk) (e:=(Sum.inl (hO (Ac k x)):e6 ⊕ e6));rw[<-fN] at this;exact this
 .dsimp only;rw[zc Ξ,Vp (cQ hx n).sh.sr,a4L,g];rfl
end
def P8(n l m e:Int):Int:=if n<l\/n > m then e else 0
def bG(a b c:Int):Int:=if a≠0 then a else if b≠0 then b else c
def D5(k a b c:Int):Int:=
 if k=1 then bG (P8 a 0 5 6) (P8 b 0 4 1) (P8 c (-1) 5 13)
 else if k=2\/k=9\/k=10 then bG (P8 a 0 5 6) (P8 b 0 5 6) 0
 else if k=3 then P8 a 0 5 6
 else if k=4 then bG (P8 a 0 5 6) (P8 b 0 5 6) (P8 c 0 3 5)
 else if k=5 then bG (P8 a 0 5 6) (P8 b 0 3 5) (P8 c (-1) 5 6)
 else if k=6 then bG (P8 a 0 5 7) (P8 b (-1) 5 6) (P8 c (-1) 5 13)
 else if k=7 then bG (P8 a 0 5 6) (P8 b 0 5 7) 0
 else if k=8 then bG (P8 a 0 5 6) (P8 b (-1) 5 6) 0
 else if k=11 then 0
 else if k=12 then P8 a 0 200 12
 else 14
def Hl:o5:=⟨some 169,0,5,6⟩
def XW:o5:=⟨some 170,0,5,6⟩
def a2Y:o5:=⟨some 170,-1,5,6⟩
def a3h:o5:=⟨some 172,-1,5,13⟩
def yi:List (Int × List o5):=[(1,[Hl,⟨some 170,0,4,1⟩,a3h]),(2,[Hl,XW]),(3,[Hl]),(4,[Hl,XW,⟨some 172,0,3,5⟩]),
 (5,[Hl,⟨some 170,0,3,5⟩,⟨some 172,-1,5,6⟩]),(6,[⟨some 169,0,5,7⟩,a2Y,a3h]),(7,[Hl,⟨some 170,0,5,7⟩]),(8,[Hl,a2Y]),(9,[Hl,XW]),(10,[Hl,XW]),(11,[]),(12,[⟨some 169,0,200,12⟩])]
theorem Li:oe=some yi:=Φ
def iy(o:l6)(d:o5):Int:=if d.part=some 169 then o.A else if d.part=some 170 then o.B else o.C
def sZ(o:l6)(d:o5):Bool:=decide (iy o d<d.least)||decide (iy o d > d.most)
def uT(o:l6):List o5->Int ⊕ Unit
 | []=>.inr ()
 | d::ds=>if sZ o d then .inl d.e else uT o ds
theorem IC(o:l6)(d:o5)(ds:List o5):uT o (d::ds)=if sZ o d then .inl d.e else uT o ds:=rfl
def MS(d:o5):Prop:=d.part=some 169\/d.part=some 170\/d.part=some 172
theorem a1q(o:l6){d:o5}(h:MS d):uV d.part o=some (iy o d):=by
 unfold iy;rcases h with h | h | h
 .rw[h];rfl
 .rw[h];rfl
 .rw[h];rfl
theorem a0V(o:l6)(ds:List o5)(hl:ds.length<=10)(hp:∀d∈ds,MS d):lp (S:=Int) (E:=Int ⊕ Unit) (λ(m:Int)=>
   if (decide (m<(ds.length:Int))) then
    (ix ds m).bind λg=>
    (uV g.part o).bind λq=>
    if ((decide (q<g.least))||(decide (q > g.most))) then
     some (.inr (.inl g.e))
    else
    some (.inl (z8 (m+1)))
   else
   some (.inr (.inr ()))) 0=some (uT o ds):=by
 refine cP (IV ds.length (λk=>uT o ds=uT o (ds.drop k)) (λe=>e=uT o ds) Δ rfl (λk hk j=>?_) (λj=>?_))
 .rw[zc (Ω hk),x8 hk,a4L,a1q o (hp _ (zk hk)),a4L];rw[zau hk,IC] at j;by_cases c:sZ o ds[k]=true
  .rw[zc (show ((decide (iy o ds[k]<ds[k].least))||(decide (iy o ds[k] > ds[k].most)))=true from c)];rw[zc c] at j;exact .inr ⟨_,rfl,j.symm⟩
  .rw[za (show ¬((decide (iy o ds[k]<ds[k].least))||(decide (iy o ds[k] > ds[k].most)))=true from c),p9];rw[za c] at j;exact .inl ⟨rfl,j⟩
 .rw[List.drop_length] at j;exact⟨_,za Ψ,j.symm⟩
theorem WN:∀p∈yi,p.2.length<=10/\∀d∈p.2,MS d:=by
 have:yi.all (λp=>decide (p.2.length<=10)&&p.2.all λd=>(d.part==some 169)||(d.part==some 170)||(d.part==some 172))=true:=Φ
 intro p hp;have:=zf.1 this p hp;rw[zo,zG,zf] at this;refine⟨this.1,λd hd=>?_⟩;have:=this.2 d hd;simp only[pi,wl] at this;unfold MS;rcases this with (h | h) | h
 .exact .inl h
 .exact .inr (.inl h)
 .exact .inr (.inr h)
theorem NW{m:List (Int × List o5)}{k:Int}{v:List o5}(h:C0 m k=some v):(k,v)∈m:=by
 induction m with
 | nil=>cases h
 | cons p m ih=>
  unfold C0 at h;split at h
  .rename_i c;have:k=p.1:=by simpa using c
   cases h;subst this;exact zm ..
  .exact zx _ (ih h)
def wB(o:l6)(ds:List o5):Int:=match uT o ds with
 | .inl e=>e
 | .inr _=>0
theorem YC(o:l6):wB o []=0:=rfl
theorem wE(o:l6)(d:o5)(ds:List o5):wB o (d::ds)=if sZ o d then d.e else wB o ds:=by
 unfold wB;rw[IC];cases sZ o d <;> rfl
theorem Gp(o:l6)(d:o5):P8 (iy o d) d.least d.most d.e=if sZ o d then d.e else 0:=by
 unfold P8 sZ;by_cases h:iy o d<d.least\/iy o d > d.most
 .rw[zc h,zc (Ω h)]
 .rw[za h,za (Ω h)]
theorem Yz(o:l6)(d:o5):wB o [d]=P8 (iy o d) d.least d.most d.e:=by rw[wE,YC,Gp]
theorem Vc(o:l6)(d e:o5)(g:d.e≠0):wB o [d,e]=bG (P8 (iy o d) d.least d.most d.e) (P8 (iy o e) e.least e.most e.e) 0:=by
 rw[wE,Yz,Gp o d];unfold bG;cases sZ o d
 .simp only[zj,wf,ne_eq,not_true_eq_false];split;·rfl
  .rename_i h;simpa using h
 .simp[g]
theorem YA(o:l6)(d e f:o5)(g:d.e≠0)(j:e.e≠0):wB o [d,e,f]=bG (P8 (iy o d) d.least d.most d.e) (P8 (iy o e) e.least e.most e.e) (P8 (iy o f) f.least f.most f.e):=by
 rw[wE,wE,Yz,Gp o d,Gp o e];unfold bG;cases sZ o d <;> cases sZ o e <;> simp[g,j]
theorem SX(o:l6):(match C0 yi o.Kind with
  | none=>14
  | some ds=>wB o ds)=D5 o.Kind o.A o.B o.C:=by
 obtain⟨k,a,b,c⟩:=o;dsimp only;by_cases h:1<=k/\k<=12
 .have:k=1\/k=2\/k=3\/k=4\/k=5\/k=6\/k=7\/k=8\/k=9\/k=10\/k=11\/k=12:=by omega
  rcases this with rfl | rfl | rfl | rfl | rfl | rfl | rfl | rfl | rfl | rfl | rfl | rfl
  .exact YA _ _ _ _ Θ Θ
  .exact Vc _ _ _ Θ
  .exact Yz _ _
  .exact YA _ _ _ _ Θ Θ
  .exact YA _ _ _ _ Θ Θ
  .exact YA _ _ _ _ Θ Θ
  .exact Vc _ _ _ Θ
  .exact Vc _ _ _ Θ
  .exact Vc _ _ _ Θ
  .exact Vc _ _ _ Θ
  .rfl
  .exact Yz _ _
 .have e:C0 yi k=none:=by
   cases hm:C0 yi k with
   | none=>rfl
   | some v=>
    have:=NW hm;simp only[yi,zV,Prod.mk.injEq,zb9,or_false] at this;omega
  rw[e];unfold D5;repeat rw[za Δ]
theorem qk(o:l6):Y6 o=some (D5 o.Kind o.A o.B o.C):=by
 rw[<-SX];unfold Y6;rw[Li,a4L];cases h:C0 yi o.Kind with
 | none=>rfl
 | some ds=>
  obtain⟨e,g⟩:=WN _ (NW h);rw[za Ψ];simp only[jn,wp];rw[a0V o ds e g,a4L];unfold wB;cases uT o ds <;> rfl
theorem Xe(n l m e:Int):dd n l m e=some (P8 n l m e):=by
 unfold dd P8;by_cases h:n<l\/n > m
 .rw[zc h,zc (Ω h)]
 .rw[za h,za (Ω h)]
theorem Sn(a b c:Int):bj a b c=some (bG a b c):=by
 unfold bj bG;by_cases h:a=0
 .by_cases g:b=0
  .rw[za (Ω h),za (Ω g),za (Ω h),za (Ω g)]
  .rw[za (Ω h),zc (Ω g),za (Ω h),zc (Ω g)]
 .rw[zc (Ω h),zc (Ω h)]
theorem kU(o:u7):cJ o=some (D5 o.Kind o.A o.B o.C):=by
 unfold cJ D5;simp only[Xe,Sn,a4L,jn];by_cases h:1<=o.Kind/\o.Kind<=12
 .have:o.Kind=1\/o.Kind=2\/o.Kind=3\/o.Kind=4\/o.Kind=5\/o.Kind=6\/o.Kind=7\/o.Kind=8\/o.Kind=9\/o.Kind=10\/o.Kind=11\/o.Kind=12:=by omega
  rcases this with h | h | h | h | h | h | h | h | h | h | h | h <;> rw[h] <;> rfl
 .have n:∀j:Int,1<=j->j<=12->(o.Kind==j)=false:=λj e g=>by
   rw[zb8];omega
  simp only[n 1 Δ Δ,n 2 Δ Δ,n 3 Δ Δ,n 4 Δ Δ,n 5 Δ Δ,n 6 Δ Δ,n 7 Δ Δ,n 8 Δ Δ,n 9 Δ Δ,n 10 Δ Δ,n 11 Δ Δ,n 12 Δ Δ,zj,wf];repeat rw[za Δ]
theorem OE{x:Hp}(hx:R9 x){ds:List Int}:(x.Q.L++ta x.a8 ds).length<=30:=by
 have hS:=hx.sh;have c6:=hS.c6;have g:(lv x.S).length<=24:=J5 (A6.2 hS.sr);have e:(x.Q.L++ta x.a8 ds).Pairwise λa b=>¬(a.Kind=b.Kind/\a.At=b.At):=by
  rw[zbb];refine⟨hS.td,DZ ..,λa ha b hb q=>?_⟩;obtain⟨w,hw,rfl,hh,_⟩:=jj.1 hb;have hi:x.a8[w].Intact=true:=by
   unfold jh at hh;rw[zo,zo] at hh;exact hh.1.1
  have:=((hS.cl w hw).2.2.2.2 hi).2;rw[zbj] at this;exact this (lF.2 ⟨a,ha,q.1,q.2⟩)
 have:=CQ (m:=lv x.S) e λt ht=>by
  rcases zC.1 ht with q | q
  .rcases (hS.tk t q).2.2 with c | c
   .exact .inl ⟨c.1,c.2.1⟩
   .exact .inr c
  .obtain⟨w,hw,rfl,_,_⟩:=jj.1 q;exact .inr ⟨rfl,Ωy,Ωy⟩
 omega
section
variable{x:Hp}(hB:HB x)
include hB
end
structure Ii (x y:Hp):Prop where
 lv:∀h∈lv y.S,h∈lv x.S
 V3:y.S.Serial=x.S.Serial
 len:y.S.S.a8.length=x.S.S.a8.length
 ob:∀h∈Sh.lv y.S,(ob y.S h).Serial=(ob x.S h).Serial/\(Sh.ob y.S h).Prog=(Sh.ob x.S h).Prog/\(Sh.ob y.S h).Fields=(Sh.ob x.S h).Fields/\((Sh.ob x.S h).Started=true->(Sh.ob y.S h).Started=true)
 rt:y.Roots=x.Roots
 cn:y.a8.length=x.a8.length
 cl:∀i (h:i<y.a8.length) (h':i<x.a8.length),y.a8[i]=⟨x.a8[i].Target,x.a8[i].Intact&&decide (x.a8[i].Target∈Sh.lv y.S),x.a8[i].Call⟩
 q:∃l,y.Q=⟨x.Q.L++l,x.Q.Cap⟩/\(∀t∈l,t.Kind=1->t.At∈Sh.lv x.S/\(Sh.ob x.S t.At).Started=false)/\∀h∈Sh.lv y.S,(Sh.ob y.S h).Started=true->(Sh.ob x.S h).Started=false->∃t∈l,t.Kind=1/\t.At=h
 rc:∀h,dj x.S x.T (rV x) h->dj y.S y.T (rV y) h
 has:∀k v,Has y.T k v->Has x.T k v
theorem Ii.refl{x:Hp}(hx:pY x):Ii x x:=by
 refine⟨λ_ h=>h,rfl,rfl,λh _=>⟨rfl,rfl,rfl,id⟩,rfl,rfl,λi h h'=>?_,⟨[],Ψ,Ψ,λh _ a b=>?_⟩,λ_ h=>h,λ_ _ h=>h⟩
 .have:=(hx.cl i h).2.2.2.2;cases e:x.a8[i].Intact;·rw[zbi,<-e]
  .rw[zB (this e).1,Bool.and_self,<-e]
 .rw[a] at b;cases b
theorem Ii.trans{x y z:Hp}(a:Ii x y)(b:Ii y z):Ii x z:=by
 obtain⟨l1,G,H,K⟩:=a.q;obtain⟨F,N,P,R⟩:=b.q;refine⟨λh hh=>a.lv h (b.lv h hh),b.V3.trans a.V3,b.len.trans a.len,λh hh=>?_,b.rt.trans a.rt,b.cn.trans a.cn,λi h h'=>?_,⟨l1++F,?_,λt ht hk=>?_,λh hh s1 s2=>?_⟩,λh hh=>b.rc h (a.rc h hh),λk v hh=>a.has k v (b.has k v hh)⟩
 .obtain⟨A,B,C,E⟩:=b.ob h hh;obtain⟨m,o,r,u⟩:=a.ob h (b.lv h hh);exact⟨A.trans m,B.trans o,C.trans r,λq=>E (u q)⟩
 .have hy:i<y.a8.length:=by rw[a.cn];exact h'
  rw[b.cl i h hy,a.cl i hy h'];dsimp only;congr 1;rw[Bool.and_assoc];congr 1;by_cases q:x.a8[i].Target∈Sh.lv z.S
  .rw[zB q,zB (b.lv _ q)];rfl
  .rw[zH q,Bool.and_false]
 .rw[N,G,pu]
 .rcases zC.1 ht with q | q
  .exact H t q hk
  .obtain⟨g,j⟩:=P t q hk;refine⟨a.lv _ g,?_⟩;cases hs:(Sh.ob x.S t.At).Started;·rfl
   .rw[(a.ob _ g).2.2.2 hs] at j;cases j
 .cases hs:(Sh.ob y.S h).Started
  .obtain⟨t,ht,e⟩:=R h hh s1 hs;exact⟨t,za0 _ ht,e⟩
  .obtain⟨t,ht,e⟩:=K h (b.lv h hh) hs s2;exact⟨t,zac _ ht,e⟩
theorem OK(s:a7)(h:Int)(o:u0):(eK s h o).S.a8.length=s.S.a8.length:=R5 ..
theorem XU{x:Hp}(hx:R9 x){z:Int}(hz:z∈lv x.S)(hs:(ob x.S z).Started=false):Ii x (jB x z):=by
 have hR:=hx.sh.sr;obtain⟨k,r,u,A,B⟩:=oT hR hz;have l1:=GP hR hz;have g:∀h∈lv x.S,(ob (jB x z).S h).Serial=(ob x.S h).Serial/\(ob (jB x z).S h).Prog=(ob x.S h).Prog/\(ob (jB x z).S h).Fields=(ob x.S h).Fields/\((ob (jB x z).S h).Started=true↔(ob x.S h).Started=true\/h=z):=λh hh=>by
  obtain⟨n,e⟩:=Ch hR hz hh;rw[e];by_cases q:h=z
  .subst q;rw[zc rfl];exact⟨rfl,rfl,rfl,Ψ⟩
  .rw[za q];exact⟨rfl,rfl,rfl,by simp[q]⟩
 have o:∀h∈rV x,h∈rV (jB x z):=λh hh=>by
  unfold rV at hh |-;rw[r,B];rcases zC.1 hh with q | q
  .exact zac _ q
  .refine za0 _ ?_;obtain⟨t,ht,a,b⟩:=vt.1 q;exact vt.2 ⟨t,zac _ ht,a,b⟩
 have rf:=Ii.refl hx.sh;refine⟨λh hh=>by rw[l1] at hh;exact hh,k.V3,k.len.trans (OK ..),λh hh=>?_,r,by rw[u],λi h h'=>?_,⟨[yv x z],by rw[B],λt ht hk=>?_,λh hh s1 s2=>?_⟩,λh hh=>?_,λk v hh=>by rw[A] at hh;exact hh⟩
 .rw[l1] at hh;obtain⟨a,b,c,d⟩:=g h hh;exact⟨a,b,c,λq=>d.2 (.inl q)⟩
 .have C:(jB x z).a8[i]=x.a8[i]:=by simp only[u]
  rw[C,l1];exact rf.cl i h' h'
 .rw[zR] at ht;subst ht;exact⟨hz,hs⟩
 .rw[l1] at hh;rcases (g h hh).2.2.2.1 s1 with q | q
  .rw[q] at s2;cases s2
  .exact⟨yv x z,List.mem_singleton_self _,rfl,q.symm⟩
 .induction hh with
  | base j m=>exact .base (o _ j) (by rw[l1];exact m)
  | step h0 j m ih=>
   refine .step ih ?_ (by rw[l1];exact m);unfold outs at j |-;rw[(g _ h0.live).2.2.1];exact j
  | pair j h0 m ih=>exact .pair (by rw[A];exact j) ih (by rw[l1];exact m)
theorem WB{x:Hp}(hx:R9 x){z:Int}(hz:z∈zr x):Ii x (iH x [z]):=by
 have hR:=hx.sh.sr;have u:=(dZ.1 hz).1;have h0:z≠0:=λe=>sM hR (e▸u);have hfree:=HX hx hz;have hn:([z]:List Int).Nodup:=Ψ
 have hm:∀d ∈ [z],d∈lv x.S:=Ω u
 have g:=fk [z] hR hn hm;have k:=(km ([z].flatMap (outs x.S)++(pH x.T [z]).2) (x:=kH x [z] (pH x.T [z]).1) g.sr).1;obtain⟨F,G,H,K⟩:=uG hR hn hm;obtain⟨_,w2,_,_,N,w6⟩:=kE hx.sh.hr [z] Ψ;have l1:∀h,h∈lv (iH x [z]).S↔h∈lv x.S/\h≠z:=λh=>by
  rw[Lb hR hn hm,zy,zG,zR]
 have m:∀h∈lv (iH x [z]).S,(ob (iH x [z]).S h).Serial=(ob x.S h).Serial/\(ob (iH x [z]).S h).Prog=(ob x.S h).Prog/\(ob (iH x [z]).S h).Fields=(ob x.S h).Fields/\(ob (iH x [z]).S h).Started=(ob x.S h).Started:=λh hh=>by
  obtain⟨a,b⟩:=(l1 h).1 hh;obtain⟨n,e⟩:=Lc hR hn hm a (Ω b);rw[e];exact⟨rfl,rfl,rfl,rfl⟩
 refine⟨λh hh=>((l1 h).1 hh).1,k.V3.trans g.V3,k.len.trans g.len,λh hh=>?_,F,by rw[G];simp[yg],λi h h'=>?_,⟨ta x.a8 [z],by rw[K],λt ht hk=>?_,λh hh s1 s2=>?_⟩,λh hh=>?_,λk v hh=>?_⟩
 .obtain⟨a,b,c,d⟩:=m h hh;exact⟨a,b,c,λq=>d.trans q⟩
 .have P:(iH x [z]).a8[i]=ql [z] x.a8[i]:=by
   simp only[G];exact rx _
  rw[P];have hc:=(hx.sh.cl i h').2.2.2.2;unfold ql jh;cases B:x.a8[i].Intact;·rw[za Ψ,zbi,<-B]
  .have ht:=(hc B).1;have V:x.a8[i].Target≠0:=λe=>sM hR (e▸ht);by_cases q:x.a8[i].Target=z
   .rw[zc (by simp[q,h0]),zH (λr=>((l1 _).1 r).2 q)];rfl
   .rw[za (by simp[q]),zB ((l1 _).2 ⟨ht,q⟩),Bool.and_self,<-B]
 .obtain⟨w,hw,rfl,_,_⟩:=jj.1 ht;simp at hk
 .rw[(m h hh).2.2.2,s2] at s1;cases s1
 .unfold sN at hfree;have key:dj (iH x [z]).S (iH x [z]).T (rV (iH x [z])) h/\h≠z:=by
   induction hh with
   | base A R=>
    rename_i a;have j:a≠z:=λe=>by
     subst e;exact Kz h0 (by omega:bx (rV x) a=0) A
    refine⟨.base ?_ ((l1 _).2 ⟨R,j⟩),j⟩;unfold rV at A |-;rw[F,K,BG _ _ _ λt ht=>by
     obtain⟨w,_,rfl,_⟩:=jj.1 ht;simp]
    exact A
   | step C o E ih=>
    rename_i a b;have j:b≠z:=λe=>by
     subst e;have:=Gr (y:=b) C.live;have A:=fP.2 ⟨h0,o⟩;omega
    refine⟨.step ih.1 ?_ ((l1 _).2 ⟨E,j⟩),j⟩;unfold outs at o |-;rw[(m _ ((l1 _).2 ⟨C.live,ih.2⟩)).2.2.1];exact o
   | pair o C E ih=>
    rename_i a b;have j:b≠z:=λe=>by
     subst e;have:=GK o h0;omega
    exact⟨.pair (by rw[H];exact (N _ _).2 ⟨Ω ih.2,o⟩) ih.1 ((l1 _).2 ⟨E,j⟩),j⟩
  exact key.1
 .rw[H] at hh;exact ((N _ _).1 hh).2
theorem Yo{x:Hp}(hx:R9 x):Ii x (OP x):=by
 cases h:zr x with
 | nil=>rw[sA h];exact Ii.refl hx.sh
 | cons z l=>
  have hz:z∈zr x:=by rw[h];exact zm ..
  rw[ky h];split
  .rename_i q;unfold due at q;rw[zo,zG,zbp] at q;exact XU hx (dZ.1 hz).1 q.2
  .exact WB hx hz
theorem Yn{x:Hp}(hx:R9 x)(n:Nat):Ii x (Ac n x):=by
 induction n with
 | zero=>exact Ii.refl hx.sh
 | succ n ih=>rw[fN];exact ih.trans (Yo (cQ hx n))
theorem re{x:Hp}(hx:R9 x):Ii x (eM x):=Yn hx 100
section
variable{x:Hp}(hB:HB x)
include hB
end
structure Ks (s s':a7):Prop where
 sr:SR s'
 V3:s'.Serial=s.Serial
 lv:lv s'=lv s
 ob:∀h∈Sh.lv s,(ob s' h).Serial=(ob s h).Serial
theorem Ks.refl{s:a7}(hR:SR s):Ks s s:=⟨hR,rfl,rfl,λ_ _=>rfl⟩
theorem Ks.trans{a b c:a7}(h:Ks a b)(q:Ks b c):Ks a c:=⟨q.sr,q.V3.trans h.V3,q.lv.trans h.lv,λk hk=>(q.ob k (by rw[h.lv];exact hk)).trans (h.ob k hk)⟩
theorem yO.ks{s s':a7}(hR:SR s)(k:yO s s'):Ks s s':=⟨k.sr,k.V3,k.lv,λh hh=>by
 obtain⟨n,e⟩:=k.ob h ΩJ;rw[e]⟩
theorem Kn.ks{s s':a7}(k:Kn s s')(e:s'.Serial=s.Serial):Ks s s':=⟨k.sr,e,k.lv,λh hh=>by
 obtain⟨n,m,e⟩:=k.ob h hh;rw[e]⟩
theorem a1L{s:a7}(hR:SR s){h:Int}(hh:h∈lv s){o:u0}(hs:o.Serial=(ob s h).Serial)(ho:Dm s o):Ks s (eK s h o):=⟨de hR hh hs ho,rfl,iS hR hh hs ho,λk hk=>by
 rw[gG hR hh hs ho (by have:=L5 hR hk;omega)];split;·rename_i e;subst e;exact hs
 .rfl⟩
theorem Hw{x:Hp}(hR:SR x.S)(h:Int):Ks x.S (F2 x h).S:=(K2 hR h λc=>G8).ks hR
theorem Hs{x:Hp}(hR:SR x.S)(h:Int):Ks x.S (W8 x h).S:=(K2 hR h λc=>U4).ks hR
theorem CE(x:Hp)(h:Int):(W8 x h).Roots=x.Roots/\(W8 x h).a8=x.a8/\(W8 x h).T=x.T/\(W8 x h).Q=x.Q:=CP x h mq
theorem dz{x:Hp}(hR:SR x.S)(r:Nat)(h:Int):Ks x.S (K1 x r h).S:=
 (Hw hR h).trans (Hs (x:=wR (F2 x h) (x.Roots.set r h)) (iR hR h) _)
theorem Ea{x:Hp}(hR:SR x.S){h:Int}(hh:h∈lv x.S){n:Nat}(hn:n<(ob x.S h).Fields.length)(v:Int):Ks x.S (dQ x h n v).S:=by
 have k1:=Hw hR v;have g:h∈lv (F2 x v).S:=by rw[k1.lv];exact hh
 have j:(ob (F2 x v).S h).Fields=(ob x.S h).Fields:=by
  obtain⟨n,e⟩:=(K2 hR v (f:=aq) λc=>G8).ob h ΩJ;show (ob (wx x v aq).S h).Fields=_;rw[e]
 have ho:Dm (F2 x v).S (rJ (ob (F2 x v).S h) ((ob x.S h).Fields.set n v)):=by
  have:=N5 k1.sr g;refine⟨this.s1,this.s2,this.st,this.wk,this.p1,this.p2,?_⟩;have m:=this.fl;rw[j] at m;simpa using m
 have k2:=a1L (o:=rJ (ob (F2 x v).S h) ((ob x.S h).Fields.set n v)) k1.sr g rfl ho;exact (k1.trans k2).trans (Hs (x:=wS (F2 x v) (eK (F2 x v).S h (rJ (ob (F2 x v).S h) ((ob x.S h).Fields.set n v)))) k2.sr _)
theorem qs(x:Hp)(h:Int)(n:Nat)(v:Int):(dQ x h n v).Roots=x.Roots/\(dQ x h n v).a8=x.a8/\(dQ x h n v).T=x.T/\(dQ x h n v).Q=x.Q:=by
 obtain⟨a,b,c,d⟩:=CE (wS (F2 x v) (eK (F2 x v).S h (rJ (ob (F2 x v).S h) ((ob x.S h).Fields.set n v)))) ((ob x.S h).Fields.getD n 0);obtain⟨e,g,j,d'⟩:=nv x v;exact⟨a.trans e,b.trans g,c.trans j,d.trans d'⟩
theorem Jn{x:Hp}(hR:SR x.S)(v:Int)(t:Tb)(old:Int):Ks x.S (mN x v t old).S:=
 (Hw hR v).trans (Hs (x:=wT (F2 x v) t) (iR hR v) old)
theorem ud(x:Hp)(v:Int)(t:Tb)(old:Int):(mN x v t old).Roots=x.Roots/\(mN x v t old).a8=x.a8/\(mN x v t old).T=t/\(mN x v t old).Q=x.Q:=by
 obtain⟨a,b,c,d⟩:=CE (wT (F2 x v) t) old;obtain⟨e,g,j,d'⟩:=nv x v;exact⟨a.trans e,b.trans g,c,d.trans d'⟩
theorem a0J{s:a7}(hR:SR s){i:Nat}(hi:i<s.S.a8.length)(e:(ce s i).State=2):Ks s (Eh s i):=⟨Gk hR hi,rfl,Gi hR hi e,λh hh=>by rw[Gj hR hi e hh]⟩
theorem a0Y{x:Hp}(hR:SR x.S)(h:Int){d:Int}(hd:aY x.S h (G4 h)->0<=(ce x.S (G4 h)).Val.Weak+d):Ks x.S (mK x h d).S:=by
 unfold mK;split
 .rename_i q;exact (oK hR q.1 q.2.1 (hd q)).ks rfl
 .exact Ks.refl hR
theorem Tt(x:Hp)(h d:Int):(mK x h d).Roots=x.Roots/\(mK x h d).a8=x.a8/\(mK x h d).T=x.T/\(mK x h d).Q=x.Q:=by
 unfold mK;split <;> exact⟨rfl,rfl,rfl,rfl⟩
theorem QL(x:Hp)(h:Int):(rp x h).Roots=x.Roots/\(rp x h).a8=x.a8/\(rp x h).T=x.T/\(rp x h).Q=x.Q:=by
 unfold rp;split;·split <;> exact⟨rfl,rfl,rfl,rfl⟩
 .exact⟨rfl,rfl,rfl,rfl⟩
theorem OV{x:Hp}(hR:SR x.S)(h:Int)(hd:aY x.S h (G4 h)->1<=(ce x.S (G4 h)).Val.Weak):Ks x.S (rp x h).S:=by
 unfold rp;split
 .rename_i q;have hd:=hd q;have kn:=oK (d:=-1) hR q.1 q.2.1 Δ;split
  .rename_i c;have g:G4 h<(rR x.S (G4 h) (-1)).S.a8.length:=by rw[kn.len];exact q.1
   have e:ce (rR x.S (G4 h) (-1)) (G4 h)=⟨(ce x.S (G4 h)).State,(ce x.S (G4 h)).Gen,wkg (ce x.S (G4 h)).Val ((ce x.S (G4 h)).Val.Weak + -1)⟩:=by
    rw[iN hR q.1 q.2.1,zc rfl]
   have j:(ce (rR x.S (G4 h) (-1)) (G4 h)).State=2:=by rw[e];exact c.1
   exact (kn.ks rfl).trans (a0J kn.sr g j)
  .exact kn.ks rfl
 .exact Ks.refl hR
theorem KE{x:Hp}(hx:R9 x){n:Nat}(hn:n<6)(h call:Int):Ks x.S (gg x n h call).S:=by
 have hR:=hx.sh.sr;have hnl:n<x.a8.length:=by have:=hx.sh.c6;omega
 have ok:∀k i,aY x.S k i->0<=(ce x.S i).Val.Weak:=λk i q=>(hR.ok i q.1 q.2.1).wk;have tw:∀i,aY x.S (wy x n) i->1<=(ce x.S i).Val.Weak:=λi q=>by
  have g:wy x n=x.a8[n].Target:=by
   unfold wy;rw[zg,zd hnl];rfl
  have r:=q.Us hR;have p:=vx hnl (by rw[<-g];omega);rw[<-g,q.2.2] at p;have:=(hx.wk i q.1 q.2.1).1;omega
 unfold gg;have s1:Ks x.S (mK (wC x (x.a8.set n (lE h call))) h 1).S:=a0Y (x:=wC x (x.a8.set n (lE h call))) hR h λq=>by
  have:=ok _ _ q;dsimp only;omega
 by_cases q:aY x.S h (G4 h)
 .have e:mK (wC x (x.a8.set n (lE h call))) h 1=wS (wC x (x.a8.set n (lE h call))) (rR x.S (G4 h) 1):=by
   unfold mK;rw[zc q]
  have hd:=ok _ _ q;have kn:=oK (d:=1) hR q.1 q.2.1 Δ;rw[e] at s1 |-;refine s1.trans (OV (x:=wS (wC x (x.a8.set n (lE h call))) (rR x.S (G4 h) 1)) kn.sr _ λj=>?_);dsimp only at j |-;have o:=(kn.ad _ _).1 j;have:=tw _ o;rw[iN hR q.1 q.2.1];split
  .rename_i m;rw[m] at this;show 1<=(ce x.S (G4 h)).Val.Weak+1;omega
  .exact this
 .have e:mK (wC x (x.a8.set n (lE h call))) h 1=wC x (x.a8.set n (lE h call)):=by
   unfold mK;rw[za q]
  rw[e] at s1 |-;exact s1.trans (OV (x:=wC x (x.a8.set n (lE h call))) hR _ λj=>tw _ j)
theorem Da(x:Hp)(n:Nat)(h call:Int):(gg x n h call).Roots=x.Roots/\(gg x n h call).a8=x.a8.set n (lE h call)/\(gg x n h call).T=x.T/\(gg x n h call).Q=x.Q:=by
 obtain⟨a,b,c,d⟩:=QL (mK (wC x (x.a8.set n (lE h call))) h 1) (wy x n);obtain⟨e,g,j,d'⟩:=Tt (wC x (x.a8.set n (lE h call))) h 1;exact⟨a.trans e,b.trans g,c.trans j,d.trans d'⟩
abbrev nwo(s:a7)(n:Nat)(p:Int):u0:=⟨s.Serial+1,0,0,p,false,List.replicate n 0⟩
def gR(s:a7)(i n:Nat)(p:Int):a7:=⟨⟨s.S.a8.set i ⟨1,(ce s i).Gen,nwo s n p⟩,s.S.Last⟩,s.Serial+1⟩
section
variable{s:a7}(hR:SR s){i:Nat}(hi:i<s.S.a8.length)(h0:(ce s i).State=0){n:Nat}(hn:n<=4){p:Int}(hp : -1<=p/\p<=5)
include hR hi h0 hn hp
theorem lU:(gR s i n p).S.a8.length=s.S.a8.length:=by simp[gR]
theorem pR(j:Nat):ce (gR s i n p) j=if j=i then ⟨1,(ce s i).Gen,nwo s n p⟩ else ce s j:=mz hi _ _ j
theorem Jf:SR (gR s i n p):=by
 have g:=hR.V3;have hc:=hR.cell i hi;have o:¬Th (ce s i):=λh=>by
  rcases h with h | h <;> omega
 refine⟨by rw[lU hR hi h0 hn hp];exact hR.len,hR.l0,hR.l9,by show 0<=s.Serial+1;omega,λj hj=>?_,λj hj ht=>?_,λj hj ht=>?_,λj k hj hk a b e=>?_⟩
 .rw[lU hR hi h0 hn hp] at hj;rw[pR hR hi h0 hn hp];split;·exact⟨show (0:Int)<=1 by decide,show (1:Int)<=3 by decide,hc.2.2.1,hc.2.2.2⟩
  .exact hR.cell j hj
 .rw[lU hR hi h0 hn hp] at hj;rw[pR hR hi h0 hn hp] at ht |-;split at ht;·exact absurd (.inl rfl) ht
  .rename_i e;rw[za e];exact hR.no j hj ht
 .rw[lU hR hi h0 hn hp] at hj;rw[pR hR hi h0 hn hp] at ht |-;split at ht
  .rename_i e;rw[zc e];exact⟨by show 1<=s.Serial+1;omega,md _,md 0,md 0,hp.1,hp.2,Ω hn⟩
  .rename_i e;rw[za e];have:=hR.ok j hj ht;exact⟨this.s1,by show _<=s.Serial+1;have:=this.s2;omega,this.st,this.wk,this.p1,this.p2,this.fl⟩
 .rw[lU hR hi h0 hn hp] at hj hk;rw[pR hR hi h0 hn hp] at a e;rw[pR hR hi h0 hn hp] at b e;have old:∀m,m<s.S.a8.length->Th (ce s m)->(ce s m).Val.Serial≠s.Serial+1:=λm hm t q=>by
   have:=(hR.ok m hm t).s2;omega
  by_cases ej:j=i <;> by_cases ek:k=i
  .rw[ej,ek]
  .rw[za ek] at b e;rw[zc ej] at e;exact absurd e.symm (old k hk b)
  .rw[za ej] at a e;rw[zc ek] at e;exact absurd e (old j hj a)
  .rw[za ej] at a e;rw[za ek] at b e;exact hR.dif j k hj hk a b e
theorem LK{k:Int}{j:Nat}(q:aY s k j):j≠i:=λe=>by
 subst e;rcases q.2.1 with h | h <;> omega
theorem a0X{k:Int}{j:Nat}:aY (gR s i n p) k j↔aY s k j\/(j=i/\k=cX s i):=by
 unfold aY;rw[lU hR hi h0 hn hp,pR hR hi h0 hn hp];by_cases e:j=i
 .rw[zc e];subst e;constructor
  .rintro⟨a,b,c⟩;exact .inr ⟨rfl,c⟩
  .rintro (⟨a,b,c⟩ | ⟨_,c⟩);·exact absurd rfl (LK hR hi h0 hn hp ⟨a,b,c⟩)
   .exact⟨hi,.inl rfl,c⟩
 .rw[za e];constructor;·exact .inl
  .rintro (h | ⟨h,_⟩);·exact h
   .exact absurd h e
theorem NY:lv (gR s i n p)=lv s ++ [cX s i]:=by
 have e:=LJ (s:=s) (A6.2 hR) hi (by rw[<-I0 hi];exact h0) (nwo s n p) rfl (fv (A6.2 hR));unfold gR;rw[show (ce s i).Gen=s.S.a8[i].Gen by rw[I0 hi]];have g:cX s i=1+(i:Int)+32*s.S.a8[i].Gen:=by unfold cX;rw[I0 hi]
 rw[g];have:=fv (A6.2 (by have:=Jf hR hi h0 hn hp;unfold gR at this;rw[show (ce s i).Gen=s.S.a8[i].Gen by rw[I0 hi]] at this;exact this));rw[e] at this;exact (t8 this).symm
theorem Tr:cX s i∉lv s:=λh=>by
 obtain⟨j,q⟩:=(iV hR).1 h;have:i=j:=by
  have a:=q.2.2;have b:=q.1;unfold cX at a;have:=hR.len;omega
 subst this;have:=q.2.1;omega
theorem Ey{k:Int}(hk:k∈lv s):ob (gR s i n p) k=ob s k:=by
 obtain⟨j,q⟩:=(iV hR).1 hk;have hj:=LK hR hi h0 hn hp q.d;have e:At (gR s i n p) k j:=by
  refine⟨by rw[lU hR hi h0 hn hp];exact q.1,?_,?_⟩ <;> rw[pR hR hi h0 hn hp,za hj]
  .exact q.2.1
  .exact q.2.2
 rw[V5 (Jf hR hi h0 hn hp) e,V5 hR q,pR hR hi h0 hn hp,za hj]
theorem xt:ob (gR s i n p) (cX s i)=nwo s n p:=by
 have e:At (gR s i n p) (cX s i) i:=by
  refine⟨by rw[lU hR hi h0 hn hp];exact hi,?_,?_⟩ <;> rw[pR hR hi h0 hn hp,zc rfl]
  rfl
 rw[V5 (Jf hR hi h0 hn hp) e,pR hR hi h0 hn hp,zc rfl]
end
theorem OT{l:List Int}{h:Int}(e:h∉l):bx l h=0:=Nat.eq_zero_of_not_pos λq=>e (fP.1 q).2
variable {x y:Hp}{a b c:Int}
theorem Ts(hx:R9 x){i:Nat}(hi:i<x.S.S.a8.length)(h0:(ce x.S i).State=0){n:Nat}(hn:n<=4){p:Int}(hp : -1<=p/\p<=5):R9 (wS x (gR x.S i n p)):=by
 have hR:=hx.sh.sr;have hS:=Jf hR hi h0 hn hp;have hl:=NY hR hi h0 hn hp;have g:=Tr hR hi h0 hn hp;have mem:∀ {k},k∈lv x.S->k∈lv (gR x.S i n p):=λhk=>by rw[hl];exact zac _ hk
 have mem0:∀ {k},k=0\/k∈lv x.S->k=0\/k∈lv (gR x.S i n p):=λhk=>hk.imp id mem;have hpos:=AE hR hi;have split:∀ {k},k∈lv (gR x.S i n p)->k∈lv x.S\/k=cX x.S i:=λhk=>by
  rw[hl] at hk;rcases zC.1 hk with q | q
  .exact .inl q
  .exact .inr (zR.1 q)
 have rep:∀v∈List.replicate n (0:Int),v=0:=λv hv=>(zbn.1 hv).2;have ntgt:∀j (hj:j<x.a8.length),x.a8[j].Target≠cX x.S i:=λj hj e=>by
  obtain⟨q,hq⟩:=(hx.sh.cl j hj).2.2.2.1 (by rw[e];omega);rw[e] at hq;have:q=i:=by
   have a:=hq.2.2;have b:=hq.1;unfold cX at a;have:=hR.len;omega
  exact LK hR hi h0 hn hp hq this
 refine⟨⟨hS,hx.sh.hr,hx.sh.r6,hx.sh.c6,hx.sh.cap,hx.sh.q30,λt ht=>?_,hx.sh.td,λh hh=>mem0 (hx.sh.rt h hh),λh hh v hv=>?_,λk v hk=>?_,λj hj=>?_⟩,λj hj ht=>?_,λh hh hs=>?_⟩
 .obtain⟨a,b,c⟩:=hx.sh.tk t ht;refine⟨a,b,c.imp (λ⟨d,e,f⟩=>⟨d,mem e,?_⟩) id⟩;show (ob (gR x.S i n p) t.At).Started=true;rw[Ey hR hi h0 hn hp e];exact f
 .rcases split hh with q | q
  .have o:v∈(ob (gR x.S i n p) h).Fields:=hv;rw[Ey hR hi h0 hn hp q] at o;exact mem0 (hx.sh.fl h q v o)
  .subst q;have o:v∈(ob (gR x.S i n p) (cX x.S i)).Fields:=hv;rw[xt hR hi h0 hn hp] at o;exact .inl (rep v o)
 .obtain⟨a,b⟩:=hx.sh.pr k v hk;exact⟨mem a,mem b⟩
 .obtain⟨a,b,c,d,e⟩:=hx.sh.cl j hj;refine⟨a,b,c,λq=>?_,λq=>⟨mem (e q).1,(e q).2⟩⟩;obtain⟨m,hm⟩:=d q;exact⟨m,(a0X hR hi h0 hn hp).2 (.inl hm)⟩
 .have E:j<x.S.S.a8.length:=by have:j<(gR x.S i n p).S.a8.length:=hj;rwa [lU hR hi h0 hn hp] at this
  show (ce (gR x.S i n p) j).Val.Weak=(Ib x.a8 (1+(j:Int)+32*(ce (gR x.S i n p) j).Gen):Int)/\_;have r:Th (ce (gR x.S i n p) j):=ht;rw[pR hR hi h0 hn hp] at r |-;by_cases e:j=i
  .subst e;rw[zc rfl];refine⟨?_,λq=>absurd (show (1:Int)=2 from q) Θ⟩;show (0:Int)=(Ib x.a8 (cX x.S j):Int);have:Ib x.a8 (cX x.S j)=0:=by
    unfold Ib;rw[List.countP_eq_zero];intro c hc;obtain⟨m,hm,rfl⟩:=zbk hc;have:=ntgt m hm;simp[this]
   rw[this];rfl
  .rw[za e] at r |-;exact hx.wk j E r
 .have A:∀y,ld (gR x.S i n p) y=ld x.S y:=λy=>by
   unfold ld;rw[hl,n7,List.sum_append];have H:(lv x.S).map (λk=>bx (outs (gR x.S i n p) k) y)=(lv x.S).map λk=>bx (outs x.S k) y:=we λk hk=>by
    unfold outs;rw[Ey hR hi h0 hn hp hk]
   rw[H];have K:outs (gR x.S i n p) (cX x.S i) = []:=by
    refine za9.2 λv hv=>?_;have u:=oO.1 hv;rw[xt hR hi h0 hn hp] at u;exact u.2 (rep v u.1)
   simp[K,W6]
  have G:∀y,sN (wS x (gR x.S i n p)) y=sN x y:=λy=>by
   unfold sN;show ld (gR x.S i n p) y+own x.T y+bx (rV x) y=_;rw[A]
  rw[G];have B:(ob (gR x.S i n p) h).Strong<12:=hs;show (ob (gR x.S i n p) h).Strong=_;rcases split hh with q | q
  .rw[Ey hR hi h0 hn hp q] at B |-;exact hx.fair h q B
  .subst q;rw[xt hR hi h0 hn hp];have u:sN x (cX x.S i)=0:=by
    unfold sN;have N:ld x.S (cX x.S i)=0:=by
     unfold ld;have:=HJ (λk=>bx (outs x.S k) (cX x.S i)) 0 (lv x.S) λk hk=>Nat.le_of_eq<|OT λq=>by
      have C:=oO.1 q;rcases hx.sh.fl k hk _ C.1 with e | e
      .exact C.2 e
      .exact g e
     omega
    have P:own x.T (cX x.S i)=0:=by
     unfold own;rw[List.countP_eq_zero];intro c hc;have:=(hx.sh.pr _ _ (jk.1 hc)).2;have F:c.Val≠cX x.S i:=λe=>g (e▸this);simp[F]
    have R:bx (rV x) (cX x.S i)=0:=OT λq=>by
     unfold rV at q;rcases zC.1 q with q | q
     .have C:=oO.1 q;rcases hx.sh.rt _ C.1 with e | e
      .exact C.2 e
      .exact g e
     .obtain⟨t,ht,k1,k2⟩:=vt.1 q;rcases (hx.sh.tk t ht).2.2 with ⟨_,b,_⟩ | ⟨b,_⟩;·exact g (k2▸b)
      .omega
    omega
   rw[u,W6];rfl
structure Ev (x y:Hp):Prop where
 lv:∀h∈lv y.S,(h∈Sh.lv x.S/\(ob y.S h).Serial=(ob x.S h).Serial)\/(h∉Sh.lv x.S/\(ob y.S h).Serial=x.S.Serial+1)
 s1:x.S.Serial<=y.S.Serial
 s2:y.S.Serial<=x.S.Serial+1
theorem Ev.refl(x:Hp):Ev x x:=⟨λh hh=>.inl ⟨hh,rfl⟩,Δ,Δ⟩
theorem Ks.ev(k:Ks x.S y.S):Ev x y:=⟨λh hh=>by
 rw[k.lv] at hh;exact .inl ⟨hh,k.ob h hh⟩,by rw[k.V3];omega,by rw[k.V3];omega⟩
theorem Ev.ks{z:Hp}(e:Ev x y)(k:Ks y.S z.S):Ev x z:=⟨λh hh=>by
 rw[k.lv] at hh;rw[k.ob h hh];exact e.lv h hh,by rw[k.V3];exact e.s1,by rw[k.V3];exact e.s2⟩
theorem Ev.stl{z:Hp}(e:Ev x y)(s:Ii y z):Ev x z:=⟨λh hh=>by
 rw[(s.ob h hh).1];exact e.lv h (s.lv h hh),by rw[s.V3];exact e.s1,by rw[s.V3];exact e.s2⟩
theorem a2U(hx:R9 x){i:Nat}(hi:i<x.S.S.a8.length)(h0:(ce x.S i).State=0){n:Nat}(hn:n<=4){p:Int}(hp : -1<=p/\p<=5):Ev x (wS x (gR x.S i n p)):=⟨λh hh=>by
 have hR:=hx.sh.sr;have e:h∈lv (gR x.S i n p):=hh;show (_/\(ob (gR x.S i n p) h).Serial=_)\/_/\(ob (gR x.S i n p) h).Serial=_;rw[NY hR hi h0 hn hp] at e;rcases zC.1 e with q | q
 .exact .inl ⟨q,by rw[Ey hR hi h0 hn hp q]⟩
 .rw[zR.1 q];exact .inr ⟨Tr hR hi h0 hn hp,by rw[xt hR hi h0 hn hp]⟩,by show _<=x.S.Serial+1;omega,md _⟩
def Cw(x y:Hp)(w:Int):Prop:=∀i:Nat,(i:Int)≠w->(y.a8.getD i cz).Target=(x.a8.getD i cz).Target/\((y.a8.getD i cz).Intact=true->(x.a8.getD i cz).Intact=true)
theorem Cw.refl(x:Hp)(w:Int):Cw x x w:=λi _=>⟨rfl,id⟩
theorem Cw.same(h:y.a8=x.a8)(w:Int):Cw x y w:=λi _=>by rw[h];exact⟨rfl,id⟩
theorem Cw.trans{x y z:Hp}{w:Int}(a:Cw x y w)(b:Cw y z w):Cw x z w:=λi hi=>⟨(b i hi).1.trans (a i hi).1,λq=>(a i hi).2 ((b i hi).2 q)⟩
theorem Ii.cw(s:Ii x y)(w:Int):Cw x y w:=λi _=>by
 by_cases h:i<x.a8.length
 .have h':i<y.a8.length:=by rw[s.cn];exact h
  rw[NG h,NG h',s.cl i h' h];exact⟨rfl,λq=>(zo _ _▸q).1⟩
 .have h':¬i<y.a8.length:=by rw[s.cn];exact h
  rw[zg,zg,p0 Δ,p0 Δ];exact⟨rfl,id⟩
theorem Cw.set{w:Nat}{c:l7}(h:y.a8=x.a8.set w c):Cw x y w:=λi hi=>by
 rw[h,zg,zg,zb0 Δ];exact⟨rfl,id⟩
def Fst(s:a7)(i:Nat):Prop:=i<s.S.a8.length/\(ce s i).State=0/\∀j,j<i->(ce s j).State≠0
theorem a2Q{s:a7}(hR:SR s)(hb:s.Serial<9223372036854775807)(a p:Int) :
  (¬(0<=a/\a<=4)/\T6 s a p=some (s,0,1)) \/
  ((0<=a/\a<=4)/\¬(-1<=p/\p<=5)/\T6 s a p=some (s,0,13)) \/
  ((0<=a/\a<=4)/\(-1<=p/\p<=5)/\(∀i,i<s.S.a8.length->(ce s i).State≠0)/\T6 s a p=some (s,0,4)) \/
  ((0<=a/\a<=4)/\(-1<=p/\p<=5)/\∃i,Fst s i/\T6 s a p=some (gR s i a.toNat p,cX s i,0)):=by
 have r:=hR.V3;have g:=A6.2 hR;unfold T6 wG;by_cases ha:0<=a/\a<=4
 .right;obtain⟨m,o⟩:=ha;obtain⟨n,rfl⟩:∃n:Nat,a=n:=⟨a.toNat,Δ⟩;rw[za Ξ,mJ Δ Δ];simp only[a4L];by_cases hp : -1<=p/\p<=5
  .right;unfold Y3;simp only[a4L];have q:(decide (p >= -1)&&decide (p<6))=true:=by simp;omega
   rw[q];have hl:SlO s.S:=⟨fI g,g.l0,g.l9,λi hi=>Hu g i hi⟩;rcases HL hl ⟨s.Serial+1,0,0,p,false,List.replicate n 0⟩ with ⟨i,hi,h0,hf,e⟩ | ⟨hf,e⟩
   .right;refine⟨⟨m,o⟩,hp,i,⟨hi,by rw[I0 hi];exact h0,λj hj=>by rw[I0 Δ];exact hf j hj⟩,?_⟩;simp only[za6,zj,wf,zbu];rw[show z8 (s.Serial+1)=s.Serial+1 from E3 Δ Δ,e];unfold gR cX;rw[I0 hi];simp
   .left;refine⟨⟨m,o⟩,hp,λi hi=>by rw[I0 hi];exact hf i hi,?_⟩;simp only[za6,zj,wf,zbu];rw[show z8 (s.Serial+1)=s.Serial+1 from E3 Δ Δ,e];simp
  .left;refine⟨⟨m,o⟩,hp,?_⟩;unfold Y3;simp only[a4L];have q:(decide (p >= -1)&&decide (p<6))=false:=by rw[zbj];simp;omega
   rw[q];simp
 .left;refine⟨ha,?_⟩;rw[zc Ξ];simp
def sd(x:Hp)(r:Int):Int:=if r<0 then 0 else x.Roots.getD r.toNat 0
def Av(x:Hp)(r:Int):Int × Int:=if sd x r=0 then (0,2) else (sd x r,0)
def V3(x:Hp)(h:Int):Int:=(ob x.S h).Serial
theorem Ei{n l m e:Int}(he:e≠0)(h:P8 n l m e=0):l<=n/\n<=m:=by
 unfold P8 at h;split at h;·exact absurd h he
 .omega
theorem Lu(h:bG a b c=0):a=0/\b=0/\c=0:=by
 unfold bG at h;split at h;·contradiction
 .split at h;·contradiction
  .omega
theorem Gu{k:Int}(h:D5 k a b c=0):1<=k/\k<=12:=by
 refine Decidable.byContradiction λq=>?_;have:D5 k a b c=14:=by
  unfold D5;repeat rw[za Δ]
 omega
theorem a3O(h:D5 1 a b c=0):(0<=a/\a<=5)/\(0<=b/\b<=4) /\ -1<=c/\c<=5:=by
 obtain⟨e,g,j⟩:=Lu (show bG (P8 a 0 5 6) (P8 b 0 4 1) (P8 c (-1) 5 13)=0 from h);exact⟨Ei Θ e,Ei Θ g,Ei Θ j⟩
theorem a0k(h:D5 2 a b c=0):(0<=a/\a<=5)/\(0<=b/\b<=5):=by
 obtain⟨e,g,_⟩:=Lu (show bG (P8 a 0 5 6) (P8 b 0 5 6) 0=0 from h);exact⟨Ei Θ e,Ei Θ g⟩
theorem a3P(h:D5 3 a b c=0):0<=a/\a<=5:=Ei Θ (show P8 a 0 5 6=0 from h)
theorem a3Q(h:D5 4 a b c=0):(0<=a/\a<=5)/\(0<=b/\b<=5)/\0<=c/\c<=3:=by
 obtain⟨e,g,j⟩:=Lu (show bG (P8 a 0 5 6) (P8 b 0 5 6) (P8 c 0 3 5)=0 from h);exact⟨Ei Θ e,Ei Θ g,Ei Θ j⟩
theorem a3R(h:D5 5 a b c=0):(0<=a/\a<=5)/\(0<=b/\b<=3) /\ -1<=c/\c<=5:=by
 obtain⟨e,g,j⟩:=Lu (show bG (P8 a 0 5 6) (P8 b 0 3 5) (P8 c (-1) 5 6)=0 from h);exact⟨Ei Θ e,Ei Θ g,Ei Θ j⟩
theorem a3S(h:D5 6 a b c=0):(0<=a/\a<=5)/\(-1<=b/\b<=5) /\ -1<=c/\c<=5:=by
 obtain⟨e,g,j⟩:=Lu (show bG (P8 a 0 5 7) (P8 b (-1) 5 6) (P8 c (-1) 5 13)=0 from h);exact⟨Ei Θ e,Ei Θ g,Ei Θ j⟩
theorem a3T(h:D5 7 a b c=0):(0<=a/\a<=5)/\(0<=b/\b<=5):=by
 obtain⟨e,g,_⟩:=Lu (show bG (P8 a 0 5 6) (P8 b 0 5 7) 0=0 from h);exact⟨Ei Θ e,Ei Θ g⟩
theorem a3U(h:D5 8 a b c=0):(0<=a/\a<=5)/\(-1<=b/\b<=5):=by
 obtain⟨e,g,_⟩:=Lu (show bG (P8 a 0 5 6) (P8 b (-1) 5 6) 0=0 from h);exact⟨Ei Θ e,Ei Θ g⟩
theorem a3V(h:D5 9 a b c=0):(0<=a/\a<=5)/\(0<=b/\b<=5):=a0k (show D5 2 a b c=0 from h)
theorem a2t(h:D5 10 a b c=0):(0<=a/\a<=5)/\(0<=b/\b<=5):=a0k (show D5 2 a b c=0 from h)
section
variable{x:Hp}(hx:pY x)
include hx
theorem yH{r:Int}(h:0<=r/\r<=5):ix x.Roots r=some (sd x r):=by
 have:=hx.r6;obtain⟨n,rfl⟩:∃n:Nat,r=n:=⟨r.toNat,Δ⟩;have hn:n<x.Roots.length:=Δ
 rw[x8 hn];unfold sd;rw[za Δ,zO,zg,zd hn];rfl
theorem CK{r:Int}(h:¬(0<=r/\r<=5)):sd x r=0:=by
 have:=hx.r6;unfold sd;split;·rfl
 .rw[zg,p0 Δ];rfl
theorem tE(r:Int):sd x r=0\/sd x r∈lv x.S:=by
 by_cases h:0<=r/\r<=5
 .have e:=yH hx h;unfold ix at e;rw[zc h.1] at e;exact hx.rt _ (zh e)
 .exact .inl (CK hx h)
theorem yI(r:Int):sd x r<=9223372036854775807:=by
 rcases tE hx r with h | h
 .omega
 .have:=L5 hx.sr h;omega
theorem pv(r:Int):P9 x r=some (sd x r):=by
 have e:=hx.r6;unfold P9;by_cases h:0<=r/\r<=5
 .rw[za Ξ,yH hx h];rfl
 .rw[zc Ξ,CK hx h]
theorem UC{r:Int}(h:r<=5):kg (hO x) r=some (sd x r):=by
 unfold kg;by_cases q:r<0
 .rw[zc (Ω q),CK hx Δ]
 .rw[za (Ω q),show (hO x).Roots=x.Roots from rfl,yH hx Δ];rfl
theorem mL(r:Int):Q6 x r=some (Av x r):=by
 unfold Q6 Av;rw[pv hx,a4L];by_cases h:sd x r=0
 .rw[zc (Ω h),zc h]
 .rw[za (Ω h),za h]
theorem uE{r:Int}(h:0<=r/\r<=5):ay (hO x) r=some (Av x r):=by
 unfold ay Av;rw[show (hO x).Roots=x.Roots from rfl,yH hx h,a4L];by_cases h:sd x r=0
 .rw[zc (Ω h),zc h]
 .rw[za (Ω h),za h]
theorem UH{h:Int}(hh:h<=9223372036854775807):bT x h=some (V3 x h):=by
 obtain⟨e,g,_⟩:=Y8 (A6.2 hx.sr) hh;unfold bT;rw[g];rfl
theorem UF{h:Int}(hh:h<=9223372036854775807):dX (hO x) h=some (V3 x h):=by
 obtain⟨e,g,_⟩:=Y8 (A6.2 hx.sr) hh;unfold dX;rw[show (hO x).S=sO x.S from rfl,mw x.S (by have:=hx.sr.len;omega) hh,g];rfl
theorem Im(r:Int):bS x r=some (V3 x (sd x r)):=by
 unfold bS;rw[pv hx,a4L,UH hx (yI hx r)];rfl
theorem Kg:V3 x 0=0:=by
 unfold V3;rw[tv (A6.2 hx.sr) Δ (sM hx.sr)]
theorem a0e(r:Int):pd (hO x) r=some (V3 x (sd x r)):=by
 unfold pd;by_cases h:0<=r/\r<=5
 .rw[za Ξ,show (hO x).Roots=x.Roots from rfl,yH hx h,a4L,UF hx (yI hx r)];rfl
 .rw[zc Ξ,CK hx h,Kg hx]
end
theorem a1N{x z:Hp}(hx:pY x)(k:Ks x.S z.S){h:Int}(hh:h=0\/h∈lv x.S):V3 z h=V3 x h:=by
 rcases hh with e | e
 .subst e;unfold V3;rw[tv (A6.2 hx.sr) Δ (sM hx.sr),tv (A6.2 k.sr) Δ (sM k.sr)]
 .exact k.ob h e
theorem Yj{x z:Hp}(h:z.Roots=x.Roots)(r:Int):sd z r=sd x r:=by unfold sd;rw[h]
noncomputable def Ds(x:Hp)(o:l6)(v:Hp × Int):Option (Hp × Int × Int):=
 if (v.2 != 0) then some (x,0,v.2) else (U9 v.1).bind λe=>(ar v.1 e o).bind λg=>some (e,g,0)
theorem th{x:Hp}{o:l6}{n:Option Nat}(hc:D5 o.Kind o.A o.B o.C=0)(hk:∃l,gQ=some l/\C0 l o.Kind=some n):A8 x o=(AD n ⟨x,o⟩).bind (Ds x o):=by
 obtain⟨l,e,g⟩:=hk;unfold A8;rw[qk,hc,a4L,za Ψ,e,a4L,g,za Ψ];rfl
theorem Lj{x:Hp}{o:l6}(hc:D5 o.Kind o.A o.B o.C≠0):A8 x o=some (x,0,D5 o.Kind o.A o.B o.C)/\F6 (hO x) ⟨o.Kind,o.A,o.B,o.C⟩=some (hO x,0,D5 o.Kind o.A o.B o.C):=by
 constructor
 .unfold A8;rw[qk,a4L,zc (Ω hc)]
 .unfold F6;rw[kU,a4L,zc (Ω hc)]
section
variable{x:Hp}{a b c:Int}
theorem a3Y(hc:D5 1 a b c=0):A8 x ⟨1,a,b,c⟩=(Z6 ⟨x,⟨1,a,b,c⟩⟩).bind (Ds x ⟨1,a,b,c⟩):=th (o:=⟨1,a,b,c⟩) (n:=some 97) hc ⟨_,rfl,rfl⟩
theorem a3Z(hc:D5 2 a b c=0):A8 x ⟨2,a,b,c⟩=(M4 ⟨x,⟨2,a,b,c⟩⟩).bind (Ds x ⟨2,a,b,c⟩):=th (o:=⟨2,a,b,c⟩) (n:=some 98) hc ⟨_,rfl,rfl⟩
theorem a30(hc:D5 3 a b c=0):A8 x ⟨3,a,b,c⟩=(bH ⟨x,⟨3,a,b,c⟩⟩).bind (Ds x ⟨3,a,b,c⟩):=th (o:=⟨3,a,b,c⟩) (n:=some 99) hc ⟨_,rfl,rfl⟩
theorem a34(hc:D5 4 a b c=0):A8 x ⟨4,a,b,c⟩=(bI ⟨x,⟨4,a,b,c⟩⟩).bind (Ds x ⟨4,a,b,c⟩):=th (o:=⟨4,a,b,c⟩) (n:=some 100) hc ⟨_,rfl,rfl⟩
theorem a38(hc:D5 5 a b c=0):A8 x ⟨5,a,b,c⟩=(aJ ⟨x,⟨5,a,b,c⟩⟩).bind (Ds x ⟨5,a,b,c⟩):=th (o:=⟨5,a,b,c⟩) (n:=some 101) hc ⟨_,rfl,rfl⟩
theorem a4a(hc:D5 6 a b c=0):A8 x ⟨6,a,b,c⟩=(Z7 ⟨x,⟨6,a,b,c⟩⟩).bind (Ds x ⟨6,a,b,c⟩):=th (o:=⟨6,a,b,c⟩) (n:=some 102) hc ⟨_,rfl,rfl⟩
theorem a4b(hc:D5 7 a b c=0):A8 x ⟨7,a,b,c⟩=(aU ⟨x,⟨7,a,b,c⟩⟩).bind (Ds x ⟨7,a,b,c⟩):=th (o:=⟨7,a,b,c⟩) (n:=some 103) hc ⟨_,rfl,rfl⟩
theorem a4c(hc:D5 8 a b c=0):A8 x ⟨8,a,b,c⟩=(bJ ⟨x,⟨8,a,b,c⟩⟩).bind (Ds x ⟨8,a,b,c⟩):=th (o:=⟨8,a,b,c⟩) (n:=some 104) hc ⟨_,rfl,rfl⟩
theorem a4d(hc:D5 9 a b c=0):A8 x ⟨9,a,b,c⟩=(cG ⟨x,⟨9,a,b,c⟩⟩).bind (Ds x ⟨9,a,b,c⟩):=th (o:=⟨9,a,b,c⟩) (n:=some 105) hc ⟨_,rfl,rfl⟩
theorem a2y(hc:D5 10 a b c=0):A8 x ⟨10,a,b,c⟩=(V8 ⟨x,⟨10,a,b,c⟩⟩).bind (Ds x ⟨10,a,b,c⟩):=th (o:=⟨10,a,b,c⟩) (n:=some 106) hc ⟨_,rfl,rfl⟩
theorem xb{k:Int}(hk:k=11\/k=12)(hc:D5 k a b c=0):A8 x ⟨k,a,b,c⟩=some (x,0,14)/\F6 (hO x) ⟨k,a,b,c⟩=some (hO x,0,14):=by
 constructor
 .unfold A8;rw[qk,hc,a4L,za Ψ];rcases hk with rfl | rfl <;> rfl
 .unfold F6 X0;rw[kU,hc,a4L,za Ψ];rcases hk with rfl | rfl <;> rfl
variable{y:e6}
def rT(y:e6)(a:Int)(v:Int × Int):Option (e6 × Int × Int):=
 if (v.2 != 0) then some (y,0,v.2) else (ax y a v.1).bind λg=>(T5 g.1).bind λe=>(pd e a).bind λj=>some (e,j,0)
def rO(y:e6)(v:e6 × Int × Int):Option (e6 × Int × Int):=
 if (v.2.2 != 0) then some (y,0,v.2.2) else (T5 v.1).bind λe=>(dX y v.2.1).bind λg=>some (e,g,0)
theorem Oz{k:Int}(hk:k=2\/k=3\/k=4\/k=7\/k=9)(hc:D5 k a b c=0):F6 y ⟨k,a,b,c⟩=(eG y ⟨k,a,b,c⟩).bind (rT y a):=by
 unfold F6 X0;rw[kU,hc,a4L,za Ψ];rcases hk with rfl | rfl | rfl | rfl | rfl <;> rfl
theorem Oy{k:Int}(hk:k=5\/k=6\/k=8)(hc:D5 k a b c=0):F6 y ⟨k,a,b,c⟩=(cK y ⟨k,a,b,c⟩).bind (rO y):=by
 unfold F6 X0;rw[kU,hc,a4L,za Ψ];rcases hk with rfl | rfl | rfl <;> rfl
theorem a3o(hc:D5 1 a b c=0):F6 y ⟨1,a,b,c⟩=(fD y.S b c).bind λe=>if (e.2.2 != 0) then some (y,0,e.2.2) else (ax ⟨e.1,y.Roots,y.a8,y.T,y.Q⟩ a e.2.1).bind λj=>(T5 j.1).bind λg=>(pd g a).bind λm=>some (g,m,0):=by
 unfold F6 X0;rw[kU,hc,a4L,za Ψ];rfl
theorem a1E(hc:D5 10 a b c=0):F6 y ⟨10,a,b,c⟩=(ix y.Roots a).bind λv3=>(ix y.Roots b).bind λe=>if (v3==e) then some (y,1,0) else some (y,0,0):=by
 unfold F6 X0;rw[kU,hc,a4L,za Ψ];rfl
end
section
variable{s:a7}(hR:SR s){i:Nat}(hi:i<s.S.a8.length)
include hR hi
theorem a11(st g:Int):bW (sO s) ⟨(pl (sO s)).a8.set i ⟨st,g,0⟩,(pl (sO s)).Last⟩=some ⟨(sO s).a8.set i ⟨st,g,oo (ce s i).Val⟩,s.S.Last,s.Serial⟩:=by
 have hlen:=hR.len;have O2:i<(pl (sO s)).a8.length:=by rw[dV,F0];exact hi
 rw[CT _ _ Ωz (by simp[dV])];congr 1;congr 1;refine zbd Ψ λk r u=>?_;have hk:k<s.S.a8.length:=by simpa[F0] using r
 have j:k<(sO s).a8.length:=by rw[F0];exact hk
 have m:k<(pl (sO s)).a8.length:=by rw[dV];exact j
 simp only[rx,List.getElem_range,zcc];have o:(sO s).a8.getD k ⟨0,0,oo z0⟩=cO (ce s k):=by
  rw[zg,zd j,I0 hk];simp[sO]
 have q:((pl (sO s)).a8.set i ⟨st,g,0⟩).getD k ⟨0,0,0⟩=if k=i then ⟨st,g,0⟩ else Dh k (cO (ce s k)):=by
  rw[mz O2];split;·rfl
  .rw[zg,zd m,I0 hk];simp[pl,sO]
 rw[o,q];by_cases e:k=i
 .subst e;rw[zc rfl,zc rfl];rfl
 .rw[za e,za (zav e)];rw[I0 hk];simp[sO,Dh,cO]
theorem a13(st g:Int)(o:J2):dx ⟨(sO s).a8.set i ⟨st,g,oo (ce s i).Val⟩,s.S.Last,s.Serial⟩ (i:Int) o=some ⟨(sO s).a8.set i ⟨st,g,o⟩,s.S.Last,s.Serial⟩:=by
 have hlen:=hR.len;unfold dx;have e:i<((sO s).a8.set i ⟨st,g,oo (ce s i).Val⟩).length:=by simp[F0];exact hi
 rw[P4 Δ (by simp[F0];omega),a4L,x8 e,a4L];simp[zcn]
theorem Ub:∃h:i<(pl (sO s)).a8.length,(pl (sO s)).a8[i]=⟨(ce s i).State,(ce s i).Gen,(i:Int)⟩:=by
 have O2:i<(pl (sO s)).a8.length:=by rw[dV,F0];exact hi
 refine⟨O2,?_⟩;rw[I0 hi];simp[pl,sO,Dh,cO]
end
theorem a1X{s:a7}(hR:SR s):(∀i,i<s.S.a8.length->(ce s i).State≠0)->mS (pl (sO s)) 0=some (pl (sO s),0,4):=λhf=>by
 have hlen:=hR.len;have el:(pl (sO s)).a8.length=s.S.a8.length:=by rw[dV,F0]
 unfold mS;simp only[jn];refine dU (pl (sO s)).a8.length (λk=>True) Δ trivial (λk hk _=>?_) (λj=>⟨.inr (),Ψ,rfl⟩);refine .inl ⟨?_,trivial⟩;obtain⟨g,e⟩:=Ub hR (show k<s.S.a8.length by omega);have:=hf k Δ;simp only[zQ,hk,zY,wd,x8 hk,a4L];rw[e,za (Ω this),p9]
theorem Yq{s:a7}(hR:SR s){i:Nat}(hF:Fst s i):mS (pl (sO s)) 0=some (⟨(pl (sO s)).a8.set i ⟨1,(ce s i).Gen,0⟩,(pl (sO s)).Last⟩,cX s i,0):=by
 have hlen:=hR.len;have el:(pl (sO s)).a8.length=s.S.a8.length:=by rw[dV,F0]
 obtain⟨hi,h0,e⟩:=hF;have hc:=hR.cell i hi;have l9:=hR.l9;unfold mS;simp only[jn];refine dU (pl (sO s)).a8.length (λk=>k<=i) Δ Δ (λk hk m=>?_) (λm=>Δ);obtain⟨o,j⟩:=Ub hR (show k<s.S.a8.length by omega);rcases zE k i with g | g
 .refine .inl ⟨?_,g⟩;have:=e k g;simp only[zQ,hk,zY,wd,x8 hk,a4L];rw[j,za (Ω this),p9]
 .have:k=i:=by omega
  subst this;refine .inr ⟨.inl _,?_,rfl⟩;simp only[zQ,hk,zY,wd,x8 hk,a4L];rw[j,zc (Ω h0)];have w3:∀c:A7,aV (pl (sO s)) (k:Int) c=some ⟨(pl (sO s)).a8.set k c,(pl (sO s)).Last⟩:=λc=>by
   unfold aV;rw[P4 Δ Δ,a4L,x8 hk,a4L,zO]
  rw[w3,a4L,qE,zc Ωy,a4L];rfl
theorem a2R{s:a7}(hR:SR s)(hb:s.Serial<9223372036854775807)(a p:Int) :
  (∃e,e≠0/\T6 s a p=some (s,0,e)/\fD (sO s) a p=some (sO s,0,e)) \/
  ((0<=a/\a<=4)/\(-1<=p/\p<=5)/\∃i,Fst s i/\T6 s a p=some (gR s i a.toNat p,cX s i,0)/\fD (sO s) a p=some (sO (gR s i a.toNat p),cX s i,0)):=by
 have q:=hR.V3;have hlen:=hR.len;have o:∀n:Nat,n<=4->vI (n:Int)=some (List.replicate n 0,0):=λn hn=>by
  unfold vI;rw[za Ξ,mJ Δ Δ];rfl
 rcases a2Q hR hb a p with ⟨j,e⟩ | ⟨j,m,e⟩ | ⟨j,m,g,e⟩ | ⟨j,m,i,g,e⟩
 .refine .inl ⟨1,Θ,e,?_⟩;unfold fD vI;rw[zc Ξ];rfl
 .refine .inl ⟨13,Θ,e,?_⟩;obtain⟨n,rfl⟩:∃n:Nat,a=n:=⟨a.toNat,Δ⟩;unfold fD;rw[o n Δ,a4L,za Ψ,zc Ξ]
 .refine .inl ⟨4,Θ,e,?_⟩;obtain⟨n,rfl⟩:∃n:Nat,a=n:=⟨a.toNat,Δ⟩;unfold fD;rw[o n Δ,a4L,za Ψ,za Ξ,jm _ Ωz,a4L,a1X hR g,a4L,zc Ψ]
 .refine .inr ⟨j,m,i,g,e,?_⟩;obtain⟨n,rfl⟩:∃n:Nat,a=n:=⟨a.toNat,Δ⟩;have hi:=g.1;have hc:=hR.cell i hi;have l9:=hR.l9;unfold fD;rw[o n Δ,a4L,za Ψ,za Ξ,jm _ Ωz,a4L,Yq hR g,a4L,za Ψ,a11 hR hi,a4L,qG,zc (by unfold sX cX;dsimp only;omega),a4L,
   show (cX s i-1) % 32=(i:Int) by unfold cX;omega,a13 hR hi,a4L,E3 (by show _<=s.Serial+1;omega) (by show s.Serial+1<=_;omega)]
  unfold gR;rw[zO];simp only[sO,zbt];rfl
end Go.Sh
