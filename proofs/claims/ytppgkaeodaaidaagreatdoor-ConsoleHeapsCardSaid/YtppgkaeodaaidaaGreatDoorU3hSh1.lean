/- A part. -/
import Derived.Test.YtppgkaeodaaidaaGreatDoorU3hSh0
set_option linter.unusedVariables false
set_option linter.unusedSimpArgs false
set_option linter.unusedSectionVars false
namespace Go.Sh
theorem gb(n:Int):z8 n=(n+9223372036854775808) % 18446744073709551616-9223372036854775808:=by
 show IntKind.i64.wrap n=_;rw[IntKind.wrap_i64]
theorem F7{n:Int}(h1 : -9223372036854775808<=n:=by omega)(h2:n<=9223372036854775807:=by omega):z8 n=n:=by rw[gb];omega
theorem p8{n:Nat}(h:n<9223372036854775807:=by omega):z8 ((n:Int)+1)=((n+1:Nat):Int):=by rw[gb];omega
theorem TL{α:Type}(xs:List α)(i:Nat):ix xs (i:Int)=xs[i]? := by unfold ix;rw[zb (by omega)];simp
theorem u6{α:Type}{xs:List α}{i:Nat}(h:i<xs.length):ix xs (i:Int)=some xs[i]:=by rw[TL,zc h]
theorem C3{α:Type}{b:Nat}{xs ys:List α}(hb:0<b)(h:(xs.length+ys.length)*b<=140737488355328):app b xs ys=some (xs++ys):=by
 have:(xs.length+ys.length)*1<=(xs.length+ys.length)*b:=Nat.mul_le_mul_left _ hb;unfold app;rw[zb ⟨h,by omega⟩]
theorem jO{α:Type}{b:Nat}{n:Nat}{z:α}(h:b*n<=281474976710656)(h2:n<=9223372036854775807):mk b (n:Int) z=some (List.replicate n z):=by
 unfold mk;have h':=Int.ofNat_le.2 h;rw[Int.natCast_mul] at h';rw[zb ⟨by omega,h',by omega⟩,zX]
theorem gz{α:Type}{xs:List α}{i j:Nat}(h1:i<=j)(h2:j<=xs.length):cut xs (i:Int) (j:Int)=some ((xs.take j).drop i):=by
 unfold cut;rw[zb ⟨by omega,by omega,by omega⟩];simp
theorem PD{S E:Type}{f:S->Option (S ⊕ E)}(I:S->Prop)(Q:E->Prop)(μ:S->Nat)(h:∀s,I s->(∃s',f s=some (.inl s')/\I s'/\μ s'<μ s)\/(∃e,f s=some (.inr e)/\Q e)) :
  ∀(N:Nat) (s:S),I s->μ s<N->∃e,Lz f N s=some e/\Q e:=by
 intro N;induction N with
 | zero=>intro s _ hl;omega
 | succ N ih=>
  intro s hs hl;rw[jM];rcases h s hs with ⟨s',h1,h2,h3⟩ | ⟨e,h1,h2⟩
  .rw[h1];exact ih s' h2 (by omega)
  .rw[h1];exact⟨e,rfl,h2⟩
theorem nt{S E:Type}{f:S->Option (S ⊕ E)}{s0:S}(I:S->Prop)(Q:E->Prop)(μ:S->Nat)(h0:I s0)(hμ:μ s0<4611686018427387904)(h:∀s,I s->(∃s',f s=some (.inl s')/\I s'/\μ s'<μ s)\/(∃e,f s=some (.inr e)/\Q e)):∃e,lp f s0=some e/\Q e:=
 Da f s0▸PD I Q μ h _ s0 h0 hμ
theorem Db{E:Type}{f:Int->Option (Int ⊕ E)}(n:Nat)(P:Nat->Prop)(Q:E->Prop)(hn:n<4611686018427387904)(h0:P 0)(hs:∀k:Nat,k<n->P k->(f k=some (.inl ((k+1:Nat):Int))/\P (k+1))\/(∃e,f k=some (.inr e)/\Q e))(he:P n->∃e,f n=some (.inr e)/\Q e) :
  ∃e,lp f 0=some e/\Q e:=by
 refine nt (λ(s:Int)=>∃k:Nat,s=(k:Int)/\k<=n/\P k) Q (λ(s:Int)=>n-s.toNat) ⟨0,rfl,t8 _,h0⟩ (by show n-_<_;omega) ?_;rintro _ ⟨k,rfl,hk,hP⟩;rcases zB k n with h1 | h1
 .rcases hs k h1 hP with ⟨k1,k2⟩ | k;·exact .inl ⟨_,k1,⟨k+1,rfl,h1,k2⟩,by show n-_<n-_;omega⟩
  .exact .inr k
 .have:k=n:=by omega
  subst this;exact .inr (he hP)
theorem fy{T E:Type}{f:Int × T->Option ((Int × T) ⊕ E)}{t0:T}(n:Nat)(P:Nat->T->Prop)(Q:E->Prop)(hn:n<4611686018427387904)(h0:P 0 t0)
  (hs:∀(k:Nat) t,k<n->P k t->(∃t',f ((k:Int),t)=some (.inl (((k+1:Nat):Int),t'))/\P (k+1) t')\/(∃e,f ((k:Int),t)=some (.inr e)/\Q e))(he:∀t,P n t->∃e,f ((n:Int),t)=some (.inr e)/\Q e) :
  ∃e,lp f (0,t0)=some e/\Q e:=by
 refine nt (λ(s:Int × T)=>∃k:Nat,s.1=(k:Int)/\k<=n/\P k s.2) Q (λ(s:Int × T)=>n-s.1.toNat) ⟨0,rfl,t8 _,h0⟩ (by show n-_<_;omega) ?_;rintro⟨_,t⟩ ⟨k,rfl,hk,hP⟩;rcases zB k n with h1 | h1
 .rcases hs k t h1 hP with ⟨t',k1,k2⟩ | k;·exact .inl ⟨_,k1,⟨k+1,rfl,h1,k2⟩,by show n-_<n-_;simp;omega⟩
  .exact .inr k
 .have:k=n:=by omega
  subst this;exact .inr (he t hP)
theorem fZ{E:Type}{x:Option E}{r:E}(h:∃e,x=some e/\e=r):x=some r:=by
 obtain⟨e,h1,rfl⟩:=h;exact h1
theorem oQ{a b:Int}(ha:0<=a)(hb:0<b):rem a b=some (a % b):=by
 unfold rem;rw[za (by omega),Int.tmod_eq_emod_of_nonneg ha]
theorem vh{a b:Int}(ha:0<=a)(hb:0<b)(h:a<=9223372036854775807):quo .i64 a b=some (a / b):=by
 unfold quo;rw[za (by omega),Int.tdiv_eq_ediv_of_nonneg ha];have h1:0<=a / b:=Int.ediv_nonneg ha (by omega);have h2:a / b<=a:=Int.ediv_le_self b ha;have:=F7 (n:=a / b) (by omega) (by omega);exact or some this
theorem fR{α β:Type}(f:α->β)(xs:List α)(i:Int):ix (xs.map f) i=(ix xs i).map f:=by
 unfold ix;split;·rw[zL]
 .rfl
theorem U9{α:Type}{b:Nat}(hb:0<b){xs:List α}(h:xs.length*b<=140737488355328):app b [] xs=some xs:=by
 have:=C3 (xs:=[]) (ys:=xs) hb (by simpa using h);simpa using this
theorem dX{E R:Type}{f:Int->Option (Int ⊕ E)}{κ:E->Option R}{r:R}(n:Nat)(P:Nat->Prop)(hn:n<4611686018427387904)(h0:P 0)(hs:∀k:Nat,k<n->P k->(f k=some (.inl ((k+1:Nat):Int))/\P (k+1))\/(∃e,f k=some (.inr e)/\κ e=some r))
  (he:P n->∃e,f n=some (.inr e)/\κ e=some r):(lp f 0).bind κ=some r:=by
 obtain⟨e,h1,h2⟩:=Db n P (λe=>κ e=some r) hn h0 hs he;rw[h1];exact h2
theorem Y1{T E R:Type}{f:Int × T->Option ((Int × T) ⊕ E)}{t0:T}{κ:E->Option R}{r:R}(n:Nat)(P:Nat->T->Prop)(hn:n<4611686018427387904)(h0:P 0 t0)
  (hs:∀(k:Nat) t,k<n->P k t->(∃t',f ((k:Int),t)=some (.inl (((k+1:Nat):Int),t'))/\P (k+1) t')\/(∃e,f ((k:Int),t)=some (.inr e)/\κ e=some r))(he:∀t,P n t->∃e,f ((n:Int),t)=some (.inr e)/\κ e=some r):(lp f (0,t0)).bind κ=some r:=by
 obtain⟨e,h1,h2⟩:=fy n P (λe=>κ e=some r) hn h0 hs he;rw[h1];exact h2
theorem Bj{S E R:Type}{f:S->Option (S ⊕ E)}{s0:S}{κ:E->Option R}{r:R}(I:S->Prop)(μ:S->Nat)(h0:I s0)(hμ:μ s0<4611686018427387904)(h:∀s,I s->(∃s',f s=some (.inl s')/\I s'/\μ s'<μ s)\/(∃e,f s=some (.inr e)/\κ e=some r)):(lp f s0).bind κ=some r:=by
 obtain⟨e,h1,h2⟩:=nt I (λe=>κ e=some r) μ h0 hμ h;rw[h1];exact h2
theorem bR{p:Nat->Prop}(h:∃m,p m):∃m,p m/\∀k,p k->m<=k:=by
 obtain⟨m,hm⟩:=h;induction m using Nat.strongRecOn with
 | _ m ih=>
  by_cases q:∃k,k<m/\p k
  .obtain⟨k,h1,h2⟩:=q;exact ih k h1 h2
  .exact⟨m,hm,λk hk=>Nat.le_of_not_lt λh=>q ⟨k,h,hk⟩⟩
theorem Bi{S E:Type}{f:S->Option (S ⊕ E)}(p:Nat->S)(n:Nat)(P:Nat->Prop)(Q:E->Prop)(hn:n<4611686018427387904)(h0:P 0)
  (hs:∀k,k<n->P k->(f (p k)=some (.inl (p (k+1)))/\P (k+1))\/(∃e,f (p k)=some (.inr e)/\Q e))(he:P n->∃e,f (p n)=some (.inr e)/\Q e):∃e,lp f (p 0)=some e/\Q e:=by
 have key:∀m k N,k+m=n->P k->m<N->∃e,Lz f N (p k)=some e/\Q e:=by
  intro m;induction m with
  | zero=>
   intro k N hk hP hN;obtain⟨N',rfl⟩:∃N',N=N'+1:=⟨N-1,by omega⟩;have:k=n:=by omega
   subst this;obtain⟨e,h1,h2⟩:=he hP;rw[jM,h1];exact⟨e,rfl,h2⟩
  | succ m ih=>
   intro k N hk hP hN;obtain⟨N',rfl⟩:∃N',N=N'+1:=⟨N-1,by omega⟩;rw[jM];rcases hs k (by omega) hP with ⟨h1,h2⟩ | ⟨e,h1,h2⟩
   .rw[h1];exact ih (k+1) N' (by omega) h2 (by omega)
   .rw[h1];exact⟨e,rfl,h2⟩
 rw[Da];exact key n 0 _ (by omega) h0 hn
theorem jN{S E R:Type}{f:S->Option (S ⊕ E)}{κ:E->Option R}{r:R}(p:Nat->S){s0:S}(hp0:s0=p 0)(n:Nat)(P:Nat->Prop)(hn:n<4611686018427387904)(h0:P 0)
  (hs:∀k,k<n->P k->(f (p k)=some (.inl (p (k+1)))/\P (k+1))\/(∃e,f (p k)=some (.inr e)/\κ e=some r))(he:P n->∃e,f (p n)=some (.inr e)/\κ e=some r):(lp f s0).bind κ=some r:=by
 subst hp0;obtain⟨e,h1,h2⟩:=Bi p n P (λe=>κ e=some r) hn h0 hs he;rw[h1];exact h2
theorem jR{α:Type}(d:α)(x:Option α):z6 true d x=x:=rfl
theorem LY{α:Type}(d:α)(x:Option α):z6 false d x=some d:=rfl
theorem oG{V:Type}(m:List (Int × V))(k:Int)(v:V)(k':Int):y9 (o0 m k v) k'=if k'=k then some v else y9 m k':=by
 induction m with
 | nil=>simp[o0,y9]
 | cons p m ih=>
  unfold o0;by_cases h:k=p.1
  .subst h;rw[zb (by simp)];unfold y9;by_cases h':k'=p.1 <;> simp[h']
  .rw[za (by simpa using h)];unfold y9;by_cases h':k'=p.1
   .subst h';simp[zam h]
   .simp only[wf,h',zY,ih]
theorem LP{V:Type}(m:List (Int × V))(k:Int)(v:V):(o0 m k v).length=if (y9 m k).isSome then m.length else m.length+1:=by
 induction m with
 | nil=>simp[o0,y9]
 | cons p m ih=>
  unfold o0 y9;by_cases h:k=p.1
  .simp[h]
  .simp only[wf,h,zY,zl,ih];split <;> omega
theorem LQ{V:Type}(m:List (Int × V))(k:Int)(v:V)(a:Int):a∈(o0 m k v).map (·.1)↔a=k\/a∈m.map (·.1):=by
 induction m with
 | nil=>simp[o0]
 | cons p m ih=>
  unfold o0;by_cases h:k=p.1
  .simp[h]
  .rw[za (by simpa using h),ww,zJ,ih,ww,zJ];constructor;·rintro (h | h | h) <;> simp[h]
   .rintro (h | h | h) <;> simp[h]
theorem Fi{V:Type}{m:List (Int × V)}(h:(m.map (·.1)).Nodup)(k:Int)(v:V):((o0 m k v).map (·.1)).Nodup:=by
 induction m with
 | nil=>simp[o0]
 | cons p m ih=>
  rw[ww,zaq] at h;unfold o0;by_cases e:k=p.1
  .rw[zb (by simpa using e),ww,zaq,e];exact h
  .rw[za (by simpa using e),ww,zaq,LQ];exact⟨λq=>q.elim (λq=>e q.symm) h.1,ih h.2⟩
theorem Dg{V:Type}(m:List (Int × V))(k:Int):(y9 m k).isSome=true↔k∈m.map (·.1):=by
 induction m with
 | nil=>simp[y9]
 | cons p m ih=>
  unfold y9;by_cases h:k=p.1
  .simp[h]
  .rw[za (by simpa using h),ih,ww,zJ];simp[h]
theorem IY{V:Type}{m:List (Int × V)}(hd:(m.map (·.1)).Nodup)(k k':Int):y9 (te m k) k'=if k'=k then none else y9 m k':=by
 induction m with
 | nil=>simp[te,y9]
 | cons p m ih=>
  rw[ww,zaq] at hd;unfold te;by_cases h:k=p.1
  .subst h;rw[zb (by simp)];conv=>rhs;unfold y9
   by_cases h':k'=p.1
   .subst h';rw[zb rfl];cases hq:y9 m p.1 with
    | none=>rfl
    | some v=>exact absurd ((Dg m p.1).1 (by rw[hq];rfl)) hd.1
   .simp[h']
  .rw[za (by simpa using h)];unfold y9;by_cases h':k'=p.1
   .subst h';simp[zam h]
   .simp only[wf,h',zY,ih hd.2]
theorem LJ{V:Type}(m:List (Int × V))(k:Int):((te m k).map (·.1)).Sublist (m.map (·.1)):=by
 induction m with
 | nil=>exact List.Sublist.refl _
 | cons p m ih=>
  unfold te;split;·exact List.sublist_cons_self ..
  .exact ih.cons_cons _
theorem LI{V:Type}(m:List (Int × V))(k:Int):(te m k).length=if (y9 m k).isSome then m.length-1 else m.length:=by
 induction m with
 | nil=>simp[te,y9]
 | cons p m ih=>
  unfold te y9;by_cases h:k=p.1
  .simp[h]
  .simp only[wf,h,zY,zl,ih];split
   .rename_i q;have:=(Dg m k).1 q;have:0<m.length:=by cases m with
     | nil=>simp at this
     | cons _ _=>simp
    omega
   .rfl
theorem O4{α β E:Type}{f:Int × β->Option ((Int × β) ⊕ E)}(xs:List α)(g:β->α->β)(ψ:β->E)(I:Nat->β->Prop){b0:β}(hx:xs.length<4611686018427387904)(h0:I 0 b0)
  (hs:∀k (hk:k<xs.length) b,I k b->f ((k:Int),b)=some (.inl (((k+1:Nat):Int),g b xs[k]))/\I (k+1) (g b xs[k]))
  (he:∀b,I xs.length b->f ((xs.length:Int),b)=some (.inr (ψ b))):lp f (0,b0)=some (ψ (xs.foldl g b0)):=by
 refine fZ (fy xs.length (λk b=>b=(xs.take k).foldl g b0/\I k b) (λe=>e=ψ (xs.foldl g b0)) hx ⟨by simp,h0⟩ ?_ ?_)
 .rintro k b hk ⟨rfl,hI⟩;obtain⟨h1,h2⟩:=hs k hk _ hI;refine .inl ⟨_,h1,?_,h2⟩;rw[zu hk,za0];rfl
 .rintro b ⟨rfl,hI⟩;refine⟨_,he _ hI,?_⟩;rw[zT]
theorem IW{α β E:Type}{f:β × Int->Option ((β × Int) ⊕ E)}(xs:List α)(g:β->α->β)(ψ:β->E)(I:Nat->β->Prop){b0:β}(hx:xs.length<4611686018427387904)(h0:I 0 b0)
  (hs:∀k (hk:k<xs.length) b,I k b->f (b,(k:Int))=some (.inl (g b xs[k],((k+1:Nat):Int)))/\I (k+1) (g b xs[k]))
  (he:∀b,I xs.length b->f (b,(xs.length:Int))=some (.inr (ψ b))):lp f (b0,0)=some (ψ (xs.foldl g b0)):=by
 refine fZ (nt (λ(s:β × Int)=>∃k:Nat,s.2=(k:Int)/\k<=xs.length/\s.1=(xs.take k).foldl g b0/\I k s.1) (λe=>e=ψ (xs.foldl g b0)) (λs=>xs.length-s.2.toNat) ⟨0,rfl,t8 _,by simp,h0⟩ (by show xs.length-_<_;omega) ?_);rintro⟨b,_⟩ ⟨k,rfl,hk,rfl,hI⟩;rcases zB k xs.length with h1 | h1
 .obtain⟨k1,k2⟩:=hs k h1 _ hI;refine .inl ⟨_,k1,⟨k+1,rfl,h1,?_,k2⟩,by show xs.length-_<xs.length-_;simp;omega⟩;rw[zu h1,za0];rfl
 .have:k=xs.length:=by omega
  subst this;refine .inr ⟨_,he _ hI,?_⟩;rw[zT]
theorem Bh{α E:Type}{f:Int->Option (Int ⊕ E)}(xs:List α)(p:α->Bool)(good bad:E)(hx:xs.length<4611686018427387904)
  (hs:∀k (hk:k<xs.length),f (k:Int)=if p xs[k] then some (.inl ((k+1:Nat):Int)) else some (.inr bad))
  (he:f (xs.length:Int)=some (.inr good)):lp f 0=some (if xs.all p then good else bad):=by
 refine fZ (Db xs.length (λk=>(xs.take k).all p=true) (λe=>e=if xs.all p then good else bad) hx (by simp) (λk hk hP=>?_) (λhP=>?_))
 .rw[hs k hk];by_cases h:p xs[k]=true
  .refine .inl ⟨by rw[zb h],?_⟩;rw[zu hk,List.all_append,hP];simp[h]
  .refine .inr ⟨bad,by rw[za h],?_⟩;rw[za];rw[zd];exact λq=>h (q _ (zj hk))
 .rw[zT] at hP;exact⟨_,he,by rw[zb hP]⟩
theorem foldl_filter{α:Type}(p:α->Bool):∀(xs acc:List α),xs.foldl (λb x=>if p x then b ++ [x] else b) acc=acc++xs.filter p
 | [],acc=>by simp
 | x::xs,acc=>by
  rw[zap,foldl_filter p xs];by_cases h:p x
  .simp[h]
  .simp[h]
theorem lg{α β:Type}(g:α->List β):∀(xs:List α) (acc:List β),xs.foldl (λb x=>b++g x) acc=acc++xs.flatMap g
 | [],acc=>by simp
 | x::xs,acc=>by
  rw[zap,lg g xs];simp
theorem vY{α:Type}(g:α->Nat):∀(xs:List α) (n:Nat),xs.foldl (λ(b:Int) x=>b+(g x:Int)) (n:Int)=((n+(xs.map g).sum:Nat):Int)
 | [],n=>by simp
 | x::xs,n=>by
  rw[zap,show ((n:Int)+(g x:Int))=((n+g x:Nat):Int) by omega,vY g xs];simp only[ww,zb5];omega
theorem FU{α:Type}(g:α->Nat)(c:Nat):∀(xs:List α),(∀x∈xs,g x<=c)->(xs.map g).sum<=c*xs.length
 | [],_=>by simp
 | x::xs,h=>by
  have h1:=FU g c xs λy hy=>h y (zt _ hy);have h2:=h x (zi ..);simp only[ww,zb5,zl,Nat.mul_add,zbx];omega
def nz(v:List Int):List Int:=v.filter (λx=>x != 0)
def aE(l:List Int)(h:Int):Nat:=if h=0 then 0 else l.count h
theorem LR(v:List Int):(nz v).length<=v.length:=zZ ..
theorem lC{v:List Int}{x:Int}:x∈nz v↔x∈v/\x≠0:=by unfold nz;rw[zy];simp
theorem tQ(v:List Int)(h:Int):aE (nz v) h=aE v h:=by
 unfold aE nz;split;·rfl
 .rename_i q;rw[List.count_filter (by simpa using q)]
theorem Nu(l:List Int)(h:Int):aE l h<=l.length:=by
 unfold aE;split;·omega
 .exact List.count_le_length
theorem dC{l:List Int}{h:Int}:0<aE l h↔h≠0/\h∈l:=by
 unfold aE;split;·rename_i q;simp[q]
 .rename_i q;rw[List.count_pos_iff];simp[q]
theorem K9(l m:List Int)(h:Int):aE (l++m) h=aE l h+aE m h:=by
 unfold aE;split;·rfl
 .rw[List.count_append]
theorem ub(h:Int)(l:List Int)(n:Int):l.foldl (λ(b:Int) x=>if (x==h&&h != 0) then b+1 else b) n=n+(aE l h:Int):=by
 induction l generalizing n with
 | nil=>simp[aE]
 | cons x l ih=>
  rw[zap,ih];unfold aE;by_cases h0:h=0
  .simp[h0]
  .by_cases hx:x=h
   .subst hx;simp[h0,List.count_cons];omega
   .simp[h0,hx,List.count_cons]
theorem Cp{α β:Type}{x:Option α}{a:α}{k:α->Option β}{r:Option β}(h:x=some a)(q:k a=r):x.bind k=r:=by
 rw[h];exact q
end Go.Sh
