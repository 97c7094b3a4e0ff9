/- A part. -/
import Derived.Test.YtppgkaeodaaidaaGreatDoorU3lSh0
set_option linter.unusedVariables false
set_option linter.unusedSimpArgs false
set_option linter.unusedSectionVars false
namespace Go.Sh
theorem jw(n:Int):z8 n=(n+9223372036854775808) % 18446744073709551616-9223372036854775808:=by
 show IntKind.i64.wrap n=_;rw[IntKind.wrap_i64]
theorem E3{n:Int}(a : -9223372036854775808<=n:=by omega)(c:n<=9223372036854775807:=by omega):z8 n=n:=by rw[jw];omega
theorem p9{n:Nat}(h:n<9223372036854775807:=by omega):z8 ((n:Int)+1)=((n+1:Nat):Int):=by rw[jw];omega
variable {α:Type}{xs:List α}{b:Nat}{S E:Type}{f:Int->Option (Int ⊕ E)}{s0:S}{β R:Type}{κ:E->Option R}{r:R}
theorem SV(xs:List α)(i:Nat):ix xs (i:Int)=xs[i]? := by unfold ix;rw[zc Δ];simp
theorem x8{i:Nat}(h:i<xs.length):ix xs (i:Int)=some xs[i]:=by rw[SV,zd h]
theorem B5{ys:List α}(hb:0<b)(h:(xs.length+ys.length)*b<=140737488355328):app b xs ys=some (xs++ys):=by
 have:(xs.length+ys.length)*1<=(xs.length+ys.length)*b:=Nat.mul_le_mul_left _ hb;unfold app;rw[zc ⟨h,Δ⟩]
theorem mJ{n:Nat}{z:α}(h:b*n<=281474976710656)(a:n<=9223372036854775807):mk b (n:Int) z=some (List.replicate n z):=by
 unfold mk;have h':=Int.ofNat_le.2 h;rw[Int.natCast_mul] at h';rw[zc ⟨Δ,h',Δ⟩,zO]
theorem jN{i j:Nat}(a:i<=j)(c:j<=xs.length):cut xs (i:Int) (j:Int)=some ((xs.take j).drop i):=by
 unfold cut;rw[zc ⟨Δ,Δ,Δ⟩];simp
theorem Xm{S E:Type}{f:S->Option (S ⊕ E)}(I:S->Prop)(Q:E->Prop)(μ:S->Nat)(h:∀s,I s->(∃s',f s=some (.inl s')/\I s'/\μ s'<μ s)\/(∃e,f s=some (.inr e)/\Q e)) :
  ∀(N:Nat) (s:S),I s->μ s<N->∃e,Td f N s=some e/\Q e:=by
 intro N;induction N with
 | zero=>intro s _ hl;omega
 | succ N ih=>
  intro s hs hl;rw[mH];rcases h s hs with ⟨s',a,c,g⟩ | ⟨e,a,c⟩
  .rw[a];exact ih s' c Δ
  .rw[a];exact⟨e,rfl,c⟩
theorem jX{f:S->Option (S ⊕ E)}(I:S->Prop)(Q:E->Prop)(μ:S->Nat)(h0:I s0)(a:μ s0<4611686018427387904)(h:∀s,I s->(∃s',f s=some (.inl s')/\I s'/\μ s'<μ s)\/(∃e,f s=some (.inr e)/\Q e)):∃e,lp f s0=some e/\Q e:=
 IU f s0▸Xm I Q μ h _ s0 h0 a
theorem IV(n:Nat)(P:Nat->Prop)(Q:E->Prop)(hn:n<4611686018427387904)(h0:P 0)(hs:∀k:Nat,k<n->P k->(f k=some (.inl ((k+1:Nat):Int))/\P (k+1))\/(∃e,f k=some (.inr e)/\Q e))(he:P n->∃e,f n=some (.inr e)/\Q e) :
  ∃e,lp f 0=some e/\Q e:=by
 refine jX (λ(s:Int)=>∃k:Nat,s=(k:Int)/\k<=n/\P k) Q (λ(s:Int)=>n-s.toNat) ⟨0,rfl,rg _,h0⟩ (by show n-_<_;omega) ?_;rintro _ ⟨k,rfl,hk,c⟩;rcases zE k n with a | a
 .rcases hs k a c with ⟨k1,k2⟩ | k;·exact .inl ⟨_,k1,⟨k+1,rfl,a,k2⟩,by show n-_<n-_;omega⟩
  .exact .inr k
 .have:k=n:=by omega
  subst this;exact .inr (he c)
theorem gu{T:Type}{f:Int × T->Option ((Int × T) ⊕ E)}{t0:T}(n:Nat)(P:Nat->T->Prop)(Q:E->Prop)(hn:n<4611686018427387904)(h0:P 0 t0)
  (hs:∀(k:Nat) t,k<n->P k t->(∃t',f ((k:Int),t)=some (.inl (((k+1:Nat):Int),t'))/\P (k+1) t')\/(∃e,f ((k:Int),t)=some (.inr e)/\Q e))(he:∀t,P n t->∃e,f ((n:Int),t)=some (.inr e)/\Q e) :
  ∃e,lp f (0,t0)=some e/\Q e:=by
 refine jX (λ(s:Int × T)=>∃k:Nat,s.1=(k:Int)/\k<=n/\P k s.2) Q (λ(s:Int × T)=>n-s.1.toNat) ⟨0,rfl,rg _,h0⟩ (by show n-_<_;omega) ?_;rintro⟨_,t⟩ ⟨k,rfl,hk,c⟩;rcases zE k n with a | a
 .rcases hs k t a c with ⟨t',k1,k2⟩ | k;·exact .inl ⟨_,k1,⟨k+1,rfl,a,k2⟩,by show n-_<n-_;simp;omega⟩
  .exact .inr k
 .have:k=n:=by omega
  subst this;exact .inr (he t c)
theorem cP{x:Option E}{r:E}(h:∃e,x=some e/\e=r):x=some r:=by
 obtain⟨e,a,rfl⟩:=h;exact a
theorem pj{a b:Int}(ha:0<=a)(hb:0<b):rem a b=some (a % b):=by
 unfold rem;rw[za Δ,Int.tmod_eq_emod_of_nonneg ha]
theorem AM{a b:Int}(ha:0<=a)(hb:0<b)(h:a<=9223372036854775807):quo .i64 a b=some (a / b):=by
 unfold quo;rw[za Δ,Int.tdiv_eq_ediv_of_nonneg ha];have c:0<=a / b:=Int.ediv_nonneg ha Δ;have e:a / b<=a:=Int.ediv_le_self b ha;have:=E3 (n:=a / b) Δ Δ;exact m9 some this
theorem dI(f:α->β)(xs:List α)(i:Int):ix (xs.map f) i=(ix xs i).map f:=by
 unfold ix;split;·rw[zW]
 .rfl
theorem P4(hb:0<b)(h:xs.length*b<=140737488355328):app b [] xs=some xs:=by
 have:=B5 (xs:=[]) (ys:=xs) hb (Ω h);simpa using this
theorem dU(n:Nat)(P:Nat->Prop)(hn:n<4611686018427387904)(h0:P 0)(hs:∀k:Nat,k<n->P k->(f k=some (.inl ((k+1:Nat):Int))/\P (k+1))\/(∃e,f k=some (.inr e)/\κ e=some r))
  (he:P n->∃e,f n=some (.inr e)/\κ e=some r):(lp f 0).bind κ=some r:=by
 obtain⟨e,a,c⟩:=IV n P (λe=>κ e=some r) hn h0 hs he;rw[a];exact c
theorem N7{T:Type}{f:Int × T->Option ((Int × T) ⊕ E)}{t0:T}(n:Nat)(P:Nat->T->Prop)(hn:n<4611686018427387904)(h0:P 0 t0)
  (hs:∀(k:Nat) t,k<n->P k t->(∃t',f ((k:Int),t)=some (.inl (((k+1:Nat):Int),t'))/\P (k+1) t')\/(∃e,f ((k:Int),t)=some (.inr e)/\κ e=some r))(he:∀t,P n t->∃e,f ((n:Int),t)=some (.inr e)/\κ e=some r):(lp f (0,t0)).bind κ=some r:=by
 obtain⟨e,a,c⟩:=gu n P (λe=>κ e=some r) hn h0 hs he;rw[a];exact c
theorem oJ{f:S->Option (S ⊕ E)}(I:S->Prop)(μ:S->Nat)(h0:I s0)(a:μ s0<4611686018427387904)(h:∀s,I s->(∃s',f s=some (.inl s')/\I s'/\μ s'<μ s)\/(∃e,f s=some (.inr e)/\κ e=some r)):(lp f s0).bind κ=some r:=by
 obtain⟨e,c,g⟩:=jX I (λe=>κ e=some r) μ h0 a h;rw[c];exact g
theorem dP{p:Nat->Prop}(h:∃m,p m):∃m,p m/\∀k,p k->m<=k:=by
 obtain⟨m,hm⟩:=h;induction m using Nat.strongRecOn with
 | _ m ih=>
  by_cases q:∃k,k<m/\p k
  .obtain⟨k,a,c⟩:=q;exact ih k a c
  .exact⟨m,hm,λk hk=>Nat.le_of_not_lt λh=>q ⟨k,h,hk⟩⟩
theorem Gw{S E:Type}{f:S->Option (S ⊕ E)}(p:Nat->S)(n:Nat)(P:Nat->Prop)(Q:E->Prop)(hn:n<4611686018427387904)(h0:P 0)
  (hs:∀k,k<n->P k->(f (p k)=some (.inl (p (k+1)))/\P (k+1))\/(∃e,f (p k)=some (.inr e)/\Q e))(he:P n->∃e,f (p n)=some (.inr e)/\Q e):∃e,lp f (p 0)=some e/\Q e:=by
 have key:∀m k N,k+m=n->P k->m<N->∃e,Td f N (p k)=some e/\Q e:=by
  intro m;induction m with
  | zero=>
   intro k N hk g i;obtain⟨N',rfl⟩:∃N',N=N'+1:=⟨N-1,Δ⟩;have:k=n:=Δ
   subst this;obtain⟨e,a,c⟩:=he g;rw[mH,a];exact⟨e,rfl,c⟩
  | succ m ih=>
   intro k N hk g i;obtain⟨N',rfl⟩:∃N',N=N'+1:=⟨N-1,Δ⟩;rw[mH];rcases hs k Δ g with ⟨a,c⟩ | ⟨e,a,c⟩
   .rw[a];exact ih (k+1) N' Δ c Δ
   .rw[a];exact⟨e,rfl,c⟩
 rw[IU];exact key n 0 _ Δ h0 hn
theorem fu{f:S->Option (S ⊕ E)}(p:Nat->S)(a:s0=p 0)(n:Nat)(P:Nat->Prop)(hn:n<4611686018427387904)(h0:P 0)
  (hs:∀k,k<n->P k->(f (p k)=some (.inl (p (k+1)))/\P (k+1))\/(∃e,f (p k)=some (.inr e)/\κ e=some r))(he:P n->∃e,f (p n)=some (.inr e)/\κ e=some r):(lp f s0).bind κ=some r:=by
 subst a;obtain⟨e,c,g⟩:=Gw p n P (λe=>κ e=some r) hn h0 hs he;rw[c];exact g
theorem iv(d:α)(x:Option α):B8 true d x=x:=rfl
theorem BZ(d:α)(x:Option α):B8 false d x=some d:=rfl
theorem rQ{V:Type}(m:List (Int × V))(k:Int)(v:V)(k':Int):C0 (r7 m k v) k'=if k'=k then some v else C0 m k':=by
 induction m with
 | nil=>simp[r7,C0]
 | cons p m ih=>
  unfold r7;by_cases h:k=p.1
  .subst h;rw[zc Ψ];unfold C0;by_cases h':k'=p.1 <;> simp[h']
  .rw[za (Ω h)];unfold C0;by_cases h':k'=p.1
   .subst h';simp[zav h]
   .simp only[wl,h',wf,ih]
theorem Tv{V:Type}(m:List (Int × V))(k:Int)(v:V):(r7 m k v).length=if (C0 m k).isSome then m.length else m.length+1:=by
 induction m with
 | nil=>simp[r7,C0]
 | cons p m ih=>
  unfold r7 C0;by_cases h:k=p.1
  .simp[h]
  .simp only[wl,h,wf,zl,ih];split <;> omega
theorem Tw{V:Type}(m:List (Int × V))(k:Int)(v:V)(a:Int):a∈(r7 m k v).map (·.1)↔a=k\/a∈m.map (·.1):=by
 induction m with
 | nil=>simp[r7]
 | cons p m ih=>
  unfold r7;by_cases h:k=p.1
  .simp[h]
  .rw[za (Ω h),ut,zV,ih,ut,zV];constructor;·rintro (h | h | h) <;> simp[h]
   .rintro (h | h | h) <;> simp[h]
theorem LL{V:Type}{m:List (Int × V)}(h:(m.map (·.1)).Nodup)(k:Int)(v:V):((r7 m k v).map (·.1)).Nodup:=by
 induction m with
 | nil=>simp[r7]
 | cons p m ih=>
  rw[ut,zax] at h;unfold r7;by_cases e:k=p.1
  .rw[zc (Ω e),ut,zax,e];exact h
  .rw[za (Ω e),ut,zax,Tw];exact⟨λq=>q.elim (λq=>e q.symm) h.1,ih h.2⟩
theorem Je{V:Type}(m:List (Int × V))(k:Int):(C0 m k).isSome=true↔k∈m.map (·.1):=by
 induction m with
 | nil=>simp[C0]
 | cons p m ih=>
  unfold C0;by_cases h:k=p.1
  .simp[h]
  .rw[za (Ω h),ih,ut,zV];simp[h]
theorem Qf{V:Type}{m:List (Int × V)}(hd:(m.map (·.1)).Nodup)(k k':Int):C0 (xr m k) k'=if k'=k then none else C0 m k':=by
 induction m with
 | nil=>simp[xr,C0]
 | cons p m ih=>
  rw[ut,zax] at hd;unfold xr;by_cases h:k=p.1
  .subst h;rw[zc Ψ];conv=>rhs;unfold C0
   by_cases h':k'=p.1
   .subst h';rw[zc rfl];cases a:C0 m p.1 with
    | none=>rfl
    | some v=>exact absurd ((Je m p.1).1 (by rw[a];rfl)) hd.1
   .simp[h']
  .rw[za (Ω h)];unfold C0;by_cases h':k'=p.1
   .subst h';simp[zav h]
   .simp only[wl,h',wf,ih hd.2]
theorem Tp{V:Type}(m:List (Int × V))(k:Int):((xr m k).map (·.1)).Sublist (m.map (·.1)):=by
 induction m with
 | nil=>exact List.Sublist.refl _
 | cons p m ih=>
  unfold xr;split;·exact List.sublist_cons_self ..
  .exact ih.cons_cons _
theorem To{V:Type}(m:List (Int × V))(k:Int):(xr m k).length=if (C0 m k).isSome then m.length-1 else m.length:=by
 induction m with
 | nil=>simp[xr,C0]
 | cons p m ih=>
  unfold xr C0;by_cases h:k=p.1
  .simp[h]
  .simp only[wl,h,wf,zl,ih];split
   .rename_i q;have:=(Je m k).1 q;have:0<m.length:=by cases m with
     | nil=>simp at this
     | cons _ _=>simp
    omega
   .rfl
theorem K4{f:Int × β->Option ((Int × β) ⊕ E)}(xs:List α)(g:β->α->β)(ψ:β->E)(I:Nat->β->Prop){b0:β}(hx:xs.length<4611686018427387904)(h0:I 0 b0)
  (hs:∀k (hk:k<xs.length) b,I k b->f ((k:Int),b)=some (.inl (((k+1:Nat):Int),g b xs[k]))/\I (k+1) (g b xs[k]))
  (he:∀b,I xs.length b->f ((xs.length:Int),b)=some (.inr (ψ b))):lp f (0,b0)=some (ψ (xs.foldl g b0)):=by
 refine cP (gu xs.length (λk b=>b=(xs.take k).foldl g b0/\I k b) (λe=>e=ψ (xs.foldl g b0)) hx ⟨Ψ,h0⟩ ?_ ?_)
 .rintro k b hk ⟨rfl,a⟩;obtain⟨c,i⟩:=hs k hk _ a;refine .inl ⟨_,c,?_,i⟩;rw[zn hk,za5];rfl
 .rintro b ⟨rfl,a⟩;refine⟨_,he _ a,?_⟩;rw[zM]
theorem Ep{f:β × Int->Option ((β × Int) ⊕ E)}(xs:List α)(g:β->α->β)(ψ:β->E)(I:Nat->β->Prop){b0:β}(hx:xs.length<4611686018427387904)(h0:I 0 b0)
  (hs:∀k (hk:k<xs.length) b,I k b->f (b,(k:Int))=some (.inl (g b xs[k],((k+1:Nat):Int)))/\I (k+1) (g b xs[k]))
  (he:∀b,I xs.length b->f (b,(xs.length:Int))=some (.inr (ψ b))):lp f (b0,0)=some (ψ (xs.foldl g b0)):=by
 refine cP (jX (λ(s:β × Int)=>∃k:Nat,s.2=(k:Int)/\k<=xs.length/\s.1=(xs.take k).foldl g b0/\I k s.1) (λe=>e=ψ (xs.foldl g b0)) (λs=>xs.length-s.2.toNat) ⟨0,rfl,rg _,Ψ,h0⟩ (by show xs.length-_<_;omega) ?_);rintro⟨b,_⟩ ⟨k,rfl,hk,rfl,c⟩;rcases zE k xs.length with a | a
 .obtain⟨k1,k2⟩:=hs k a _ c;refine .inl ⟨_,k1,⟨k+1,rfl,a,?_,k2⟩,by show xs.length-_<xs.length-_;simp;omega⟩;rw[zn a,za5];rfl
 .have:k=xs.length:=by omega
  subst this;refine .inr ⟨_,he _ c,?_⟩;rw[zM]
theorem Gv(xs:List α)(p:α->Bool)(good bad:E)(hx:xs.length<4611686018427387904)
  (hs:∀k (hk:k<xs.length),f (k:Int)=if p xs[k] then some (.inl ((k+1:Nat):Int)) else some (.inr bad))
  (he:f (xs.length:Int)=some (.inr good)):lp f 0=some (if xs.all p then good else bad):=by
 refine cP (IV xs.length (λk=>(xs.take k).all p=true) (λe=>e=if xs.all p then good else bad) hx Ψ (λk hk a=>?_) (λa=>?_))
 .rw[hs k hk];by_cases h:p xs[k]=true
  .refine .inl ⟨by rw[zc h],?_⟩;rw[zn hk,List.all_append,a];simp[h]
  .refine .inr ⟨bad,by rw[za h],?_⟩;rw[za];rw[zf];exact λq=>h (q _ (zk hk))
 .rw[zM] at a;exact⟨_,he,by rw[zc a]⟩
theorem foldl_filter{α:Type}(p:α->Bool):∀(xs acc:List α),xs.foldl (λb x=>if p x then b ++ [x] else b) acc=acc++xs.filter p
 | [],acc=>by simp
 | x::xs,acc=>by
  rw[zaw,foldl_filter p xs];by_cases h:p x
  .simp[h]
  .simp[h]
theorem gq{α β:Type}(g:α->List β):∀(xs:List α) (acc:List β),xs.foldl (λb x=>b++g x) acc=acc++xs.flatMap g
 | [],acc=>by simp
 | x::xs,acc=>by
  rw[zaw,gq g xs];simp
theorem tW{α:Type}(g:α->Nat):∀(xs:List α) (n:Nat),xs.foldl (λ(b:Int) x=>b+(g x:Int)) (n:Int)=((n+(xs.map g).sum:Nat):Int)
 | [],n=>by simp
 | x::xs,n=>by
  rw[zaw,show ((n:Int)+(g x:Int))=((n+g x:Nat):Int) by omega,tW g xs];simp only[ut,zch];omega
theorem HJ{α:Type}(g:α->Nat)(c:Nat):∀(xs:List α),(∀x∈xs,g x<=c)->(xs.map g).sum<=c*xs.length
 | [],_=>by simp
 | x::xs,h=>by
  have a:=HJ g c xs λy hy=>h y (zx _ hy);have e:=h x (zm ..);simp only[ut,zch,zl,Nat.mul_add,zb5];omega
def nz(v:List Int):List Int:=v.filter (λx=>x != 0)
def bx(l:List Int)(h:Int):Nat:=if h=0 then 0 else l.count h
theorem Ty(v:List Int):(nz v).length<=v.length:=wt ..
theorem oO{v:List Int}{x:Int}:x∈nz v↔x∈v/\x≠0:=by unfold nz;rw[zy];simp
theorem xY(v:List Int)(h:Int):bx (nz v) h=bx v h:=by
 unfold bx nz;split;·rfl
 .rename_i q;rw[List.count_filter (Ω q)]
theorem MI(l:List Int)(h:Int):bx l h<=l.length:=by
 unfold bx;split;·omega
 .exact List.count_le_length
theorem fP{l:List Int}{h:Int}:0<bx l h↔h≠0/\h∈l:=by
 unfold bx;split;·rename_i q;simp[q]
 .rename_i q;rw[List.count_pos_iff];simp[q]
theorem P0(l m:List Int)(h:Int):bx (l++m) h=bx l h+bx m h:=by
 unfold bx;split;·rfl
 .rw[List.count_append]
theorem yp(h:Int)(l:List Int)(n:Int):l.foldl (λ(b:Int) x=>if (x==h&&h != 0) then b+1 else b) n=n+(bx l h:Int):=by
 induction l generalizing n with
 | nil=>simp[bx]
 | cons x l ih=>
  rw[zaw,ih];unfold bx;by_cases h0:h=0
  .simp[h0]
  .by_cases hx:x=h
   .subst hx;simp[h0,List.count_cons];omega
   .simp[h0,hx,List.count_cons]
theorem FE{x:Option α}{a:α}{k:α->Option β}{r:Option β}(h:x=some a)(q:k a=r):x.bind k=r:=by
 rw[h];exact q
end Go.Sh
