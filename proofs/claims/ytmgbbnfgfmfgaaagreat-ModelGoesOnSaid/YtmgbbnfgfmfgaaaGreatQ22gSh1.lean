/- A part. -/
import Derived.Test.YtmgbbnfgfmfgaaaGreatQ22gSh0
set_option linter.unusedVariables false
set_option linter.unusedSimpArgs false
set_option linter.unusedSectionVars false
namespace Go.Sh
theorem qR(n:Int):x4 n=(n+9223372036854775808) % 18446744073709551616-9223372036854775808:=by
 show IntKind.i64.wrap n=_;rw[IntKind.wrap_i64]
theorem V3{n:Int}(h1 : -9223372036854775808<=n:=by omega)(h2:n<=9223372036854775807:=by omega):x4 n=n:=by rw[qR];omega
theorem n9{n:Nat}(h:n<9223372036854775807:=by omega):x4 ((n:Int)+1)=((n+1:Nat):Int):=by rw[qR];omega
theorem VS{α:Type}(xs:List α)(i:Nat):ix xs (i:Int)=xs[i]? := by unfold ix;rw[zb (by omega)];simp
theorem u4{α:Type}{xs:List α}{i:Nat}(h:i<xs.length):ix xs (i:Int)=some xs[i]:=by rw[VS,zc h]
theorem Om{α:Type}{xs:List α}{i:Int}(h0:0<=i)(h:i.toNat<xs.length):ix xs i=some xs[i.toNat]:=by unfold ix;rw[zb h0,zc h]
theorem I6{α:Type}{b:Nat}{xs ys:List α}(hb:0<b)(h:(xs.length+ys.length)*b<=140737488355328):app b xs ys=some (xs++ys):=by
 have:(xs.length+ys.length)*1<=(xs.length+ys.length)*b:=Nat.mul_le_mul_left _ hb;unfold app;rw[zb ⟨h,by omega⟩]
theorem kW{α:Type}{b:Nat}{n:Nat}{z:α}(h:b*n<=281474976710656)(h2:n<=9223372036854775807):mk b (n:Int) z=some (List.replicate n z):=by
 unfold mk;have h':=Int.ofNat_le.2 h;rw[Int.natCast_mul] at h';rw[zb ⟨by omega,h',by omega⟩,zT]
theorem vr{α:Type}{xs:List α}{i j:Nat}(h1:i<=j)(h2:j<=xs.length):cut xs (i:Int) (j:Int)=some ((xs.take j).drop i):=by
 unfold cut;rw[zb ⟨by omega,by omega,by omega⟩];simp
theorem Ss{S E:Type}{f:S->Option (S ⊕ E)}(I:S->Prop)(Q:E->Prop)(μ:S->Nat)(h:∀s,I s->(∃s',f s=some (.inl s')/\I s'/\μ s'<μ s)\/(∃e,f s=some (.inr e)/\Q e)) :
  ∀(N:Nat) (s:S),I s->μ s<N->∃e,QA f N s=some e/\Q e:=by
 intro N;induction N with
 | zero=>intro s _ hl;omega
 | succ N ih=>
  intro s hs hl;rw[pD];rcases h s hs with ⟨s',h1,h2,h3⟩ | ⟨e,h1,h2⟩
  .rw[h1];exact ih s' h2 (by omega)
  .rw[h1];exact⟨e,rfl,h2⟩
theorem vG{S E:Type}{f:S->Option (S ⊕ E)}{s0:S}(I:S->Prop)(Q:E->Prop)(μ:S->Nat)(h0:I s0)(hμ:μ s0<4611686018427387904)(h:∀s,I s->(∃s',f s=some (.inl s')/\I s'/\μ s'<μ s)\/(∃e,f s=some (.inr e)/\Q e)):∃e,lp f s0=some e/\Q e:=
 JU f s0▸Ss I Q μ h _ s0 h0 hμ
theorem Ci{E:Type}{f:Int->Option (Int ⊕ E)}(n:Nat)(P:Nat->Prop)(Q:E->Prop)(hn:n<4611686018427387904)(h0:P 0)(hs:∀k:Nat,k<n->P k->(f k=some (.inl ((k+1:Nat):Int))/\P (k+1))\/(∃e,f k=some (.inr e)/\Q e))(he:P n->∃e,f n=some (.inr e)/\Q e) :
  ∃e,lp f 0=some e/\Q e:=by
 refine vG (λ(s:Int)=>∃k:Nat,s=(k:Int)/\k<=n/\P k) Q (λ(s:Int)=>n-s.toNat) ⟨0,rfl,zX _,h0⟩ (by show n-_<_;omega) ?_;rintro _ ⟨k,rfl,hk,hP⟩;rcases zF k n with h1 | h1
 .rcases hs k h1 hP with ⟨k1,k2⟩ | k;·exact .inl ⟨_,k1,⟨k+1,rfl,h1,k2⟩,by show n-_<n-_;omega⟩
  .exact .inr k
 .have:k=n:=by omega
  subst this;exact .inr (he hP)
theorem iM{T E:Type}{f:Int × T->Option ((Int × T) ⊕ E)}{t0:T}(n:Nat)(P:Nat->T->Prop)(Q:E->Prop)(hn:n<4611686018427387904)(h0:P 0 t0)
  (hs:∀(k:Nat) t,k<n->P k t->(∃t',f ((k:Int),t)=some (.inl (((k+1:Nat):Int),t'))/\P (k+1) t')\/(∃e,f ((k:Int),t)=some (.inr e)/\Q e))(he:∀t,P n t->∃e,f ((n:Int),t)=some (.inr e)/\Q e) :
  ∃e,lp f (0,t0)=some e/\Q e:=by
 refine vG (λ(s:Int × T)=>∃k:Nat,s.1=(k:Int)/\k<=n/\P k s.2) Q (λ(s:Int × T)=>n-s.1.toNat) ⟨0,rfl,zX _,h0⟩ (by show n-_<_;omega) ?_;rintro⟨_,t⟩ ⟨k,rfl,hk,hP⟩;rcases zF k n with h1 | h1
 .rcases hs k t h1 hP with ⟨t',k1,k2⟩ | k;·exact .inl ⟨_,k1,⟨k+1,rfl,h1,k2⟩,by show n-_<n-_;simp;omega⟩
  .exact .inr k
 .have:k=n:=by omega
  subst this;exact .inr (he t hP)
theorem qG{E:Type}{x:Option E}{r:E}(h:∃e,x=some e/\e=r):x=some r:=by
 obtain⟨e,h1,rfl⟩:=h;exact h1
theorem Ea{a b:Int}(ha:0<=a)(hb:0<b):rem a b=some (a % b):=by
 unfold rem;rw[za (by omega),Int.tmod_eq_emod_of_nonneg ha]
theorem Ku{a b:Int}(ha:0<=a)(hb:0<b)(h:a<=9223372036854775807):quo .i64 a b=some (a / b):=by
 unfold quo;rw[za (by omega),Int.tdiv_eq_ediv_of_nonneg ha];have h1:0<=a / b:=Int.ediv_nonneg ha (by omega);have h2:a / b<=a:=Int.ediv_le_self b ha;have:=V3 (n:=a / b) (by omega) (by omega);exact zP some this
theorem ub{α β:Type}(f:α->β)(xs:List α)(i:Int):ix (xs.map f) i=(ix xs i).map f:=by
 unfold ix;split;·rw[zB]
 .rfl
theorem cu{α:Type}{b:Nat}(hb:0<b){xs:List α}(h:xs.length*b<=140737488355328):app b [] xs=some xs:=by
 have:=I6 (xs:=[]) (ys:=xs) hb (by simpa using h);simpa using this
theorem jR{α β:Type}{b:Nat}(g:α->β)(xs:List α)(hb:0<b)(h:xs.length*b<=140737488355328) :
  lp (λ(x:Int × List β)=>if decide (x.1<(xs.length:Int))=true then (ix xs x.1).bind λv=>(app b x.2 [g v]).bind λv2=>some (Sum.inl (x4 (x.1+1),v2)) else some (Sum.inr x.2)) (0,[])=some (xs.map g):=by
 have hl:xs.length*1<=xs.length*b:=Nat.mul_le_mul_left _ hb;refine qG (iM xs.length (λk l=>l=(xs.take k).map g) (λe=>e=xs.map g) (by omega) (by simp) ?_ ?_)
 .rintro k l hk rfl;refine .inl ⟨_,?_,rfl⟩;have h3:(k+1)*b<=xs.length*b:=zm _ hk;simp only[wn,hk,ww,we,u4 hk,a0A];rw[I6 hb (by simp[me,zci (Nat.le_of_lt hk)];omega),a0A,n9 (by omega),zt hk,qr];rfl
 .rintro l rfl;exact⟨_,by simp;rfl,by simp⟩
theorem aK{E R:Type}{f:Int->Option (Int ⊕ E)}{κ:E->Option R}{r:R}(n:Nat)(P:Nat->Prop)(hn:n<4611686018427387904)(h0:P 0)(hs:∀k:Nat,k<n->P k->(f k=some (.inl ((k+1:Nat):Int))/\P (k+1))\/(∃e,f k=some (.inr e)/\κ e=some r))
  (he:P n->∃e,f n=some (.inr e)/\κ e=some r):(lp f 0).bind κ=some r:=by
 obtain⟨e,h1,h2⟩:=Ci n P (λe=>κ e=some r) hn h0 hs he;rw[h1];exact h2
theorem Z0{T E R:Type}{f:Int × T->Option ((Int × T) ⊕ E)}{t0:T}{κ:E->Option R}{r:R}(n:Nat)(P:Nat->T->Prop)(hn:n<4611686018427387904)(h0:P 0 t0)
  (hs:∀(k:Nat) t,k<n->P k t->(∃t',f ((k:Int),t)=some (.inl (((k+1:Nat):Int),t'))/\P (k+1) t')\/(∃e,f ((k:Int),t)=some (.inr e)/\κ e=some r))(he:∀t,P n t->∃e,f ((n:Int),t)=some (.inr e)/\κ e=some r):(lp f (0,t0)).bind κ=some r:=by
 obtain⟨e,h1,h2⟩:=iM n P (λe=>κ e=some r) hn h0 hs he;rw[h1];exact h2
theorem Sw{S E R:Type}{f:S->Option (S ⊕ E)}{s0:S}{κ:E->Option R}{r:R}(I:S->Prop)(μ:S->Nat)(h0:I s0)(hμ:μ s0<4611686018427387904)(h:∀s,I s->(∃s',f s=some (.inl s')/\I s'/\μ s'<μ s)\/(∃e,f s=some (.inr e)/\κ e=some r)):(lp f s0).bind κ=some r:=by
 obtain⟨e,h1,h2⟩:=vG I (λe=>κ e=some r) μ h0 hμ h;rw[h1];exact h2
theorem dT{p:Nat->Prop}(h:∃m,p m):∃m,p m/\∀k,p k->m<=k:=by
 obtain⟨m,hm⟩:=h;induction m using Nat.strongRecOn with
 | _ m ih=>
  by_cases q:∃k,k<m/\p k
  .obtain⟨k,h1,h2⟩:=q;exact ih k h1 h2
  .exact⟨m,hm,λk hk=>Nat.le_of_not_lt λh=>q ⟨k,h,hk⟩⟩
theorem wz{n:Int}(h1 : -1000000<=n)(h2:n<=1000000):x4 n=n:=V3 (by omega) (by omega)
theorem Su{S E:Type}{f:S->Option (S ⊕ E)}(p:Nat->S)(n:Nat)(P:Nat->Prop)(Q:E->Prop)(hn:n<4611686018427387904)(h0:P 0)
  (hs:∀k,k<n->P k->(f (p k)=some (.inl (p (k+1)))/\P (k+1))\/(∃e,f (p k)=some (.inr e)/\Q e))(he:P n->∃e,f (p n)=some (.inr e)/\Q e):∃e,lp f (p 0)=some e/\Q e:=by
 have key:∀m k N,k+m=n->P k->m<N->∃e,QA f N (p k)=some e/\Q e:=by
  intro m;induction m with
  | zero=>
   intro k N hk hP hN;obtain⟨N',rfl⟩:∃N',N=N'+1:=⟨N-1,by omega⟩;have:k=n:=by omega
   subst this;obtain⟨e,h1,h2⟩:=he hP;rw[pD,h1];exact⟨e,rfl,h2⟩
  | succ m ih=>
   intro k N hk hP hN;obtain⟨N',rfl⟩:∃N',N=N'+1:=⟨N-1,by omega⟩;rw[pD];rcases hs k (by omega) hP with ⟨h1,h2⟩ | ⟨e,h1,h2⟩
   .rw[h1];exact ih (k+1) N' (by omega) h2 (by omega)
   .rw[h1];exact⟨e,rfl,h2⟩
 rw[JU];exact key n 0 _ (by omega) h0 hn
theorem lS{S E R:Type}{f:S->Option (S ⊕ E)}{κ:E->Option R}{r:R}(p:Nat->S){s0:S}(hp0:s0=p 0)(n:Nat)(P:Nat->Prop)(hn:n<4611686018427387904)(h0:P 0)
  (hs:∀k,k<n->P k->(f (p k)=some (.inl (p (k+1)))/\P (k+1))\/(∃e,f (p k)=some (.inr e)/\κ e=some r))(he:P n->∃e,f (p n)=some (.inr e)/\κ e=some r):(lp f s0).bind κ=some r:=by
 subst hp0;obtain⟨e,h1,h2⟩:=Su p n P (λe=>κ e=some r) hn h0 hs he;rw[h1];exact h2
theorem bK{α:Type}(d:α)(x:Option α):A6 true d x=x:=rfl
theorem Kj{α:Type}(d:α)(x:Option α):A6 false d x=some d:=rfl
theorem qx{V:Type}(m:List (Int × V))(k:Int)(v:V)(k':Int):A0 (p6 m k v) k'=if k'=k then some v else A0 m k':=by
 induction m with
 | nil=>simp[p6,A0]
 | cons p m ih=>
  unfold p6;by_cases h:k=p.1
  .subst h;rw[zb (by simp)];unfold A0;by_cases h':k'=p.1 <;> simp[h']
  .rw[za (by simpa using h)];unfold A0;by_cases h':k'=p.1
   .subst h';simp[zau h]
   .simp only[ms,h',q9,ih]
theorem OK{V:Type}(m:List (Int × V))(k:Int)(v:V):(p6 m k v).length=if (A0 m k).isSome then m.length else m.length+1:=by
 induction m with
 | nil=>simp[p6,A0]
 | cons p m ih=>
  unfold p6 A0;by_cases h:k=p.1
  .simp[h]
  .simp only[ms,h,q9,zH,ih];split <;> omega
theorem OL{V:Type}(m:List (Int × V))(k:Int)(v:V)(a:Int):a∈(p6 m k v).map (·.1)↔a=k\/a∈m.map (·.1):=by
 induction m with
 | nil=>simp[p6]
 | cons p m ih=>
  unfold p6;by_cases h:k=p.1
  .simp[h]
  .rw[za (by simpa using h),zQ,zM,ih,zQ,zM];constructor;·rintro (h | h | h) <;> simp[h]
   .rintro (h | h | h) <;> simp[h]
theorem Ib{V:Type}{m:List (Int × V)}(h:(m.map (·.1)).Nodup)(k:Int)(v:V):((p6 m k v).map (·.1)).Nodup:=by
 induction m with
 | nil=>simp[p6]
 | cons p m ih=>
  rw[zQ,zaa] at h;unfold p6;by_cases e:k=p.1
  .rw[zb (by simpa using e),zQ,zaa,e];exact h
  .rw[za (by simpa using e),zQ,zaa,OL];exact⟨λq=>q.elim (λq=>e q.symm) h.1,ih h.2⟩
theorem FZ{V:Type}(m:List (Int × V))(k:Int):(A0 m k).isSome=true↔k∈m.map (·.1):=by
 induction m with
 | nil=>simp[A0]
 | cons p m ih=>
  unfold A0;by_cases h:k=p.1
  .simp[h]
  .rw[za (by simpa using h),ih,zQ,zM];simp[h]
theorem LU{V:Type}{m:List (Int × V)}(hd:(m.map (·.1)).Nodup)(k k':Int):A0 (vK m k) k'=if k'=k then none else A0 m k':=by
 induction m with
 | nil=>simp[vK,A0]
 | cons p m ih=>
  rw[zQ,zaa] at hd;unfold vK;by_cases h:k=p.1
  .subst h;rw[zb (by simp)];conv=>rhs;unfold A0
   by_cases h':k'=p.1
   .subst h';rw[zb rfl];cases hq:A0 m p.1 with
    | none=>rfl
    | some v=>exact absurd ((FZ m p.1).1 (by rw[hq];rfl)) hd.1
   .simp[h']
  .rw[za (by simpa using h)];unfold A0;by_cases h':k'=p.1
   .subst h';simp[zau h]
   .simp only[ms,h',q9,ih hd.2]
theorem OE{V:Type}(m:List (Int × V))(k:Int):((vK m k).map (·.1)).Sublist (m.map (·.1)):=by
 induction m with
 | nil=>exact List.Sublist.refl _
 | cons p m ih=>
  unfold vK;split;·exact List.sublist_cons_self ..
  .exact ih.cons_cons _
theorem OD{V:Type}(m:List (Int × V))(k:Int):(vK m k).length=if (A0 m k).isSome then m.length-1 else m.length:=by
 induction m with
 | nil=>simp[vK,A0]
 | cons p m ih=>
  unfold vK A0;by_cases h:k=p.1
  .simp[h]
  .simp only[ms,h,q9,zH,ih];split
   .rename_i q;have:=(FZ m k).1 q;have:0<m.length:=by cases m with
     | nil=>simp at this
     | cons _ _=>simp
    omega
   .rfl
theorem V9{α β E:Type}{f:Int × β->Option ((Int × β) ⊕ E)}(xs:List α)(g:β->α->β)(ψ:β->E)(I:Nat->β->Prop){b0:β}(hx:xs.length<4611686018427387904)(h0:I 0 b0)
  (hs:∀k (hk:k<xs.length) b,I k b->f ((k:Int),b)=some (.inl (((k+1:Nat):Int),g b xs[k]))/\I (k+1) (g b xs[k]))
  (he:∀b,I xs.length b->f ((xs.length:Int),b)=some (.inr (ψ b))):lp f (0,b0)=some (ψ (xs.foldl g b0)):=by
 refine qG (iM xs.length (λk b=>b=(xs.take k).foldl g b0/\I k b) (λe=>e=ψ (xs.foldl g b0)) hx ⟨by simp,h0⟩ ?_ ?_)
 .rintro k b hk ⟨rfl,hI⟩;obtain⟨h1,h2⟩:=hs k hk _ hI;refine .inl ⟨_,h1,?_,h2⟩;rw[zt hk,zaj];rfl
 .rintro b ⟨rfl,hI⟩;refine⟨_,he _ hI,?_⟩;rw[zR]
theorem Dz{α E:Type}{f:Int->Option (Int ⊕ E)}(xs:List α)(p:α->Bool)(good bad:E)(hx:xs.length<4611686018427387904)
  (hs:∀k (hk:k<xs.length),f (k:Int)=if p xs[k] then some (.inl ((k+1:Nat):Int)) else some (.inr bad))
  (he:f (xs.length:Int)=some (.inr good)):lp f 0=some (if xs.all p then good else bad):=by
 refine qG (Ci xs.length (λk=>(xs.take k).all p=true) (λe=>e=if xs.all p then good else bad) hx (by simp) (λk hk hP=>?_) (λhP=>?_))
 .rw[hs k hk];by_cases h:p xs[k]=true
  .refine .inl ⟨by rw[zb h],?_⟩;rw[zt hk,List.all_append,hP];simp[h]
  .refine .inr ⟨bad,by rw[za h],?_⟩;rw[za];rw[zf];exact λq=>h (q _ (zh hk))
 .rw[zR] at hP;exact⟨_,he,by rw[zb hP]⟩
theorem foldl_filter{α:Type}(p:α->Bool):∀(xs acc:List α),xs.foldl (λb x=>if p x then b ++ [x] else b) acc=acc++xs.filter p
 | [],acc=>by simp
 | x::xs,acc=>by
  rw[pm,foldl_filter p xs];by_cases h:p x
  .simp[h]
  .simp[h]
theorem sf{α β:Type}(g:α->List β):∀(xs:List α) (acc:List β),xs.foldl (λb x=>b++g x) acc=acc++xs.flatMap g
 | [],acc=>by simp
 | x::xs,acc=>by
  rw[pm,sf g xs];simp
theorem yD{α:Type}(g:α->Nat):∀(xs:List α) (n:Nat),xs.foldl (λ(b:Int) x=>b+(g x:Int)) (n:Int)=((n+(xs.map g).sum:Nat):Int)
 | [],n=>by simp
 | x::xs,n=>by
  rw[pm,show ((n:Int)+(g x:Int))=((n+g x:Nat):Int) by omega,yD g xs];simp only[zQ,zbc];omega
theorem IG{α:Type}(g:α->Nat)(c:Nat):∀(xs:List α),(∀x∈xs,g x<=c)->(xs.map g).sum<=c*xs.length
 | [],_=>by simp
 | x::xs,h=>by
  have h1:=IG g c xs λy hy=>h y (zo _ hy);have h2:=h x (zg ..);simp only[zQ,zbc,zH,Nat.mul_add,Nat.mul_one];omega
def nz(v:List Int):List Int:=v.filter (λx=>x != 0)
def R4(l:List Int)(h:Int):Nat:=if h=0 then 0 else l.count h
theorem OQ(v:List Int):(nz v).length<=v.length:=zA ..
theorem gx{v:List Int}{x:Int}:x∈nz v↔x∈v/\x≠0:=by unfold nz;rw[zi];simp
theorem qg(v:List Int)(h:Int):R4 (nz v) h=R4 v h:=by
 unfold R4 nz;split;·rfl
 .rename_i q;rw[List.count_filter (by simpa using q)]
theorem IH(l:List Int)(h:Int):R4 l h<=l.length:=by
 unfold R4;split;·omega
 .exact List.count_le_length
theorem jt{l:List Int}{h:Int}:0<R4 l h↔h≠0/\h∈l:=by
 unfold R4;split;·rename_i q;simp[q]
 .rename_i q;rw[List.count_pos_iff];simp[q]
theorem G6(l m:List Int)(h:Int):R4 (l++m) h=R4 l h+R4 m h:=by
 unfold R4;split;·rfl
 .rw[List.count_append]
theorem FC(h:Int)(l:List Int)(n:Int):l.foldl (λ(b:Int) x=>if (x==h&&h != 0) then b+1 else b) n=n+(R4 l h:Int):=by
 induction l generalizing n with
 | nil=>simp[R4]
 | cons x l ih=>
  rw[pm,ih];unfold R4;by_cases h0:h=0
  .simp[h0]
  .by_cases hx:x=h
   .subst hx;simp[h0,zct];omega
   .simp[h0,hx,zct]
theorem sQ{α β:Type}{x:Option α}{a:α}{k:α->Option β}{r:Option β}(h:x=some a)(q:k a=r):x.bind k=r:=by
 rw[h];exact q
end Go.Sh
