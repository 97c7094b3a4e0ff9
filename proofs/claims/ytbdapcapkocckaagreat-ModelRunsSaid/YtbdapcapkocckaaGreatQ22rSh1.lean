/- A part. -/
import Derived.Test.YtbdapcapkocckaaGreatQ22rSh0
set_option linter.unusedVariables false
set_option linter.unusedSimpArgs false
set_option linter.unusedSectionVars false
namespace Go.Sh
theorem sN(n:Int):y4 n=(n+9223372036854775808) % 18446744073709551616-9223372036854775808:=by
 show IntKind.i64.wrap n=_;rw[IntKind.wrap_i64]
theorem Y8{n:Int}(a : -9223372036854775808<=n:=by omega)(b:n<=9223372036854775807:=by omega):y4 n=n:=by rw[sN];omega
theorem p8{n:Nat}(h:n<9223372036854775807:=by omega):y4 ((n:Int)+1)=((n+1:Nat):Int):=by rw[sN];omega
variable {α:Type}{xs:List α}{E:Type}
theorem YK(xs:List α)(i:Nat):ix xs (i:Int)=xs[i]? := by unfold ix;rw[zb Δ];simp
theorem u4{i:Nat}(h:i<xs.length):ix xs (i:Int)=some xs[i]:=by rw[YK,zc h]
theorem EC{i:Int}(h0:0<=i)(h:i.toNat<xs.length):ix xs i=some xs[i.toNat]:=by unfold ix;rw[zb h0,zc h]
theorem U5{α:Type}{b:Nat}{xs ys:List α}(hb:0<b)(h:(xs.length+ys.length)*b<=140737488355328):app b xs ys=some (xs++ys):=by
 have:(xs.length+ys.length)*1<=(xs.length+ys.length)*b:=Nat.mul_le_mul_left _ hb;unfold app;rw[zb ⟨h,Δ⟩]
theorem ka{b:Nat}{n:Nat}{z:α}(h:b*n<=281474976710656)(a:n<=9223372036854775807):mk b (n:Int) z=some (List.replicate n z):=by
 unfold mk;have h':=Int.ofNat_le.2 h;rw[Int.natCast_mul] at h';rw[zb ⟨Δ,h',Δ⟩,zN]
theorem qz{α:Type}{xs:List α}{i j:Nat}(a:i<=j)(b:j<=xs.length):cut xs (i:Int) (j:Int)=some ((xs.take j).drop i):=by
 unfold cut;rw[zb ⟨Δ,Δ,Δ⟩];simp
theorem VD{S E:Type}{f:S->Option (S ⊕ E)}(I:S->Prop)(Q:E->Prop)(μ:S->Nat)(h:∀s,I s->(∃s',f s=some (.inl s')/\I s'/\μ s'<μ s)\/(∃e,f s=some (.inr e)/\Q e)) :
  ∀(N:Nat) (s:S),I s->μ s<N->∃e,TG f N s=some e/\Q e:=by
 intro N;induction N with
 | zero=>intro s _ hl;omega
 | succ N ih=>
  intro s hs hl;rw[qT];rcases h s hs with ⟨s',a,b,c⟩ | ⟨e,a,b⟩
  .rw[a];exact ih s' b Δ
  .rw[a];exact⟨e,rfl,b⟩
theorem BY{S E:Type}{f:S->Option (S ⊕ E)}{s0:S}(I:S->Prop)(Q:E->Prop)(μ:S->Nat)(h0:I s0)(a:μ s0<4611686018427387904)(h:∀s,I s->(∃s',f s=some (.inl s')/\I s'/\μ s'<μ s)\/(∃e,f s=some (.inr e)/\Q e)):∃e,lp f s0=some e/\Q e:=
 MS f s0▸VD I Q μ h _ s0 h0 a
theorem EH{E:Type}{f:Int->Option (Int ⊕ E)}(n:Nat)(P:Nat->Prop)(Q:E->Prop)(hn:n<4611686018427387904)(h0:P 0)(hs:∀k:Nat,k<n->P k->(f k=some (.inl ((k+1:Nat):Int))/\P (k+1))\/(∃e,f k=some (.inr e)/\Q e))(he:P n->∃e,f n=some (.inr e)/\Q e) :
  ∃e,lp f 0=some e/\Q e:=by
 refine BY (λ(s:Int)=>∃k:Nat,s=(k:Int)/\k<=n/\P k) Q (λ(s:Int)=>n-s.toNat) ⟨0,rfl,zU _,h0⟩ (by show n-_<_;omega) ?_;rintro _ ⟨k,rfl,hk,b⟩;rcases zI k n with a | a
 .rcases hs k a b with ⟨k1,k2⟩ | k;·exact .inl ⟨_,k1,⟨k+1,rfl,a,k2⟩,by show n-_<n-_;omega⟩
  .exact .inr k
 .have:k=n:=by omega
  subst this;exact .inr (he b)
theorem ue{T E:Type}{f:Int × T->Option ((Int × T) ⊕ E)}{t0:T}(n:Nat)(P:Nat->T->Prop)(Q:E->Prop)(hn:n<4611686018427387904)(h0:P 0 t0)
  (hs:∀(k:Nat) t,k<n->P k t->(∃t',f ((k:Int),t)=some (.inl (((k+1:Nat):Int),t'))/\P (k+1) t')\/(∃e,f ((k:Int),t)=some (.inr e)/\Q e))(he:∀t,P n t->∃e,f ((n:Int),t)=some (.inr e)/\Q e) :
  ∃e,lp f (0,t0)=some e/\Q e:=by
 refine BY (λ(s:Int × T)=>∃k:Nat,s.1=(k:Int)/\k<=n/\P k s.2) Q (λ(s:Int × T)=>n-s.1.toNat) ⟨0,rfl,zU _,h0⟩ (by show n-_<_;omega) ?_;rintro⟨_,t⟩ ⟨k,rfl,hk,b⟩;rcases zI k n with a | a
 .rcases hs k t a b with ⟨t',k1,k2⟩ | k;·exact .inl ⟨_,k1,⟨k+1,rfl,a,k2⟩,by show n-_<n-_;simp;omega⟩
  .exact .inr k
 .have:k=n:=by omega
  subst this;exact .inr (he t b)
theorem wJ{x:Option E}{r:E}(h:∃e,x=some e/\e=r):x=some r:=by
 obtain⟨e,a,rfl⟩:=h;exact a
theorem Nv{a b:Int}(ha:0<=a)(hb:0<b):rem a b=some (a % b):=by
 unfold rem;rw[za Δ,Int.tmod_eq_emod_of_nonneg ha]
theorem Nl{a b:Int}(ha:0<=a)(hb:0<b)(h:a<=9223372036854775807):quo .i64 a b=some (a / b):=by
 unfold quo;rw[za Δ,Int.tdiv_eq_ediv_of_nonneg ha];have c:0<=a / b:=Int.ediv_nonneg ha Δ;have e:a / b<=a:=Int.ediv_le_self b ha;have:=Y8 (n:=a / b) Δ Δ;exact zY some this
theorem oR{β:Type}(f:α->β)(xs:List α)(i:Int):ix (xs.map f) i=(ix xs i).map f:=by
 unfold ix;split;·rw[zD]
 .rfl
theorem L8{b:Nat}(hb:0<b)(h:xs.length*b<=140737488355328):app b [] xs=some xs:=by
 have:=U5 (xs:=[]) (ys:=xs) hb (Ω h);simpa using this
theorem ld{α β:Type}{b:Nat}(g:α->β)(xs:List α)(hb:0<b)(h:xs.length*b<=140737488355328) :
  lp (λ(x:Int × List β)=>if decide (x.1<(xs.length:Int))=true then (ix xs x.1).bind λv=>(app b x.2 [g v]).bind λv2=>some (Sum.inl (y4 (x.1+1),v2)) else some (Sum.inr x.2)) (0,[])=some (xs.map g):=by
 have hl:xs.length*1<=xs.length*b:=Nat.mul_le_mul_left _ hb;refine wJ (ue xs.length (λk l=>l=(xs.take k).map g) (λe=>e=xs.map g) Δ Ψ ?_ ?_)
 .rintro k l hk rfl;refine .inl ⟨_,?_,rfl⟩;have a:(k+1)*b<=xs.length*b:=zp _ hk;simp only[r4,hk,q9,ut,u4 hk,a2D];rw[U5 hb (by simp[wn,zcl (Nat.le_of_lt hk)];omega),a2D,p8 Δ,zi hk,zV];rfl
 .rintro l rfl;exact⟨_,by simp;rfl,Ψ⟩
theorem Y6{R:Type}{f:Int->Option (Int ⊕ E)}{κ:E->Option R}{r:R}(n:Nat)(P:Nat->Prop)(hn:n<4611686018427387904)(h0:P 0)(hs:∀k:Nat,k<n->P k->(f k=some (.inl ((k+1:Nat):Int))/\P (k+1))\/(∃e,f k=some (.inr e)/\κ e=some r))
  (he:P n->∃e,f n=some (.inr e)/\κ e=some r):(lp f 0).bind κ=some r:=by
 obtain⟨e,a,b⟩:=EH n P (λe=>κ e=some r) hn h0 hs he;rw[a];exact b
theorem S9{T E R:Type}{f:Int × T->Option ((Int × T) ⊕ E)}{t0:T}{κ:E->Option R}{r:R}(n:Nat)(P:Nat->T->Prop)(hn:n<4611686018427387904)(h0:P 0 t0)
  (hs:∀(k:Nat) t,k<n->P k t->(∃t',f ((k:Int),t)=some (.inl (((k+1:Nat):Int),t'))/\P (k+1) t')\/(∃e,f ((k:Int),t)=some (.inr e)/\κ e=some r))(he:∀t,P n t->∃e,f ((n:Int),t)=some (.inr e)/\κ e=some r):(lp f (0,t0)).bind κ=some r:=by
 obtain⟨e,a,b⟩:=ue n P (λe=>κ e=some r) hn h0 hs he;rw[a];exact b
theorem VF{S R:Type}{f:S->Option (S ⊕ E)}{s0:S}{κ:E->Option R}{r:R}(I:S->Prop)(μ:S->Nat)(h0:I s0)(a:μ s0<4611686018427387904)(h:∀s,I s->(∃s',f s=some (.inl s')/\I s'/\μ s'<μ s)\/(∃e,f s=some (.inr e)/\κ e=some r)):(lp f s0).bind κ=some r:=by
 obtain⟨e,b,c⟩:=BY I (λe=>κ e=some r) μ h0 a h;rw[b];exact c
theorem iy{p:Nat->Prop}(h:∃m,p m):∃m,p m/\∀k,p k->m<=k:=by
 obtain⟨m,hm⟩:=h;induction m using Nat.strongRecOn with
 | _ m ih=>
  by_cases q:∃k,k<m/\p k
  .obtain⟨k,a,b⟩:=q;exact ih k a b
  .exact⟨m,hm,λk hk=>Nat.le_of_not_lt λh=>q ⟨k,h,hk⟩⟩
theorem jX{n:Int}(a : -1000000<=n)(b:n<=1000000):y4 n=n:=Y8 Δ Δ
theorem VE{S E:Type}{f:S->Option (S ⊕ E)}(p:Nat->S)(n:Nat)(P:Nat->Prop)(Q:E->Prop)(hn:n<4611686018427387904)(h0:P 0)
  (hs:∀k,k<n->P k->(f (p k)=some (.inl (p (k+1)))/\P (k+1))\/(∃e,f (p k)=some (.inr e)/\Q e))(he:P n->∃e,f (p n)=some (.inr e)/\Q e):∃e,lp f (p 0)=some e/\Q e:=by
 have key:∀m k N,k+m=n->P k->m<N->∃e,TG f N (p k)=some e/\Q e:=by
  intro m;induction m with
  | zero=>
   intro k N hk c g;obtain⟨N',rfl⟩:∃N',N=N'+1:=⟨N-1,Δ⟩;have:k=n:=Δ
   subst this;obtain⟨e,a,b⟩:=he c;rw[qT,a];exact⟨e,rfl,b⟩
  | succ m ih=>
   intro k N hk c g;obtain⟨N',rfl⟩:∃N',N=N'+1:=⟨N-1,Δ⟩;rw[qT];rcases hs k Δ c with ⟨a,b⟩ | ⟨e,a,b⟩
   .rw[a];exact ih (k+1) N' Δ b Δ
   .rw[a];exact⟨e,rfl,b⟩
 rw[MS];exact key n 0 _ Δ h0 hn
theorem gn{S E R:Type}{f:S->Option (S ⊕ E)}{κ:E->Option R}{r:R}(p:Nat->S){s0:S}(a:s0=p 0)(n:Nat)(P:Nat->Prop)(hn:n<4611686018427387904)(h0:P 0)
  (hs:∀k,k<n->P k->(f (p k)=some (.inl (p (k+1)))/\P (k+1))\/(∃e,f (p k)=some (.inr e)/\κ e=some r))(he:P n->∃e,f (p n)=some (.inr e)/\κ e=some r):(lp f s0).bind κ=some r:=by
 subst a;obtain⟨e,b,c⟩:=VE p n P (λe=>κ e=some r) hn h0 hs he;rw[b];exact c
theorem W4(d:α)(x:Option α):y6 true d x=x:=rfl
theorem Cp(d:α)(x:Option α):y6 false d x=some d:=rfl
theorem sf{V:Type}(m:List (Int × V))(k:Int)(v:V)(k':Int):C4 (u6 m k v) k'=if k'=k then some v else C4 m k':=by
 induction m with
 | nil=>simp[u6,C4]
 | cons p m ih=>
  unfold u6;by_cases h:k=p.1
  .subst h;rw[zb Ψ];unfold C4;by_cases h':k'=p.1 <;> simp[h']
  .rw[za (Ω h)];unfold C4;by_cases h':k'=p.1
   .subst h';simp[zaz h]
   .simp only[zak,h',pu,ih]
theorem RP{V:Type}(m:List (Int × V))(k:Int)(v:V):(u6 m k v).length=if (C4 m k).isSome then m.length else m.length+1:=by
 induction m with
 | nil=>simp[u6,C4]
 | cons p m ih=>
  unfold u6 C4;by_cases h:k=p.1
  .simp[h]
  .simp only[zak,h,pu,zF,ih];split <;> omega
theorem RQ{V:Type}(m:List (Int × V))(k:Int)(v:V)(a:Int):a∈(u6 m k v).map (·.1)↔a=k\/a∈m.map (·.1):=by
 induction m with
 | nil=>simp[u6]
 | cons p m ih=>
  unfold u6;by_cases h:k=p.1
  .simp[h]
  .rw[za (Ω h),zT,zJ,ih,zT,zJ];constructor;·rintro (h | h | h) <;> simp[h]
   .rintro (h | h | h) <;> simp[h]
theorem KQ{V:Type}{m:List (Int × V)}(h:(m.map (·.1)).Nodup)(k:Int)(v:V):((u6 m k v).map (·.1)).Nodup:=by
 induction m with
 | nil=>simp[u6]
 | cons p m ih=>
  rw[zT,me] at h;unfold u6;by_cases e:k=p.1
  .rw[zb (Ω e),zT,me,e];exact h
  .rw[za (Ω e),zT,me,RQ];exact⟨λq=>q.elim (λq=>e q.symm) h.1,ih h.2⟩
theorem IX{V:Type}(m:List (Int × V))(k:Int):(C4 m k).isSome=true↔k∈m.map (·.1):=by
 induction m with
 | nil=>simp[C4]
 | cons p m ih=>
  unfold C4;by_cases h:k=p.1
  .simp[h]
  .rw[za (Ω h),ih,zT,zJ];simp[h]
theorem OQ{V:Type}{m:List (Int × V)}(hd:(m.map (·.1)).Nodup)(k k':Int):C4 (xF m k) k'=if k'=k then none else C4 m k':=by
 induction m with
 | nil=>simp[xF,C4]
 | cons p m ih=>
  rw[zT,me] at hd;unfold xF;by_cases h:k=p.1
  .subst h;rw[zb Ψ];conv=>rhs;unfold C4
   by_cases h':k'=p.1
   .subst h';rw[zb rfl];cases a:C4 m p.1 with
    | none=>rfl
    | some v=>exact absurd ((IX m p.1).1 (by rw[a];rfl)) hd.1
   .simp[h']
  .rw[za (Ω h)];unfold C4;by_cases h':k'=p.1
   .subst h';simp[zaz h]
   .simp only[zak,h',pu,ih hd.2]
theorem RJ{V:Type}(m:List (Int × V))(k:Int):((xF m k).map (·.1)).Sublist (m.map (·.1)):=by
 induction m with
 | nil=>exact List.Sublist.refl _
 | cons p m ih=>
  unfold xF;split;·exact List.sublist_cons_self ..
  .exact ih.cons_cons _
theorem RI{V:Type}(m:List (Int × V))(k:Int):(xF m k).length=if (C4 m k).isSome then m.length-1 else m.length:=by
 induction m with
 | nil=>simp[xF,C4]
 | cons p m ih=>
  unfold xF C4;by_cases h:k=p.1
  .simp[h]
  .simp only[zak,h,pu,zF,ih];split
   .rename_i q;have:=(IX m k).1 q;have:0<m.length:=by cases m with
     | nil=>simp at this
     | cons _ _=>simp
    omega
   .rfl
theorem jk{α β E:Type}{f:Int × β->Option ((Int × β) ⊕ E)}(xs:List α)(g:β->α->β)(ψ:β->E)(I:Nat->β->Prop){b0:β}(hx:xs.length<4611686018427387904)(h0:I 0 b0)
  (hs:∀k (hk:k<xs.length) b,I k b->f ((k:Int),b)=some (.inl (((k+1:Nat):Int),g b xs[k]))/\I (k+1) (g b xs[k]))
  (he:∀b,I xs.length b->f ((xs.length:Int),b)=some (.inr (ψ b))):lp f (0,b0)=some (ψ (xs.foldl g b0)):=by
 refine wJ (ue xs.length (λk b=>b=(xs.take k).foldl g b0/\I k b) (λe=>e=ψ (xs.foldl g b0)) hx ⟨Ψ,h0⟩ ?_ ?_)
 .rintro k b hk ⟨rfl,a⟩;obtain⟨c,i⟩:=hs k hk _ a;refine .inl ⟨_,c,?_,i⟩;rw[zi hk,pi];rfl
 .rintro b ⟨rfl,a⟩;refine⟨_,he _ a,?_⟩;rw[zL]
theorem EG{β:Type}{f:β × Int->Option ((β × Int) ⊕ E)}(xs:List α)(g:β->α->β)(ψ:β->E)(I:Nat->β->Prop){b0:β}(hx:xs.length<4611686018427387904)(h0:I 0 b0)
  (hs:∀k (hk:k<xs.length) b,I k b->f (b,(k:Int))=some (.inl (g b xs[k],((k+1:Nat):Int)))/\I (k+1) (g b xs[k]))
  (he:∀b,I xs.length b->f (b,(xs.length:Int))=some (.inr (ψ b))):lp f (b0,0)=some (ψ (xs.foldl g b0)):=by
 refine wJ (BY (λ(s:β × Int)=>∃k:Nat,s.2=(k:Int)/\k<=xs.length/\s.1=(xs.take k).foldl g b0/\I k s.1) (λe=>e=ψ (xs.foldl g b0)) (λs=>xs.length-s.2.toNat) ⟨0,rfl,zU _,Ψ,h0⟩ (by show xs.length-_<_;omega) ?_);rintro⟨b,_⟩ ⟨k,rfl,hk,rfl,c⟩;rcases zI k xs.length with a | a
 .obtain⟨k1,k2⟩:=hs k a _ c;refine .inl ⟨_,k1,⟨k+1,rfl,a,?_,k2⟩,by show xs.length-_<xs.length-_;simp;omega⟩;rw[zi a,pi];rfl
 .have:k=xs.length:=by omega
  subst this;refine .inr ⟨_,he _ c,?_⟩;rw[zL]
theorem Gs{α E:Type}{f:Int->Option (Int ⊕ E)}(xs:List α)(p:α->Bool)(good bad:E)(hx:xs.length<4611686018427387904)
  (hs:∀k (hk:k<xs.length),f (k:Int)=if p xs[k] then some (.inl ((k+1:Nat):Int)) else some (.inr bad))
  (he:f (xs.length:Int)=some (.inr good)):lp f 0=some (if xs.all p then good else bad):=by
 refine wJ (EH xs.length (λk=>(xs.take k).all p=true) (λe=>e=if xs.all p then good else bad) hx Ψ (λk hk a=>?_) (λa=>?_))
 .rw[hs k hk];by_cases h:p xs[k]=true
  .refine .inl ⟨by rw[zb h],?_⟩;rw[zi hk,List.all_append,a];simp[h]
  .refine .inr ⟨bad,by rw[za h],?_⟩;rw[za];rw[zg];exact λq=>h (q _ (zl hk))
 .rw[zL] at a;exact⟨_,he,by rw[zb a]⟩
theorem foldl_filter{α:Type}(p:α->Bool):∀(xs acc:List α),xs.foldl (λb x=>if p x then b ++ [x] else b) acc=acc++xs.filter p
 | [],acc=>by simp
 | x::xs,acc=>by
  rw[ww,foldl_filter p xs];by_cases h:p x
  .simp[h]
  .simp[h]
theorem BJ{α β:Type}(g:α->List β):∀(xs:List α) (acc:List β),xs.foldl (λb x=>b++g x) acc=acc++xs.flatMap g
 | [],acc=>by simp
 | x::xs,acc=>by
  rw[ww,BJ g xs];simp
theorem LA{α:Type}(g:α->Nat)(c:Nat):∀(xs:List α),(∀x∈xs,g x<=c)->(xs.map g).sum<=c*xs.length
 | [],_=>by simp
 | x::xs,h=>by
  have a:=LA g c xs λy hy=>h y (zw _ hy);have b:=h x (zh ..);simp only[zT,zbs,zF,Nat.mul_add,Nat.mul_one];omega
def nz(v:List Int):List Int:=v.filter (λx=>x != 0)
def L0(l:List Int)(h:Int):Nat:=if h=0 then 0 else l.count h
theorem Zb(v:List Int):(nz v).length<=v.length:=zo ..
theorem ln{v:List Int}{x:Int}:x∈nz v↔x∈v/\x≠0:=by unfold nz;rw[zj];simp
theorem rJ(v:List Int)(h:Int):L0 (nz v) h=L0 v h:=by
 unfold L0 nz;split;·rfl
 .rename_i q;rw[List.count_filter (Ω q)]
theorem uE(l:List Int)(h:Int):L0 l h<=l.length:=by
 unfold L0;split;·omega
 .exact List.count_le_length
theorem gT{l:List Int}{h:Int}:0<L0 l h↔h≠0/\h∈l:=by
 unfold L0;split;·rename_i q;simp[q]
 .rename_i q;rw[List.count_pos_iff];simp[q]
theorem H3(l m:List Int)(h:Int):L0 (l++m) h=L0 l h+L0 m h:=by
 unfold L0;split;·rfl
 .rw[List.count_append]
theorem IA(h:Int)(l:List Int)(n:Int):l.foldl (λ(b:Int) x=>if (x==h&&h != 0) then b+1 else b) n=n+(L0 l h:Int):=by
 induction l generalizing n with
 | nil=>simp[L0]
 | cons x l ih=>
  rw[ww,ih];unfold L0;by_cases h0:h=0
  .simp[h0]
  .by_cases hx:x=h
   .subst hx;simp[h0,zcy];omega
   .simp[h0,hx,zcy]
theorem rX{α β:Type}{x:Option α}{a:α}{k:α->Option β}{r:Option β}(h:x=some a)(q:k a=r):x.bind k=r:=by
 rw[h];exact q
end Go.Sh
