/-
 Several texts of one kind, one behind the other.
-/
import Derived.Test.YtjpgbnlcefhaiaaGreatW24gSh0
import Derived.IntWalk
set_option linter.unusedVariables false
set_option linter.unusedSimpArgs false
set_option linter.unusedSectionVars false
namespace Go.Sh
theorem a3f(n:Int):r8 n=(n+9223372036854775808) % 18446744073709551616-9223372036854775808:=by
 show IntKind.i64.wrap n=_;rw[IntKind.wrap_i64]
theorem B0{n:Int}(h1 : -9223372036854775808≤n:=by omega)(h2:n≤9223372036854775807:=by omega):r8 n=n:=by rw[a3f];omega
theorem k8{n:Nat}(h:n<9223372036854775807:=by omega):r8 ((n:Int)+1)=((n+1:Nat):Int):=by rw[a3f];omega
theorem c9j{α:Type}(xs:List α)(i:Nat):ix xs (i:Int)=xs[i]? := by unfold ix;rw[if_pos (by omega)];simp
theorem n8{α:Type}{xs:List α}{i:Nat}(h:i<xs.length):ix xs (i:Int)=some xs[i]:=by rw[c9j,List.getElem?_eq_getElem h]
theorem x4{α:Type}{b:Nat}{xs ys:List α}(hb:0<b)(h:(xs.length+ys.length)*b≤140737488355328):app b xs ys=some (xs++ys):=by
 have:(xs.length+ys.length)*1≤(xs.length+ys.length)*b:=Nat.mul_le_mul_left _ hb;unfold app;rw[if_pos ⟨h,by omega⟩]
theorem a69{α:Type}{b:Nat}{n:Nat}{z:α}(h:b*n≤281474976710656)(h2:n≤9223372036854775807):mk b (n:Int) z=some (List.replicate n z):=by
 unfold mk;have h':=Int.ofNat_le.2 h;rw[Int.natCast_mul] at h';rw[if_pos ⟨by omega,h',by omega⟩,Int.toNat_natCast]
theorem a83{α:Type}{xs:List α}{i j:Nat}(h1:i≤j)(h2:j≤xs.length):cut xs (i:Int) (j:Int)=some ((xs.take j).drop i):=by
 unfold cut;rw[if_pos ⟨by omega,by omega,by omega⟩];simp
theorem c6n{S E:Type}{f:S→Option (S ⊕ E)}(I:S→Prop)(Q:E→Prop)(μ:S→Nat)(h:∀s,I s→(∃s',f s=some (.inl s')∧I s'∧μ s'<μ s)∨(∃e,f s=some (.inr e)∧Q e)) :
  ∀(N:Nat) (s:S),I s→μ s<N→∃e,lpN f N s=some e∧Q e:=by
 intro N;induction N with
 | zero=>intro s _ hl;omega
 | succ N ih=>
  intro s hs hl;rw[a68];rcases h s hs with ⟨s',h1,h2,h3⟩ | ⟨e,h1,h2⟩
  ·rw[h1];exact ih s' h2 (by omega)
  ·rw[h1];exact⟨e,rfl,h2⟩
theorem a9a{S E:Type}{f:S→Option (S ⊕ E)}{s0:S}(I:S→Prop)(Q:E→Prop)(μ:S→Nat)(h0:I s0)(hμ:μ s0<4611686018427387904)(h:∀s,I s→(∃s',f s=some (.inl s')∧I s'∧μ s'<μ s)∨(∃e,f s=some (.inr e)∧Q e)):∃e,lp f s0=some e∧Q e:=
 c0F f s0▸c6n I Q μ h _ s0 h0 hμ
theorem b43{E:Type}{f:Int→Option (Int ⊕ E)}(n:Nat)(P:Nat→Prop)(Q:E→Prop)(hn:n<4611686018427387904)(h0:P 0)(hs:∀k:Nat,k<n→P k→(f k=some (.inl ((k+1:Nat):Int))∧P (k+1))∨(∃e,f k=some (.inr e)∧Q e))(he:P n→∃e,f n=some (.inr e)∧Q e) :
  ∃e,lp f 0=some e∧Q e:=by
 refine a9a (λ(s:Int)=>∃k:Nat,s=(k:Int)∧k≤n∧P k) Q (λ(s:Int)=>n-s.toNat) ⟨0,rfl,Nat.zero_le _,h0⟩ (by show n-_<_;omega) ?_;rintro _ ⟨k,rfl,hk,hP⟩;rcases Nat.lt_or_ge k n with h1 | h1
 ·rcases hs k h1 hP with ⟨k1,k2⟩ | k;·exact .inl ⟨_,k1,⟨k+1,rfl,h1,k2⟩,by show n-_<n-_;omega⟩
  ·exact .inr k
 ·have:k=n:=by omega
  subst this;exact .inr (he hP)
theorem a13{T E:Type}{f:Int × T→Option ((Int × T) ⊕ E)}{t0:T}(n:Nat)(P:Nat→T→Prop)(Q:E→Prop)(hn:n<4611686018427387904)(h0:P 0 t0)
  (hs:∀(k:Nat) t,k<n→P k t→(∃t',f ((k:Int),t)=some (.inl (((k+1:Nat):Int),t'))∧P (k+1) t')∨(∃e,f ((k:Int),t)=some (.inr e)∧Q e))(he:∀t,P n t→∃e,f ((n:Int),t)=some (.inr e)∧Q e) :
  ∃e,lp f (0,t0)=some e∧Q e:=by
 refine a9a (λ(s:Int × T)=>∃k:Nat,s.1=(k:Int)∧k≤n∧P k s.2) Q (λ(s:Int × T)=>n-s.1.toNat) ⟨0,rfl,Nat.zero_le _,h0⟩ (by show n-_<_;omega) ?_;rintro⟨_,t⟩ ⟨k,rfl,hk,hP⟩;rcases Nat.lt_or_ge k n with h1 | h1
 ·rcases hs k t h1 hP with ⟨t',k1,k2⟩ | k;·exact .inl ⟨_,k1,⟨k+1,rfl,h1,k2⟩,by show n-_<n-_;simp;omega⟩
  ·exact .inr k
 ·have:k=n:=by omega
  subst this;exact .inr (he t hP)
theorem a4t{E:Type}{x:Option E}{r:E}(h:∃e,x=some e∧e=r):x=some r:=by
 obtain⟨e,h1,rfl⟩:=h;exact h1
theorem a79{a b:Int}(ha:0≤a)(hb:0<b):rem a b=some (a % b):=by
 unfold rem;rw[if_neg (by omega),Int.tmod_eq_emod_of_nonneg ha]
theorem b2p{a b:Int}(ha:0≤a)(hb:0<b)(h:a≤9223372036854775807):quo .i64 a b=some (a / b):=by
 unfold quo;rw[if_neg (by omega),Int.tdiv_eq_ediv_of_nonneg ha];have h1:0≤a / b:=Int.ediv_nonneg ha (by omega);have h2:a / b≤a:=Int.ediv_le_self b ha;have:=B0 (n:=a / b) (by omega) (by omega);exact congrArg some this
end Go.Sh
namespace Go.Sh
theorem a0F{α β:Type}(f:α→β)(xs:List α)(i:Int):ix (xs.map f) i=(ix xs i).map f:=by
 unfold ix;split;·rw[List.getElem?_map]
 ·rfl
theorem J8{α:Type}{b:Nat}(hb:0<b){xs:List α}(h:xs.length*b≤140737488355328):app b [] xs=some xs:=by
 have:=x4 (xs:=[]) (ys:=xs) hb (by simpa using h);simpa using this
end Go.Sh
namespace Go.Sh
end Go.Sh
namespace Go.Sh
theorem a14{E R:Type}{f:Int→Option (Int ⊕ E)}{κ:E→Option R}{r:R}(n:Nat)(P:Nat→Prop)(hn:n<4611686018427387904)(h0:P 0)(hs:∀k:Nat,k<n→P k→(f k=some (.inl ((k+1:Nat):Int))∧P (k+1))∨(∃e,f k=some (.inr e)∧κ e=some r))
  (he:P n→∃e,f n=some (.inr e)∧κ e=some r):(lp f 0).bind κ=some r:=by
 obtain⟨e,h1,h2⟩:=b43 n P (λe=>κ e=some r) hn h0 hs he;rw[h1];exact h2
theorem L1{T E R:Type}{f:Int × T→Option ((Int × T) ⊕ E)}{t0:T}{κ:E→Option R}{r:R}(n:Nat)(P:Nat→T→Prop)(hn:n<4611686018427387904)(h0:P 0 t0)
  (hs:∀(k:Nat) t,k<n→P k t→(∃t',f ((k:Int),t)=some (.inl (((k+1:Nat):Int),t'))∧P (k+1) t')∨(∃e,f ((k:Int),t)=some (.inr e)∧κ e=some r))(he:∀t,P n t→∃e,f ((n:Int),t)=some (.inr e)∧κ e=some r):(lp f (0,t0)).bind κ=some r:=by
 obtain⟨e,h1,h2⟩:=a13 n P (λe=>κ e=some r) hn h0 hs he;rw[h1];exact h2
theorem c0G{S E R:Type}{f:S→Option (S ⊕ E)}{s0:S}{κ:E→Option R}{r:R}(I:S→Prop)(μ:S→Nat)(h0:I s0)(hμ:μ s0<4611686018427387904)(h:∀s,I s→(∃s',f s=some (.inl s')∧I s'∧μ s'<μ s)∨(∃e,f s=some (.inr e)∧κ e=some r)):(lp f s0).bind κ=some r:=by
 obtain⟨e,h1,h2⟩:=a9a I (λe=>κ e=some r) μ h0 hμ h;rw[h1];exact h2
end Go.Sh
namespace Go.Sh
theorem a0J{p:Nat→Prop}(h:∃m,p m):∃m,p m∧∀k,p k→m≤k:=by
 obtain⟨m,hm⟩:=h;induction m using Nat.strongRecOn with
 | _ m ih=>
  by_cases q:∃k,k<m∧p k
  ·obtain⟨k,h1,h2⟩:=q;exact ih k h1 h2
  ·exact⟨m,hm,λk hk=>Nat.le_of_not_lt λh=>q ⟨k,h,hk⟩⟩
end Go.Sh
namespace Go.Sh
end Go.Sh
namespace Go.Sh
end Go.Sh
namespace Go.Sh
theorem b6b{S E:Type}{f:S→Option (S ⊕ E)}(p:Nat→S)(n:Nat)(P:Nat→Prop)(Q:E→Prop)(hn:n<4611686018427387904)(h0:P 0)
  (hs:∀k,k<n→P k→(f (p k)=some (.inl (p (k+1)))∧P (k+1))∨(∃e,f (p k)=some (.inr e)∧Q e))(he:P n→∃e,f (p n)=some (.inr e)∧Q e):∃e,lp f (p 0)=some e∧Q e:=by
 have key:∀m k N,k+m=n→P k→m<N→∃e,lpN f N (p k)=some e∧Q e:=by
  intro m;induction m with
  | zero=>
   intro k N hk hP hN;obtain⟨N',rfl⟩:∃N',N=N'+1:=⟨N-1,by omega⟩;have:k=n:=by omega
   subst this;obtain⟨e,h1,h2⟩:=he hP;rw[a68,h1];exact⟨e,rfl,h2⟩
  | succ m ih=>
   intro k N hk hP hN;obtain⟨N',rfl⟩:∃N',N=N'+1:=⟨N-1,by omega⟩;rw[a68];rcases hs k (by omega) hP with ⟨h1,h2⟩ | ⟨e,h1,h2⟩
   ·rw[h1];exact ih (k+1) N' (by omega) h2 (by omega)
   ·rw[h1];exact⟨e,rfl,h2⟩
 rw[c0F];exact key n 0 _ (by omega) h0 hn
end Go.Sh
namespace Go.Sh
theorem a0w{S E R:Type}{f:S→Option (S ⊕ E)}{κ:E→Option R}{r:R}(p:Nat→S){s0:S}(hp0:s0=p 0)(n:Nat)(P:Nat→Prop)(hn:n<4611686018427387904)(h0:P 0)
  (hs:∀k,k<n→P k→(f (p k)=some (.inl (p (k+1)))∧P (k+1))∨(∃e,f (p k)=some (.inr e)∧κ e=some r))(he:P n→∃e,f (p n)=some (.inr e)∧κ e=some r):(lp f s0).bind κ=some r:=by
 subst hp0;obtain⟨e,h1,h2⟩:=b6b p n P (λe=>κ e=some r) hn h0 hs he;rw[h1];exact h2
theorem a4n{α:Type}(d:α)(x:Option α):z6 true d x=x:=rfl
theorem b5a{α:Type}(d:α)(x:Option α):z6 false d x=some d:=rfl
theorem a7R{V:Type}(m:List (Int × V))(k:Int)(v:V)(k':Int):y8 (n9 m k v) k'=if k'=k then some v else y8 m k':=by
 induction m with
 | nil=>simp[n9,y8]
 | cons p m ih=>
  unfold n9;by_cases h:k=p.1
  ·subst h;rw[if_pos (by simp)];unfold y8;by_cases h':k'=p.1 <;> simp[h']
  ·rw[if_neg (by simpa using h)];unfold y8;by_cases h':k'=p.1
   ·subst h';simp[Ne.symm h]
   ·simp only[beq_iff_eq,h',if_false,ih]
theorem c3T{V:Type}(m:List (Int × V))(k:Int)(v:V):(n9 m k v).length=if (y8 m k).isSome then m.length else m.length+1:=by
 induction m with
 | nil=>simp[n9,y8]
 | cons p m ih=>
  unfold n9 y8;by_cases h:k=p.1
  ·simp[h]
  ·simp only[beq_iff_eq,h,if_false,List.length_cons,ih];split <;> omega
theorem c3U{V:Type}(m:List (Int × V))(k:Int)(v:V)(a:Int):a∈(n9 m k v).map (·.1)↔a=k∨a∈m.map (·.1):=by
 induction m with
 | nil=>simp[n9]
 | cons p m ih=>
  unfold n9;by_cases h:k=p.1
  ·simp[h]
  ·rw[if_neg (by simpa using h),List.map_cons,List.mem_cons,ih,List.map_cons,List.mem_cons];constructor;·rintro (h | h | h) <;> simp[h]
   ·rintro (h | h | h) <;> simp[h]
theorem b9o{V:Type}{m:List (Int × V)}(h:(m.map (·.1)).Nodup)(k:Int)(v:V):((n9 m k v).map (·.1)).Nodup:=by
 induction m with
 | nil=>simp[n9]
 | cons p m ih=>
  rw[List.map_cons,List.nodup_cons] at h;unfold n9;by_cases e:k=p.1
  ·rw[if_pos (by simpa using e),List.map_cons,List.nodup_cons,e];exact h
  ·rw[if_neg (by simpa using e),List.map_cons,List.nodup_cons,c3U];exact⟨λq=>q.elim (λq=>e q.symm) h.1,ih h.2⟩
theorem b7P{V:Type}(m:List (Int × V))(k:Int):(y8 m k).isSome=true↔k∈m.map (·.1):=by
 induction m with
 | nil=>simp[y8]
 | cons p m ih=>
  unfold y8;by_cases h:k=p.1
  ·simp[h]
  ·rw[if_neg (by simpa using h),ih,List.map_cons,List.mem_cons];simp[h]
theorem c1S{V:Type}{m:List (Int × V)}(hd:(m.map (·.1)).Nodup)(k k':Int):y8 (b02 m k) k'=if k'=k then none else y8 m k':=by
 induction m with
 | nil=>simp[b02,y8]
 | cons p m ih=>
  rw[List.map_cons,List.nodup_cons] at hd;unfold b02;by_cases h:k=p.1
  ·subst h;rw[if_pos (by simp)];conv=>rhs;unfold y8
   by_cases h':k'=p.1
   ·subst h';rw[if_pos rfl];cases hq:y8 m p.1 with
    | none=>rfl
    | some v=>exact absurd ((b7P m p.1).1 (by rw[hq];rfl)) hd.1
   ·simp[h']
  ·rw[if_neg (by simpa using h)];unfold y8;by_cases h':k'=p.1
   ·subst h';simp[Ne.symm h]
   ·simp only[beq_iff_eq,h',if_false,ih hd.2]
theorem c3N{V:Type}(m:List (Int × V))(k:Int):((b02 m k).map (·.1)).Sublist (m.map (·.1)):=by
 induction m with
 | nil=>exact List.Sublist.refl _
 | cons p m ih=>
  unfold b02;split;·exact List.sublist_cons_self ..
  ·exact ih.cons_cons _
theorem c3M{V:Type}(m:List (Int × V))(k:Int):(b02 m k).length=if (y8 m k).isSome then m.length-1 else m.length:=by
 induction m with
 | nil=>simp[b02,y8]
 | cons p m ih=>
  unfold b02 y8;by_cases h:k=p.1
  ·simp[h]
  ·simp only[beq_iff_eq,h,if_false,List.length_cons,ih];split
   ·rename_i q;have:=(b7P m k).1 q;have:0<m.length:=by cases m with
     | nil=>simp at this
     | cons _ _=>simp
    omega
   ·rfl
end Go.Sh
namespace Go.Sh
theorem D7{α β E:Type}{f:Int × β→Option ((Int × β) ⊕ E)}(xs:List α)(g:β→α→β)(ψ:β→E)(I:Nat→β→Prop){b0:β}(hx:xs.length<4611686018427387904)(h0:I 0 b0)
  (hs:∀k (hk:k<xs.length) b,I k b→f ((k:Int),b)=some (.inl (((k+1:Nat):Int),g b xs[k]))∧I (k+1) (g b xs[k]))
  (he:∀b,I xs.length b→f ((xs.length:Int),b)=some (.inr (ψ b))):lp f (0,b0)=some (ψ (xs.foldl g b0)):=by
 refine a4t (a13 xs.length (λk b=>b=(xs.take k).foldl g b0∧I k b) (λe=>e=ψ (xs.foldl g b0)) hx ⟨by simp,h0⟩ ?_ ?_)
 ·rintro k b hk ⟨rfl,hI⟩;obtain⟨h1,h2⟩:=hs k hk _ hI;refine .inl ⟨_,h1,?_,h2⟩;rw[List.take_succ_eq_append_getElem hk,List.foldl_append];rfl
 ·rintro b ⟨rfl,hI⟩;refine⟨_,he _ hI,?_⟩;rw[List.take_length]
theorem b42{α β E:Type}{f:β × Int→Option ((β × Int) ⊕ E)}(xs:List α)(g:β→α→β)(ψ:β→E)(I:Nat→β→Prop){b0:β}(hx:xs.length<4611686018427387904)(h0:I 0 b0)
  (hs:∀k (hk:k<xs.length) b,I k b→f (b,(k:Int))=some (.inl (g b xs[k],((k+1:Nat):Int)))∧I (k+1) (g b xs[k]))
  (he:∀b,I xs.length b→f (b,(xs.length:Int))=some (.inr (ψ b))):lp f (b0,0)=some (ψ (xs.foldl g b0)):=by
 refine a4t (a9a (λ(s:β × Int)=>∃k:Nat,s.2=(k:Int)∧k≤xs.length∧s.1=(xs.take k).foldl g b0∧I k s.1) (λe=>e=ψ (xs.foldl g b0)) (λs=>xs.length-s.2.toNat) ⟨0,rfl,Nat.zero_le _,by simp,h0⟩ (by show xs.length-_<_;omega) ?_);rintro⟨b,_⟩ ⟨k,rfl,hk,rfl,hI⟩;rcases Nat.lt_or_ge k xs.length with h1 | h1
 ·obtain⟨k1,k2⟩:=hs k h1 _ hI;refine .inl ⟨_,k1,⟨k+1,rfl,h1,?_,k2⟩,by show xs.length-_<xs.length-_;simp;omega⟩;rw[List.take_succ_eq_append_getElem h1,List.foldl_append];rfl
 ·have:k=xs.length:=by omega
  subst this;refine .inr ⟨_,he _ hI,?_⟩;rw[List.take_length]
theorem b6a{α E:Type}{f:Int→Option (Int ⊕ E)}(xs:List α)(p:α→Bool)(good bad:E)(hx:xs.length<4611686018427387904)
  (hs:∀k (hk:k<xs.length),f (k:Int)=if p xs[k] then some (.inl ((k+1:Nat):Int)) else some (.inr bad))
  (he:f (xs.length:Int)=some (.inr good)):lp f 0=some (if xs.all p then good else bad):=by
 refine a4t (b43 xs.length (λk=>(xs.take k).all p=true) (λe=>e=if xs.all p then good else bad) hx (by simp) (λk hk hP=>?_) (λhP=>?_))
 ·rw[hs k hk];by_cases h:p xs[k]=true
  ·refine .inl ⟨by rw[if_pos h],?_⟩;rw[List.take_succ_eq_append_getElem hk,List.all_append,hP];simp[h]
  ·refine .inr ⟨bad,by rw[if_neg h],?_⟩;rw[if_neg];rw[List.all_eq_true];exact λq=>h (q _ (List.getElem_mem hk))
 ·rw[List.take_length] at hP;exact⟨_,he,by rw[if_pos hP]⟩
theorem foldl_filter{α:Type}(p:α→Bool):∀(xs acc:List α),xs.foldl (λb x=>if p x then b ++ [x] else b) acc=acc++xs.filter p
 | [],acc=>by simp
 | x::xs,acc=>by
  rw[List.foldl_cons,foldl_filter p xs];by_cases h:p x
  ·simp[h]
  ·simp[h]
theorem a10{α β:Type}(g:α→List β):∀(xs:List α) (acc:List β),xs.foldl (λb x=>b++g x) acc=acc++xs.flatMap g
 | [],acc=>by simp
 | x::xs,acc=>by
  rw[List.foldl_cons,a10 g xs];simp
theorem a86{α:Type}(g:α→Nat):∀(xs:List α) (n:Nat),xs.foldl (λ(b:Int) x=>b+(g x:Int)) (n:Int)=((n+(xs.map g).sum:Nat):Int)
 | [],n=>by simp
 | x::xs,n=>by
  rw[List.foldl_cons,show ((n:Int)+(g x:Int))=((n+g x:Nat):Int) by omega,a86 g xs];simp only[List.map_cons,List.sum_cons];omega
theorem b6S{α:Type}(g:α→Nat)(c:Nat):∀(xs:List α),(∀x∈xs,g x≤c)→(xs.map g).sum≤c*xs.length
 | [],_=>by simp
 | x::xs,h=>by
  have h1:=b6S g c xs λy hy=>h y (List.mem_cons_of_mem _ hy);have h2:=h x (List.mem_cons_self ..);simp only[List.map_cons,List.sum_cons,List.length_cons,Nat.mul_add,Nat.mul_one];omega
def nz(v:List Int):List Int:=v.filter (λx=>x != 0)
def W0(l:List Int)(h:Int):Nat:=if h=0 then 0 else l.count h
theorem c3V(v:List Int):(nz v).length≤v.length:=List.length_filter_le ..
theorem a5S{v:List Int}{x:Int}:x∈nz v↔x∈v∧x≠0:=by unfold nz;rw[List.mem_filter];simp
theorem b1v(v:List Int)(h:Int):W0 (nz v) h=W0 v h:=by
 unfold W0 nz;split;·rfl
 ·rename_i q;rw[List.count_filter (by simpa using q)]
theorem b9V(l:List Int)(h:Int):W0 l h≤l.length:=by
 unfold W0;split;·omega
 ·exact List.count_le_length
theorem a1H{l:List Int}{h:Int}:0<W0 l h↔h≠0∧h∈l:=by
 unfold W0;split;·rename_i q;simp[q]
 ·rename_i q;rw[List.count_pos_iff];simp[q]
theorem H6(l m:List Int)(h:Int):W0 (l++m) h=W0 l h+W0 m h:=by
 unfold W0;split;·rfl
 ·rw[List.count_append]
theorem b1E(h:Int)(l:List Int)(n:Int):l.foldl (λ(b:Int) x=>if (x==h&&h != 0) then b+1 else b) n=n+(W0 l h:Int):=by
 induction l generalizing n with
 | nil=>simp[W0]
 | cons x l ih=>
  rw[List.foldl_cons,ih];unfold W0;by_cases h0:h=0
  ·simp[h0]
  ·by_cases hx:x=h
   ·subst hx;simp[h0,List.count_cons];omega
   ·simp[h0,hx,List.count_cons]
theorem bnd{α β:Type}{x:Option α}{a:α}{k:α→Option β}{r:Option β}(h:x=some a)(q:k a=r):x.bind k=r:=by
 rw[h];exact q
end Go.Sh
