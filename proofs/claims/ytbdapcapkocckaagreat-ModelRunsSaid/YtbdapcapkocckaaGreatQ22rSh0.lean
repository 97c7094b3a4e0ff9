/- A part. -/
import Derived.Test.YtbdapcapkocckaaGreatQ22rAl
namespace Go.Sh
theorem a2D.{u,v}{α:Type u}{β:Type v}(a:α)(f:α->Option β):(some a).bind f=f a:=rfl
abbrev y4(n:Int):Int:=IntKind.i64.wrap n
variable {α:Type}{x:Option α}{r:α}{xs zs:List α}
def ix(xs:List α)(i:Int):Option α:=if 0<=i then xs[i.toNat]? else none
def cut(xs:List α)(i j:Int):Option (List α):=if 0<=i/\i<=j/\j<=xs.length then some ((xs.take j.toNat).drop i.toNat) else none
def app(b:Nat)(xs ys:List α):Option (List α):=if (xs.length+ys.length)*b<=140737488355328/\xs.length+ys.length<=9223372036854775807 then some (xs++ys) else none
def mk(b:Nat)(n:Int)(z:α):Option (List α):=if 0<=n/\b*n<=281474976710656/\n<=9223372036854775807 then some (List.replicate n.toNat z) else none
def quo(k:IntKind)(a b:Int):Option Int:=if b=0 then none else some (k.wrap (a.tdiv b))
def rem(a b:Int):Option Int:=if b=0 then none else some (a.tmod b)
def y6(g:Bool)(d:α)(x:Option α):Option α:=if g then x else some d
def AE(xs ys:List α):Option (List α):=if ys.length<=xs.length then some (ys++xs.drop ys.length) else none
def C4{K V:Type}[BEq K]:List (K × V)->K->Option V
 | [],_=>none
 | p::es,k=>if k==p.1 then some p.2 else C4 es k
def u6{K V:Type}[BEq K]:List (K × V)->K->V->List (K × V)
 | [],k,v=>[(k,v)]
 | p::es,k,v=>if k==p.1 then (k,v)::es else p::u6 es k v
def xF{K V:Type}[BEq K]:List (K × V)->K->List (K × V)
 | [],_=>[]
 | p::es,k=>if k==p.1 then es else p::xF es k
structure A4 where
 a:Int
 b:Int
 c:Int
 d:Int
def A4.l(x:A4):List Int:=[x.a,x.b,x.c,x.d]
def A4.ix(x:A4)(i:Int):Option Int:=Sh.ix x.l i
def A4.st(x:A4)(i v:Int):A4:=match i.toNat with
 | 0=>{ x with a:=v }
 | 1=>{ x with b:=v }
 | 2=>{ x with c:=v }
 | _=>{ x with d:=v }
def TG{S E:Type}(f:S->Option (S ⊕ E)):Nat->S->Option E:=
 Nat.rec (λ_=>none) (λ_ ih s=>match f s with
  | none=>none
  | some (.inl s')=>ih s'
  | some (.inr e)=>some e)
def lp{S E:Type}(f:S->Option (S ⊕ E))(s:S):Option E:=TG f 4611686018427387904 s
def jn{J R:Type}(k:J->Option R)(b:(J->Option R)->Option R):Option R:=b k
theorem MS{S E:Type}(f:S->Option (S ⊕ E))(s:S):lp f s=TG f 4611686018427387904 s:=rfl
theorem IS{S E:Type}(f:S->Option (S ⊕ E))(s:S):TG f 0 s=none:=rfl
theorem qT{S E:Type}(f:S->Option (S ⊕ E))(n:Nat)(s:S):TG f (n+1) s=match f s with
  | none=>none
  | some (.inl s')=>TG f n s'
  | some (.inr e)=>some e:=rfl
theorem Xo{c:Bool}{y:Option α}(h:(if c then x else y)=some r)(hc:c=true):x=some r:=by rwa [zb hc] at h
theorem Xn{c:Bool}{y:Option α}(h:(if c then x else y)=some r)(hc:c=false):y=some r:=by rwa [za (by rw[hc];decide)] at h
theorem pJ{α β:Type}{x:Option α}{k:α->Option β}{r:β}(h:x.bind k=some r):∃a,x=some a/\k a=some r:=by
 cases x with
 | none=>cases h
 | some a=>exact⟨a,rfl,h⟩
theorem I9{g:Bool}{d:α}(h:y6 g d x=some r):g=true->x=some r:=λq=>by
 unfold y6 at h;rwa [zb q] at h
theorem YJ{i:Int}{e:α}(h:ix xs i=some e):0<=i/\xs[i.toNat]? = some e:=by
 unfold ix at h;split at h;·exact⟨ΩI,h⟩
 .cases h
theorem Bo{b:Nat}{ys:List α}(h:app b xs ys=some zs):(xs.length+ys.length)*b<=140737488355328/\xs.length+ys.length<=9223372036854775807/\xs++ys=zs:=by
 unfold app at h;split at h
 .rename_i q;exact⟨q.1,q.2,Ω h⟩
 .cases h
theorem Na{b:Nat}{n:Int}{z:α}(h:mk b n z=some zs):0<=n/\b*n<=281474976710656/\n<=9223372036854775807/\List.replicate n.toNat z=zs:=by
 unfold mk at h;split at h
 .rename_i q;exact⟨q.1,q.2.1,q.2.2,Ω h⟩
 .cases h
theorem Ik{i j:Int}(h:cut xs i j=some zs):0<=i/\i<=j/\j<=xs.length/\(xs.take j.toNat).drop i.toNat=zs:=by
 unfold cut at h;split at h
 .rename_i q;exact⟨q.1,q.2.1,q.2.2,Ω h⟩
 .cases h
theorem QM{ys:List α}(h:AE xs ys=some zs):ys.length<=xs.length/\ys++xs.drop ys.length=zs:=by
 unfold AE at h;split at h
 .rename_i q;exact⟨q,Ω h⟩
 .cases h
abbrev Fv:=Option Nat
end Go.Sh
attribute [irreducible] Go.Sh.lp Go.Sh.TG
