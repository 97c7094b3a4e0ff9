/-
 Several texts of one kind, one behind the other.
-/
import Derived.Test.YtppgkaeodaaidaaGreatDoorU3xSh0
import Derived.IntWalk
set_option linter.unusedVariables false
set_option linter.unusedSimpArgs false
set_option linter.unusedSectionVars false
namespace Go.Sh
theorem b1X(n:Int):C6 n=(n+9223372036854775808) % 18446744073709551616-9223372036854775808:=by
 show IntKind.i64.wrap n=_;rw[IntKind.wrap_i64]
theorem a1q{n:Int}(h1 : -9223372036854775808≤n:=by omega)(h2:n≤9223372036854775807:=by omega):C6 n=n:=by rw[b1X];omega
theorem a5v{n:Nat}(h:n<9223372036854775807:=by omega):C6 ((n:Int)+1)=((n+1:Nat):Int):=by rw[b1X];omega
theorem b4E{S E:Type}{f:S→Option (S ⊕ E)}(I:S→Prop)(Q:E→Prop)(μ:S→Nat)(h:∀s,I s→(∃s',f s=some (.inl s')∧I s'∧μ s'<μ s)∨(∃e,f s=some (.inr e)∧Q e)) :
  ∀(N:Nat) (s:S),I s→μ s<N→∃e,lpN f N s=some e∧Q e:=by
 intro N;induction N with
 | zero=>intro s _ hl;omega
 | succ N ih=>
  intro s hs hl;rw[a7C];rcases h s hs with ⟨s',h1,h2,h3⟩ | ⟨e,h1,h2⟩
  ·rw[h1];exact ih s' h2 (by omega)
  ·rw[h1];exact⟨e,rfl,h2⟩
theorem b28{S E:Type}{f:S→Option (S ⊕ E)}{s0:S}(I:S→Prop)(Q:E→Prop)(μ:S→Nat)(h0:I s0)(hμ:μ s0<4611686018427387904)(h:∀s,I s→(∃s',f s=some (.inl s')∧I s'∧μ s'<μ s)∨(∃e,f s=some (.inr e)∧Q e)):∃e,lp f s0=some e∧Q e:=
 b27 f s0▸b4E I Q μ h _ s0 h0 hμ
theorem b44{E:Type}{x:Option E}{r:E}(h:∃e,x=some e∧e=r):x=some r:=by
 obtain⟨e,h1,rfl⟩:=h;exact h1
end Go.Sh
namespace Go.Sh
end Go.Sh
namespace Go.Sh
end Go.Sh
namespace Go.Sh
theorem b1F{S E R:Type}{f:S→Option (S ⊕ E)}{s0:S}{κ:E→Option R}{r:R}(I:S→Prop)(μ:S→Nat)(h0:I s0)(hμ:μ s0<4611686018427387904)(h:∀s,I s→(∃s',f s=some (.inl s')∧I s'∧μ s'<μ s)∨(∃e,f s=some (.inr e)∧κ e=some r)):(lp f s0).bind κ=some r:=by
 obtain⟨e,h1,h2⟩:=b28 I (λe=>κ e=some r) μ h0 hμ h;rw[h1];exact h2
end Go.Sh
namespace Go.Sh
end Go.Sh
namespace Go.Sh
end Go.Sh
namespace Go.Sh
end Go.Sh
namespace Go.Sh
end Go.Sh
namespace Go.Sh
theorem b3g{α:Type}(d:α)(x:Option α):y7 true d x=x:=rfl
theorem b63{α:Type}(d:α)(x:Option α):y7 false d x=some d:=rfl
end Go.Sh
namespace Go.Sh
theorem bnd{α β:Type}{x:Option α}{a:α}{k:α→Option β}{r:Option β}(h:x=some a)(q:k a=r):x.bind k=r:=by
 rw[h];exact q
end Go.Sh
