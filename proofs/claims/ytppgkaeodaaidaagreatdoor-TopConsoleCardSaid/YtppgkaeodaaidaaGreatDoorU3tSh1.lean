/-
 Several texts of one kind, one behind the other.
-/
import Derived.Test.YtppgkaeodaaidaaGreatDoorU3tSh0
import Derived.IntWalk
set_option linter.unusedVariables false
set_option linter.unusedSimpArgs false
set_option linter.unusedSectionVars false
namespace Go.Sh
theorem a6L{a b:Int}(ha:0≤a)(hb:0<b):rem a b=some (a % b):=by
 unfold rem;rw[if_neg (by omega),Int.tmod_eq_emod_of_nonneg ha]
end Go.Sh
namespace Go.Sh
end Go.Sh
namespace Go.Sh
end Go.Sh
namespace Go.Sh
end Go.Sh
namespace Go.Sh
end Go.Sh
namespace Go.Sh
end Go.Sh
namespace Go.Sh
end Go.Sh
namespace Go.Sh
end Go.Sh
namespace Go.Sh
end Go.Sh
namespace Go.Sh
theorem bnd{α β:Type}{x:Option α}{a:α}{k:α→Option β}{r:Option β}(h:x=some a)(q:k a=r):x.bind k=r:=by
 rw[h];exact q
end Go.Sh
