/-
 Several texts of one kind, one behind the other.
-/
import Derived.Test.YtppgkaeodaaidaaGreatDoorU3tSh1
import Derived.Test.YtppgkaeodaaidaaGreatDoorU3tSh
set_option linter.unusedVariables false
set_option linter.unusedSimpArgs false
set_option linter.unusedSectionVars false
namespace Go.Sh
set_option maxRecDepth 100000
theorem b69:n0 0 0=some true:=by kernel_rfl
theorem b7a:n0 0 1=some true:=by kernel_rfl
theorem b7b:n0 0 2=some true:=by kernel_rfl
theorem b7c:n0 0 3=some true:=by kernel_rfl
theorem b7d:n0 0 4=some true:=by kernel_rfl
theorem b7e:n0 1 0=some true:=by kernel_rfl
theorem b7f:n0 1 1=some true:=by kernel_rfl
theorem b7g:n0 1 2=some true:=by kernel_rfl
theorem b7h:n0 1 3=some true:=by kernel_rfl
theorem b7i:n0 1 4=some true:=by kernel_rfl
theorem b7j:n0 2 0=some true:=by kernel_rfl
theorem b7k:n0 2 1=some true:=by kernel_rfl
theorem b7l:n0 2 2=some true:=by kernel_rfl
theorem b7m:n0 2 3=some true:=by kernel_rfl
theorem b7n:n0 2 4=some true:=by kernel_rfl
theorem b7o:n0 3 0=some true:=by kernel_rfl
theorem b7p:n0 3 1=some true:=by kernel_rfl
theorem b7q:n0 3 2=some true:=by kernel_rfl
theorem b7r:n0 3 3=some true:=by kernel_rfl
theorem b7s:n0 3 4=some true:=by kernel_rfl
theorem topConsole{a b:Int}(ha:0≤a∧a<256)(hb:0≤b∧b<256):n0 a b=some true:=by
 have e:n0 a b=n0 (a % 4) (b % 5):=by
  unfold n0;rw[a6L ha.1 (by decide),a6L hb.1 (by decide),a6L (a:=a % 4) (by omega) (by decide),a6L (a:=b % 5) (by omega) (by decide),Int.emod_emod_of_dvd a (Int.dvd_refl 4),Int.emod_emod_of_dvd b (Int.dvd_refl 5)]
 rw[e];have h1:a % 4=0∨a % 4=1∨a % 4=2∨a % 4=3:=by omega
 have h2:b % 5=0∨b % 5=1∨b % 5=2∨b % 5=3∨b % 5=4:=by omega
 rcases h1 with h1 | h1 | h1 | h1 <;> rw[h1] <;> rcases h2 with h2 | h2 | h2 | h2 | h2 <;> rw[h2]
 ·exact b69
 ·exact b7a
 ·exact b7b
 ·exact b7c
 ·exact b7d
 ·exact b7e
 ·exact b7f
 ·exact b7g
 ·exact b7h
 ·exact b7i
 ·exact b7j
 ·exact b7k
 ·exact b7l
 ·exact b7m
 ·exact b7n
 ·exact b7o
 ·exact b7p
 ·exact b7q
 ·exact b7r
 ·exact b7s
end Go.Sh
