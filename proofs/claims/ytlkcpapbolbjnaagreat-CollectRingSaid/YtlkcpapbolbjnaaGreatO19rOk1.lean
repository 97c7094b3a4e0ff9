/-
 The functions of the program do as the plain functions do.
-/
import Derived.Test.YtlkcpapbolbjnaaGreatO19rPwC
import Derived.Test.YtlkcpapbolbjnaaGreatO19rPwD
import Derived.Test.YtlkcpapbolbjnaaGreatSrt
import Derived.Test.YtlkcpapbolbjnaaGreatO19rSh
import Derived.Test.YtlkcpapbolbjnaaGreatProg
set_option linter.unusedVariables false
set_option linter.unusedSimpArgs false
set_option linter.unusedSectionVars false
namespace Go.Proofs.YtlkcpapbolbjnaaGreat.Ok
open Go Go.Pw Go.Sh Go.Proofs
set_option maxRecDepth 100000
set_option maxHeartbeats 4000000
abbrev _root_.Go.Sh.k9.Pc(x:k9):List PV:=[.I x.Serial,.I x.Strong,.I x.Weak,.I x.Prog,.bool x.Started,.L iF x.Fields]
abbrev _root_.Go.Sh.k9.Pv(x:k9):PV:=.agg x.Pc
abbrev _root_.Go.Sh.b7.Pc(x:b7):List PV:=[.I x.State,.I x.Gen,.I x.Val.Serial,.I x.Val.Strong,.I x.Val.Weak,.I x.Val.Prog,.bool x.Val.Started,.L iF x.Val.Fields]
abbrev _root_.Go.Sh.b7.Pv(x:b7):PV:=.agg x.Pc
abbrev _root_.Go.Sh.c4.Pc(x:c4):List PV:=[.I x.Target,.bool x.Intact,.I x.Call]
abbrev _root_.Go.Sh.c4.Pv(x:c4):PV:=.agg x.Pc
abbrev _root_.Go.Sh.b8.Pc(x:b8):List PV:=[.I x.State,.I x.Key,.I x.Val]
abbrev _root_.Go.Sh.b8.Pv(x:b8):PV:=.agg x.Pc
abbrev _root_.Go.Sh.g7.Pc(x:g7):List PV:=[.I x.Kind,.I x.At,.I x.Prog]
abbrev _root_.Go.Sh.g7.Pv(x:g7):PV:=.agg x.Pc
abbrev _root_.Go.Sh.c7.Pc(x:c7):List PV:=[.L b7.Pv x.a8,.I x.Last]
abbrev _root_.Go.Sh.c7.Pv(x:c7):PV:=.agg x.Pc
abbrev _root_.Go.Sh.a7.Pc(x:a7):List PV:=[.L b7.Pv x.S.a8,.I x.S.Last,.I x.Serial]
abbrev _root_.Go.Sh.a7.Pv(x:a7):PV:=.agg x.Pc
abbrev _root_.Go.Sh.c9.Pc(x:c9):List PV:=[.L g7.Pv x.L,.I x.Cap]
abbrev _root_.Go.Sh.c9.Pv(x:c9):PV:=.agg x.Pc
abbrev _root_.Go.Sh.b6.Pc(x:b6):List PV:=[.L b7.Pv x.S.S.a8,.I x.S.S.Last,.I x.S.Serial,.L iF x.Roots,.L c4.Pv x.a8,.L b8.Pv x.T,.L g7.Pv x.Q.L,.I x.Q.Cap]
abbrev _root_.Go.Sh.b6.Pv(x:b6):PV:=.agg x.Pc
abbrev _root_.Go.Sh.k8.Pc(x:k8):List PV:=[.I x.Kind,.I x.A,.I x.B,.I x.C]
abbrev _root_.Go.Sh.k8.Pv(x:k8):PV:=.agg x.Pc
abbrev _root_.Go.Sh.e6.Pc(x:e6):List PV:=[fvE x.part,.I x.least,.I x.most,.I x.e]
abbrev _root_.Go.Sh.e6.Pv(x:e6):PV:=.agg x.Pc
abbrev _root_.Go.Sh.n7.Pc(x:n7):List PV:=[.L b7.Pv x.x.S.S.a8,.I x.x.S.S.Last,.I x.x.S.Serial,.L iF x.x.Roots,.L c4.Pv x.x.a8,.L b8.Pv x.x.T,.L g7.Pv x.x.Q.L,.I x.x.Q.Cap,.I x.o.Kind,.I x.o.A,.I x.o.B,.I x.o.C]
abbrev _root_.Go.Sh.n7.Pv(x:n7):PV:=.agg x.Pc
abbrev _root_.Go.Sh.F5.Pc(x:F5):List PV:=[.I x.r,.I x.h]
abbrev _root_.Go.Sh.F5.Pv(x:F5):PV:=.agg x.Pc
abbrev _root_.Go.Sh.D7.Pc(x:D7):List PV:=[.I x.h,.I x.k,.I x.v]
abbrev _root_.Go.Sh.D7.Pv(x:D7):PV:=.agg x.Pc
abbrev _root_.Go.Sh.F4.Pc(x:F4):List PV:=[.L b8.Pv x.t]
abbrev _root_.Go.Sh.F4.Pv(x:F4):PV:=.agg x.Pc
abbrev _root_.Go.Sh.l5.Pc(x:l5):List PV:=[.I x.Key,.I x.Val]
abbrev _root_.Go.Sh.l5.Pv(x:l5):PV:=.agg x.Pc
abbrev _root_.Go.Sh.g9.Pc(x:g9):List PV:=[.L iF x.L,.I x.Cap]
abbrev _root_.Go.Sh.g9.Pv(x:g9):PV:=.agg x.Pc
abbrev _root_.Go.Sh.z6.Pc(x:z6):List PV:=[fvE x.kept]
abbrev _root_.Go.Sh.z6.Pv(x:z6):PV:=.agg x.Pc
abbrev _root_.Go.Sh.D9.Pc(x:D9):List PV:=[.I x.Serial,.I x.Strong,.I x.Weak,.I x.Prog,.bool x.Started,.L iF x.Fields]
abbrev _root_.Go.Sh.D9.Pv(x:D9):PV:=.agg x.Pc
abbrev _root_.Go.Sh.B9.Pc(x:B9):List PV:=[.I x.State,.I x.Gen,.I x.Val.Serial,.I x.Val.Strong,.I x.Val.Weak,.I x.Val.Prog,.bool x.Val.Started,.L iF x.Val.Fields]
abbrev _root_.Go.Sh.B9.Pv(x:B9):PV:=.agg x.Pc
abbrev _root_.Go.Sh.m8.Pc(x:m8):List PV:=[.L B9.Pv x.a8,.I x.Last,.I x.Serial]
abbrev _root_.Go.Sh.m8.Pv(x:m8):PV:=.agg x.Pc
abbrev _root_.Go.Sh.E2.Pc(x:E2):List PV:=[.I x.Target,.bool x.Intact,.I x.Call]
abbrev _root_.Go.Sh.E2.Pv(x:E2):PV:=.agg x.Pc
abbrev _root_.Go.Sh.n9.Pc(x:n9):List PV:=[.I x.State,.I x.Key,.I x.Val]
abbrev _root_.Go.Sh.n9.Pv(x:n9):PV:=.agg x.Pc
abbrev _root_.Go.Sh.E3.Pc(x:E3):List PV:=[.I x.Kind,.I x.At,.I x.Prog]
abbrev _root_.Go.Sh.E3.Pv(x:E3):PV:=.agg x.Pc
abbrev _root_.Go.Sh.z8.Pc(x:z8):List PV:=[.L E3.Pv x.L,.I x.Cap]
abbrev _root_.Go.Sh.z8.Pv(x:z8):PV:=.agg x.Pc
abbrev _root_.Go.Sh.g5.Pc(x:g5):List PV:=[.L B9.Pv x.S.a8,.I x.S.Last,.I x.S.Serial,.L iF x.Roots,.L E2.Pv x.a8,.L n9.Pv x.T,.L E3.Pv x.Q.L,.I x.Q.Cap]
abbrev _root_.Go.Sh.g5.Pv(x:g5):PV:=.agg x.Pc
abbrev _root_.Go.Sh.E1.Pc(x:E1):List PV:=[.I x.State,.I x.Gen,.I x.Val]
abbrev _root_.Go.Sh.E1.Pv(x:E1):PV:=.agg x.Pc
abbrev _root_.Go.Sh.D1.Pc(x:D1):List PV:=[.L E1.Pv x.a8,.I x.Last]
abbrev _root_.Go.Sh.D1.Pv(x:D1):PV:=.agg x.Pc
abbrev _root_.Go.Sh.X4.Pc(x:X4):List PV:=[.I x.Key,.I x.Val]
abbrev _root_.Go.Sh.X4.Pv(x:X4):PV:=.agg x.Pc
abbrev _root_.Go.Sh.X5.Pc(x:X5):List PV:=[.I x.Kind,.I x.A,.I x.B,.I x.C]
abbrev _root_.Go.Sh.X5.Pv(x:X5):PV:=.agg x.Pc
namespace Ty
theorem a3:K3 Tryz.prog 3=some false:=by kernel_rfl
theorem a4:K3 Tryz.prog 4=some false:=by kernel_rfl
theorem a22:K3 Tryz.prog 22=some false:=by kernel_rfl
theorem a24:K3 Tryz.prog 24=some true:=by kernel_rfl
theorem a26:K3 Tryz.prog 26=some true:=by kernel_rfl
theorem a27:K3 Tryz.prog 27=some false:=by kernel_rfl
theorem a28:K3 Tryz.prog 28=some false:=by kernel_rfl
theorem a29:K3 Tryz.prog 29=some false:=by kernel_rfl
theorem a30:K3 Tryz.prog 30=some false:=by kernel_rfl
theorem a32:K3 Tryz.prog 32=some true:=by kernel_rfl
theorem U0:K3 Tryz.prog 34=some true:=by kernel_rfl
theorem a63:K3 Tryz.prog 63=some false:=by kernel_rfl
theorem a79:K3 Tryz.prog 79=some true:=by kernel_rfl
theorem c1e:K3 Tryz.prog 114=some true:=by kernel_rfl
theorem c9t:K3 Tryz.prog 135=some true:=by kernel_rfl
theorem c7O:K3 Tryz.prog 254=some false:=by kernel_rfl
theorem b4S:K3 Tryz.prog 279=some true:=by kernel_rfl
theorem b93:K3 Tryz.prog 365=some true:=by kernel_rfl
theorem c9v:K3 Tryz.prog 394=some true:=by kernel_rfl
theorem b3:M1 Tryz.prog 3=some 8:=by kernel_rfl
theorem b68:M1 Tryz.prog 68=some 24:=by kernel_rfl
theorem b79:M1 Tryz.prog 79=some 24:=by kernel_rfl
theorem c7T:M1 Tryz.prog 129=some 80:=by kernel_rfl
theorem c7U:M1 Tryz.prog 135=some 24:=by kernel_rfl
theorem c7V:M1 Tryz.prog 235=some 16:=by kernel_rfl
theorem e22:y6 Tryz.prog 22=some 129:=by kernel_rfl
theorem D0:y6 Tryz.prog 27=some 3:=by kernel_rfl
theorem e28:y6 Tryz.prog 28=some 68:=by kernel_rfl
theorem e29:y6 Tryz.prog 29=some 135:=by kernel_rfl
theorem e30:y6 Tryz.prog 30=some 79:=by kernel_rfl
theorem e74:y6 Tryz.prog 74=some 73:=by kernel_rfl
theorem c6b:y6 Tryz.prog 168=some 35:=by kernel_rfl
theorem b44:y6 Tryz.prog 236=some 235:=by kernel_rfl
theorem b0s:y6 Tryz.prog 273=some 279:=by kernel_rfl
theorem c6c:y6 Tryz.prog 304=some 308:=by kernel_rfl
theorem c70:M9 Tryz.prog 24 0=some (0,22):=by kernel_rfl
theorem c1I:M9 Tryz.prog 24 1=some (1,3):=by kernel_rfl
theorem c1J:M9 Tryz.prog 26 0=some (0,24):=by kernel_rfl
theorem c5v:M9 Tryz.prog 26 1=some (2,3):=by kernel_rfl
theorem c1K:M9 Tryz.prog 32 0=some (0,30):=by kernel_rfl
theorem c71:M9 Tryz.prog 32 1=some (1,3):=by kernel_rfl
theorem c72:M9 Tryz.prog 34 0=some (0,26):=by kernel_rfl
theorem c1L:M9 Tryz.prog 34 1=some (3,27):=by kernel_rfl
theorem b87:M9 Tryz.prog 34 2=some (4,28):=by kernel_rfl
theorem c73:M9 Tryz.prog 34 3=some (5,29):=by kernel_rfl
theorem b6z:M9 Tryz.prog 34 4=some (6,32):=by kernel_rfl
theorem c1M:M9 Tryz.prog 68 0=some (0,3):=by kernel_rfl
theorem c5w:M9 Tryz.prog 68 1=some (1,4):=by kernel_rfl
theorem c74:M9 Tryz.prog 68 2=some (2,3):=by kernel_rfl
theorem c5x:M9 Tryz.prog 79 1=some (1,3):=by kernel_rfl
theorem c5y:M9 Tryz.prog 79 2=some (2,3):=by kernel_rfl
theorem c1G:M9 Tryz.prog 114 0=some (0,3):=by kernel_rfl
theorem b7V:M9 Tryz.prog 114 1=some (1,3):=by kernel_rfl
theorem b7W:M9 Tryz.prog 114 2=some (2,3):=by kernel_rfl
theorem c6f:M9 Tryz.prog 114 3=some (3,3):=by kernel_rfl
theorem b47:M9 Tryz.prog 114 4=some (4,4):=by kernel_rfl
theorem b7X:M9 Tryz.prog 114 5=some (5,27):=by kernel_rfl
theorem b2o:M9 Tryz.prog 129 0=some (0,3):=by kernel_rfl
theorem c6g:M9 Tryz.prog 129 1=some (1,3):=by kernel_rfl
theorem b48:M9 Tryz.prog 129 2=some (2,114):=by kernel_rfl
theorem c6h:M9 Tryz.prog 135 0=some (0,3):=by kernel_rfl
theorem c1H:M9 Tryz.prog 135 1=some (1,3):=by kernel_rfl
theorem c6i:M9 Tryz.prog 235 0=some (0,3):=by kernel_rfl
theorem b7Y:M9 Tryz.prog 235 1=some (1,3):=by kernel_rfl
theorem c6j:M9 Tryz.prog 279 2=some (2,3):=by kernel_rfl
theorem i3:c3t Tryz.prog 3=some .i64:=by kernel_rfl
theorem c9T:y5 Tryz.prog 102:=kC Tryz.func102 J
theorem c9U:y5 Tryz.prog 103:=kC Tryz.func103 J
theorem c8a:y5 Tryz.prog 136:=kC Tryz.func136 J
theorem c9V:y5 Tryz.prog 185:=kC Tryz.func185 J
theorem c9W:y5 Tryz.prog 203:=kC Tryz.func203 J
theorem c9X:y5 Tryz.prog 204:=kC Tryz.func204 J
theorem c8b:y5 Tryz.prog 214:=kC Tryz.func214 J
theorem c8c:y5 Tryz.prog 292:=kC Tryz.func292 J
theorem c8d:y5 Tryz.prog 344:=kC Tryz.func344 J
theorem c8e:y5 Tryz.prog 350:=kC Tryz.func350 J
theorem c8f:y5 Tryz.prog 356:=kC Tryz.func356 J
theorem c9Y:y5 Tryz.prog 368:=kC Tryz.func368 J
theorem c9Z:y5 Tryz.prog 375:=kC Tryz.func375 J
theorem c8g:y5 Tryz.prog 382:=kC Tryz.func382 J
theorem c90:y5 Tryz.prog 396:=kC Tryz.func396 J
theorem c91:y5 Tryz.prog 397:=kC Tryz.func397 J
theorem c2p:a82 Tryz.prog 150=some (3,3):=by kernel_rfl
theorem a6V:a82 Tryz.prog 210=some (3,208):=by kernel_rfl
theorem c5K:a82 Tryz.prog 239=some (79,4):=by kernel_rfl
theorem a8s:a82 Tryz.prog 254=some (3,4):=by kernel_rfl
theorem a4R:a82 Tryz.prog 275=some (3,273):=by kernel_rfl
theorem p24:D4 Tryz.prog 24=some (λi=>(#[(0,1),(1,1)]:Array (Nat × Nat))[i]?):=by kernel_rfl
theorem p26:D4 Tryz.prog 26=some (λi=>(#[(0,2),(2,1)]:Array (Nat × Nat))[i]?):=by kernel_rfl
theorem p32:D4 Tryz.prog 32=some (λi=>(#[(0,1),(1,1)]:Array (Nat × Nat))[i]?):=by kernel_rfl
theorem p34:D4 Tryz.prog 34=some (λi=>(#[(0,3),(3,1),(4,1),(5,1),(6,2)]:Array (Nat × Nat))[i]?):=by kernel_rfl
theorem p68:D4 Tryz.prog 68=some (λi=>(#[(0,1),(1,1),(2,1)]:Array (Nat × Nat))[i]?):=by kernel_rfl
theorem p73:D4 Tryz.prog 73=some (λi=>(#[(0,1),(1,1),(2,1),(3,1)]:Array (Nat × Nat))[i]?):=by kernel_rfl
theorem p79:D4 Tryz.prog 79=some (λi=>(#[(0,1),(1,1),(2,1)]:Array (Nat × Nat))[i]?):=by kernel_rfl
theorem c94:D4 Tryz.prog 114=some (λi=>(#[(0,1),(1,1),(2,1),(3,1),(4,1),(5,1)]:Array (Nat × Nat))[i]?):=by kernel_rfl
theorem c4H:D4 Tryz.prog 129=some (λi=>(#[(0,1),(1,1),(2,6)]:Array (Nat × Nat))[i]?):=by kernel_rfl
theorem c4I:D4 Tryz.prog 135=some (λi=>(#[(0,1),(1,1),(2,1)]:Array (Nat × Nat))[i]?):=by kernel_rfl
theorem c95:D4 Tryz.prog 213=some (λi=>(#[(0,8),(8,4)]:Array (Nat × Nat))[i]?):=by kernel_rfl
theorem c96:D4 Tryz.prog 225=some (λi=>(#[(0,1),(1,1)]:Array (Nat × Nat))[i]?):=by kernel_rfl
theorem c8u:D4 Tryz.prog 235=some (λi=>(#[(0,1),(1,1)]:Array (Nat × Nat))[i]?):=by kernel_rfl
theorem c8v:D4 Tryz.prog 250=some (λi=>(#[(0,1)]:Array (Nat × Nat))[i]?):=by kernel_rfl
theorem b2P:D4 Tryz.prog 279=some (λi=>(#[(0,1),(1,1),(2,1),(3,1)]:Array (Nat × Nat))[i]?):=by kernel_rfl
theorem c4J:D4 Tryz.prog 308=some (λi=>(#[(0,1)]:Array (Nat × Nat))[i]?):=by kernel_rfl
theorem c97:D4 Tryz.prog 365=some (λi=>(#[(0,1),(1,1)]:Array (Nat × Nat))[i]?):=by kernel_rfl
theorem c98:D4 Tryz.prog 378=some (λi=>(#[(0,1),(1,1),(2,1)]:Array (Nat × Nat))[i]?):=by kernel_rfl
theorem c99:D4 Tryz.prog 386=some (λi=>(#[(0,1)]:Array (Nat × Nat))[i]?):=by kernel_rfl
theorem c8w:D4 Tryz.prog 394=some (λi=>some (i*1,1)):=by kernel_rfl
theorem q79:a2B Tryz.prog 79=some [1,1,1]:=by kernel_rfl
theorem c8B:a2B Tryz.prog 135=some [1,1,1]:=by kernel_rfl
theorem d0c:a2B Tryz.prog 394=some [1,1,1,1]:=by kernel_rfl
theorem s3:o5 Tryz.prog 3=some 1:=by kernel_rfl
theorem s4:o5 Tryz.prog 4=some 1:=by kernel_rfl
theorem s24:o5 Tryz.prog 24=some 2:=by kernel_rfl
theorem s26:o5 Tryz.prog 26=some 3:=by kernel_rfl
theorem s27:o5 Tryz.prog 27=some 1:=by kernel_rfl
theorem s30:o5 Tryz.prog 30=some 1:=by kernel_rfl
theorem s32:o5 Tryz.prog 32=some 2:=by kernel_rfl
theorem M5:o5 Tryz.prog 34=some 8:=by kernel_rfl
theorem s35:o5 Tryz.prog 35=some 1:=by kernel_rfl
theorem s68:o5 Tryz.prog 68=some 3:=by kernel_rfl
theorem s73:o5 Tryz.prog 73=some 4:=by kernel_rfl
theorem s79:o5 Tryz.prog 79=some 3:=by kernel_rfl
theorem a47:o5 Tryz.prog 114=some 6:=by kernel_rfl
theorem a6v:o5 Tryz.prog 129=some 8:=by kernel_rfl
theorem a95:o5 Tryz.prog 135=some 3:=by kernel_rfl
theorem c0T:o5 Tryz.prog 235=some 2:=by kernel_rfl
theorem a4v:o5 Tryz.prog 279=some 4:=by kernel_rfl
theorem c81:o5 Tryz.prog 308=some 1:=by kernel_rfl
theorem b7n:o5 Tryz.prog 365=some 2:=by kernel_rfl
theorem d0y:o5 Tryz.prog 394=some 4:=by kernel_rfl
theorem u3:Tryz.prog.underlying 3=some (.int .i64):=by kernel_rfl
theorem u5:Tryz.prog.underlying 5=some (.int .u8):=by kernel_rfl
theorem z3:y8 Tryz.prog 3=some ((.I 0)):=by kernel_rfl
theorem z4:y8 Tryz.prog 4=some ((.bool false)):=by kernel_rfl
theorem z24:y8 Tryz.prog 24=some ((.agg #[(.slice none 0 0),(.I 0)])):=by kernel_rfl
theorem z26:y8 Tryz.prog 26=some ((.agg #[(.slice none 0 0),(.I 0),(.I 0)])):=by kernel_rfl
theorem z32:y8 Tryz.prog 32=some ((.agg #[(.slice none 0 0),(.I 0)])):=by kernel_rfl
theorem z34:y8 Tryz.prog 34=some ((.agg #[(.slice none 0 0),(.I 0),(.I 0),(.slice none 0 0),(.slice none 0 0),(.slice none 0 0),(.slice none 0 0),(.I 0)])):=by kernel_rfl
theorem z35:y8 Tryz.prog 35=some (.nilFunc):=by kernel_rfl
theorem z68:y8 Tryz.prog 68=some ((.agg #[(.I 0),(.bool false),(.I 0)])):=by kernel_rfl
theorem z73:y8 Tryz.prog 73=some ((.agg #[(.I 0),(.I 0),(.I 0),(.I 0)])):=by kernel_rfl
theorem z79:y8 Tryz.prog 79=some ((.agg #[(.I 0),(.I 0),(.I 0)])):=by kernel_rfl
theorem d0z:y8 Tryz.prog 114=some ((.agg #[(.I 0),(.I 0),(.I 0),(.I 0),(.bool false),(.slice none 0 0)])):=by kernel_rfl
theorem c07:y8 Tryz.prog 129=some ((.agg #[(.I 0),(.I 0),(.I 0),(.I 0),(.I 0),(.I 0),(.bool false),(.slice none 0 0)])):=by kernel_rfl
theorem c08:y8 Tryz.prog 135=some ((.agg #[(.I 0),(.I 0),(.I 0)])):=by kernel_rfl
theorem d0A:y8 Tryz.prog 208=some (.nilFunc):=by kernel_rfl
theorem d0B:y8 Tryz.prog 213=some ((.agg #[(.slice none 0 0),(.I 0),(.I 0),(.slice none 0 0),(.slice none 0 0),(.slice none 0 0),(.slice none 0 0),(.I 0),(.I 0),(.I 0),(.I 0),(.I 0)])):=by kernel_rfl
theorem d0C:y8 Tryz.prog 225=some ((.agg #[(.I 0),(.I 0)])):=by kernel_rfl
theorem c09:y8 Tryz.prog 235=some ((.agg #[(.I 0),(.I 0)])):=by kernel_rfl
theorem c9b:y8 Tryz.prog 250=some ((.agg #[.nilFunc])):=by kernel_rfl
theorem d0D:y8 Tryz.prog 273=some ((.slice none 0 0)):=by kernel_rfl
theorem a3S:y8 Tryz.prog 279=some ((.agg #[.nilFunc,(.I 0),(.I 0),(.I 0)])):=by kernel_rfl
theorem c3D:y8 Tryz.prog 308=some ((.agg #[.nilFunc])):=by kernel_rfl
theorem d0E:y8 Tryz.prog 365=some ((.agg #[(.slice none 0 0),(.I 0)])):=by kernel_rfl
theorem d0F:y8 Tryz.prog 378=some ((.agg #[(.I 0),(.I 0),(.I 0)])):=by kernel_rfl
theorem d0G:y8 Tryz.prog 386=some ((.agg #[(.slice none 0 0)])):=by kernel_rfl
theorem c9c:y8 Tryz.prog 394=some ((.agg #[(.I 0),(.I 0),(.I 0),(.I 0)])):=by kernel_rfl
theorem mix:Tryz.prog.follows .mixedOrders=true:=by kernel_rfl
end Ty
def tb:TB:=⟨[((24,0),(0,22)),((24,1),(1,3)),((26,0),(0,24)),((26,1),(2,3)),((32,0),(0,30)),((32,1),(1,3)),((34,0),(0,26)),((34,1),(3,27)),((34,2),(4,28)),((34,3),(5,29)),((34,4),(6,32)),((68,0),(0,3)),((68,1),(1,4)),((68,2),(2,3)),((73,0),(0,3)),((73,1),(1,3)),((73,2),(2,3)),((73,3),(3,3)),((79,0),(0,3)),((79,1),(1,3)),((114,0),(0,3)),((114,1),(1,3)),((114,2),(2,3)),((114,3),(3,3)),((114,4),(4,4)),((114,5),(5,27)),((129,0),(0,3)),((129,1),(1,3)),((129,2),(2,114)),((135,0),(0,3)),((135,1),(1,3)),((135,2),(2,3)),((213,0),(0,34)),((213,1),(8,73)),((225,0),(0,3)),((225,1),(1,3)),((235,0),(0,3)),((235,1),(1,3)),((250,0),(0,248)),((279,0),(0,277)),((279,1),(1,3)),((279,3),(3,63)),((308,0),(0,306)),((365,0),(0,27)),((365,1),(1,3)),((378,0),(0,3)),((378,1),(1,3)),((378,2),(2,3)),((386,0),(0,29))],[(3,false),(4,false),(22,false),(24,true),(26,true),(27,false),(28,false),(29,false),(30,false),(32,true),(34,true),(35,false),(63,false),(68,true),(73,true),(79,true),(114,true),(129,true),(135,true),(150,false),(213,true),(235,true),(236,false),(238,false),(239,false),(248,false),(250,true),(254,false),(277,false),(279,true),(306,false),(308,true),(365,true)],[(3,1),(4,1),(22,1),(24,2),(26,3),(27,1),(28,1),(29,1),(32,2),(34,8),(63,1),(68,3),(73,4),(79,3),(114,6),(129,8),(135,3),(150,1),(213,12),(235,2),(236,1),(239,1),(250,1),(254,1),(279,4),(308,1),(365,2),(394,4)],[(3,.I 0),(4,.bool false),(24,.agg [.K6 true (List.map b7.Pv []),.I 0]),(26,.agg [.K6 true (List.map b7.Pv []),.I 0,.I 0]),(27,.K6 true (List.map iF [])),(29,.K6 true (List.map b8.Pv [])),(32,.agg [.K6 true (List.map g7.Pv []),.I 0]),(34,.agg [.K6 true (List.map b7.Pv []),.I 0,.I 0,.K6 true (List.map iF []),.K6 true (List.map c4.Pv []),.K6 true (List.map b8.Pv []),.K6 true (List.map g7.Pv []),.I 0]),(63,.I 0),(68,.agg [.I 0,.bool false,.I 0]),(73,.agg [.I 0,.I 0,.I 0,.I 0]),(79,.agg [.I 0,.I 0,.I 0]),(114,.agg [.I 0,.I 0,.I 0,.I 0,.bool false,.K6 true (List.map iF [])]),(129,.agg [.I 0,.I 0,.I 0,.I 0,.I 0,.I 0,.bool false,.K6 true (List.map iF [])]),(135,.agg [.I 0,.I 0,.I 0]),(150,.abs b4P),(235,.agg [.I 0,.I 0]),(236,.K6 true (List.map l5.Pv [])),(239,.abs b4P),(250,.agg [.nilfn]),(254,.abs b4P),(279,.agg [.nilfn,.I 0,.I 0,.I 0]),(308,.agg [.nilfn]),(365,.agg [.K6 true (List.map iF []),.I 0]),(394,.agg [.I 0,.I 0,.I 0,.I 0])]⟩
theorem Tb:TB.Ok Tryz.prog tb:=⟨by kernel_rfl,by kernel_rfl,by kernel_rfl,by kernel_rfl⟩
section
variable{X:Ctx}{ops:Array Oper}{K:Ctx→St→Prop}{i n:Nat}{l l':List Oper}{env env':Nat→PV}{σ σ':Nat→Option Row}{Q:PX→Ctx→St→Prop}{y:Code}{KD:St→Prop}{bar:List Nat}
theorem S1(n:Nat)(h:run tb n l env σ=some (l',env',σ'))(k:Sq X ops (i+n) l' K ⟨env',σ'⟩)(hb:TB.Ok X.P tb:=by exact Tb):Sq X ops i l K ⟨env,σ⟩:=seg hb n h k
theorem S2(n:Nat)(h:run tb n l env σ=some ([],env',σ'))(k:K X ⟨env',σ'⟩)(hb:TB.Ok X.P tb:=by exact Tb):Sq X ops i l K ⟨env,σ⟩:=seg hb n h (yN k)
theorem S3{id:Nat}(n:Nat)(h:run tb n l env σ=some (l',env',σ'))(k:Sq X l.toArray (0+n) l' (λX' s=>Q1 X' y Q s) ⟨env',σ'⟩)(hd:a2d X.N l.toArray=true:=by kernel_rfl)(hb:TB.Ok X.P tb:=by exact Tb):Q1 X (.seq (.region id l.toArray false) y) Q ⟨env,σ⟩:=sr hd (seg hb n h k)
theorem S4{id:Nat}(n:Nat)(h:run tb n l env σ=some ([],env',σ'))(k:Q1 X y Q ⟨env',σ'⟩)(hd:a2d X.N l.toArray=true:=by kernel_rfl)(hb:TB.Ok X.P tb:=by exact Tb):Q1 X (.seq (.region id l.toArray false) y) Q ⟨env,σ⟩:=sr hd (seg hb n h (yN k))
theorem S5{id:Nat}(n:Nat)(h:run tb n l env σ=some (l',env',σ'))(k:Sq X l.toArray (0+n) l' (Q .normal) ⟨env',σ'⟩)(hd:a2d X.N l.toArray=true:=by kernel_rfl)(hb:TB.Ok X.P tb:=by exact Tb):Q1 X (.region id l.toArray false) Q ⟨env,σ⟩:=sr1 hd (seg hb n h k)
theorem S6{id:Nat}(n:Nat)(h:run tb n l env σ=some ([],env',σ'))(k:Q .normal X ⟨env',σ'⟩)(hd:a2d X.N l.toArray=true:=by kernel_rfl)(hb:TB.Ok X.P tb:=by exact Tb):Q1 X (.region id l.toArray false) Q ⟨env,σ⟩:=sr1 hd (seg hb n h (yN k))
theorem S7(n:Nat)(h:c4Y tb bar n i l env σ=some (l',env',σ'))(k:Ex X.P ops bar true (i+n) l' ⟨env',σ'⟩ KD)(hb:TB.Ok X.P tb:=by exact Tb):Ex X.P ops bar true i l ⟨env,σ⟩ KD:=dG hb n h k
theorem S8(n:Nat)(h:c4Y tb bar n i l env σ=some ([],env',σ'))(k:KD ⟨env',σ'⟩)(hb:TB.Ok X.P tb:=by exact Tb):Ex X.P ops bar true i l ⟨env,σ⟩ KD:=dG hb n h k
end
theorem c7q:b4R Tryz.prog (Tryz.sortF_ren.f 6):=c0W Tryz.sortF
theorem a6w{a0 a1}:PO Tryz.prog 173 [.I a0,.I a1] (a0I a0 a1) λr=>c7.Pv r:=by
 refine pO Tryz.func173 λr h _ _=>?_
 refine S4 1 J<|j5<|S3 3 J<|j8 J (λhg=>mI J)<|j8 J (λhg=>w8 (ct hg) J J)<|y0 J (F0 J J J (λq=>eqF q))<|S1 1 J<|j8 J (λhg=>mI J)<|j8 J (λhg=>w8 (ct hg) J J)<|y0 J (F0 J J J (λq=>eqF q))<|S1 1 J<|j8 J (λhg=>mI J)<|j8 J (λhg=>w8 (ct hg) J J)<|y0 J (F0 J J J (λq=>eqF q))<|yN ?_
 refine cN h (λhc h=>?_) λhc h=>?_
 ·refine sR ?_
  refine y0 J (o0 (cs:=[.nl,.I 0]) J Ty.p24 Ty.z24 J J J)<|b1y (x':=.agg [.nl,.I 0]) (cl':=true) J J (.inl J) Ty.s24<|yN<|b9 ?_
  cases h
  exact⟨J,[_],⟨oL J J J Ty.a24 Ty.s24 nl J,tr⟩,J,io⟩
 ·refine c8 ?_
  refine S3 1 J<|B2 h λv1 hv1 h=>y1 J (b8k (f:=b7.Pv) hv1 J J J Ty.e22 Ty.a6v Ty.c07 Ty.c7T J J J) J<|S1 1 J<|y0 J (o0 (cs:=[.sl 21,.I a1]) J Ty.p24 Ty.z24 J J J)<|S2 1 J<|b9 ?_
  cases h
  exact⟨J,[_],⟨oL J J J Ty.a24 Ty.s24 nl J,tr⟩,J,io⟩

theorem b55{a0 a1}:PO Tryz.prog 97 [.I a0,.I a1] (a7Q a0 a1) λr=>a7.Pv r:=by
 refine pO Tryz.func97 λr h _ _=>?_
 refine S4 1 J<|S3 2 J<|cF h a6w J J λv1 _ h=>y0 J (o0 (cs:=[.L b7.Pv v1.a8,.I v1.Last,.I 0]) J Ty.p26 Ty.z26 J J J)<|S2 1 J<|b9 ?_
 cases h
 exact⟨J,[_],⟨oL J J J Ty.a26 Ty.s26 nl J,tr⟩,J,io⟩

theorem b7D{a0}:PO Tryz.prog 98 [.I a0] (b7C a0) λr=>.L c4.Pv r:=by
 refine pO Tryz.func98 λr h _ _=>?_
 refine S4 1 J<|j5<|S3 3 J<|j8 J (λhg=>mI J)<|j8 J (λhg=>w8 (ct hg) J J)<|y0 J (F0 J J J (λq=>eqF q))<|yN ?_
 refine cN h (λhc h=>?_) λhc h=>?_
 ·refine S4 1 J ?_
  refine b9 ?_
  cases h
  exact f1
 ·refine c8 ?_
  refine S3 1 J<|B2 h λv1 hv1 h=>y1 J (b8k (f:=c4.Pv) hv1 J J J Ty.e28 Ty.s68 Ty.z68 Ty.b68 J J J) J<|S2 1 J ?_
  refine jq h (λj9=>St.of [(3,.sl 12)] [(12,⟨List.map c4.Pv j9,0,true,3,true⟩)]) (λj9 h=>?_) λκ8 h=>?_
  ·refine S4 2 J ?_
   refine b9 ?_
   cases h
   exact f1
  ·refine S3 1 J ?_
   refine y0 J (b9r (f:=c4.Pv) J J J Ty.e28)<|S2 1 J<|g8<|lq h (λq=>St.of [(3,.sl 12),(14,.I (v1.length:Int)),(15,.I q.1)] [(12,⟨List.map c4.Pv q.2,0,true,3,true⟩)]) W λq14 x13 h hx9=>?_
   obtain⟨s11,s12⟩:=q14
   refine S4 1 J<|j5 ?_
   refine cN h (λhc h=>?_) λhc h=>?_
   ·refine c8 ?_
    refine j5<|g8<|S4 2 J<|S5 2 J<|B2 h λv15 hv10 h=>y0 J (a8t (f:=c4.Pv) hv10 J J J J Ty.e28 Ty.s68 J)<|S1 1 J<|b3D (f:=c4.Pv) (v:=(⟨v15.Target,v15.Intact,(-1)⟩:c4)) hv10 J J (.inl J) Ty.s3<|yN<|S6 2 J ?_
    exact eL h W
   ·refine o8 ?_
    refine g6<|g6<|l7 ?_
    have h:=xL hx9 h
    exact eJ h W

theorem b6I{a0}:PO Tryz.prog 99 [.I a0] (a9x a0) λr=>.L b8.Pv r:=by
 refine pO Tryz.func99 λr h _ _=>?_
 refine S4 1 J<|j5<|S3 3 J<|j8 J (λhg=>mI J)<|j8 J (λhg=>w8 (ct hg) J J)<|y0 J (F0 J J J (λq=>eqF q))<|yN ?_
 refine cN h (λhc h=>?_) λhc h=>?_
 ·refine S4 1 J ?_
  refine b9 ?_
  cases h
  exact f1
 ·refine c8 ?_
  refine S3 1 J<|B2 h λv1 hv1 h=>y1 J (b8k (f:=b8.Pv) hv1 J J J Ty.e29 Ty.a95 Ty.c08 Ty.c7U J J J) J<|S2 1 J<|b9 ?_
  cases h
  exact f1

theorem a5N{a0}:PO Tryz.prog 174 [.I a0] (a0d a0) λr=>c9.Pv r:=by
 refine pO Tryz.func174 λr h _ _=>?_
 unfold a0d at h
 refine S4 1 J<|S3 1 J<|y0 J (o0 (cs:=[.nl,.I a0]) J Ty.p32 Ty.z32 J J J)<|b1y (x':=.agg [.nl,.I a0]) (cl':=true) J J (.inl J) Ty.s32<|yN<|b9 ?_
 cases h
 exact⟨J,[_],⟨oL J J J Ty.a32 Ty.s32 nl J,tr⟩,J,io⟩

theorem b1t:PO Tryz.prog 100 [] (b0c) λr=>c9.Pv r:=by
 refine pO Tryz.func100 λr h _ _=>?_
 refine S4 1 J<|sR<|cF h a5N J J λv1 _ h=>S2 1 J<|b9 ?_
 cases h
 exact⟨J,[_],⟨oL J J J Ty.a32 Ty.s32 nl J,tr⟩,J,io⟩

theorem b1i{a0 a1 a2}:PO Tryz.prog 40 [.I a0,.I a1,.I a2] (a4K a0 a1 a2) λr=>b6.Pv r:=by
 refine pO Tryz.func40 λr h _ _=>?_
 refine S4 1 J<|j5<|S3 3 J<|j8 J (λhg=>mI J)<|j8 J (λhg=>w8 (ct hg) J J)<|y0 J (F0 J J J (λq=>eqF q))<|S1 1 J<|j8 J (λhg=>mI J)<|j8 J (λhg=>w8 (ct hg) J J)<|y0 J (F0 J J J (λq=>eqF q))<|S1 1 J<|j8 J (λhg=>mI J)<|j8 J (λhg=>w8 (ct hg) J J)<|y0 J (F0 J J J (λq=>eqF q))<|S1 1 J<|j8 J (λhg=>mI J)<|j8 J (λhg=>w8 (ct hg) J J)<|y0 J (F0 J J J (λq=>eqF q))<|S1 1 J<|j8 J (λhg=>mI J)<|j8 J (λhg=>w8 (ct hg) J J)<|y0 J (F0 J J J (λq=>eqF q))<|yN ?_
 refine cN h (λhc h=>?_) λhc h=>?_
 ·refine sR ?_
  refine y0 J (o0 (cs:=[.nl,.I 0,.I 0,.nl,.nl,.nl,.nl,.I 0]) J Ty.p34 Ty.z34 J J J)<|b1y (x':=.agg [.nl,.I 0,.I 0,.nl,.nl,.nl,.nl,.I 0]) (cl':=true) J J (.inl J) Ty.M5<|yN<|b9 ?_
  cases h
  exact⟨J,[_],⟨oL J J J Ty.U0 Ty.M5 nl J,tr⟩,J,io⟩
 ·refine c8 ?_
  refine dr [] Ty.mix (by kernel_rfl) (by kernel_rfl)<|S7 2 J<|B2 h λv1 hv1 h=>d2f J (A0 J b55 J hv1) J<|B2 h λv2 hv2 h=>d1 J (b8k (f:=iF) hv2 J J J Ty.D0 Ty.s3 Ty.z3 Ty.b3 J J J) J J J<|B2 h λv3 hv3 h=>d2f J (A0 J b7D J hv3) J<|S7 1 J<|B2 h λv4 hv4 h=>d2f J (A0 J b6I J hv4) J<|B2 h λv5 hv5 h=>d2f J (A0 J b1t J hv5) J<|d7 J (λ_ hN=>o0 (cs:=[.L b7.Pv v1.S.a8,.I v1.S.Last,.I v1.Serial,.sl 33,.L c4.Pv v3,.L b8.Pv v4,.L g7.Pv v5.L,.I v5.Cap]) J Ty.p34 Ty.z34 J J J) J<|a0J (x':=.agg [.L b7.Pv v1.S.a8,.I v1.S.Last,.I v1.Serial,.sl 33,.L c4.Pv v3,.L b8.Pv v4,.L g7.Pv v5.L,.I v5.Cap]) (cl':=false) J J (.inr J) Ty.M5<|a6d<|b9 ?_
  cases h
  exact⟨J,[_],⟨oL J J J Ty.U0 Ty.M5 nl J,tr⟩,J,io⟩

theorem u9:PO Tryz.prog 306 [.fn (.func 307) []] (U4) λr=>e6.Pv r:=by
 refine pO Tryz.func306 λr h _ _=>?_
 unfold U4 at h
 refine S4 1 J<|S3 1 J<|y0 J (o0 (cs:=[.fn (.func 307) [],.I 0,.I 5,.I 6]) J Ty.b2P Ty.a3S J J J)<|G9 (a2x 4 (d':=.agg [fvE (some 307),.I 0,.I 5,.I 6]) J)<|S2 1 J<|b9 ?_
 cases h
 exact⟨J,[_],⟨oL J J J Ty.b4S Ty.a4v nl J,tr⟩,J,io⟩

theorem V0:PO Tryz.prog 309 [.fn (.func 310) []] (M8) λr=>e6.Pv r:=by
 refine pO Tryz.func309 λr h _ _=>?_
 unfold M8 at h
 refine S4 1 J<|S3 1 J<|y0 J (o0 (cs:=[.fn (.func 310) [],.I (-1),.I 5,.I 13]) J Ty.b2P Ty.a3S J J J)<|G9 (a2x 4 (d':=.agg [fvE (some 310),.I (-1),.I 5,.I 13]) J)<|S2 1 J<|b9 ?_
 cases h
 exact⟨J,[_],⟨oL J J J Ty.b4S Ty.a4v nl J,tr⟩,J,io⟩

theorem B4{a0}:PO Tryz.prog 305 [.L e6.Pv a0] (G2 a0) λr=>.L e6.Pv r:=by
 refine pO Tryz.func305 λr h _ _=>?_
 unfold G2 at h
 refine S4 1 J<|S4 2 J<|b9 ?_
 cases h
 exact f1

theorem H5:PO Tryz.prog 306 [.fn (.func 308) []] (U5) λr=>e6.Pv r:=by
 refine pO Tryz.func306 λr h _ _=>?_
 unfold U5 at h
 refine S4 1 J<|S3 1 J<|y0 J (o0 (cs:=[.fn (.func 308) [],.I 0,.I 5,.I 6]) J Ty.b2P Ty.a3S J J J)<|G9 (a2x 4 (d':=.agg [fvE (some 308),.I 0,.I 5,.I 6]) J)<|S2 1 J<|b9 ?_
 cases h
 exact⟨J,[_],⟨oL J J J Ty.b4S Ty.a4v nl J,tr⟩,J,io⟩

theorem a3O:PO Tryz.prog 311 [.fn (.func 310) []] (Q7) λr=>e6.Pv r:=by
 refine pO Tryz.func311 λr h _ _=>?_
 unfold Q7 at h
 refine S4 1 J<|S3 1 J<|y0 J (o0 (cs:=[.fn (.func 310) [],.I 0,.I 3,.I 5]) J Ty.b2P Ty.a3S J J J)<|G9 (a2x 4 (d':=.agg [fvE (some 310),.I 0,.I 3,.I 5]) J)<|S2 1 J<|b9 ?_
 cases h
 exact⟨J,[_],⟨oL J J J Ty.b4S Ty.a4v nl J,tr⟩,J,io⟩

theorem a3N:PO Tryz.prog 311 [.fn (.func 308) []] (Q6) λr=>e6.Pv r:=by
 refine pO Tryz.func311 λr h _ _=>?_
 unfold Q6 at h
 refine S4 1 J<|S3 1 J<|y0 J (o0 (cs:=[.fn (.func 308) [],.I 0,.I 3,.I 5]) J Ty.b2P Ty.a3S J J J)<|G9 (a2x 4 (d':=.agg [fvE (some 308),.I 0,.I 3,.I 5]) J)<|S2 1 J<|b9 ?_
 cases h
 exact⟨J,[_],⟨oL J J J Ty.b4S Ty.a4v nl J,tr⟩,J,io⟩

theorem a1A:PO Tryz.prog 312 [.fn (.func 310) []] (K0) λr=>e6.Pv r:=by
 refine pO Tryz.func312 λr h _ _=>?_
 unfold K0 at h
 refine S4 1 J<|S3 1 J<|y0 J (o0 (cs:=[.fn (.func 310) [],.I (-1),.I 5,.I 6]) J Ty.b2P Ty.a3S J J J)<|G9 (a2x 4 (d':=.agg [fvE (some 310),.I (-1),.I 5,.I 6]) J)<|S2 1 J<|b9 ?_
 cases h
 exact⟨J,[_],⟨oL J J J Ty.b4S Ty.a4v nl J,tr⟩,J,io⟩

theorem a4p:PO Tryz.prog 313 [.fn (.func 307) []] (U2) λr=>e6.Pv r:=by
 refine pO Tryz.func313 λr h _ _=>?_
 unfold U2 at h
 refine S4 1 J<|S3 1 J<|y0 J (o0 (cs:=[.fn (.func 307) [],.I 0,.I 5,.I 7]) J Ty.b2P Ty.a3S J J J)<|G9 (a2x 4 (d':=.agg [fvE (some 307),.I 0,.I 5,.I 7]) J)<|S2 1 J<|b9 ?_
 cases h
 exact⟨J,[_],⟨oL J J J Ty.b4S Ty.a4v nl J,tr⟩,J,io⟩

theorem P0:PO Tryz.prog 312 [.fn (.func 308) []] (J9) λr=>e6.Pv r:=by
 refine pO Tryz.func312 λr h _ _=>?_
 unfold J9 at h
 refine S4 1 J<|S3 1 J<|y0 J (o0 (cs:=[.fn (.func 308) [],.I (-1),.I 5,.I 6]) J Ty.b2P Ty.a3S J J J)<|G9 (a2x 4 (d':=.agg [fvE (some 308),.I (-1),.I 5,.I 6]) J)<|S2 1 J<|b9 ?_
 cases h
 exact⟨J,[_],⟨oL J J J Ty.b4S Ty.a4v nl J,tr⟩,J,io⟩

theorem a4q:PO Tryz.prog 313 [.fn (.func 308) []] (U3) λr=>e6.Pv r:=by
 refine pO Tryz.func313 λr h _ _=>?_
 unfold U3 at h
 refine S4 1 J<|S3 1 J<|y0 J (o0 (cs:=[.fn (.func 308) [],.I 0,.I 5,.I 7]) J Ty.b2P Ty.a3S J J J)<|G9 (a2x 4 (d':=.agg [fvE (some 308),.I 0,.I 5,.I 7]) J)<|S2 1 J<|b9 ?_
 cases h
 exact⟨J,[_],⟨oL J J J Ty.b4S Ty.a4v nl J,tr⟩,J,io⟩

theorem b1B:PO Tryz.prog 241 [] (a5p) λr=>.abs (S9 (List.map (ent iF (Ls e6.Pv)) r)):=by
 refine pO Tryz.func241 λr h _ _=>?_
 refine S4 1 J<|sR<|b3C (KT:=Int) (VT:=List e6) (EK:=iF) (E:=(Ls e6.Pv)) 5000001 J J<|cF h u9 J J λv1 hv1 h=>y0 J (o0 (cs:=[.fn (.func 308) [],.I 0,.I 4,.I 1]) J Ty.b2P Ty.a3S J J J)<|G9 (a2x 3 (d':=.agg [fvE (some 308),.I 0,.I 4,.I 1]) J)<|cF h V0 J J λv2 hv2 h=>y0 J (Q2 (f:=e6.Pv) (l:=[v1,(⟨(some 308),0,4,1⟩:e6),v2]) J Ty.b0s Ty.a4v Ty.a3S J J nl J J)<|cF h B4 J J λv3 _ h=>U8 (es:=[]) (k:=1) (v:=v3) (E:=(Ls e6.Pv)) (EK:=iF) (.inr J) J J J J J J Ty.a4R (s7 Ty.u3)<|yc J (A0 J u9 J hv1)<|cF h H5 J J λv4 hv4 h=>y0 J (Q2 (f:=e6.Pv) (l:=[v1,v4]) J Ty.b0s Ty.a4v Ty.a3S J J nl J J)<|cF h B4 J J λv5 hv5 h=>U8 (es:=(m9 [] 1 v3)) (k:=2) (v:=v5) (E:=(Ls e6.Pv)) (EK:=iF) (.inr J) J J J J J J Ty.a4R (s7 Ty.u3)<|yc J (A0 J u9 J hv1)<|y0 J (Q2 (f:=e6.Pv) (l:=[v1]) J Ty.b0s Ty.a4v Ty.a3S J J nl J J)<|cF h B4 J J λv6 _ h=>U8 (es:=(m9 (m9 [] 1 v3) 2 v5)) (k:=3) (v:=v6) (E:=(Ls e6.Pv)) (EK:=iF) (.inr J) J J J J J J Ty.a4R (s7 Ty.u3)<|yc J (A0 J u9 J hv1)<|yc J (A0 J H5 J hv4)<|cF h a3O J J λv7 _ h=>y0 J (Q2 (f:=e6.Pv) (l:=[v1,v4,v7]) J Ty.b0s Ty.a4v Ty.a3S J J nl J J)<|cF h B4 J J λv8 _ h=>U8 (es:=(m9 (m9 (m9 [] 1 v3) 2 v5) 3 v6)) (k:=4) (v:=v8) (E:=(Ls e6.Pv)) (EK:=iF) (.inr J) J J J J J J Ty.a4R (s7 Ty.u3)<|yc J (A0 J u9 J hv1)<|cF h a3N J J λv9 _ h=>cF h a1A J J λv10 _ h=>y0 J (Q2 (f:=e6.Pv) (l:=[v1,v9,v10]) J Ty.b0s Ty.a4v Ty.a3S J J nl J J)<|cF h B4 J J λv11 _ h=>?_
 refine U8 (es:=(m9 (m9 (m9 (m9 [] 1 v3) 2 v5) 3 v6) 4 v8)) (k:=5) (v:=v11) (E:=(Ls e6.Pv)) (EK:=iF) (.inr J) J J J J J J Ty.a4R (s7 Ty.u3)<|cF h a4p J J λv12 _ h=>cF h P0 J J λv13 hv13 h=>yc J (A0 J V0 J hv2)<|y0 J (Q2 (f:=e6.Pv) (l:=[v12,v13,v2]) J Ty.b0s Ty.a4v Ty.a3S J J nl J J)<|cF h B4 J J λv14 _ h=>U8 (es:=(m9 (m9 (m9 (m9 (m9 [] 1 v3) 2 v5) 3 v6) 4 v8) 5 v11)) (k:=6) (v:=v14) (E:=(Ls e6.Pv)) (EK:=iF) (.inr J) J J J J J J Ty.a4R (s7 Ty.u3)<|yc J (A0 J u9 J hv1)<|cF h a4q J J λv15 _ h=>y0 J (Q2 (f:=e6.Pv) (l:=[v1,v15]) J Ty.b0s Ty.a4v Ty.a3S J J nl J J)<|cF h B4 J J λv16 _ h=>U8 (es:=(m9 (m9 (m9 (m9 (m9 (m9 [] 1 v3) 2 v5) 3 v6) 4 v8) 5 v11) 6 v14)) (k:=7) (v:=v16) (E:=(Ls e6.Pv)) (EK:=iF) (.inr J) J J J J J J Ty.a4R (s7 Ty.u3)<|yc J (A0 J u9 J hv1)<|yc J (A0 J P0 J hv13)<|y0 J (Q2 (f:=e6.Pv) (l:=[v1,v13]) J Ty.b0s Ty.a4v Ty.a3S J J nl J J)<|cF h B4 J J λv17 _ h=>U8 (es:=(m9 (m9 (m9 (m9 (m9 (m9 (m9 [] 1 v3) 2 v5) 3 v6) 4 v8) 5 v11) 6 v14) 7 v16)) (k:=8) (v:=v17) (E:=(Ls e6.Pv)) (EK:=iF) (.inr J) J J J J J J Ty.a4R (s7 Ty.u3)<|yc J (A0 J u9 J hv1)<|yc J (A0 J H5 J hv4)<|y0 J (Q2 (f:=e6.Pv) (l:=[v1,v4]) J Ty.b0s Ty.a4v Ty.a3S J J nl J J)<|yc J (A0 J B4 J hv5)<|U8 (es:=(m9 (m9 (m9 (m9 (m9 (m9 (m9 (m9 [] 1 v3) 2 v5) 3 v6) 4 v8) 5 v11) 6 v14) 7 v16) 8 v17)) (k:=9) (v:=v5) (E:=(Ls e6.Pv)) (EK:=iF) (.inr J) J J J J J J Ty.a4R (s7 Ty.u3)<|yc J (A0 J u9 J hv1)<|yc J (A0 J H5 J hv4)<|y0 J (Q2 (f:=e6.Pv) (l:=[v1,v4]) J Ty.b0s Ty.a4v Ty.a3S J J nl J J)<|yc J (A0 J B4 J hv5)<|U8 (es:=(m9 (m9 (m9 (m9 (m9 (m9 (m9 (m9 (m9 [] 1 v3) 2 v5) 3 v6) 4 v8) 5 v11) 6 v14) 7 v16) 8 v17) 9 v5)) (k:=10) (v:=v5) (E:=(Ls e6.Pv)) (EK:=iF) (.inr J) J J J J J J Ty.a4R (s7 Ty.u3)<|cF h B4 J J λv18 _ h=>U8 (es:=(m9 (m9 (m9 (m9 (m9 (m9 (m9 (m9 (m9 (m9 [] 1 v3) 2 v5) 3 v6) 4 v8) 5 v11) 6 v14) 7 v16) 8 v17) 9 v5) 10 v5)) (k:=11) (v:=v18) (E:=(Ls e6.Pv)) (EK:=iF) (.inr J) J J J J J J Ty.a4R (s7 Ty.u3)<|y0 J (o0 (cs:=[.fn (.func 307) [],.I 0,.I 200,.I 12]) J Ty.b2P Ty.a3S J J J) ?_
 refine G9 (a2x 46 (d':=.agg [fvE (some 307),.I 0,.I 200,.I 12]) J)<|y0 J (Q2 (f:=e6.Pv) (l:=[(⟨(some 307),0,200,12⟩:e6)]) J Ty.b0s Ty.a4v Ty.a3S J J nl J J)<|cF h B4 J J λv19 _ h=>U8 (es:=(m9 (m9 (m9 (m9 (m9 (m9 (m9 (m9 (m9 (m9 (m9 [] 1 v3) 2 v5) 3 v6) 4 v8) 5 v11) 6 v14) 7 v16) 8 v17) 9 v5) 10 v5) 11 v18)) (k:=12) (v:=v19) (E:=(Ls e6.Pv)) (EK:=iF) (.inr J) J J J J J J Ty.a4R (s7 Ty.u3)<|S2 2 J<|a1y (b8T 0 5000001 J J)<|b9 ?_
 cases h
 exact f1

theorem a8i{a0}:PO Tryz.prog 307 [k8.Pv a0] (a8H a0) λr=>.I r:=by
 refine pO Tryz.func307 λr h _ _=>?_
 unfold a8H at h
 refine S4 2 J<|S4 3 J<|b9 ?_
 cases h
 exact f1

theorem a8j{a0}:PO Tryz.prog 308 [k8.Pv a0] (a8I a0) λr=>.I r:=by
 refine pO Tryz.func308 λr h _ _=>?_
 unfold a8I at h
 refine S4 2 J<|S4 3 J<|b9 ?_
 cases h
 exact f1

theorem a8k{a0}:PO Tryz.prog 310 [k8.Pv a0] (a8J a0) λr=>.I r:=by
 refine pO Tryz.func310 λr h _ _=>?_
 unfold a8J at h
 refine S4 2 J<|S4 3 J<|b9 ?_
 cases h
 exact f1

theorem b74{f:Fv}{a0:k8}{r:Int}(h:a9p f a0=some r):∃n,f=some n∧y5 Tryz.prog n∧O9 Tryz.prog n [k8.Pv a0] (.I r):=by
 unfold a9p at h
 by_cases e307:f=some 307
 ·rw[if_pos e307] at h;exact⟨307,e307,(@a8i a0).1,(@a8i a0).2 _ h⟩
 rw[if_neg e307] at h
 by_cases e308:f=some 308
 ·rw[if_pos e308] at h;exact⟨308,e308,(@a8j a0).1,(@a8j a0).2 _ h⟩
 rw[if_neg e308] at h
 by_cases e310:f=some 310
 ·rw[if_pos e310] at h;exact⟨310,e310,(@a8k a0).1,(@a8k a0).2 _ h⟩
 rw[if_neg e310] at h
 cases h

theorem b3N{a0}:PO Tryz.prog 170 [k8.Pv a0] (a3k a0) λr=>.I r:=by
 refine pO Tryz.func170 λr h _ _=>?_
 unfold a3k at h
 refine S4 2 J<|dr [] Ty.mix (by kernel_rfl) (by kernel_rfl)<|B2 h λv1 hv1 h=>d2f J (A0 J b1B J hv1) J<|S7 2 J<|d4 J (b6W (es:=v1) (k:=a0.Kind) (E:=(Ls e6.Pv)) (EK:=iF) (d:=.tup [.L e6.Pv ((r8 v1 a0.Kind).getD ([]:List e6)),.bool ((r8 v1 a0.Kind).isSome)]) J J Ty.a4R (s7 Ty.u3) Ty.d0D J (lk2 _ _ ([]:List e6))) J<|S8 5 J<|j5<|S4 2 J ?_
 refine cN h (λhc h=>?_) λhc h=>?_
 ·refine S4 1 J ?_
  refine b9 ?_
  cases h
  exact f1
 ·refine c8 ?_
  refine jq h (λ_=>St.of [] []) (λq9 h=>?_) λκ8 h=>?_
  ·refine S4 1 J ?_
   refine b9 ?_
   cases h
   exact f1
  ·refine S3 1 J ?_
   refine nL J Ty.b0s<|S2 1 J<|g8<|lq h (λs11=>St.of [(1,.ptr 1 0 0),(17,.L e6.Pv ((r8 v1 a0.Kind).getD ([]:List e6))),(18,.I (((r8 v1 a0.Kind).getD ([]:List e6)).length:Int)),(19,.I s11)] [(1,vR (k8.Pv a0) 4)]) W λs11 x12 h hx13=>S4 1 J<|j5 ?_
   refine cN h (λhc h=>?_) λhc h=>?_
   ·refine c8 ?_
    refine j5<|g8<|sR<|iL h J J Ty.b0s Ty.a4v λv13 _ h=>S2 3 J<|S3 3 J ?_
    obtain⟨v14,hv15,h⟩:=a8g h
    obtain⟨n15,he16,hk17,hp18⟩:=b74 hv15
    refine G9 (b90 24 J he16)<|y0 J (b2K J hk17 J hp18)<|S2 1 J<|S3 5 J<|j8 J (λhg=>mI J)<|j8 J (λhg=>oF J Ty.c6j J)<|j8 J (λhg=>oS (ct hg) J J Ty.a3 J)<|j8 J (λhg=>w8 (ct hg) (ct hg) J)<|y0 J (F0 J J J (λq=>eqF q))<|yN ?_
    refine cN h (λhc h=>?_) λhc h=>?_
    ·refine S4 3 J ?_
     refine b9 ?_
     have h:=xL hx13 h
     cases h
     exact f1
    ·refine c8 ?_
     refine S6 2 J ?_
     exact eL h W
   ·refine o8 ?_
    refine g6<|g6<|l7 ?_
    have h:=xL hx13 h
    exact eJ h W

theorem b0D:PO Tryz.prog 171 [] (a17) λr=>.abs (S9 (List.map (ent iF fvE) r)):=by
 refine pO Tryz.func171 λr h _ _=>?_
 unfold a17 at h
 refine S4 1 J<|sR<|b3C (KT:=Int) (VT:=Fv) (EK:=iF) (E:=fvE) 5000001 J J<|a4x (es:=[]) (k:=1) (v:=(some 242)) (E:=fvE) (EK:=iF) (.inr J) J J J J J J Ty.a6V (s7 Ty.u3)<|a4x (es:=(m9 [] 1 (some 242))) (k:=2) (v:=(some 243)) (E:=fvE) (EK:=iF) (.inr J) J J J J J J Ty.a6V (s7 Ty.u3)<|a4x (es:=(m9 (m9 [] 1 (some 242)) 2 (some 243))) (k:=3) (v:=(some 244)) (E:=fvE) (EK:=iF) (.inr J) J J J J J J Ty.a6V (s7 Ty.u3)<|a4x (es:=(m9 (m9 (m9 [] 1 (some 242)) 2 (some 243)) 3 (some 244))) (k:=4) (v:=(some 245)) (E:=fvE) (EK:=iF) (.inr J) J J J J J J Ty.a6V (s7 Ty.u3)<|a4x (es:=(m9 (m9 (m9 (m9 [] 1 (some 242)) 2 (some 243)) 3 (some 244)) 4 (some 245))) (k:=5) (v:=(some 246)) (E:=fvE) (EK:=iF) (.inr J) J J J J J J Ty.a6V (s7 Ty.u3)<|a4x (es:=(m9 (m9 (m9 (m9 (m9 [] 1 (some 242)) 2 (some 243)) 3 (some 244)) 4 (some 245)) 5 (some 246))) (k:=6) (v:=(some 247)) (E:=fvE) (EK:=iF) (.inr J) J J J J J J Ty.a6V (s7 Ty.u3)<|a4x (es:=(m9 (m9 (m9 (m9 (m9 (m9 [] 1 (some 242)) 2 (some 243)) 3 (some 244)) 4 (some 245)) 5 (some 246)) 6 (some 247))) (k:=7) (v:=(some 248)) (E:=fvE) (EK:=iF) (.inr J) J J J J J J Ty.a6V (s7 Ty.u3)<|a4x (es:=(m9 (m9 (m9 (m9 (m9 (m9 (m9 [] 1 (some 242)) 2 (some 243)) 3 (some 244)) 4 (some 245)) 5 (some 246)) 6 (some 247)) 7 (some 248))) (k:=8) (v:=(some 249)) (E:=fvE) (EK:=iF) (.inr J) J J J J J J Ty.a6V (s7 Ty.u3)<|a4x (es:=(m9 (m9 (m9 (m9 (m9 (m9 (m9 (m9 [] 1 (some 242)) 2 (some 243)) 3 (some 244)) 4 (some 245)) 5 (some 246)) 6 (some 247)) 7 (some 248)) 8 (some 249))) (k:=9) (v:=(some 250)) (E:=fvE) (EK:=iF) (.inr J) J J J J J J Ty.a6V (s7 Ty.u3)<|a4x (es:=(m9 (m9 (m9 (m9 (m9 (m9 (m9 (m9 (m9 [] 1 (some 242)) 2 (some 243)) 3 (some 244)) 4 (some 245)) 5 (some 246)) 6 (some 247)) 7 (some 248)) 8 (some 249)) 9 (some 250))) (k:=10) (v:=(some 251)) (E:=fvE) (EK:=iF) (.inr J) J J J J J J Ty.a6V (s7 Ty.u3)<|S2 2 J<|a1y (b8T 0 5000001 J J)<|b9 ?_
 cases h
 exact f1

theorem b8Q{a0}:PO Tryz.prog 364 [.I a0] (b6f a0) λr=>.tup [.L iF r.1,.I r.2]:=by
 refine pO Tryz.func364 λr h _ _=>?_
 refine S4 2 J<|j5<|S3 3 J<|j8 J (λhg=>mI J)<|j8 J (λhg=>w8 (ct hg) J J)<|y0 J (F0 J J J (λq=>eqF q))<|yN ?_
 refine cN h (λhc h=>?_) λhc h=>?_
 ·refine S4 2 J ?_
  refine b9 ?_
  cases h
  exact f2
 ·refine c8 ?_
  refine S3 1 J<|B2 h λv1 hv1 h=>y1 J (b8k (f:=iF) hv1 J J J Ty.D0 Ty.s3 Ty.z3 Ty.b3 J J J) J<|S2 2 J<|b9 ?_
  cases h
  exact f2

theorem a2u{a0}:PO Tryz.prog 365 [.I a0] (G0 a0) λr=>.bool r:=by
 refine pO Tryz.func365 λr h _ _=>?_
 unfold G0 at h
 refine S4 1 J<|S3 3 J<|j8 J (λhg=>mI J)<|j8 J (λhg=>w8 (ct hg) J J)<|y0 J (r9 J J J (λq=>eqT q))<|S2 1 J<|b9 ?_
 cases h
 exact f1

theorem a51{a0}:PO Tryz.prog 390 [c7.Pv a0] (J5 a0) λr=>.fn (.func 397) [.rptr (c7.Pc r)]:=by
 refine pO Tryz.func390 λr h _ _=>?_
 unfold J5 at h
 refine S4 2 J<|S4 2 J<|b9 ?_
 cases h
 exact f1

theorem I5{a0}:PON Tryz.prog 351 [.L b7.Pv a0] (p9 a0) λr=>⟨List.map b7.Pv r,0,true,8,true⟩:=by
 refine pON Tryz.func351 λr h _ _=>?_
 unfold p9 at h
 refine S4 1 J<|j5<|S3 1 J<|b6j J Ty.e22 λb hb=>yN ?_
 refine D8 b J (λhc=>?_) (λhc=>?_)
 ·obtain rfl:a0 = []:=by simpa using hb hc
  refine S4 1 J<|a1y (R9 (t:=2) (l:=920000) (z:=8) J J)<|b9 ?_
  cases h
  exact⟨J,_,_,J,J,J,J⟩
 ·refine c8 ?_
  refine sR<|y0 J (b2M J Ty.e22 Ty.a6v)<|S1 1 J<|y1 J (b6V (f:=b7.Pv) h J J (.inl ⟨_,J,J⟩) Ty.e22 Ty.a6v Ty.c7T Ty.c07 J (λ_=>J)) J<|S2 1 J<|b9 ?_
  exact⟨J,_,_,J,J,J,J⟩

theorem F8{a0 a1 a2}:PO Tryz.prog 285 [c7.Pv a0,.I a1,b7.Pv a2] (A1 a0 a1 a2) λr=>c7.Pv r:=by
 refine pO Tryz.func285 λr h _ _=>?_
 unfold A1 at h
 refine S4 3 J<|S3 2 J<|B2 h λv1 hv1 h=>ycN J (b2L J I5 J hv1) J J<|S2 2 J<|S3 4 J<|B2 h λv2 hv2 h=>y0 J (a8t (f:=b7.Pv) hv2 J J J J Ty.e22 Ty.a6v J)<|b3D (f:=b7.Pv) (v:=a2) hv2 J J (.inr J) Ty.a6v<|yN<|S4 2 J<|b9 ?_
 cases h
 exact⟨J,[_],⟨oL J J J Ty.a24 Ty.s24 nl J,tr⟩,J,io⟩

theorem a3p{a0 a1}:PO Tryz.prog 101 [.I a0,.I a1] (W2 a0 a1) λr=>.I r:=by
 refine pO Tryz.func101 λr h _ _=>?_
 refine S4 1 J<|j5<|S3 3 J<|j8 J (λhg=>mI J)<|j8 J (λhg=>w8 (ct hg) J J)<|y0 J (F0 J J J (λq=>eqF q))<|S1 1 J<|j8 J (λhg=>mI J)<|j8 J (λhg=>w8 (ct hg) J J)<|y0 J (F0 J J J (λq=>eqF q))<|S1 1 J<|j8 J (λhg=>mI J)<|j8 J (λhg=>w8 (ct hg) J J)<|y0 J (F0 J J J (λq=>eqF q))<|yN ?_
 refine cN h (λhc h=>?_) λhc h=>?_
 ·refine S4 1 J ?_
  refine b9 ?_
  cases h
  exact f1
 ·refine c8 ?_
  refine S4 7 J<|b9 ?_
  cases h
  exact f1

theorem a5Z{a0 a1}:PO Tryz.prog 366 [c7.Pv a0,k9.Pv a1] (G1 a0 a1) λr=>.tup [c7.Pv r.1,.I r.2.1,.I r.2.2]:=by
 refine pO Tryz.func366 λr h _ _=>?_
 refine S4 5 J ?_
 refine jq h (λ_=>St.of [(2,.ptr 2005 0 0),(4,.ptr 2003 0 0),(5,.ptr 2002 0 0),(6,.ptr 2001 0 0)] [(2001,vR (.I 0) 1),(2002,vR (.I 0) 1),(2003,vR (.agg [.nl,.I 0]) 2),(2005,vR (c7.Pv a0) 2)]) (λq10 h=>?_) λκ9 h=>?_
 ·refine S4 4 J ?_
  refine b9 ?_
  cases h
  exact⟨J,[_,_,_],⟨oL J J J Ty.a24 Ty.s24 nl J,⟨oS J J J Ty.a3 J,⟨oS J J J Ty.a63 J,tr⟩⟩⟩,J,io⟩
 ·refine S3 1 J ?_
  refine cF h a51 J J λv11 _ h=>yN<|g8<|a1y (WPE (λl=>if l=2006 then 6 else if l=2007 then 5 else if l=2008 then 4 else if l=2009 then 3 else if l=2010 then 2 else l) [(2,.ptr 2010 0 0),(3,.ptr 2009 0 0),(4,.ptr 2008 0 0),(5,.ptr 2007 0 0),(6,.ptr 2006 0 0),(10,.fn (.func 397) [.rptr (c7.Pc v11)])] [(2006,vR (.I 0) 1),(2007,vR (.I 0) 1),(2008,vR (.agg [.nl,.I 0]) 2),(2009,vR (k9.Pv a1) 6),(2010,vR (c7.Pv a0) 2)]) ?_
  refine a0m (fn:=Tryz.f397) (N1:=23) J Tryz.func397 J J nl J Ty.c91 J J (λl19 e20 o21 hR22=>?_)
  refine S3 2 J<|nL J Ty.e22<|S2 1 J<|g8<|lq h (λs13=>St.of [(1000002,.ptr 2010 0 0),(1000003,.ptr 2009 0 0),(1000004,.ptr 2008 0 0),(1000005,.ptr 2007 0 0),(1000006,.ptr 2006 0 0),(1000010,.fn (.func 397) [.rptr (c7.Pc v11)]),(0,.fn (.yield l19) []),(6,.L b7.Pv v11.a8),(7,.I (v11.a8.length:Int)),(8,.I s13)] [(2006,vR (.I 0) 1),(2007,vR (.I 0) 1),(2008,vR (.agg [.nl,.I 0]) 2),(2009,vR (k9.Pv a1) 6),(2010,vR (c7.Pv a0) 2)]) W λs13 x14 h hx25=>S4 1 J<|j5 ?_
  refine cN h (λhc h=>?_) λhc h=>?_
  ·refine c8 ?_
   refine j5<|g8<|S3 1 J<|iL h J J Ty.e22 Ty.a6v λv15 _ h=>S2 4 J<|S3 4 J<|j8 J (λhg=>om (d:=.fn (.yield l19) []) J)<|j8 J (λhg=>mI J) ?_
   rcases Bool.eq_false_or_eq_true ((v15.State==0)==true) with hg27 | hg27
   ·have h:=ifT h hg27
    refine G9 (WE [(1000002,.ptr 2010 0 0),(1000003,.ptr 2009 0 0),(1000004,.ptr 2008 0 0),(1000005,.ptr 2007 0 0),(1000006,.ptr 2006 0 0),(1000010,.fn (.func 397) [.rptr (c7.Pc v11)]),(0,.fn (.yield l19) []),(6,.L b7.Pv v11.a8),(7,.I (v11.a8.length:Int)),(8,.I s13),(16,.bool (v15.State==0)),(17,.fn (.yield l19) []),(18,.I s13)] [(2006,vR (.I 0) 1),(2007,vR (.I 0) 1),(2008,vR (.agg [.nl,.I 0]) 2),(2009,vR (k9.Pv a1) 6),(2010,vR (c7.Pv a0) 2)]) ?_
    refine a4m hR22 (congrArg some hg27) J J J J J (λe28 o29 o30=>?_)
    refine S6 1 J ?_
    refine⟨J,?_⟩
    refine g8<|S3 3 J<|iL h J J Ty.e22 Ty.a6v λv16 _ h=>S2 3 J<|S3 4 J<|y0 J (o0 (cs:=[.I 1,.I v16.Gen,.I a1.Serial,.I a1.Strong,.I a1.Weak,.I a1.Prog,.bool a1.Started,.L iF a1.Fields]) J Ty.c4H Ty.c07 J J J)<|cF h F8 J J λv17 _ h=>S1 2 J<|cA h a3p J J λv18 _ h=>S2 3 J<|b9 ?_
    refine⟨J,?_⟩
    refine G9 (WE [(1000002,.ptr 2010 0 0),(1000003,.ptr 2009 0 0),(1000004,.ptr 2008 0 0),(1000005,.ptr 2007 0 0),(1000006,.ptr 2006 0 0),(1000010,.fn (.func 397) [.rptr (c7.Pc v11)]),(0,.fn (.yield l19) []),(6,.L b7.Pv v11.a8),(7,.I (v11.a8.length:Int)),(8,.I s13),(16,.bool (v15.State==0)),(19,.bool false)] [(2006,vR (.I 0) 1),(2007,vR (.I v18) 1),(2008,vR (c7.Pv v17) 2),(2009,vR (k9.Pv a1) 6),(2010,vR (c7.Pv a0) 2)])<|y0 (congrArg some hg27) (a2Q J J)<|y0 J (a4d J J hg27)<|yN ?_
    refine D8 true J (λ_=>?_) (λq=>nomatch q)
    refine b9 ?_
    refine .inr ⟨.ret,J,c4c ?_⟩
    have h:=xL hx25 h
    cases h
    exact⟨J,[_,_,_],⟨oL J J J Ty.a24 Ty.s24 nl J,⟨oS J J J Ty.a3 J,⟨oS J J J Ty.a63 J,tr⟩⟩⟩,J,io⟩
   ·have h:=ifF h hg27
    refine U9 (congrArg some hg27)<|U9 (congrArg some hg27)<|y0 J (a4c J J hg27)<|yN ?_
    refine D8 false J (λq=>nomatch q) (λ_=>?_)
    refine c8<|S6 2 J ?_
    exact eL h W
  ·refine o8 ?_
   refine g6<|g6<|l7 ?_
   refine .inl ⟨J,?_⟩
   have h:=xL hx25 h
   exact eJ h (WP (λl=>if l=2005 then 2010 else if l=2003 then 2008 else if l=2002 then 2007 else if l=2001 then 2006 else l))

theorem b32{a0 a1 a2}:PO Tryz.prog 314 [a7.Pv a0,.I a1,.I a2] (N9 a0 a1 a2) λr=>.tup [a7.Pv r.1,.I r.2.1,.I r.2.2]:=by
 refine pO Tryz.func314 λr h _ _=>?_
 refine S4 4 J<|S3 1 J<|cF h b8Q J J λv1 _ h=>S2 5 J<|j5<|S4 2 J ?_
 refine cN h (λhc h=>?_) λhc h=>?_
 ·refine S4 5 J ?_
  refine b9 ?_
  cases h
  exact⟨J,[_,_,_],⟨oL J J J Ty.a26 Ty.s26 nl J,⟨J,⟨J,tr⟩⟩⟩,J,io⟩
 ·refine c8 ?_
  refine j5<|S3 1 J<|cA h a2u J J λv2 _ h=>S2 1 J ?_
  refine cN h (λhc h=>?_) λhc h=>?_
  ·refine S4 4 J ?_
   refine b9 ?_
   cases h
   exact⟨J,[_,_,_],⟨oL J J J Ty.a26 Ty.s26 nl J,⟨J,⟨J,tr⟩⟩⟩,J,io⟩
  ·refine c8 ?_
   refine S3 7 J<|y0 J (o0 (cs:=[.I (p6 (a0.Serial+1)),.I 0,.I 0,.I a2,.bool false,.L iF v1.1]) J Ty.c94 Ty.d0z J J J)<|cF h a5Z J J λv3 _ h=>S2 8 J<|j5<|S4 2 J ?_
   refine cN h (λhc h=>?_) λhc h=>?_
   ·refine S4 5 J ?_
    refine b9 ?_
    cases h
    exact⟨J,[_,_,_],⟨oL J J J Ty.a26 Ty.s26 nl J,⟨J,⟨J,tr⟩⟩⟩,J,io⟩
   ·refine c8 ?_
    refine S3 4 J<|y0 J (o0 (cs:=[.L b7.Pv v3.1.a8,.I v3.1.Last,.I (p6 (a0.Serial+1))]) J Ty.p26 Ty.z26 J J J)<|S2 4 J<|b9 ?_
    cases h
    exact⟨J,[_,_,_],⟨oL J J J Ty.a26 Ty.s26 nl J,⟨J,⟨J,tr⟩⟩⟩,J,io⟩

theorem a6h{a0}:PO Tryz.prog 347 [.I a0] (a0Z a0) λr=>.tup [.I r.1,.I r.2.1,.bool r.2.2]:=by
 refine pO Tryz.func347 λr h _ _=>?_
 refine S4 3 J<|j5<|S4 2 J ?_
 refine cN h (λhc h=>?_) λhc h=>?_
 ·refine S4 3 J ?_
  refine b9 ?_
  cases h
  exact f3
 ·refine c8 ?_
  refine S3 2 J<|B2 h λv1 hv1 h=>y0 J (b1k J J hv1)<|B2 h λv2 hv2 h=>y0 J (b1k J J hv2)<|S1 2 J<|B2 h λv3 hv3 h=>y0 J (b1k J J hv3)<|S2 2 J<|j5<|S3 3 J<|j8 J (λhg=>mI J)<|j8 J (λhg=>w8 (ct hg) J J)<|y0 J (F0 J J J (λq=>eqF q))<|yN ?_
  refine cN h (λhc h=>?_) λhc h=>?_
  ·refine S4 3 J ?_
   refine b9 ?_
   cases h
   exact f3
  ·refine c8 ?_
   refine S4 5 J<|b9 ?_
   cases h
   exact f3

theorem a6M{a0}:PO Tryz.prog 277 [.I a0] (a2g a0) λr=>.I r:=by
 refine pO Tryz.func277 λr h _ _=>?_
 refine S4 1 J<|S3 1 J<|cA h a6h J J λv1 _ h=>S2 7 J<|S4 2 J<|b9 ?_
 cases h
 exact f1

theorem a8q{a0}:PO Tryz.prog 278 [.I a0] (a3n a0) λr=>.I r:=by
 refine pO Tryz.func278 λr h _ _=>?_
 refine S4 1 J<|S3 1 J<|cA h a6h J J λv1 _ h=>S2 7 J<|S4 2 J<|b9 ?_
 cases h
 exact f1

theorem C8{a0 a1}:PO Tryz.prog 208 [c7.Pv a0,.I a1] (o7 a0 a1) λr=>.tup [.I r.1,.I r.2]:=by
 refine pO Tryz.func208 λr h _ _=>?_
 refine S4 3 J<|j5<|S4 2 J ?_
 refine cN h (λhc h=>?_) λhc h=>?_
 ·refine S4 2 J ?_
  refine b9 ?_
  cases h
  exact f2
 ·refine c8 ?_
  refine S3 1 J<|cA h a6M J J λv1 _ h=>S2 1 J<|j5<|S3 3 J<|j8 J (λhg=>mI J)<|j8 J (λhg=>oF J Ty.c70 J)<|j8 J (λhg=>oS (ct hg) J J Ty.a22 J)<|j8 J (λhg=>a0l (f:=b7.Pv) (ct hg) Ty.e22)<|j8 J (λhg=>w8 (ct hg) (ct hg) J)<|y0 J (F0 J J J (λq=>eqF q))<|yN ?_
  refine cN h (λhc h=>?_) λhc h=>?_
  ·refine S4 2 J ?_
   refine b9 ?_
   cases h
   exact f2
  ·refine c8 ?_
   refine S3 3 J<|iL h J J Ty.e22 Ty.a6v λv2 _ h=>S2 3 J<|j5<|dr [] Ty.mix (by kernel_rfl) (by kernel_rfl)<|S7 3 J<|B2 h λv3 hv3 h=>d2 J (L9 J a8q J hv3) J<|S7 2 J<|a6c J (λhg _ hN=>oF J Ty.b2o J) J<|a9i J (λhg=>oS (ct hg) J J Ty.a3 J) J<|a6c J (λhg _ hN=>w8 (ct hg) J J) J<|a6c J (λhg _ hN=>om (d:=.bool (v2.State != 1)) (ct hg)) J<|a6c (D3 J J J) (λhg _ hN=>oF J Ty.b2o J) J<|a9i (D3 J J J) (λhg=>oS (ct hg) J J Ty.a3 J) J<|a6c (D3 J J J) (λhg _ hN=>w8 (ct hg) J J) J<|a6c J (λhg _ hN=>r9 (ct hg) J J (λq=>b2f hg (eqT q))) J<|d7 J (λ_ hN=>F0 J J J (λq=>eqF q)) J<|a6d ?_
   refine cN h (λhc h=>?_) λhc h=>?_
   ·refine S4 2 J ?_
    refine b9 ?_
    cases h
    exact f2
   ·refine c8 ?_
    refine S4 3 J<|b9 ?_
    cases h
    exact f2

theorem a1z{a0 a1}:PO Tryz.prog 152 [c7.Pv a0,.I a1] (A9 a0 a1) λr=>.tup [k9.Pv r.1,.I r.2]:=by
 refine pO Tryz.func152 λr h _ _=>?_
 refine S4 3 J<|S4 1 J<|S3 2 J<|cA h C8 J J λv1 _ h=>S2 5 J<|j5<|S4 2 J ?_
 refine cN h (λhc h=>?_) λhc h=>?_
 ·refine S3 2 J ?_
  refine b1y (x':=.agg [.I 0,.I 0,.I 0,.I 0,.bool false,.nl]) (cl':=true) J J (.inl J) Ty.a47<|S2 1 J<|b9 ?_
  cases h
  exact⟨J,[_,_],⟨oL J J J Ty.c1e Ty.a47 nl J,⟨J,tr⟩⟩,J,io⟩
 ·refine c8 ?_
  refine j5<|S3 3 J<|iL h J J Ty.e22 Ty.a6v λv2 hv2 h=>S2 3 J ?_
  refine cN h (λhc h=>?_) λhc h=>?_
  ·refine S3 1 J ?_
   refine b1y (x':=.agg [.I 0,.I 0,.I 0,.I 0,.bool false,.nl]) (cl':=true) J J (.inl J) Ty.a47<|S2 1 J<|b9 ?_
   cases h
   exact⟨J,[_,_],⟨oL J J J Ty.c1e Ty.a47 nl J,⟨J,tr⟩⟩,J,io⟩
  ·refine c8 ?_
   refine S3 3 J<|y0 J (a4b (f:=b7.Pv) (cs:=b7.Pc v2) hv2 J J Ty.e22 Ty.a6v J J)<|S2 4 J<|b9 ?_
   cases h
   exact⟨J,[_,_],⟨oL J J J Ty.c1e Ty.a47 nl J,⟨J,tr⟩⟩,J,io⟩

theorem w7{a0 a1}:PO Tryz.prog 74 [a7.Pv a0,.I a1] (o9 a0 a1) λr=>.tup [k9.Pv r.1,.I r.2]:=by
 refine pO Tryz.func74 λr h _ _=>?_
 refine S4 3 J<|S3 3 J<|cF h a1z J J λv1 _ h=>S2 4 J<|b9 ?_
 cases h
 exact⟨J,[_,_],⟨oL J J J Ty.c1e Ty.a47 nl J,⟨J,tr⟩⟩,J,io⟩

theorem a02{a0 a1}:PO Tryz.prog 202 [b6.Pv a0,.I a1] (W5 a0 a1) λr=>.bool r:=by
 refine pO Tryz.func202 λr h _ _=>?_
 refine S4 2 J<|S3 3 J<|cF h w7 J J λv1 _ h=>S2 6 J<|S4 3 J<|b9 ?_
 cases h
 exact f1

theorem K5{a0 a1}:PO Tryz.prog 183 [b6.Pv a0,.I a1] (F1 a0 a1) λr=>.bool r:=by
 refine pO Tryz.func183 λr h _ _=>?_
 unfold F1 at h
 refine S4 2 J<|S3 3 J<|j8 J (λhg=>oL J J J Ty.U0 Ty.M5 nl J)<|j8 J (λhg=>mI J)<|B2 h λv1 hv1 h=>j8 J (λhg=>L9 J a02 (L1 (ct hg) (L1 (ct hg) J)) (W9 hv1 hg))<|y0 J (F0 J J J (λq=>eqF q))<|S2 1 J<|b9 ?_
 cases h
 exact f1

theorem W0{a0}:PO Tryz.prog 281 [.I a0] (B7 a0) λr=>.bool r:=by
 refine pO Tryz.func281 λr h _ _=>?_
 unfold B7 at h
 refine S4 1 J<|S4 3 J<|b9 ?_
 cases h
 exact f1

theorem a9h{a0}:PO Tryz.prog 288 [.I a0] (a3l a0) λr=>.tup [.I r.1,.I r.2]:=by
 refine pO Tryz.func288 λr h _ _=>?_
 refine S4 2 J<|j5<|S3 1 J<|cA h W0 J J λv1 _ h=>yN ?_
 refine cN h (λhc h=>?_) λhc h=>?_
 ·refine S4 2 J ?_
  refine b9 ?_
  cases h
  exact f2
 ·refine c8 ?_
  refine S3 1 J<|y0 J (c5M J J J)<|S2 3 J<|b9 ?_
  cases h
  exact f2

theorem b40{a0}:PO Tryz.prog 218 [.I a0] (a7s a0) λr=>.I r:=by
 refine pO Tryz.func218 λr h _ _=>?_
 refine S4 1 J<|S3 1 J<|cA h a9h J J λv1 _ h=>S2 5 J<|S4 2 J<|b9 ?_
 cases h
 exact f1

theorem a6x{a0 a1 a2}:PO Tryz.prog 216 [c7.Pv a0,.I a1,k9.Pv a2] (H3 a0 a1 a2) λr=>.tup [c7.Pv r.1,.I r.2]:=by
 refine pO Tryz.func216 λr h _ _=>?_
 refine S4 4 J<|S3 2 J<|cA h C8 J J λv1 _ h=>S2 5 J<|j5<|S4 2 J ?_
 refine cN h (λhc h=>?_) λhc h=>?_
 ·refine S4 4 J ?_
  refine b9 ?_
  cases h
  exact⟨J,[_,_],⟨oL J J J Ty.a24 Ty.s24 nl J,⟨J,tr⟩⟩,J,io⟩
 ·refine c8 ?_
  refine S3 3 J<|iL h J J Ty.e22 Ty.a6v λv2 _ h=>S2 3 J<|S4 3 J<|S3 3 J<|cF h F8 J J λv3 _ h=>S2 2 J<|b9 ?_
  cases h
  exact⟨J,[_,_],⟨oL J J J Ty.a24 Ty.s24 nl J,⟨J,tr⟩⟩,J,io⟩

theorem Z6{a0 a1 a2}:PO Tryz.prog 130 [a7.Pv a0,.I a1,k9.Pv a2] (H4 a0 a1 a2) λr=>.tup [a7.Pv r.1,.I r.2]:=by
 refine pO Tryz.func130 λr h _ _=>?_
 refine S4 4 J<|S4 1 J<|S3 4 J<|cF h a6x J J λv1 _ h=>S2 6 J<|S4 4 J<|b9 ?_
 cases h
 exact⟨J,[_,_],⟨oL J J J Ty.a26 Ty.s26 nl J,⟨J,tr⟩⟩,J,io⟩

theorem a3r{a0 a1}:PO Tryz.prog 186 [b6.Pv a0,.I a1,.fn (.func 218) []] (P2 a0 a1) λr=>b6.Pv r:=by
 refine pO Tryz.func186 λr h _ _=>?_
 refine S4 2 J<|S3 3 J<|cF h w7 J J λv1 _ h=>S2 6 J<|j5<|S4 2 J ?_
 refine cN h (λhc h=>?_) λhc h=>?_
 ·refine S3 3 J ?_
  refine cA h b40 J J λv2 _ h=>S2 2 J<|S5 4 J<|cF h Z6 J J λv3 _ h=>S2 5 J<|S4 2 J<|b9 ?_
  cases h
  exact⟨J,[_],⟨oL J J J Ty.U0 Ty.M5 nl J,tr⟩,J,io⟩
 ·refine c8 ?_
  refine S4 2 J<|b9 ?_
  cases h
  exact⟨J,[_],⟨oL J J J Ty.U0 Ty.M5 nl J,tr⟩,J,io⟩

theorem a01{a0 a1}:PO Tryz.prog 132 [b6.Pv a0,.I a1] (W3 a0 a1) λr=>b6.Pv r:=by
 refine pO Tryz.func132 λr h _ _=>?_
 refine S4 2 J<|S3 2 J<|cF h a3r J J λv1 _ h=>S2 1 J<|b9 ?_
 cases h
 exact⟨J,[_],⟨oL J J J Ty.U0 Ty.M5 nl J,tr⟩,J,io⟩

theorem a0q{a0}:PON Tryz.prog 196 [.L iF a0] (E6 a0) λr=>⟨List.map iF r,0,true,1,true⟩:=by
 refine pON Tryz.func196 λr h _ _=>?_
 unfold E6 at h
 refine S4 1 J<|j5<|S3 1 J<|b6j J Ty.D0 λb hb=>yN ?_
 refine D8 b J (λhc=>?_) (λhc=>?_)
 ·obtain rfl:a0 = []:=by simpa using hb hc
  refine S4 1 J<|a1y (R9 (t:=2) (l:=920000) (z:=1) J J)<|b9 ?_
  cases h
  exact⟨J,_,_,J,J,J,J⟩
 ·refine c8 ?_
  refine sR<|y0 J (b2M J Ty.D0 Ty.s3)<|S1 1 J<|y1 J (b6V (f:=iF) h J J (.inl ⟨_,J,J⟩) Ty.D0 Ty.s3 Ty.b3 Ty.z3 J (λ_=>J)) J<|S2 1 J<|b9 ?_
  exact⟨J,_,_,J,J,J,J⟩

theorem a6s{a0 a1}:PO Tryz.prog 185 [F5.Pv a0,b6.Pv a1] (R2 a0 a1) λr=>b6.Pv r:=by
 refine pO Tryz.func185 λr h _ _=>?_
 unfold R2 at h
 refine S4 3 J<|S3 2 J<|B2 h λv1 hv1 h=>ycN J (b2L J a0q J hv1) J J<|S2 2 J<|S3 6 J<|B2 h λv2 hv2 h=>y0 J (a8t (f:=iF) hv2 J J J J Ty.D0 Ty.s3 J)<|b3D (f:=iF) (v:=a0.h) hv2 J J (.inl J) Ty.s3<|yN<|S4 2 J<|b9 ?_
 cases h
 exact⟨J,[_],⟨oL J J J Ty.U0 Ty.M5 nl J,tr⟩,J,io⟩

theorem a7Z{a0}:PO Tryz.prog 265 [.I a0] (a1C a0) λr=>.tup [.I r.1,.I r.2]:=by
 refine pO Tryz.func265 λr h _ _=>?_
 refine S4 2 J<|j5<|S3 1 J<|cA h W0 J J λv1 _ h=>yN ?_
 refine cN h (λhc h=>?_) λhc h=>?_
 ·refine S4 2 J ?_
  refine b9 ?_
  cases h
  exact f2
 ·refine c8 ?_
  refine j5<|S4 2 J ?_
  refine cN h (λhc h=>?_) λhc h=>?_
  ·refine S4 2 J ?_
   refine b9 ?_
   cases h
   exact f2
  ·refine c8 ?_
   refine S4 4 J<|b9 ?_
   cases h
   exact f2

theorem b4Z{a0}:PO Tryz.prog 188 [.I a0] (b0r a0) λr=>.tup [.I r.1,.I r.2]:=by
 refine pO Tryz.func188 λr h _ _=>?_
 refine S4 2 J<|S3 1 J<|cA h a7Z J J λv1 _ h=>S2 5 J<|S4 4 J<|b9 ?_
 cases h
 exact f2

theorem a9A{a0}:PO Tryz.prog 187 [.I a0] (a00 a0) λr=>.I r:=by
 refine pO Tryz.func187 λr h _ _=>?_
 refine S4 1 J<|S3 1 J<|cA h b4Z J J λv1 _ h=>S2 5 J<|j5<|S4 2 J ?_
 refine cN h (λhc h=>?_) λhc h=>?_
 ·refine S4 2 J ?_
  refine b9 ?_
  cases h
  exact f1
 ·refine c8 ?_
  refine S4 2 J<|b9 ?_
  cases h
  exact f1

theorem a1t{a0 a1}:PO Tryz.prog 186 [b6.Pv a0,.I a1,.fn (.func 187) []] (J0 a0 a1) λr=>b6.Pv r:=by
 refine pO Tryz.func186 λr h _ _=>?_
 refine S4 2 J<|S3 3 J<|cF h w7 J J λv1 _ h=>S2 6 J<|j5<|S4 2 J ?_
 refine cN h (λhc h=>?_) λhc h=>?_
 ·refine S3 3 J ?_
  refine cA h a9A J J λv2 _ h=>S2 2 J<|S5 4 J<|cF h Z6 J J λv3 _ h=>S2 5 J<|S4 2 J<|b9 ?_
  cases h
  exact⟨J,[_],⟨oL J J J Ty.U0 Ty.M5 nl J,tr⟩,J,io⟩
 ·refine c8 ?_
  refine S4 2 J<|b9 ?_
  cases h
  exact⟨J,[_],⟨oL J J J Ty.U0 Ty.M5 nl J,tr⟩,J,io⟩

theorem a0u{a0 a1}:PO Tryz.prog 110 [b6.Pv a0,.I a1] (C5 a0 a1) λr=>b6.Pv r:=by
 refine pO Tryz.func110 λr h _ _=>?_
 refine S4 2 J<|S3 2 J<|cF h a1t J J λv1 _ h=>S2 1 J<|b9 ?_
 cases h
 exact⟨J,[_],⟨oL J J J Ty.U0 Ty.M5 nl J,tr⟩,J,io⟩

theorem a0A{a0 a1 a2 a3}:PO Tryz.prog 184 [b6.Pv a0,.I a1,.I a2,.abs (BFn 185 [F5.Pv a3])] (G6 a0 a1 a2 a3) λr=>b6.Pv r:=by
 refine pO Tryz.func184 λr h _ _=>?_
 refine S4 2 J<|S3 3 J<|cF h a01 J J λv1 _ h=>B2 h λv2 hv2 h=>b6i (xs:=[b6.Pv v1]) J J Ty.c9V J (a6s.2 _ hv2)<|S1 1 J<|cF h a0u J J λv3 _ h=>S2 1 J<|b9 ?_
 cases h
 exact⟨J,[_],⟨oL J J J Ty.U0 Ty.M5 nl J,tr⟩,J,io⟩

theorem b5m{a0 a1 a2}:PO Tryz.prog 109 [b6.Pv a0,.I a1,.I a2] (a7A a0 a1 a2) λr=>.tup [b6.Pv r.1,.I r.2]:=by
 refine pO Tryz.func109 λr h _ _=>?_
 refine S4 3 J<|j5<|S3 3 J<|j8 J (λhg=>mI J)<|j8 J (λhg=>oF J Ty.c1L J)<|j8 J (λhg=>oS (ct hg) J J Ty.a27 J)<|j8 J (λhg=>a0l (f:=iF) (ct hg) Ty.D0)<|j8 J (λhg=>w8 (ct hg) (ct hg) J)<|y0 J (F0 J J J (λq=>eqF q))<|yN ?_
 refine cN h (λhc h=>?_) λhc h=>?_
 ·refine S4 3 J ?_
  refine b9 ?_
  cases h
  exact⟨J,[_,_],⟨oL J J J Ty.U0 Ty.M5 nl J,⟨J,tr⟩⟩,J,io⟩
 ·refine c8 ?_
  refine j5<|S3 2 J<|cA h K5 J J λv1 _ h=>S2 1 J ?_
  refine cN h (λhc h=>?_) λhc h=>?_
  ·refine S4 3 J ?_
   refine b9 ?_
   cases h
   exact⟨J,[_,_],⟨oL J J J Ty.U0 Ty.M5 nl J,⟨J,tr⟩⟩,J,io⟩
  ·refine c8 ?_
   refine dr [] Ty.mix (by kernel_rfl) (by kernel_rfl)<|S7 4 J<|B2 h λv2 hv2 h=>d0 J (a4b (f:=iF) (cs:=[.I v2]) hv2 J J Ty.D0 Ty.s3 J J) J<|S7 4 J<|d7 J (λ_ hN=>o0 (cs:=[.I a1,.I a2]) J Ty.c96 Ty.d0C J J J) J<|d7 J (λ_ hN=>b0I (d:=.agg [.I a1,.I a2]) J) J<|B2 h λv3 hv3 h=>d2f J (A0 J a0A J hv3) J<|a0J (x':=b6.Pv v3) (cl':=true) J J (.inr J) Ty.M5<|S8 1 J<|b9 ?_
   cases h
   exact⟨J,[_,_],⟨oL J J J Ty.U0 Ty.M5 nl J,⟨J,tr⟩⟩,J,io⟩

theorem E0{a0 a1 a2}:PO Tryz.prog 315 [n7.Pv a0,.I a1,.I a2] (y7 a0 a1 a2) λr=>.tup [b6.Pv r.1,.I r.2]:=by
 refine pO Tryz.func315 λr h _ _=>?_
 refine S4 3 J<|j5<|S4 2 J ?_
 refine cN h (λhc h=>?_) λhc h=>?_
 ·refine S4 5 J ?_
  refine b9 ?_
  cases h
  exact⟨J,[_,_],⟨oL J J J Ty.U0 Ty.M5 nl J,⟨J,tr⟩⟩,J,io⟩
 ·refine c8 ?_
  refine S3 6 J<|cF h b5m J J λv1 _ h=>S2 4 J<|b9 ?_
  cases h
  exact⟨J,[_,_],⟨oL J J J Ty.U0 Ty.M5 nl J,⟨J,tr⟩⟩,J,io⟩

theorem a08{a0}:PO Tryz.prog 242 [n7.Pv a0] (O2 a0) λr=>.tup [b6.Pv r.1,.I r.2]:=by
 refine pO Tryz.func242 λr h _ _=>?_
 refine S4 3 J<|S3 9 J<|cF h b32 J J λv1 _ h=>S2 8 J<|j5<|S4 2 J ?_
 refine cN h (λhc h=>?_) λhc h=>?_
 ·refine S4 5 J ?_
  refine b9 ?_
  cases h
  exact⟨J,[_,_],⟨oL J J J Ty.U0 Ty.M5 nl J,⟨J,tr⟩⟩,J,io⟩
 ·refine c8 ?_
  refine S4 4 J<|S3 2 J<|cF h E0 J J λv2 _ h=>S2 4 J<|b9 ?_
  cases h
  exact⟨J,[_,_],⟨oL J J J Ty.U0 Ty.M5 nl J,⟨J,tr⟩⟩,J,io⟩

theorem J2{a0 a1}:PO Tryz.prog 181 [b6.Pv a0,.I a1] (H7 a0 a1) λr=>.I r:=by
 refine pO Tryz.func181 λr h _ _=>?_
 refine S4 2 J<|j5<|S3 3 J<|j8 J (λhg=>mI J)<|j8 J (λhg=>oF J Ty.c1L J)<|j8 J (λhg=>oS (ct hg) J J Ty.a27 J)<|j8 J (λhg=>a0l (f:=iF) (ct hg) Ty.D0)<|j8 J (λhg=>w8 (ct hg) (ct hg) J)<|y0 J (F0 J J J (λq=>eqF q))<|yN ?_
 refine cN h (λhc h=>?_) λhc h=>?_
 ·refine S4 1 J ?_
  refine b9 ?_
  cases h
  exact f1
 ·refine c8 ?_
  refine S3 3 J<|iL h J J Ty.D0 Ty.s3 λv1 _ h=>S2 2 J<|b9 ?_
  cases h
  exact f1

theorem Z9{a0}:PO Tryz.prog 243 [n7.Pv a0] (F7 a0) λr=>.tup [b6.Pv r.1,.I r.2]:=by
 refine pO Tryz.func243 λr h _ _=>?_
 unfold F7 at h
 refine S4 3 J<|dr [] Ty.mix (by kernel_rfl) (by kernel_rfl)<|S7 6 J<|B2 h λv1 hv1 h=>d2 J (L9 J J2 J hv1) J<|B2 h λv2 hv2 h=>d2f J (A0 J E0 J hv2) J<|S7 2 J<|a0J (x':=b6.Pv v2.1) (cl':=true) J J (.inr J) Ty.M5<|S8 1 J<|b9 ?_
 cases h
 exact⟨J,[_,_],⟨oL J J J Ty.U0 Ty.M5 nl J,⟨J,tr⟩⟩,J,io⟩

theorem a2i{a0}:PO Tryz.prog 244 [n7.Pv a0] (V3 a0) λr=>.tup [b6.Pv r.1,.I r.2]:=by
 refine pO Tryz.func244 λr h _ _=>?_
 refine S4 3 J<|S3 1 J<|cF h E0 J J λv1 _ h=>S2 4 J<|b9 ?_
 cases h
 exact⟨J,[_,_],⟨oL J J J Ty.U0 Ty.M5 nl J,⟨J,tr⟩⟩,J,io⟩

theorem M2{a0 a1}:PO Tryz.prog 316 [b6.Pv a0,.I a1] (I3 a0 a1) λr=>.tup [.I r.1,.I r.2]:=by
 refine pO Tryz.func316 λr h _ _=>?_
 refine S4 3 J<|S3 2 J<|cA h J2 J J λv1 _ h=>S2 1 J<|j5<|S4 2 J ?_
 refine cN h (λhc h=>?_) λhc h=>?_
 ·refine S4 2 J ?_
  refine b9 ?_
  cases h
  exact f2
 ·refine c8 ?_
  refine S4 3 J<|b9 ?_
  cases h
  exact f2

theorem b3w{a0 a1}:PO Tryz.prog 391 [.L iF a0,.I a1] (a6b a0 a1) λr=>.bool r:=by
 refine pO Tryz.func391 λr h _ _=>?_
 unfold a6b at h
 refine S4 1 J<|S3 3 J<|j8 J (λhg=>mI J)<|j8 J (λhg=>om (d:=.L iF a0) J)<|j8 J (λhg=>a0l (f:=iF) (ct hg) Ty.D0)<|j8 J (λhg=>w8 (ct hg) (ct hg) J)<|y0 J (r9 J J J (λq=>eqT q))<|S2 1 J<|b9 ?_
 cases h
 exact f1

theorem c05{a0 a1}:PO Tryz.prog 367 [.L iF a0,.I a1] (b07 a0 a1) λr=>.tup [.I r.1,.I r.2]:=by
 refine pO Tryz.func367 λr h _ _=>?_
 refine S4 2 J<|j5<|S3 2 J<|cA h b3w J J λv1 _ h=>S2 1 J ?_
 refine cN h (λhc h=>?_) λhc h=>?_
 ·refine S4 2 J ?_
  refine b9 ?_
  cases h
  exact f2
 ·refine c8 ?_
  refine S3 2 J<|iL h J J Ty.D0 Ty.s3 λv2 _ h=>S2 3 J<|b9 ?_
  cases h
  exact f2

theorem a7n{a0 a1 a2}:PO Tryz.prog 317 [a7.Pv a0,.I a1,.I a2] (Y2 a0 a1 a2) λr=>.tup [.I r.1,.I r.2]:=by
 refine pO Tryz.func317 λr h _ _=>?_
 refine S4 3 J<|S3 2 J<|cF h w7 J J λv1 _ h=>S2 6 J<|j5<|S4 2 J ?_
 refine cN h (λhc h=>?_) λhc h=>?_
 ·refine S4 3 J ?_
  refine b9 ?_
  cases h
  exact f2
 ·refine c8 ?_
  refine S3 3 J<|cA h c05 J J λv2 _ h=>S2 4 J<|b9 ?_
  cases h
  exact f2

theorem a2j{a0}:PO Tryz.prog 245 [n7.Pv a0] (V4 a0) λr=>.tup [b6.Pv r.1,.I r.2]:=by
 refine pO Tryz.func245 λr h _ _=>?_
 refine S4 3 J<|S3 5 J<|cA h M2 J J λv1 _ h=>S2 5 J<|j5<|S4 2 J ?_
 refine cN h (λhc h=>?_) λhc h=>?_
 ·refine S4 5 J ?_
  refine b9 ?_
  cases h
  exact⟨J,[_,_],⟨oL J J J Ty.U0 Ty.M5 nl J,⟨J,tr⟩⟩,J,io⟩
 ·refine c8 ?_
  refine dr [] Ty.mix (by kernel_rfl) (by kernel_rfl)<|S7 8 J<|B2 h λv2 hv2 h=>d2 J (L9 J a7n J hv2) J<|S7 2 J<|B2 h λv3 hv3 h=>d2f J (A0 J E0 J hv3) J<|S7 2 J<|a0J (x':=b6.Pv v3.1) (cl':=true) J J (.inr J) Ty.M5<|S8 1 J<|b9 ?_
  cases h
  exact⟨J,[_,_],⟨oL J J J Ty.U0 Ty.M5 nl J,⟨J,tr⟩⟩,J,io⟩

theorem b7A{a0 a1 a2}:PO Tryz.prog 398 [.L iF a0,.I a1,.I a2] (b3v a0 a1 a2) λr=>.tup [.L iF r.1,.I r.2]:=by
 refine pO Tryz.func398 λr h _ _=>?_
 refine S4 2 J<|j5<|S3 2 J<|cA h b3w J J λv1 _ h=>S2 1 J ?_
 refine cN h (λhc h=>?_) λhc h=>?_
 ·refine S4 3 J ?_
  refine b9 ?_
  cases h
  exact f2
 ·refine c8 ?_
  refine S3 1 J<|nL J Ty.D0<|B2 h λv2 hv2 h=>y1 J (b8k (f:=iF) hv2 J J J Ty.D0 Ty.s3 Ty.z3 Ty.b3 J J J) J<|S2 1 J<|S3 2 J<|B2 h λv3 hv3 h=>c88 (f:=iF) hv3 J J J (.inl ⟨_,J,J⟩) Ty.D0 Ty.s3 (λ_=>J) (by decide)<|yN<|S3 3 J<|B2 h λv4 hv4 h=>y0 J (a8t (f:=iF) hv4 J J J J Ty.D0 Ty.s3 J)<|b3D (f:=iF) (v:=a2) hv4 J J (.inl J) Ty.s3<|yN<|S4 3 J<|b9 ?_
  cases h
  exact f2

theorem b56{a0 a1 a2 a3}:PO Tryz.prog 392 [a7.Pv a0,.I a1,.I a2,.I a3] (a7R a0 a1 a2 a3) λr=>.tup [a7.Pv r.1,.I r.2]:=by
 refine pO Tryz.func392 λr h _ _=>?_
 refine S4 3 J<|S3 2 J<|cF h w7 J J λv1 _ h=>S2 6 J<|j5<|S4 2 J ?_
 refine cN h (λhc h=>?_) λhc h=>?_
 ·refine S4 4 J ?_
  refine b9 ?_
  cases h
  exact⟨J,[_,_],⟨oL J J J Ty.a26 Ty.s26 nl J,⟨J,tr⟩⟩,J,io⟩
 ·refine c8 ?_
  refine j5<|S3 4 J<|cF h b7A J J λv2 _ h=>S2 6 J<|S4 2 J ?_
  refine cN h (λhc h=>?_) λhc h=>?_
  ·refine S4 4 J ?_
   refine b9 ?_
   cases h
   exact⟨J,[_,_],⟨oL J J J Ty.a26 Ty.s26 nl J,⟨J,tr⟩⟩,J,io⟩
  ·refine c8 ?_
   refine S3 3 J<|cF h Z6 J J λv3 _ h=>S2 4 J<|b9 ?_
   cases h
   exact⟨J,[_,_],⟨oL J J J Ty.a26 Ty.s26 nl J,⟨J,tr⟩⟩,J,io⟩

theorem a5A{a0 a1}:PO Tryz.prog 368 [D7.Pv a0,b6.Pv a1] (a0b a0 a1) λr=>b6.Pv r:=by
 refine pO Tryz.func368 λr h _ _=>?_
 refine S4 3 J<|S3 8 J<|cF h b56 J J λv1 _ h=>S2 5 J<|S4 2 J<|b9 ?_
 cases h
 exact⟨J,[_],⟨oL J J J Ty.U0 Ty.M5 nl J,tr⟩,J,io⟩

theorem a0k{a0 a1 a2 a3}:PO Tryz.prog 184 [b6.Pv a0,.I a1,.I a2,.abs (BFn 368 [D7.Pv a3])] (F6 a0 a1 a2 a3) λr=>b6.Pv r:=by
 refine pO Tryz.func184 λr h _ _=>?_
 refine S4 2 J<|S3 3 J<|cF h a01 J J λv1 _ h=>B2 h λv2 hv2 h=>b6i (xs:=[b6.Pv v1]) J J Ty.c9Y J (a5A.2 _ hv2)<|S1 1 J<|cF h a0u J J λv3 _ h=>S2 1 J<|b9 ?_
 cases h
 exact⟨J,[_],⟨oL J J J Ty.U0 Ty.M5 nl J,tr⟩,J,io⟩

theorem b3R{a0 a1 a2 a3}:PO Tryz.prog 318 [b6.Pv a0,.I a1,.I a2,.I a3] (a1I a0 a1 a2 a3) λr=>.tup [b6.Pv r.1,.I r.2]:=by
 refine pO Tryz.func318 λr h _ _=>?_
 refine S4 3 J<|S3 4 J<|cA h a7n J J λv1 _ h=>S2 5 J<|j5<|S4 2 J ?_
 refine cN h (λhc h=>?_) λhc h=>?_
 ·refine S4 4 J ?_
  refine b9 ?_
  cases h
  exact⟨J,[_,_],⟨oL J J J Ty.U0 Ty.M5 nl J,⟨J,tr⟩⟩,J,io⟩
 ·refine c8 ?_
  refine j5<|S3 2 J<|cA h K5 J J λv2 _ h=>S2 1 J ?_
  refine cN h (λhc h=>?_) λhc h=>?_
  ·refine S4 3 J ?_
   refine b9 ?_
   cases h
   exact⟨J,[_,_],⟨oL J J J Ty.U0 Ty.M5 nl J,⟨J,tr⟩⟩,J,io⟩
  ·refine c8 ?_
   refine S3 6 J<|y0 J (o0 (cs:=[.I a1,.I a2,.I a3]) J Ty.c98 Ty.d0F J J J)<|y0 J (b0I (d:=.agg [.I a1,.I a2,.I a3]) J)<|cF h a0k J J λv3 _ h=>S2 2 J<|b9 ?_
   cases h
   exact⟨J,[_,_],⟨oL J J J Ty.U0 Ty.M5 nl J,⟨J,tr⟩⟩,J,io⟩

theorem a1x{a0}:PO Tryz.prog 246 [n7.Pv a0] (R3 a0) λr=>.tup [b6.Pv r.1,.I r.2]:=by
 refine pO Tryz.func246 λr h _ _=>?_
 refine S4 3 J<|S3 5 J<|cA h M2 J J λv1 _ h=>S2 5 J<|j5<|S4 2 J ?_
 refine cN h (λhc h=>?_) λhc h=>?_
 ·refine S4 5 J ?_
  refine b9 ?_
  cases h
  exact⟨J,[_,_],⟨oL J J J Ty.U0 Ty.M5 nl J,⟨J,tr⟩⟩,J,io⟩
 ·refine c8 ?_
  refine dr [] Ty.mix (by kernel_rfl) (by kernel_rfl)<|S7 11 J<|B2 h λv2 hv2 h=>d2 J (L9 J J2 J hv2) J<|B2 h λv3 hv3 h=>d2f J (A0 J b3R J hv3) J<|S7 2 J<|a0J (x':=b6.Pv v3.1) (cl':=true) J J (.inr J) Ty.M5<|S8 1 J<|b9 ?_
  cases h
  exact⟨J,[_,_],⟨oL J J J Ty.U0 Ty.M5 nl J,⟨J,tr⟩⟩,J,io⟩

theorem b3q{a0 a1}:PO Tryz.prog 284 [c9.Pv a0,.I a1] (a7S a0 a1) λr=>.fn (.func 350) [.rptr (c9.Pc r.1),.rptr [.I r.2]]:=by
 refine pO Tryz.func284 λr h _ _=>?_
 unfold a7S at h
 refine S4 3 J<|S4 2 J<|b9 ?_
 cases h
 exact f1

theorem b33{a0 a1}:PO Tryz.prog 369 [c9.Pv a0,.I a1] (a3I a0 a1) λr=>.bool r:=by
 refine pO Tryz.func369 λr h _ _=>?_
 refine S4 3 J ?_
 refine jq h (λ_=>St.of [(4,.ptr 2001 0 0)] [(2001,vR (.bool false) 1)]) (λq7 h=>?_) λκ6 h=>?_
 ·refine S4 1 J ?_
  refine b9 ?_
  cases h
  exact⟨J,[_],⟨oS J J J Ty.a4 J,tr⟩,J,io⟩
 ·refine S3 1 J ?_
  refine cF h b3q J J λv8 _ h=>yN<|g8<|a1y (WPE (λl=>if l=2003 then 4 else if l=2004 then 3 else l) [(3,.ptr 2004 0 0),(4,.ptr 2003 0 0),(7,.fn (.func 350) [.rptr (c9.Pc v8.1),.rptr [.I v8.2]])] [(2003,vR (.bool false) 1),(2004,vR (.I a1) 1)]) ?_
  refine a0m (fn:=Tryz.f350) (N1:=24) J Tryz.func350 J J nl J Ty.c8e J J (λl16 e17 o18 hR19=>?_)
  refine S3 2 J<|nL J Ty.e30<|S2 1 J<|g8<|lq h (λs10=>St.of [(1000003,.ptr 2004 0 0),(1000004,.ptr 2003 0 0),(1000007,.fn (.func 350) [.rptr (c9.Pc v8.1),.rptr [.I v8.2]]),(0,.fn (.yield l16) []),(2,.rptr [.I v8.2]),(7,.L g7.Pv v8.1.L),(8,.I (v8.1.L.length:Int)),(9,.I s10)] [(2003,vR (.bool false) 1),(2004,vR (.I a1) 1)]) W λs10 x11 h hx22=>S4 1 J<|j5 ?_
  refine cN h (λhc h=>?_) λhc h=>?_
  ·refine c8 ?_
   refine j5<|g8<|sR<|iL h J J Ty.e30 Ty.s79 λv12 _ h=>S2 3 J<|S3 5 J<|j8 J (λhg=>om (d:=.fn (.yield l16) []) J)<|j8 J (λhg=>oL J J J Ty.a79 Ty.s79 nl J) ?_
   rcases Bool.eq_false_or_eq_true ((v12.Kind==v8.2)==true) with hg24 | hg24
   ·have h:=ifT h hg24
    refine G9 (WE [(1000003,.ptr 2004 0 0),(1000004,.ptr 2003 0 0),(1000007,.fn (.func 350) [.rptr (c9.Pc v8.1),.rptr [.I v8.2]]),(0,.fn (.yield l16) []),(2,.rptr [.I v8.2]),(7,.L g7.Pv v8.1.L),(8,.I (v8.1.L.length:Int)),(9,.I s10),(17,.bool (v12.Kind==v8.2)),(18,.fn (.yield l16) []),(19,g7.Pv v12)] [(2003,vR (.bool false) 1),(2004,vR (.I a1) 1)]) ?_
    refine a4m hR19 (congrArg some hg24) J J J J J (λe25 o26 o27=>?_)
    refine S6 2 J ?_
    refine⟨J,?_⟩
    refine g8<|S4 4 J ?_
    refine cN h (λhc h=>?_) λhc h=>?_
    ·refine S4 1 J ?_
     refine b9 ?_
     refine⟨J,?_⟩
     refine G9 (WE [(1000003,.ptr 2004 0 0),(1000004,.ptr 2003 0 0),(1000007,.fn (.func 350) [.rptr (c9.Pc v8.1),.rptr [.I v8.2]]),(0,.fn (.yield l16) []),(2,.rptr [.I v8.2]),(7,.L g7.Pv v8.1.L),(8,.I (v8.1.L.length:Int)),(9,.I s10),(17,.bool (v12.Kind==v8.2)),(20,.bool false)] [(2003,vR (.bool true) 1),(2004,vR (.I a1) 1)])<|y0 (congrArg some hg24) (a2Q J J)<|y0 J (a4d J J hg24)<|yN ?_
     refine D8 true J (λ_=>?_) (λq=>nomatch q)
     refine b9 ?_
     refine .inr ⟨.ret,J,c4c ?_⟩
     have h:=xL hx22 h
     cases h
     exact⟨J,[_],⟨oS J J J Ty.a4 J,tr⟩,J,io⟩
    ·refine c8 ?_
     refine⟨J,?_⟩
     refine G9 (WE [(1000003,.ptr 2004 0 0),(1000004,.ptr 2003 0 0),(1000007,.fn (.func 350) [.rptr (c9.Pc v8.1),.rptr [.I v8.2]]),(0,.fn (.yield l16) []),(2,.rptr [.I v8.2]),(7,.L g7.Pv v8.1.L),(8,.I (v8.1.L.length:Int)),(9,.I s10),(17,.bool (v12.Kind==v8.2)),(20,.bool true)] [(2003,vR (.bool false) 1),(2004,vR (.I a1) 1)])<|y0 (congrArg some hg24) (a2Q J J)<|y0 J (a4d J J hg24)<|yN ?_
     refine D8 false J (λq=>nomatch q) (λ_=>?_)
     refine c8<|S6 2 J ?_
     exact eL h W
   ·have h:=ifF h hg24
    refine U9 (congrArg some hg24)<|U9 (congrArg some hg24)<|y0 J (a4c J J hg24)<|yN ?_
    refine D8 false J (λq=>nomatch q) (λ_=>?_)
    refine c8<|S6 2 J ?_
    exact eL h W
  ·refine o8 ?_
   refine g6<|g6<|l7 ?_
   refine .inl ⟨J,?_⟩
   have h:=xL hx22 h
   exact eJ h (WP (λl=>if l=2001 then 2003 else l))

theorem b1w{a0 a1}:PO Tryz.prog 373 [.L c4.Pv a0,.I a1] (a5g a0 a1) λr=>.bool r:=by
 refine pO Tryz.func373 λr h _ _=>?_
 unfold a5g at h
 refine S4 1 J<|S3 3 J<|j8 J (λhg=>mI J)<|j8 J (λhg=>om (d:=.L c4.Pv a0) J)<|j8 J (λhg=>a0l (f:=c4.Pv) (ct hg) Ty.e28)<|j8 J (λhg=>w8 (ct hg) (ct hg) J)<|y0 J (r9 J J J (λq=>eqT q))<|S2 1 J<|b9 ?_
 cases h
 exact f1

theorem a6o{a0}:PON Tryz.prog 291 [.L c4.Pv a0] (Y4 a0) λr=>⟨List.map c4.Pv r,0,true,3,true⟩:=by
 refine pON Tryz.func291 λr h _ _=>?_
 unfold Y4 at h
 refine S4 1 J<|S3 1 J<|nL J Ty.e28<|B2 h λv1 hv1 h=>y1 J (b8k (f:=c4.Pv) hv1 J J J Ty.e28 Ty.s68 Ty.z68 Ty.b68 J J J) J<|S2 1 J<|S3 2 J<|B2 h λv2 hv2 h=>c88 (f:=c4.Pv) hv2 J J J (.inl ⟨_,J,J⟩) Ty.e28 Ty.s68 (λ_=>J) (by decide)<|yN<|S4 2 J<|b9 ?_
 cases h
 exact⟨J,_,_,J,J,J,J⟩

theorem b7E{a0 a1 a2 a3}:PO Tryz.prog 370 [.L c4.Pv a0,.I a1,.I a2,.I a3] (b0k a0 a1 a2 a3) λr=>.tup [.L c4.Pv r.1,.I r.2.1,.I r.2.2]:=by
 refine pO Tryz.func370 λr h _ _=>?_
 refine S4 3 J<|j5<|S3 2 J<|cA h b1w J J λv1 _ h=>S2 1 J ?_
 refine cN h (λhc h=>?_) λhc h=>?_
 ·refine S4 4 J ?_
  refine b9 ?_
  cases h
  exact f3
 ·refine c8 ?_
  refine S3 1 J<|B2 h λv2 hv2 h=>ycN J (b2L J a6o J hv2) J J<|S2 1 J<|S3 6 J<|y0 J (o0 (cs:=[.I a2,.bool (a2 != 0),.I a3]) J Ty.p68 Ty.z68 J J J)<|B2 h λv3 hv3 h=>y0 J (a8t (f:=c4.Pv) hv3 J J J J Ty.e28 Ty.s68 J)<|b3D (f:=c4.Pv) (v:=(⟨a2,(a2 != 0),a3⟩:c4)) hv3 J J (.inl J) Ty.s68<|yN<|dr [] Ty.mix (by kernel_rfl) (by kernel_rfl)<|S7 3 J<|B2 h λv4 hv4 h=>d0 J (a4b (f:=c4.Pv) (cs:=c4.Pc v4) hv4 J J Ty.e28 Ty.s68 J J) J<|S8 5 J<|b9 ?_
  cases h
  exact f3

theorem a6P{a0 a1 a2}:PO Tryz.prog 372 [b6.Pv a0,.I a1,.I a2] (a0N a0 a1 a2) λr=>b6.Pv r:=by
 refine pO Tryz.func372 λr h _ _=>?_
 refine S4 2 J<|S3 4 J<|cA h C8 J J λv1 _ h=>S2 5 J<|j5<|S4 2 J ?_
 refine cN h (λhc h=>?_) λhc h=>?_
 ·refine S3 5 J ?_
  refine iL h J J Ty.e22 Ty.a6v λv2 _ h=>S2 4 J<|S4 6 J<|S5 4 J<|cF h Z6 J J λv3 _ h=>S2 5 J<|S4 2 J<|b9 ?_
  cases h
  exact⟨J,[_],⟨oL J J J Ty.U0 Ty.M5 nl J,tr⟩,J,io⟩
 ·refine c8 ?_
  refine S4 2 J<|b9 ?_
  cases h
  exact⟨J,[_],⟨oL J J J Ty.U0 Ty.M5 nl J,tr⟩,J,io⟩

theorem a1n{a0 a1}:PO Tryz.prog 223 [c7.Pv a0,.I a1] (J4 a0 a1) λr=>.tup [c7.Pv r.1,.I r.2]:=by
 refine pO Tryz.func223 λr h _ _=>?_
 refine S4 3 J<|S3 2 J<|cA h C8 J J λv1 _ h=>S2 5 J<|j5<|S4 2 J ?_
 refine cN h (λhc h=>?_) λhc h=>?_
 ·refine S4 4 J ?_
  refine b9 ?_
  cases h
  exact⟨J,[_,_],⟨oL J J J Ty.a24 Ty.s24 nl J,⟨J,tr⟩⟩,J,io⟩
 ·refine c8 ?_
  refine S3 3 J<|iL h J J Ty.e22 Ty.a6v λv2 _ h=>S2 3 J<|j5<|S4 4 J ?_
  refine cN h (λhc h=>?_) λhc h=>?_
  ·refine S3 3 J ?_
   refine y0 J (o0 (cs:=[.I 3,.I v2.Gen,.I 0,.I 0,.I 0,.I 0,.bool false,.nl]) J Ty.c4H Ty.c07 J J J)<|cF h F8 J J λv3 _ h=>S2 2 J<|b9 ?_
   cases h
   exact⟨J,[_,_],⟨oL J J J Ty.a24 Ty.s24 nl J,⟨J,tr⟩⟩,J,io⟩
  ·refine c8 ?_
   refine S3 4 J<|y0 J (o0 (cs:=[.I 0,.I (p6 (v2.Gen+1)),.I 0,.I 0,.I 0,.I 0,.bool false,.nl]) J Ty.c4H Ty.c07 J J J)<|cF h F8 J J λv4 _ h=>S2 2 J<|b9 ?_
   cases h
   exact⟨J,[_,_],⟨oL J J J Ty.a24 Ty.s24 nl J,⟨J,tr⟩⟩,J,io⟩

theorem b0B{a0 a1}:PO Tryz.prog 371 [b6.Pv a0,.I a1] (a15 a0 a1) λr=>b6.Pv r:=by
 refine pO Tryz.func371 λr h _ _=>?_
 refine S4 2 J<|S3 2 J<|cF h a6P J J λv1 _ h=>S2 1 J<|S3 4 J<|cA h C8 J J λv2 _ h=>S2 5 J<|j5<|S4 2 J ?_
 refine cN h (λhc h=>?_) λhc h=>?_
 ·refine S4 2 J ?_
  refine b9 ?_
  cases h
  exact⟨J,[_],⟨oL J J J Ty.U0 Ty.M5 nl J,tr⟩,J,io⟩
 ·refine c8 ?_
  refine j5<|S3 5 J<|iL h J J Ty.e22 Ty.a6v λv3 _ h=>S2 3 J<|S3 4 J<|j8 J (λhg=>oF J Ty.b48 J)<|j8 J (λhg=>oF (ct hg) Ty.b7W J)<|j8 J (λhg=>oS (ct hg) J J Ty.a3 J)<|j8 J (λhg=>w8 (ct hg) J J)<|y0 J (r9 J J J (λq=>eqT q))<|yN ?_
  refine cN h (λhc h=>?_) λhc h=>?_
  ·refine S5 4 J ?_
   refine cF h a1n J J λv4 _ h=>S2 6 J<|S4 2 J<|b9 ?_
   cases h
   exact⟨J,[_],⟨oL J J J Ty.U0 Ty.M5 nl J,tr⟩,J,io⟩
  ·refine c8 ?_
   refine S4 2 J<|b9 ?_
   cases h
   exact⟨J,[_],⟨oL J J J Ty.U0 Ty.M5 nl J,tr⟩,J,io⟩

theorem a9B{a0 a1 a2 a3}:PO Tryz.prog 319 [b6.Pv a0,.I a1,.I a2,.I a3] (Z0 a0 a1 a2 a3) λr=>.tup [b6.Pv r.1,.I r.2]:=by
 refine pO Tryz.func319 λr h _ _=>?_
 unfold Z0 at h
 refine S4 3 J<|j5<|S3 3 J<|j8 J (λhg=>mI J)<|j8 J (λhg=>oF J Ty.b87 J)<|j8 J (λhg=>oS (ct hg) J J Ty.a28 J)<|j8 J (λhg=>a0l (f:=c4.Pv) (ct hg) Ty.e28)<|j8 J (λhg=>w8 (ct hg) (ct hg) J)<|y0 J (F0 J J J (λq=>eqF q))<|S1 1 J<|j8 J (λhg=>oF J Ty.b6z J)<|j8 J (λhg=>oL (ct hg) J J Ty.a32 Ty.s32 nl J)<|j8 J (λhg=>mI J)<|B2 h λv1 hv1 h=>j8 J (λhg=>L9 J b33 (L1 (ct hg) (L1 (ct hg) J)) (W9 hv1 hg))<|y0 J (F0 J J J (λq=>eqF q))<|yN ?_
 refine cN h (λhc h=>?_) λhc h=>?_
 ·refine S4 3 J ?_
  refine b9 ?_
  cases h
  exact⟨J,[_,_],⟨oL J J J Ty.U0 Ty.M5 nl J,⟨J,tr⟩⟩,J,io⟩
 ·refine c8 ?_
  refine j5<|S3 2 J<|cA h K5 J J λv2 _ h=>S2 1 J ?_
  refine cN h (λhc h=>?_) λhc h=>?_
  ·refine S4 3 J ?_
   refine b9 ?_
   cases h
   exact⟨J,[_,_],⟨oL J J J Ty.U0 Ty.M5 nl J,⟨J,tr⟩⟩,J,io⟩
  ·refine c8 ?_
   refine S3 5 J<|cF h b7E J J λv3 _ h=>S2 7 J<|S4 3 J<|S3 2 J<|cF h a6P J J λv4 _ h=>S1 1 J<|cF h b0B J J λv5 _ h=>S2 2 J<|b9 ?_
   cases h
   exact⟨J,[_,_],⟨oL J J J Ty.U0 Ty.M5 nl J,⟨J,tr⟩⟩,J,io⟩

theorem a09{a0}:PO Tryz.prog 247 [n7.Pv a0] (O3 a0) λr=>.tup [b6.Pv r.1,.I r.2]:=by
 refine pO Tryz.func247 λr h _ _=>?_
 refine S4 3 J<|j5<|S4 4 J ?_
 refine cN h (λhc h=>?_) λhc h=>?_
 ·refine S3 8 J ?_
  refine cF h a9B J J λv1 _ h=>S2 4 J<|b9 ?_
  cases h
  exact⟨J,[_,_],⟨oL J J J Ty.U0 Ty.M5 nl J,⟨J,tr⟩⟩,J,io⟩
 ·refine c8 ?_
  refine S3 5 J<|cA h M2 J J λv2 _ h=>S2 5 J<|j5<|S4 2 J ?_
  refine cN h (λhc h=>?_) λhc h=>?_
  ·refine S4 5 J ?_
   refine b9 ?_
   cases h
   exact⟨J,[_,_],⟨oL J J J Ty.U0 Ty.M5 nl J,⟨J,tr⟩⟩,J,io⟩
  ·refine c8 ?_
   refine S3 9 J<|cF h a9B J J λv3 _ h=>S2 4 J<|b9 ?_
   cases h
   exact⟨J,[_,_],⟨oL J J J Ty.U0 Ty.M5 nl J,⟨J,tr⟩⟩,J,io⟩

theorem b6h{a0 a1}:PO Tryz.prog 320 [.L c4.Pv a0,.I a1] (a5f a0 a1) λr=>.tup [.I r.1,.I r.2]:=by
 refine pO Tryz.func320 λr h _ _=>?_
 refine S4 2 J<|j5<|S3 2 J<|cA h b1w J J λv1 _ h=>S2 1 J ?_
 refine cN h (λhc h=>?_) λhc h=>?_
 ·refine S4 2 J ?_
  refine b9 ?_
  cases h
  exact f2
 ·refine c8 ?_
  refine j5<|S3 2 J<|iL h J J Ty.e28 Ty.s68 λv2 hv2 h=>S1 4 J<|j8 J (λhg=>om (d:=.L c4.Pv a0) J)<|j8 J (λhg=>mI J)<|j8 J (λhg=>a4b (f:=c4.Pv) (cs:=c4.Pc v2) hv2 (ct hg) (ct hg) Ty.e28 Ty.s68 J J)<|j8 J (λhg=>a5K (ct hg) Ty.c5w J)<|j8 J (λhg=>a1a (ct hg) Ty.a4 J)<|j8 J (λhg=>a2Q (ct hg) J)<|y0 J (F0 J J J (λq=>eqF q))<|yN ?_
  refine cN h (λhc h=>?_) λhc h=>?_
  ·refine S4 2 J ?_
   refine b9 ?_
   cases h
   exact f2
  ·refine c8 ?_
   refine S3 2 J<|y0 J (a4b (f:=c4.Pv) (cs:=c4.Pc v2) hv2 J J Ty.e28 Ty.s68 J J)<|S2 4 J<|b9 ?_
   cases h
   exact f2

theorem a3u{a0}:PO Tryz.prog 248 [n7.Pv a0] (T0 a0) λr=>.tup [b6.Pv r.1,.I r.2]:=by
 refine pO Tryz.func248 λr h _ _=>?_
 unfold T0 at h
 refine S4 3 J<|dr [] Ty.mix (by kernel_rfl) (by kernel_rfl)<|S7 7 J<|B2 h λv1 hv1 h=>d2 J (L9 J b6h J hv1) J<|S7 2 J<|B2 h λv2 hv2 h=>d2f J (A0 J E0 J hv2) J<|S7 2 J<|a0J (x':=b6.Pv v2.1) (cl':=true) J J (.inr J) Ty.M5<|S8 1 J<|b9 ?_
 cases h
 exact⟨J,[_,_],⟨oL J J J Ty.U0 Ty.M5 nl J,⟨J,tr⟩⟩,J,io⟩

theorem a9y{a0 a1}:PO Tryz.prog 343 [.I a0,.I a1] (a3b a0 a1) λr=>.fn (.func 382) [.rptr [.I r.1],.rptr [.I r.2]]:=by
 refine pO Tryz.func343 λr h _ _=>?_
 unfold a3b at h
 refine S4 3 J<|S4 2 J<|b9 ?_
 cases h
 exact f1

theorem a9v{a0 a1}:PO Tryz.prog 383 [.I a0,.I a1] (Y9 a0 a1) λr=>.I r:=by
 refine pO Tryz.func383 λr h _ _=>?_
 refine S4 1 J<|j5<|S4 2 J ?_
 refine cN h (λhc h=>?_) λhc h=>?_
 ·refine S4 1 J ?_
  refine b9 ?_
  cases h
  exact f1
 ·refine c8 ?_
  refine S3 4 J<|B2 h λv1 hv1 h=>y0 J (b1k J J hv1)<|S2 1 J<|j5<|S4 2 J ?_
  refine cN h (λhc h=>?_) λhc h=>?_
  ·refine S6 4 J ?_
   refine S4 2 J<|b9 ?_
   cases h
   exact f1
  ·refine c8 ?_
   refine S4 2 J<|b9 ?_
   cases h
   exact f1

theorem a2T{a0 a1}:PO Tryz.prog 273 [.L b8.Pv a0,.I a1] (I8 a0 a1) λr=>.I r:=by
 refine pO Tryz.func273 λr h _ _=>?_
 refine S4 3 J ?_
 refine jq h (λ_=>St.of [(4,.ptr 2001 0 0)] [(2001,vR (.I 0) 1)]) (λq9 h=>?_) λκ8 h=>?_
 ·refine S4 1 J ?_
  refine b9 ?_
  cases h
  exact⟨J,[_],⟨oS J J J Ty.a3 J,tr⟩,J,io⟩
 ·refine S3 1 J ?_
  refine nL J Ty.e29<|S1 1 J<|cF h a9y J J λv10 _ h=>yN<|g8<|a1y (WPE (λl=>if l=2004 then 4 else if l=2005 then 3 else if l=2006 then 2 else l) [(2,.ptr 2006 0 0),(3,.ptr 2005 0 0),(4,.ptr 2004 0 0),(9,.fn (.func 382) [.rptr [.I v10.1],.rptr [.I v10.2]])] [(2004,vR (.I 0) 1),(2005,vR (.I a1) 1),(2006,vR (.L b8.Pv a0) 1)]) ?_
  refine a0m (fn:=Tryz.f382) (N1:=20) J Tryz.func382 J J nl J Ty.c8g J J (λl17 e18 o19 hR20=>?_)
  refine S4 2 J<|g8<|lq h (λs12=>St.of [(1000002,.ptr 2006 0 0),(1000003,.ptr 2005 0 0),(1000004,.ptr 2004 0 0),(1000009,.fn (.func 382) [.rptr [.I v10.1],.rptr [.I v10.2]]),(0,.fn (.yield l17) []),(1,.rptr [.I v10.1]),(2,.rptr [.I v10.2]),(5,.I v10.1),(6,.I s12)] [(2004,vR (.I 0) 1),(2005,vR (.I a1) 1),(2006,vR (.L b8.Pv a0) 1)]) W λs12 x13 h hx23=>S4 1 J<|j5 ?_
  refine cN h (λhc h=>?_) λhc h=>?_
  ·refine c8 ?_
   refine j5<|g8<|S4 2 J<|drY [] 8 Ty.mix (by kernel_rfl) (by kernel_rfl) (by kernel_rfl) (by kernel_rfl) nl<|S7 3 J<|B2 h λv14 hv24 h=>d2 J (L9 J a9v J hv24) J<|S7 3 J<|B2 h λv15 hv25 h=>d7 J (λ_ hN=>b1k J J hv25) J<|a6d<|c2H (WE [(1000002,.ptr 2006 0 0),(1000003,.ptr 2005 0 0),(1000004,.ptr 2004 0 0),(1000009,.fn (.func 382) [.rptr [.I v10.1],.rptr [.I v10.2]]),(0,.fn (.yield l17) []),(1,.rptr [.I v10.1]),(2,.rptr [.I v10.2]),(5,.I v10.1),(6,.I s12),(9,.fn (.yield l17) []),(16,.I v15)] [(2004,vR (.I 0) 1),(2005,vR (.I a1) 1),(2006,vR (.L b8.Pv a0) 1)]) ?_
   refine b3E J hR20 J J J J J J (λe26 o27 o28=>?_)
   refine S6 1 J ?_
   refine⟨J,?_⟩
   refine g8<|j5<|S3 2 J<|iL h J J Ty.e29 Ty.a95 λv16 hv29 h=>S2 3 J ?_
   refine cN h (λhc h=>?_) λhc h=>?_
   ·refine o8 ?_
    refine g6<|a5n (by decide) ?_
    refine⟨J,?_⟩
    refine⟨_,b3A [(1000002,.ptr 2006 0 0),(1000003,.ptr 2005 0 0),(1000004,.ptr 2004 0 0),(1000009,.fn (.func 382) [.rptr [.I v10.1],.rptr [.I v10.2]]),(0,.fn (.yield l17) []),(1,.rptr [.I v10.1]),(2,.rptr [.I v10.2]),(5,.I v10.1),(6,.I s12),(17,.bool false)] [(2004,vR (.I 0) 1),(2005,vR (.I a1) 1),(2006,vR (.L b8.Pv a0) 1)] ⟨J,J,J,J,J,J,J,J,J,J,J,J,J,J,J,J,J,J,J,J,J,J,J,J,J,J,J,J,J,J,tr⟩ ⟨rS,rS,rS,tr⟩,?_⟩
    refine S8 1 J ?_
    refine D8 true J (λ_=>?_) (λq=>nomatch q)
    refine b9 ?_
    refine .inr ⟨.exit 0,J,c9S ?_⟩
    refine l7 ?_
    have h:=xL hx23 h
    exact eJ h (WP (λl=>if l=2001 then 2004 else l))
   ·refine c8 ?_
    refine dr [] Ty.mix (by kernel_rfl) (by kernel_rfl)<|S7 2 J<|d0 J (a4b (f:=b8.Pv) (cs:=b8.Pc v16) hv29 J J Ty.e29 Ty.a95 J J) J<|S7 4 J<|a9i J (λhg=>oS J J J Ty.a29 J) J<|a6c J (λhg _ hN=>mI J) J<|a9i J (λhg=>a4b (f:=b8.Pv) (cs:=b8.Pc v16) hv29 (ct hg) (ct hg) Ty.e29 Ty.a95 J J) J<|a6c J (λhg _ hN=>a5K (ct hg) Ty.c1H J) J<|a9i J (λhg=>a1a (ct hg) Ty.a3 J) J<|a9i J (λhg=>oS J J J Ty.a3 J) J<|a6c J (λhg _ hN=>w8 (ct hg) (ct hg) J) J<|d7 J (λ_ hN=>r9 J J J (λq=>eqT q)) J<|a6d ?_
    refine cN h (λhc h=>?_) λhc h=>?_
    ·refine S4 2 J ?_
     refine b9 ?_
     refine⟨J,?_⟩
     refine⟨_,b3A [(1000002,.ptr 2006 0 0),(1000003,.ptr 2005 0 0),(1000004,.ptr 2004 0 0),(1000009,.fn (.func 382) [.rptr [.I v10.1],.rptr [.I v10.2]]),(0,.fn (.yield l17) []),(1,.rptr [.I v10.1]),(2,.rptr [.I v10.2]),(5,.I v10.1),(6,.I s12),(17,.bool false)] [(2004,vR (.I v15) 1),(2005,vR (.I a1) 1),(2006,vR (.L b8.Pv a0) 1)] ⟨J,J,J,J,J,J,J,J,J,J,J,J,J,J,J,J,J,J,J,J,J,J,J,J,J,J,J,J,J,J,tr⟩ ⟨rS,rS,rS,tr⟩,?_⟩
     refine S8 1 J ?_
     refine D8 true J (λ_=>?_) (λq=>nomatch q)
     refine b9 ?_
     refine .inr ⟨.ret,J,c4c ?_⟩
     have h:=xL hx23 h
     cases h
     exact⟨J,[_],⟨oS J J J Ty.a3 J,tr⟩,J,io⟩
    ·refine c8 ?_
     refine⟨J,?_⟩
     refine⟨_,b3A [(1000002,.ptr 2006 0 0),(1000003,.ptr 2005 0 0),(1000004,.ptr 2004 0 0),(1000009,.fn (.func 382) [.rptr [.I v10.1],.rptr [.I v10.2]]),(0,.fn (.yield l17) []),(1,.rptr [.I v10.1]),(2,.rptr [.I v10.2]),(5,.I v10.1),(6,.I s12),(17,.bool true)] [(2004,vR (.I 0) 1),(2005,vR (.I a1) 1),(2006,vR (.L b8.Pv a0) 1)] ⟨J,J,J,J,J,J,J,J,J,J,J,J,J,J,J,J,J,J,J,J,J,J,J,J,J,J,J,J,J,J,tr⟩ ⟨rS,rS,rS,tr⟩,?_⟩
     refine S8 1 J ?_
     refine D8 false J (λq=>nomatch q) (λ_=>?_)
     refine c8<|S6 2 J ?_
     exact eL h W
  ·refine o8 ?_
   refine g6<|g6<|l7 ?_
   refine .inl ⟨J,?_⟩
   have h:=xL hx23 h
   exact eJ h (WP (λl=>if l=2001 then 2004 else l))

theorem a3Z{a0 a1}:PO Tryz.prog 346 [.L b8.Pv a0,.I a1] (I0 a0 a1) λr=>.tup [.I r.1,.I r.2]:=by
 refine pO Tryz.func346 λr h _ _=>?_
 refine S4 2 J<|S3 2 J<|cA h a2T J J λv1 _ h=>S2 1 J<|j5<|S4 2 J ?_
 refine cN h (λhc h=>?_) λhc h=>?_
 ·refine S4 2 J ?_
  refine b9 ?_
  cases h
  exact f2
 ·refine c8 ?_
  refine S3 2 J<|iL h J J Ty.e29 Ty.a95 λv2 _ h=>S2 4 J<|b9 ?_
  cases h
  exact f2

theorem X9{a0}:PON Tryz.prog 353 [.L b8.Pv a0] (B0 a0) λr=>⟨List.map b8.Pv r,0,true,3,true⟩:=by
 refine pON Tryz.func353 λr h _ _=>?_
 unfold B0 at h
 refine S4 1 J<|j5<|S3 1 J<|b6j J Ty.e29 λb hb=>yN ?_
 refine D8 b J (λhc=>?_) (λhc=>?_)
 ·obtain rfl:a0 = []:=by simpa using hb hc
  refine S4 1 J<|a1y (R9 (t:=2) (l:=920000) (z:=3) J J)<|b9 ?_
  cases h
  exact⟨J,_,_,J,J,J,J⟩
 ·refine c8 ?_
  refine sR<|y0 J (b2M J Ty.e29 Ty.a95)<|S1 1 J<|y1 J (b6V (f:=b8.Pv) h J J (.inl ⟨_,J,J⟩) Ty.e29 Ty.a95 Ty.c7U Ty.c08 J (λ_=>J)) J<|S2 1 J<|b9 ?_
  exact⟨J,_,_,J,J,J,J⟩

theorem a5w{a0 a1 a2}:PO Tryz.prog 293 [.L b8.Pv a0,.I a1,b8.Pv a2] (a0M a0 a1 a2) λr=>.L b8.Pv r:=by
 refine pO Tryz.func293 λr h _ _=>?_
 unfold a0M at h
 refine S4 2 J<|S3 1 J<|B2 h λv1 hv1 h=>ycN J (b2L J X9 J hv1) J J<|S2 1 J<|S3 3 J<|B2 h λv2 hv2 h=>y0 J (a8t (f:=b8.Pv) hv2 J J J J Ty.e29 Ty.a95 J)<|b3D (f:=b8.Pv) (v:=a2) hv2 J J (.inl J) Ty.a95<|yN<|S4 2 J<|b9 ?_
 cases h
 exact f1

theorem a9u{a0 a1}:PO Tryz.prog 221 [.L b8.Pv a0,.I a1] (T6 a0 a1) λr=>.tup [.L b8.Pv r.1,.I r.2.1,.I r.2.2]:=by
 refine pO Tryz.func221 λr h _ _=>?_
 refine S4 3 J<|S3 2 J<|cA h a2T J J λv1 _ h=>S2 1 J<|j5<|S4 2 J ?_
 refine cN h (λhc h=>?_) λhc h=>?_
 ·refine S4 4 J ?_
  refine b9 ?_
  cases h
  exact f3
 ·refine c8 ?_
  refine dr [] Ty.mix (by kernel_rfl) (by kernel_rfl)<|S7 2 J<|d7 J (λ_ hN=>o0 (cs:=[.I 2,.I 0,.I 0]) J Ty.c4I Ty.c08 J J J) J<|B2 h λv2 hv2 h=>d2f J (A0 J a5w J hv2) J<|S7 2 J<|B2 h λv3 hv3 h=>d0 J (a4b (f:=b8.Pv) (cs:=b8.Pc v3) hv3 J J Ty.e29 Ty.a95 J J) J<|S8 5 J<|b9 ?_
  cases h
  exact f3

theorem b6J{a0 a1 a2}:PO Tryz.prog 393 [.L b8.Pv a0,.I a1,.I a2] (a6N a0 a1 a2) λr=>.tup [.L b8.Pv r.1,.I r.2]:=by
 refine pO Tryz.func393 λr h _ _=>?_
 refine S4 3 J<|S3 2 J<|y0 J (o0 (cs:=[.I 1,.I a1,.I a2]) J Ty.c4I Ty.c08 J J J)<|S2 2 J<|j5<|S3 2 J<|cA h a2T J J λv1 _ h=>S2 1 J<|S4 2 J ?_
 refine cN h (λhc h=>?_) λhc h=>?_
 ·refine S3 3 J ?_
  refine cF h a5w J J λv2 _ h=>S2 2 J<|b9 ?_
  cases h
  exact⟨J,[_,_],⟨oS J J J Ty.a29 J,⟨oS J J J Ty.a63 J,tr⟩⟩,J,io⟩
 ·refine c8 ?_
  refine jq h (λ_=>St.of [(3,.ptr 2004 0 0),(6,.ptr 2003 0 0),(7,.ptr 2002 0 0)] [(2002,vR (.I 0) 1),(2003,vR (.nl) 1),(2004,vR (.L b8.Pv a0) 1)]) (λq12 h=>?_) λκ11 h=>?_
  ·refine S4 3 J ?_
   refine b9 ?_
   cases h
   exact⟨J,[_,_],⟨oS J J J Ty.a29 J,⟨oS J J J Ty.a63 J,tr⟩⟩,J,io⟩
  ·refine S3 1 J ?_
   refine nL J Ty.e29<|S1 1 J<|cF h a9y J J λv13 _ h=>yN<|g8<|a1y (WPE (λl=>if l=2005 then 8 else if l=2006 then 7 else if l=2007 then 6 else if l=2008 then 3 else l) [(3,.ptr 2008 0 0),(6,.ptr 2007 0 0),(7,.ptr 2006 0 0),(8,.ptr 2005 0 0),(26,.fn (.func 382) [.rptr [.I v13.1],.rptr [.I v13.2]])] [(2005,vR (.agg [.I 1,.I a1,.I a2]) 3),(2006,vR (.I 0) 1),(2007,vR (.nl) 1),(2008,vR (.L b8.Pv a0) 1)]) ?_
   refine a0m (fn:=Tryz.f382) (N1:=20) J Tryz.func382 J J nl J Ty.c8g J J (λl20 e21 o22 hR23=>?_)
   refine S4 2 J<|g8<|lq h (λs15=>St.of [(1000003,.ptr 2008 0 0),(1000006,.ptr 2007 0 0),(1000007,.ptr 2006 0 0),(1000008,.ptr 2005 0 0),(1000026,.fn (.func 382) [.rptr [.I v13.1],.rptr [.I v13.2]]),(0,.fn (.yield l20) []),(1,.rptr [.I v13.1]),(2,.rptr [.I v13.2]),(5,.I v13.1),(6,.I s15)] [(2005,vR (.agg [.I 1,.I a1,.I a2]) 3),(2006,vR (.I 0) 1),(2007,vR (.nl) 1),(2008,vR (.L b8.Pv a0) 1)]) W λs15 x16 h hx26=>S4 1 J<|j5 ?_
   refine cN h (λhc h=>?_) λhc h=>?_
   ·refine c8 ?_
    refine j5<|g8<|S4 2 J<|drY [] 8 Ty.mix (by kernel_rfl) (by kernel_rfl) (by kernel_rfl) (by kernel_rfl) nl<|S7 3 J<|B2 h λv17 hv27 h=>d2 J (L9 J a9v J hv27) J<|S7 3 J<|B2 h λv18 hv28 h=>d7 J (λ_ hN=>b1k J J hv28) J<|a6d<|c2H (WE [(1000003,.ptr 2008 0 0),(1000006,.ptr 2007 0 0),(1000007,.ptr 2006 0 0),(1000008,.ptr 2005 0 0),(1000026,.fn (.func 382) [.rptr [.I v13.1],.rptr [.I v13.2]]),(0,.fn (.yield l20) []),(1,.rptr [.I v13.1]),(2,.rptr [.I v13.2]),(5,.I v13.1),(6,.I s15),(9,.fn (.yield l20) []),(16,.I v18)] [(2005,vR (.agg [.I 1,.I a1,.I a2]) 3),(2006,vR (.I 0) 1),(2007,vR (.nl) 1),(2008,vR (.L b8.Pv a0) 1)]) ?_
    refine b3E J hR23 J J J J J J (λe29 o30 o31=>?_)
    refine S6 1 J ?_
    refine⟨J,?_⟩
    refine g8<|S3 2 J<|iL h J J Ty.e29 Ty.a95 λv19 _ h=>S2 3 J ?_
    refine cN h (λhc h=>?_) λhc h=>?_
    ·refine S3 3 J ?_
     refine cF h a5w J J λv20 _ h=>S2 2 J<|b9 ?_
     refine⟨J,?_⟩
     refine⟨_,b3A [(1000003,.ptr 2008 0 0),(1000006,.ptr 2007 0 0),(1000007,.ptr 2006 0 0),(1000008,.ptr 2005 0 0),(1000026,.fn (.func 382) [.rptr [.I v13.1],.rptr [.I v13.2]]),(0,.fn (.yield l20) []),(1,.rptr [.I v13.1]),(2,.rptr [.I v13.2]),(5,.I v13.1),(6,.I s15),(17,.bool false)] [(2005,vR (.agg [.I 1,.I a1,.I a2]) 3),(2006,vR (.I 0) 1),(2007,vR (.L b8.Pv v20) 1),(2008,vR (.L b8.Pv a0) 1)] ⟨J,J,J,J,J,J,J,J,J,J,J,J,J,J,J,J,J,J,J,J,J,J,J,J,J,J,J,J,J,J,J,J,J,tr⟩ ⟨rS,rS,rS,rS,tr⟩,?_⟩
     refine S8 1 J ?_
     refine D8 true J (λ_=>?_) (λq=>nomatch q)
     refine b9 ?_
     refine .inr ⟨.ret,J,c4c ?_⟩
     have h:=xL hx26 h
     cases h
     exact⟨J,[_,_],⟨oS J J J Ty.a29 J,⟨oS J J J Ty.a63 J,tr⟩⟩,J,io⟩
    ·refine c8 ?_
     refine⟨J,?_⟩
     refine⟨_,b3A [(1000003,.ptr 2008 0 0),(1000006,.ptr 2007 0 0),(1000007,.ptr 2006 0 0),(1000008,.ptr 2005 0 0),(1000026,.fn (.func 382) [.rptr [.I v13.1],.rptr [.I v13.2]]),(0,.fn (.yield l20) []),(1,.rptr [.I v13.1]),(2,.rptr [.I v13.2]),(5,.I v13.1),(6,.I s15),(17,.bool true)] [(2005,vR (.agg [.I 1,.I a1,.I a2]) 3),(2006,vR (.I 0) 1),(2007,vR (.nl) 1),(2008,vR (.L b8.Pv a0) 1)] ⟨J,J,J,J,J,J,J,J,J,J,J,J,J,J,J,J,J,J,J,J,J,J,J,J,J,J,J,J,J,J,J,J,J,tr⟩ ⟨rS,rS,rS,rS,tr⟩,?_⟩
     refine S8 1 J ?_
     refine D8 false J (λq=>nomatch q) (λ_=>?_)
     refine c8<|S6 2 J ?_
     exact eL h W
   ·refine o8 ?_
    refine g6<|g6<|l7 ?_
    refine .inl ⟨J,?_⟩
    have h:=xL hx26 h
    exact eJ h (WP (λl=>if l=2004 then 2008 else if l=2003 then 2007 else if l=2002 then 2006 else l))

theorem b46{a0 a1 a2}:PO Tryz.prog 374 [.L b8.Pv a0,.I a1,.I a2] (T3 a0 a1 a2) λr=>.tup [.L b8.Pv r.1,.I r.2.1,.I r.2.2]:=by
 refine pO Tryz.func374 λr h _ _=>?_
 refine S4 3 J<|j5<|S4 2 J ?_
 refine cN h (λhc h=>?_) λhc h=>?_
 ·refine S4 4 J ?_
  refine b9 ?_
  cases h
  exact f3
 ·refine c8 ?_
  refine S3 2 J<|cA h a3Z J J λv1 _ h=>S2 5 J<|j5<|S4 2 J ?_
  refine cN h (λhc h=>?_) λhc h=>?_
  ·refine S3 2 J ?_
   refine cF h a9u J J λv2 _ h=>S2 7 J<|S4 5 J<|b9 ?_
   cases h
   exact f3
  ·refine c8 ?_
   refine S3 3 J<|cF h b6J J J λv3 _ h=>S2 5 J<|j5<|S4 2 J ?_
   refine cN h (λhc h=>?_) λhc h=>?_
   ·refine S4 5 J ?_
    refine b9 ?_
    cases h
    exact f3
   ·refine c8 ?_
    refine S4 5 J<|b9 ?_
    cases h
    exact f3

theorem a6r{a0 a1}:PO Tryz.prog 375 [F4.Pv a0,b6.Pv a1] (R1 a0 a1) λr=>b6.Pv r:=by
 refine pO Tryz.func375 λr h _ _=>?_
 unfold R1 at h
 refine S4 3 J<|S4 4 J<|S4 2 J<|b9 ?_
 cases h
 exact⟨J,[_],⟨oL J J J Ty.U0 Ty.M5 nl J,tr⟩,J,io⟩

theorem a0z{a0 a1 a2 a3}:PO Tryz.prog 184 [b6.Pv a0,.I a1,.I a2,.abs (BFn 375 [F4.Pv a3])] (G5 a0 a1 a2 a3) λr=>b6.Pv r:=by
 refine pO Tryz.func184 λr h _ _=>?_
 refine S4 2 J<|S3 3 J<|cF h a01 J J λv1 _ h=>B2 h λv2 hv2 h=>b6i (xs:=[b6.Pv v1]) J J Ty.c9Z J (a6r.2 _ hv2)<|S1 1 J<|cF h a0u J J λv3 _ h=>S2 1 J<|b9 ?_
 cases h
 exact⟨J,[_],⟨oL J J J Ty.U0 Ty.M5 nl J,tr⟩,J,io⟩

theorem b5l{a0 a1 a2}:PO Tryz.prog 321 [b6.Pv a0,.I a1,.I a2] (a3c a0 a1 a2) λr=>.tup [b6.Pv r.1,.I r.2]:=by
 refine pO Tryz.func321 λr h _ _=>?_
 refine S4 3 J<|j5<|S4 2 J ?_
 refine cN h (λhc h=>?_) λhc h=>?_
 ·refine S4 3 J ?_
  refine b9 ?_
  cases h
  exact⟨J,[_,_],⟨oL J J J Ty.U0 Ty.M5 nl J,⟨J,tr⟩⟩,J,io⟩
 ·refine c8 ?_
  refine j5<|S3 2 J<|cA h K5 J J λv1 _ h=>S1 2 J<|j8 J (λhg=>oL J J J Ty.U0 Ty.M5 nl J)<|j8 J (λhg=>mI J)<|B2 h λv2 hv2 h=>j8 J (λhg=>L9 J K5 (L1 (ct hg) (L1 (ct hg) J)) (W9 hv2 hg))<|j8 J (λhg=>a2Q (ct hg) J)<|y0 J (F0 J J J (λq=>eqF q))<|yN ?_
  refine cN h (λhc h=>?_) λhc h=>?_
  ·refine S4 3 J ?_
   refine b9 ?_
   cases h
   exact⟨J,[_,_],⟨oL J J J Ty.U0 Ty.M5 nl J,⟨J,tr⟩⟩,J,io⟩
  ·refine c8 ?_
   refine S3 4 J<|cF h b46 J J λv3 _ h=>S2 7 J<|j5<|S4 2 J ?_
   refine cN h (λhc h=>?_) λhc h=>?_
   ·refine S4 4 J ?_
    refine b9 ?_
    cases h
    exact⟨J,[_,_],⟨oL J J J Ty.U0 Ty.M5 nl J,⟨J,tr⟩⟩,J,io⟩
   ·refine c8 ?_
    refine S3 4 J<|y0 J (o0 (cs:=[.L b8.Pv v3.1]) J Ty.c99 Ty.d0G J J J)<|y0 J (b0I (d:=.agg [.L b8.Pv v3.1]) J)<|cF h a0z J J λv4 _ h=>S2 2 J<|b9 ?_
    cases h
    exact⟨J,[_,_],⟨oL J J J Ty.U0 Ty.M5 nl J,⟨J,tr⟩⟩,J,io⟩

theorem a2k{a0}:PO Tryz.prog 249 [n7.Pv a0] (V5 a0) λr=>.tup [b6.Pv r.1,.I r.2]:=by
 refine pO Tryz.func249 λr h _ _=>?_
 refine S4 3 J<|S3 5 J<|cA h M2 J J λv1 _ h=>S2 5 J<|j5<|S4 2 J ?_
 refine cN h (λhc h=>?_) λhc h=>?_
 ·refine S4 5 J ?_
  refine b9 ?_
  cases h
  exact⟨J,[_,_],⟨oL J J J Ty.U0 Ty.M5 nl J,⟨J,tr⟩⟩,J,io⟩
 ·refine c8 ?_
  refine dr [] Ty.mix (by kernel_rfl) (by kernel_rfl)<|S7 8 J<|B2 h λv2 hv2 h=>d2 J (L9 J J2 J hv2) J<|B2 h λv3 hv3 h=>d2f J (A0 J b5l J hv3) J<|S7 2 J<|a0J (x':=b6.Pv v3.1) (cl':=true) J J (.inr J) Ty.M5<|S8 1 J<|b9 ?_
  cases h
  exact⟨J,[_,_],⟨oL J J J Ty.U0 Ty.M5 nl J,⟨J,tr⟩⟩,J,io⟩

theorem b45{a0 a1}:PO Tryz.prog 322 [.L b8.Pv a0,.I a1] (b0t a0 a1) λr=>.tup [.I r.1,.I r.2]:=by
 refine pO Tryz.func322 λr h _ _=>?_
 refine S4 2 J<|S3 2 J<|cA h a3Z J J λv1 _ h=>S2 4 J<|b9 ?_
 cases h
 exact f2

theorem a2O{a0}:PO Tryz.prog 250 [n7.Pv a0] (Z1 a0) λr=>.tup [b6.Pv r.1,.I r.2]:=by
 refine pO Tryz.func250 λr h _ _=>?_
 refine S4 3 J<|S3 5 J<|cA h M2 J J λv1 _ h=>S2 5 J<|j5<|S4 2 J ?_
 refine cN h (λhc h=>?_) λhc h=>?_
 ·refine S4 5 J ?_
  refine b9 ?_
  cases h
  exact⟨J,[_,_],⟨oL J J J Ty.U0 Ty.M5 nl J,⟨J,tr⟩⟩,J,io⟩
 ·refine c8 ?_
  refine dr [] Ty.mix (by kernel_rfl) (by kernel_rfl)<|S7 5 J<|B2 h λv2 hv2 h=>d2 J (L9 J b45 J hv2) J<|S7 2 J<|B2 h λv3 hv3 h=>d2f J (A0 J E0 J hv3) J<|S7 2 J<|a0J (x':=b6.Pv v3.1) (cl':=true) J J (.inr J) Ty.M5<|S8 1 J<|b9 ?_
  cases h
  exact⟨J,[_,_],⟨oL J J J Ty.U0 Ty.M5 nl J,⟨J,tr⟩⟩,J,io⟩

theorem a1w{a0}:PO Tryz.prog 251 [n7.Pv a0] (L2 a0) λr=>.tup [b6.Pv r.1,.I r.2]:=by
 refine pO Tryz.func251 λr h _ _=>?_
 unfold L2 at h
 refine S4 3 J<|S4 4 J<|b9 ?_
 cases h
 exact⟨J,[_,_],⟨oL J J J Ty.U0 Ty.M5 nl J,⟨J,tr⟩⟩,J,io⟩

theorem b75{f:Fv}{a0:n7}{r:b6 × Int}(h:b1R f a0=some r):∃n,f=some n∧y5 Tryz.prog n∧O9 Tryz.prog n [n7.Pv a0] (.tup [b6.Pv r.1,.I r.2]):=by
 unfold b1R at h
 by_cases e242:f=some 242
 ·rw[if_pos e242] at h;exact⟨242,e242,(@a08 a0).1,(@a08 a0).2 _ h⟩
 rw[if_neg e242] at h
 by_cases e243:f=some 243
 ·rw[if_pos e243] at h;exact⟨243,e243,(@Z9 a0).1,(@Z9 a0).2 _ h⟩
 rw[if_neg e243] at h
 by_cases e244:f=some 244
 ·rw[if_pos e244] at h;exact⟨244,e244,(@a2i a0).1,(@a2i a0).2 _ h⟩
 rw[if_neg e244] at h
 by_cases e245:f=some 245
 ·rw[if_pos e245] at h;exact⟨245,e245,(@a2j a0).1,(@a2j a0).2 _ h⟩
 rw[if_neg e245] at h
 by_cases e246:f=some 246
 ·rw[if_pos e246] at h;exact⟨246,e246,(@a1x a0).1,(@a1x a0).2 _ h⟩
 rw[if_neg e246] at h
 by_cases e247:f=some 247
 ·rw[if_pos e247] at h;exact⟨247,e247,(@a09 a0).1,(@a09 a0).2 _ h⟩
 rw[if_neg e247] at h
 by_cases e248:f=some 248
 ·rw[if_pos e248] at h;exact⟨248,e248,(@a3u a0).1,(@a3u a0).2 _ h⟩
 rw[if_neg e248] at h
 by_cases e249:f=some 249
 ·rw[if_pos e249] at h;exact⟨249,e249,(@a2k a0).1,(@a2k a0).2 _ h⟩
 rw[if_neg e249] at h
 by_cases e250:f=some 250
 ·rw[if_pos e250] at h;exact⟨250,e250,(@a2O a0).1,(@a2O a0).2 _ h⟩
 rw[if_neg e250] at h
 by_cases e251:f=some 251
 ·rw[if_pos e251] at h;exact⟨251,e251,(@a1w a0).1,(@a1w a0).2 _ h⟩
 rw[if_neg e251] at h
 cases h

theorem a4C{a0}:PO Tryz.prog 177 [.I a0] (a0i a0) λr=>.bool r:=by
 refine pO Tryz.func177 λr h _ _=>?_
 unfold a0i at h
 refine S4 1 J<|S4 4 J<|b9 ?_
 cases h
 exact f1

theorem a8G{a0 a1}:PO Tryz.prog 104 [.I a0,.I a1] (a2z a0 a1) λr=>.I r:=by
 refine pO Tryz.func104 λr h _ _=>?_
 refine S4 1 J<|S3 1 J<|cA h a4C J J λv1 _ h=>S2 1 J<|S3 1 J<|cA h a4C J J λv2 _ h=>S2 1 J<|j5<|S4 1 J ?_
 refine cN h (λhc h=>?_) λhc h=>?_
 ·refine j5 ?_
  refine S4 1 J ?_
  refine cN h (λhc h=>?_) λhc h=>?_
  ·refine S4 1 J ?_
   refine b9 ?_
   cases h
   exact f1
  ·refine c8 ?_
   refine S4 1 J<|b9 ?_
   cases h
   exact f1
 ·refine c8 ?_
  refine j5<|S4 1 J ?_
  refine cN h (λhc h=>?_) λhc h=>?_
  ·refine S4 1 J ?_
   refine b9 ?_
   cases h
   exact f1
  ·refine c8 ?_
   refine j5<|S4 3 J ?_
   refine cN h (λhc h=>?_) λhc h=>?_
   ·refine S4 1 J ?_
    refine b9 ?_
    cases h
    exact f1
   ·refine c8 ?_
    refine j5<|S4 3 J ?_
    refine cN h (λhc h=>?_) λhc h=>?_
    ·refine S4 1 J ?_
     refine b9 ?_
     cases h
     exact f1
    ·refine c8 ?_
     refine S4 1 J<|b9 ?_
     cases h
     exact f1

theorem b1I{a0 a1 a2}:PO Tryz.prog 103 [.I a0,.I a1,.rptr [.abs (S9 (List.map (ent iF iF) a2))]] (a21 a0 a1 a2) λr=>.I r:=by
 refine pO Tryz.func103 λr h _ _=>?_
 refine S4 1 J<|S3 2 J<|y0 J (b6W (es:=a2) (k:=a0) (E:=iF) (EK:=iF) (d:=.I ((r8 a2 a0).getD (0:Int))) J J Ty.c2p (s7 Ty.u3) Ty.z3 J (lk1 _ _ _))<|S1 2 J<|y0 J (b6W (es:=a2) (k:=a1) (E:=iF) (EK:=iF) (d:=.I ((r8 a2 a1).getD (0:Int))) J J Ty.c2p (s7 Ty.u3) Ty.z3 J (lk1 _ _ _))<|cA h a8G J J λv1 _ h=>S2 1 J<|b9 ?_
 cases h
 exact f1

theorem C4{a0}:PO Tryz.prog 41 [a7.Pv a0] (y4 a0) λr=>.L iF r:=by
 refine pO Tryz.func41 λr h _ _=>?_
 refine S4 2 J<|S4 1 J<|sR<|b3C (KT:=Int) (VT:=Int) (EK:=iF) (E:=iF) 5000008 J J<|S2 2 J ?_
 refine jq h (λq=>St.of [(3,.sl 910003),(4,.ptr 4 0 0)] [(4,vS (.mp 5000008) 1),(5000008,⟨[.mapc (List.map (ent iF iF) q.1)],0,false,0,false⟩),(910003,⟨List.map iF q.2,0,true,1,true⟩)]) (λq20 h=>?_) λκ17 h=>?_
 ·obtain⟨j18,j19⟩:=q20
  refine S3 2 J<|G9 (Wk.trans (c5h 5000008 nl J) (c7z 4 0 5000008 J J J J))<|B2 h λv21 hv12 h=>c7C hv12 J J Ty.c9T c7q J J J Ty.c9U J J J J J (λp q r h=>b1I.2 r h)<|yN<|S4 2 J<|b9 ?_
  cases h
  exact f1
 ·refine S3 3 J ?_
  refine nL J Ty.e22<|S2 1 J<|g8<|lq h (λq=>St.of [(3,.sl 910003),(4,.ptr 4 0 0),(11,.L b7.Pv a0.S.a8),(12,.I (a0.S.a8.length:Int)),(13,.I q.1)] [(4,vS (.mp 5000008) 1),(5000008,⟨[.mapc (List.map (ent iF iF) q.2.1)],0,false,0,false⟩),(910003,⟨List.map iF q.2.2,0,true,1,true⟩)]) (Wk.trans (R9 (t:=3) (l:=920003) (z:=1) J J) (WP (λl=>if l=910003 then 920003 else l))) λq27 x26 h hx15=>?_
  obtain⟨s23,s24,s25⟩:=q27
  refine S4 1 J<|j5 ?_
  refine cN h (λhc h=>?_) λhc h=>?_
  ·refine c8 ?_
   refine jq h (λq=>St.of [(3,.sl 33),(4,.ptr 4 0 0),(11,.L b7.Pv a0.S.a8),(12,.I (a0.S.a8.length:Int)),(13,.I s23)] [(4,vS (.mp 5000008) 1),(5000008,⟨[.mapc (List.map (ent iF iF) q.1)],0,false,0,false⟩),(33,⟨List.map iF q.2,0,true,1,true⟩)]) (λq34 h=>?_) λκ31 h=>?_
   ·obtain⟨j32,j33⟩:=q34
    refine S6 2 J ?_
    exact eL h (WP (λl=>if l=910003 then 33 else l))
   ·refine g8 ?_
    refine S3 1 J<|iL h J J Ty.e22 Ty.a6v λv35 _ h=>S2 4 J<|S4 3 J ?_
    refine cN h (λhc h=>?_) λhc h=>?_
    ·refine S3 3 J ?_
     refine cA h a3p J J λv36 _ h=>S2 1 J<|S3 5 J<|U8 (es:=s24) (k:=v36) (v:=v35.Val.Serial) (E:=iF) (EK:=iF) (.inl J) J J J J J J Ty.c2p (s7 Ty.u3)<|yN<|S5 2 J<|y0 J (Q2 (f:=iF) (l:=[v36]) J Ty.D0 Ty.s3 Ty.z3 J J nl J J)<|B2 h λv37 hv22 h=>c87 (f:=iF) (b:=8) [(4,.ptr 4 0 0),(11,.L b7.Pv a0.S.a8),(12,.I (a0.S.a8.length:Int)),(13,.I s23),(14,.bool (decide (s23<(a0.S.a8.length:Int)))),(15,.I s23),(16,.rptr (b7.Pc v35)),(17,b7.Pv v35),(6,.ptr 6 0 0),(5,.I s23),(18,.ptr 6 0 0),(19,.I v35.State),(20,.bool (v35.State==1)),(21,.I s23),(22,.ptr 6 0 1),(23,.I v35.Gen),(24,.I v36),(7,.I v36),(25,.mp 5000008),(26,.I v36),(27,.ptr 6 0 2),(28,.ptr 6 0 2),(29,.I v35.Val.Serial),(31,.I v36),(32,.K6 true (List.map iF [v36]))] [(6,vR (b7.Pv v35) 8),(5000008,⟨[.mapc (List.map (ent iF iF) (m9 s24 v36 v35.Val.Serial))],0,false,0,false⟩),(4,vS (.mp 5000008) 1)] J hv22 ⟨J,J,J,J,J,J,J,J,J,J,J,J,J,J,J,J,J,J,J,J,J,J,J,J,J,J,J,J,J,J,J,J,J,J,J,J,J,J,J,J,J,J,J,J,J,J,J,J,J,J,J,J,J,J,J,J,J,J,J,J,J,J,J,J,J,J,J,J,J,J,J,J,J,J,J,tr⟩ ⟨rS,a1S J J J (λq=>nomatch q) J J J J,a1S J J J (λq=>nomatch q) J J J J,tr⟩ J J J J (.inl ⟨_,J,J⟩) Ty.D0 Ty.s3 Ty.b3 Ty.z3 J (λ_=>J)<|S2 1 J ?_
     exact eJ h W
    ·refine c8 ?_
     exact eJ h (WP (λl=>if l=33 then 910003 else l))
  ·refine o8 ?_
   refine g6<|g6<|l7 ?_
   have h:=xL hx15 h
   exact eJ h W

theorem b3l{a0}:PO Tryz.prog 133 [b6.Pv a0] (a0S a0) λr=>.L iF r:=by
 refine pO Tryz.func133 λr h _ _=>?_
 refine S4 2 J<|S4 1 J ?_
 refine jq h (λj16=>St.of [(3,.sl 910003)] [(910003,⟨List.map iF j16,(List.map iF j16).length,true,1,true⟩)]) (λj16 h=>?_) λκ15 h=>?_
 ·refine S4 2 J ?_
  refine b9 ?_
  cases h
  exact f1
 ·refine S3 2 J ?_
  refine cF h C4 J J λv17 _ h=>nL J Ty.D0<|S2 1 J<|g8<|lq h (λq=>St.of [(1,.ptr 1 0 0),(3,.sl 910003),(10,.L iF v17),(11,.I (v17.length:Int)),(12,.I q.1)] [(1,vR (b6.Pv a0) 8),(910003,⟨List.map iF q.2,(List.map iF q.2).length,true,1,true⟩)]) (Wk.trans (R9 (t:=3) (l:=920003) (z:=1) J J) (WP (λl=>if l=910003 then 920003 else l))) λq22 x21 h hx16=>?_
  obtain⟨s19,s20⟩:=q22
  refine S4 1 J<|j5 ?_
  refine cN h (λhc h=>?_) λhc h=>?_
  ·refine c8 ?_
   refine jq h (λj27=>St.of [(1,.ptr 1 0 0),(3,.sl 29),(10,.L iF v17),(11,.I (v17.length:Int)),(12,.I s19)] [(29,⟨List.map iF j27,(List.map iF j27).length,true,1,true⟩),(1,vR (b6.Pv a0) 8)]) (λj27 h=>?_) λκ26 h=>?_
   ·refine S6 2 J ?_
    exact eL h (Wk.trans (n8 _ [29]) (WP (λl=>if l=910003 then 29 else l)))
   ·refine g8 ?_
    refine sR<|iL h J J Ty.D0 Ty.s3 λv28 _ h=>S2 2 J<|S3 3 J<|cF h w7 J J λv29 _ h=>S2 6 J<|S4 3 J ?_
    refine cN h (λhc h=>?_) λhc h=>?_
    ·refine S5 2 J ?_
     refine y0 J (Q2 (f:=iF) (l:=[v28]) J Ty.D0 Ty.s3 Ty.z3 J J nl J J)<|B2 h λv30 hv23 h=>Y5 J (V6 (f:=iF) hv23 J J J J J J (.inl ⟨_,J,J⟩) Ty.D0 Ty.s3 Ty.b3 Ty.z3 J (λ_=>J)) J J J<|S2 1 J ?_
     exact eJ h (Wk.trans (n8 _ [29]) W)
    ·refine c8 ?_
     exact eJ h (Wk.trans (n8 _ [910003]) (WP (λl=>if l=29 then 910003 else l)))
  ·refine o8 ?_
   refine g6<|g6<|l7 ?_
   have h:=xL hx16 h
   exact eJ h (Wk.trans (n8 _ [910003]) W)

theorem a4i{a0}:PO Tryz.prog 129 [k9.Pv a0] (I4 a0) λr=>.bool r:=by
 refine pO Tryz.func129 λr h _ _=>?_
 unfold I4 at h
 refine S4 2 J<|S3 4 J<|j8 J (λhg=>oF J Ty.b47 J)<|j8 J (λhg=>oS (ct hg) J J Ty.a4 J)<|j8 J (λhg=>a2Q (ct hg) J)<|y0 J (r9 J J J (λq=>eqT q))<|S2 1 J<|b9 ?_
 cases h
 exact f1

theorem a1c{a0}:PO Tryz.prog 286 [c9.Pv a0] (O4 a0) λr=>.I r:=by
 refine pO Tryz.func286 λr h _ _=>?_
 unfold O4 at h
 refine S4 2 J<|S3 2 J<|nL J Ty.e30<|S2 1 J<|b9 ?_
 cases h
 exact f1

theorem a4V{a0 a1 a2}:PO Tryz.prog 287 [.L g7.Pv a0,.I a1,.I a2] (M4 a0 a1 a2) λr=>.K6 true (List.map g7.Pv r):=by
 refine pO Tryz.func287 λr h _ _=>?_
 unfold M4 at h
 refine S4 1 J<|S3 4 J<|B2 h λv1 hv1 h=>y0 J (c2u (f:=g7.Pv) hv1 J ⟨_,J⟩ ⟨_,J⟩ ⟨_,J⟩ J J Ty.e30 Ty.s79 (λ_=>J))<|S2 1 J<|b9 ?_
 cases h
 exact f1

theorem a4U{a0 a1}:PO Tryz.prog 217 [c9.Pv a0,g7.Pv a1] (M3 a0 a1) λr=>.tup [c9.Pv r.1,.I r.2]:=by
 refine pO Tryz.func217 λr h _ _=>?_
 unfold M3 at h
 refine S4 4 J<|j5<|dr [] Ty.mix (by kernel_rfl) (by kernel_rfl)<|S7 1 J<|B2 h λv1 hv1 h=>d2 J (L9 J a1c J hv1) J<|S8 3 J ?_
 refine cN h (λhc h=>?_) λhc h=>?_
 ·refine S4 3 J ?_
  refine b9 ?_
  cases h
  exact⟨J,[_,_],⟨oL J J J Ty.a32 Ty.s32 nl J,⟨J,tr⟩⟩,J,io⟩
 ·refine c8 ?_
  refine dr [] Ty.mix (by kernel_rfl) (by kernel_rfl)<|S7 3 J<|d2 J (L9 J a1c J hv1) J<|B2 h λv2 hv2 h=>d2f J (A0 J a4V J hv2) J<|S7 1 J<|d1n J (Q2 (f:=g7.Pv) (l:=[a1]) J Ty.e30 Ty.s79 Ty.z79 J J nl J J) J<|B2 h λv3 hv3 h=>d3 J (b6V (f:=g7.Pv) hv3 J J (.inl ⟨_,J,J⟩) Ty.e30 Ty.s79 Ty.b79 Ty.z79 J (λ_=>J)) J J J<|S7 1 J<|a0J (x':=.agg [.sl 19,.I a0.Cap]) (cl':=false) J J (.inl J) Ty.s30<|a6d<|S4 3 J<|b9 ?_
  cases h
  exact⟨J,[_,_],⟨oL J J J Ty.a32 Ty.s32 nl J,⟨J,tr⟩⟩,J,io⟩

theorem b1s{a0 a1}:PO Tryz.prog 131 [c9.Pv a0,g7.Pv a1] (a7o a0 a1) λr=>.tup [c9.Pv r.1,.I r.2]:=by
 refine pO Tryz.func131 λr h _ _=>?_
 refine S4 4 J<|S3 2 J<|cF h a4U J J λv1 _ h=>S2 4 J<|b9 ?_
 cases h
 exact⟨J,[_,_],⟨oL J J J Ty.a32 Ty.s32 nl J,⟨J,tr⟩⟩,J,io⟩

theorem a48{a0 a1}:PO Tryz.prog 63 [b6.Pv a0,.I a1] (N8 a0 a1) λr=>b6.Pv r:=by
 refine pO Tryz.func63 λr h _ _=>?_
 refine S4 2 J<|S3 3 J<|cF h w7 J J λv1 _ h=>S2 6 J<|j5<|S3 3 J<|j8 J (λhg=>oL J J J Ty.c1e Ty.a47 nl J)<|B2 h λv2 hv2 h=>j8 J (λhg=>L9 J a4i (L1 (ct hg) J) (W9 hv2 hg))<|j8 J (λhg=>a2Q (ct hg) J)<|y0 J (F0 J J J (λq=>eqF q))<|yN ?_
 refine cN h (λhc h=>?_) λhc h=>?_
 ·refine S4 2 J ?_
  refine b9 ?_
  cases h
  exact⟨J,[_],⟨oL J J J Ty.U0 Ty.M5 nl J,tr⟩,J,io⟩
 ·refine c8 ?_
  refine S4 2 J<|S3 4 J<|cF h Z6 J J λv3 _ h=>S2 5 J<|S3 5 J<|y0 J (o0 (cs:=[.I 1,.I a1,.I v1.1.Prog]) J Ty.p79 Ty.z79 J J J)<|cF h b1s J J λv4 _ h=>S2 5 J<|S3 2 J<|cF h a01 J J λv5 _ h=>S2 1 J<|b9 ?_
  cases h
  exact⟨J,[_],⟨oL J J J Ty.U0 Ty.M5 nl J,tr⟩,J,io⟩

theorem a8a{a0 a1}:PO Tryz.prog 134 [b6.Pv a0,.L iF a1] (P7 a0 a1) λr=>.L iF r:=by
 refine pO Tryz.func134 λr h _ _=>?_
 refine S4 2 J<|sR<|b3C (KT:=Int) (VT:=Bool) (EK:=iF) (E:=PV.bool) 5000011 J J<|S2 1 J<|S4 1 J ?_
 refine jq h (λj18=>St.of [(6,.sl 910006)] [(910006,⟨List.map iF j18,(List.map iF j18).length,true,1,true⟩)]) (λj18 h=>?_) λκ17 h=>?_
 ·refine S4 2 J ?_
  refine b9 ?_
  cases h
  exact f1
 ·refine S3 1 J ?_
  refine nL J Ty.D0<|S2 1 J<|g8<|lq h (λq=>St.of [(2,.ptr 2 0 0),(5,.mp 5000011),(6,.sl 910006),(12,.L iF a1),(13,.I (a1.length:Int)),(14,.I q.1)] [(5000011,⟨[.mapc (List.map (ent iF PV.bool) q.2.1)],0,false,0,false⟩),(2,vR (b6.Pv a0) 8),(910006,⟨List.map iF q.2.2,(List.map iF q.2.2).length,true,1,true⟩)]) (Wk.trans (R9 (t:=6) (l:=920006) (z:=1) J J) (WP (λl=>if l=910006 then 920006 else l))) λq24 x23 h hx16=>?_
  obtain⟨s20,s21,s22⟩:=q24
  refine S4 1 J<|j5 ?_
  refine cN h (λhc h=>?_) λhc h=>?_
  ·refine c8 ?_
   refine jq h (λq=>St.of [(2,.ptr 2 0 0),(5,.mp 5000011),(6,.sl 38),(12,.L iF a1),(13,.I (a1.length:Int)),(14,.I s20)] [(38,⟨List.map iF q.1,(List.map iF q.1).length,true,1,true⟩),(5000011,⟨[.mapc (List.map (ent iF PV.bool) q.2)],0,false,0,false⟩),(2,vR (b6.Pv a0) 8)]) (λq31 h=>?_) λκ28 h=>?_
   ·obtain⟨j29,j30⟩:=q31
    refine S6 2 J ?_
    exact eL h (Wk.trans (n8 _ [38]) (WP (λl=>if l=910006 then 38 else l)))
   ·refine g8 ?_
    refine sR<|iL h J J Ty.D0 Ty.s3 λv32 _ h=>S2 2 J<|S3 3 J<|cF h w7 J J λv33 _ h=>S2 6 J<|S3 3 J<|j8 J (λhg=>om (d:=.mp 5000011) J)<|j8 J (λhg=>mI J) ?_
    rcases Bool.eq_false_or_eq_true ((v33.2==0)==true) with hg24 | hg24
    ·have h:=ifT h hg24
     refine b7G (es:=s21) (k:=v32) (E:=PV.bool) (EK:=iF) (d:=.bool ((r8 s21 v32).getD (false:Bool))) (congrArg some hg24) (ct hg24) J (ct hg24) Ty.a8s (s7 Ty.u3) Ty.z4 J (lk1 _ _ _)<|y0 (congrArg some hg24) (a2Q J J)<|y0 J (a4d J J hg24)<|yN ?_
     refine cN h (λhc h=>?_) λhc h=>?_
     ·refine S3 2 J ?_
      refine U8 (es:=s21) (k:=v32) (v:=true) (E:=PV.bool) (EK:=iF) (.inl J) J J J J J J Ty.a8s (s7 Ty.u3)<|yN<|S5 2 J<|y0 J (Q2 (f:=iF) (l:=[v32]) J Ty.D0 Ty.s3 Ty.z3 J J nl J J)<|B2 h λv34 hv25 h=>Y5 J (V6 (f:=iF) hv25 J J J J J J (.inl ⟨_,J,J⟩) Ty.D0 Ty.s3 Ty.b3 Ty.z3 J (λ_=>J)) J J J<|S2 1 J ?_
      exact eJ h (Wk.trans (n8 _ [38]) W)
     ·refine c8 ?_
      exact eJ h (Wk.trans (n8 _ [910006]) (WP (λl=>if l=38 then 910006 else l)))
    ·have h:=ifF h hg24
     refine U9 (congrArg some hg24)<|U9 (congrArg some hg24)<|y0 J (a4c J J hg24)<|yN ?_
     refine D8 false J (λq=>nomatch q) (λ_=>?_)
     refine c8 ?_
     exact eJ h (Wk.trans (n8 _ [910006]) (WP (λl=>if l=38 then 910006 else l)))
  ·refine o8 ?_
   refine g6<|g6<|l7 ?_
   have h:=xL hx16 h
   exact eJ h (Wk.trans (n8 _ [910006]) W)

theorem a5a{a0 a1}:PO Tryz.prog 352 [.L iF a0,.I a1] (M6 a0 a1) λr=>.I r:=by
 refine pO Tryz.func352 λr h _ _=>?_
 refine S4 1 J ?_
 refine jq h (λ_=>St.of [] []) (λq6 h=>?_) λκ5 h=>?_
 ·refine S4 1 J ?_
  refine b9 ?_
  cases h
  exact f1
 ·refine S3 1 J ?_
  refine nL J Ty.D0<|S2 1 J<|g8<|lq h (λs8=>St.of [(0,.L iF a0),(1,.I a1),(7,.I (a0.length:Int)),(8,.I s8)] []) W λs8 x9 h hx8=>S4 1 J<|j5 ?_
  refine cN h (λhc h=>?_) λhc h=>?_
  ·refine c8 ?_
   refine j5<|g8<|S4 2 J<|S3 3 J<|iL h J J Ty.D0 Ty.s3 λv10 _ h=>S2 2 J ?_
   refine cN h (λhc h=>?_) λhc h=>?_
   ·refine S4 2 J ?_
    refine b9 ?_
    have h:=xL hx8 h
    cases h
    exact f1
   ·refine c8 ?_
    refine S6 2 J ?_
    exact eL h W
  ·refine o8 ?_
   refine g6<|g6<|l7 ?_
   have h:=xL hx8 h
   exact eJ h W

theorem L7{a0 a1}:PO Tryz.prog 290 [.L iF a0,.I a1] (C1 a0 a1) λr=>.bool r:=by
 refine pO Tryz.func290 λr h _ _=>?_
 refine S4 1 J<|S3 2 J<|cA h a5a J J λv1 _ h=>S2 2 J<|b9 ?_
 cases h
 exact f1

theorem b1L{a0 a1}:PO Tryz.prog 289 [c4.Pv a0,.rptr [.L iF a1]] (Z7 a0 a1) λr=>.bool r:=by
 refine pO Tryz.func289 λr h _ _=>?_
 unfold Z7 at h
 refine S4 2 J<|S3 3 J<|j8 J (λhg=>oF J Ty.c1M J)<|j8 J (λhg=>oS (ct hg) J J Ty.a3 J)<|j8 J (λhg=>w8 (ct hg) J J)<|y0 J (r9 J J J (λq=>eqT q))<|S1 1 J<|j8 J (λhg=>a1a J Ty.a27 J)<|j8 J (λhg=>oF J Ty.c1M J)<|j8 J (λhg=>oS (ct hg) J J Ty.a3 J)<|B2 h λv1 hv1 h=>j8 J (λhg=>L9 J L7 (L1 (ct hg) (L1 (ct hg) J)) (W9 hv1 hg))<|y0 J (r9 J J J (λq=>eqT q))<|S2 1 J<|b9 ?_
 cases h
 exact f1

theorem a2M{a0 a1}:PO Tryz.prog 279 [.L c4.Pv a0,.fn (.func 289) [.rptr [.L iF a1]]] (G8 a0 a1) λr=>.L iF r:=by
 refine pO Tryz.func279 λr h _ _=>?_
 refine S4 1 J<|S4 1 J ?_
 refine jq h (λj15=>St.of [(5,.sl 910005)] [(910005,⟨List.map iF j15,(List.map iF j15).length,true,1,true⟩)]) (λj15 h=>?_) λκ14 h=>?_
 ·refine S4 2 J ?_
  refine b9 ?_
  cases h
  exact f1
 ·refine S3 1 J ?_
  refine nL J Ty.e28<|S2 1 J<|g8<|lq h (λq=>St.of [(1,.fn (.func 289) [.rptr [.L iF a1]]),(5,.sl 910005),(8,.L c4.Pv a0),(9,.I (a0.length:Int)),(10,.I q.1)] [(910005,⟨List.map iF q.2,(List.map iF q.2).length,true,1,true⟩)]) (Wk.trans (R9 (t:=5) (l:=920005) (z:=1) J J) (WP (λl=>if l=910005 then 920005 else l))) λq20 x19 h hx14=>?_
  obtain⟨s17,s18⟩:=q20
  refine S4 1 J<|j5 ?_
  refine cN h (λhc h=>?_) λhc h=>?_
  ·refine c8 ?_
   refine jq h (λj25=>St.of [(1,.fn (.func 289) [.rptr [.L iF a1]]),(5,.sl 21),(8,.L c4.Pv a0),(9,.I (a0.length:Int)),(10,.I s17)] [(21,⟨List.map iF j25,(List.map iF j25).length,true,1,true⟩)]) (λj25 h=>?_) λκ24 h=>?_
   ·refine S6 2 J ?_
    exact eL h (Wk.trans (n8 _ [21]) (WP (λl=>if l=910005 then 21 else l)))
   ·refine g8 ?_
    refine S3 1 J<|iL h J J Ty.e28 Ty.s68 λv26 _ h=>S2 4 J<|S3 2 J<|cA h b1L J J λv27 _ h=>yN ?_
    refine cN h (λhc h=>?_) λhc h=>?_
    ·refine S5 2 J ?_
     refine y0 J (Q2 (f:=iF) (l:=[s17]) J Ty.D0 Ty.s3 Ty.z3 J J nl J J)<|B2 h λv28 hv21 h=>Y5 J (V6 (f:=iF) hv21 J J J J J J (.inl ⟨_,J,J⟩) Ty.D0 Ty.s3 Ty.b3 Ty.z3 J (λ_=>J)) J J J<|S2 1 J ?_
     exact eJ h (Wk.trans (n8 _ [21]) W)
    ·refine c8 ?_
     exact eJ h (Wk.trans (n8 _ [910005]) (WP (λl=>if l=21 then 910005 else l)))
  ·refine o8 ?_
   refine g6<|g6<|l7 ?_
   have h:=xL hx14 h
   exact eJ h (Wk.trans (n8 _ [910005]) W)

theorem b37{a0 a1}:PO Tryz.prog 219 [.L c4.Pv a0,.L iF a1] (a3L a0 a1) λr=>.tup [.L c4.Pv r.1,.L iF r.2]:=by
 refine pO Tryz.func219 λr h _ _=>?_
 unfold a3L at h
 refine S4 3 J<|S3 2 J<|B2 h λv1 hv1 h=>ycL J (A0 J a2M J hv1) J<|S2 1 J<|S3 1 J<|B2 h λv2 hv2 h=>ycN J (b2L J a6o J hv2) J J<|S2 1 J<|S4 1 J ?_
 refine jq h (λq=>St.of [(7,.sl 15),(8,.sl 910008)] [(910008,⟨List.map iF q.1,(List.map iF q.1).length,true,1,true⟩),(15,⟨List.map c4.Pv q.2,0,true,3,true⟩)]) (λq24 h=>?_) λκ21 h=>?_
 ·obtain⟨j22,j23⟩:=q24
  refine S4 4 J<|b9 ?_
  cases h
  exact f2
 ·refine S3 1 J ?_
  refine nL J Ty.D0<|S2 1 J<|g8<|lq h (λq=>St.of [(7,.sl 15),(8,.sl 910008),(16,.L iF v1),(17,.I (v1.length:Int)),(18,.I q.1)] [(15,⟨List.map c4.Pv q.2.1,0,true,3,true⟩),(910008,⟨List.map iF q.2.2,(List.map iF q.2.2).length,true,1,true⟩)]) (Wk.trans (R9 (t:=8) (l:=920008) (z:=1) J J) (WP (λl=>if l=910008 then 920008 else l))) λq30 x29 h hx18=>?_
  obtain⟨s26,s27,s28⟩:=q30
  refine S4 1 J<|j5 ?_
  refine cN h (λhc h=>?_) λhc h=>?_
  ·refine c8 ?_
   refine jq h (λq=>St.of [(7,.sl 15),(8,.sl 35),(16,.L iF v1),(17,.I (v1.length:Int)),(18,.I s26)] [(35,⟨List.map iF q.1,(List.map iF q.1).length,true,1,true⟩),(15,⟨List.map c4.Pv q.2,0,true,3,true⟩)]) (λq38 h=>?_) λκ35 h=>?_
   ·obtain⟨j36,j37⟩:=q38
    refine S6 2 J ?_
    exact eL h (Wk.trans (n8 _ [35]) (WP (λl=>if l=910008 then 35 else l)))
   ·refine g8 ?_
    refine sR<|iL h J J Ty.D0 Ty.s3 λv39 _ h=>S2 2 J<|S3 2 J<|B2 h λv40 hv25 h=>y0 J (a8t (f:=c4.Pv) hv25 J J J J Ty.e28 Ty.s68 J)<|S1 1 J<|b3D (f:=c4.Pv) (v:=(⟨v40.Target,false,v40.Call⟩:c4)) hv25 J J (.inl J) Ty.s4<|yN<|S3 2 J<|B2 h λv41 hv26 h=>y0 J (a8t (f:=c4.Pv) hv26 J J J J Ty.e28 Ty.s68 J)<|S1 1 J<|y0 J (c2w (f:=c4.Pv) hv26 J J J Ty.a3 J)<|S2 1 J ?_
    refine cN h (λhc h=>?_) λhc h=>?_
    ·refine S5 2 J ?_
     refine y0 J (Q2 (f:=iF) (l:=[v39]) J Ty.D0 Ty.s3 Ty.z3 J J nl J J)<|B2 h λv42 hv27 h=>Y5 J (V6 (f:=iF) hv27 J J J J J J (.inl ⟨_,J,J⟩) Ty.D0 Ty.s3 Ty.b3 Ty.z3 J (λ_=>J)) J J J<|S2 1 J ?_
     exact eJ h (Wk.trans (n8 _ [35]) W)
    ·refine c8 ?_
     exact eJ h (Wk.trans (n8 _ [910008]) (WP (λl=>if l=35 then 910008 else l)))
  ·refine o8 ?_
   refine g6<|g6<|l7 ?_
   have h:=xL hx18 h
   exact eJ h (Wk.trans (n8 _ [910008]) W)

theorem b0a{a0 a1}:PO Tryz.prog 135 [b6.Pv a0,.L iF a1] (a1l a0 a1) λr=>b6.Pv r:=by
 refine pO Tryz.func135 λr h _ _=>?_
 refine S4 2 J<|S3 3 J<|cF h b37 J J λv1 _ h=>S2 5 J<|S4 3 J ?_
 refine jq h (λj11=>St.of [(2,.ptr 2 0 0),(4,.ptr 4 0 0)] [(4,vR (.agg [.nl,.I 0,.I 0,.nl,.nl,.nl,.nl,.I 0]) 8),(2,vR (.agg [.L b7.Pv a0.S.S.a8,.I a0.S.S.Last,.I a0.S.Serial,.L iF a0.Roots,.L c4.Pv v1.1,.L b8.Pv a0.T,.L g7.Pv j11.L,.I j11.Cap]) 8)]) (λj11 h=>?_) λκ10 h=>?_
 ·refine S4 2 J ?_
  refine b9 ?_
  cases h
  exact⟨J,[_],⟨oL J J J Ty.U0 Ty.M5 nl J,tr⟩,J,io⟩
 ·refine S3 1 J ?_
  refine nL J Ty.D0<|S2 1 J<|g8<|lq h (λq=>St.of [(2,.ptr 2 0 0),(4,.ptr 4 0 0),(5,.L c4.Pv v1.1),(18,.L iF v1.2),(19,.I (v1.2.length:Int)),(20,.I q.1)] [(4,vR (.agg [.nl,.I 0,.I 0,.nl,.nl,.nl,.nl,.I 0]) 8),(2,vR (.agg [.L b7.Pv a0.S.S.a8,.I a0.S.S.Last,.I a0.S.Serial,.L iF a0.Roots,.L c4.Pv v1.1,.L b8.Pv a0.T,.L g7.Pv q.2.L,.I q.2.Cap]) 8)]) W λq16 x15 h hx11=>?_
  obtain⟨s13,s14⟩:=q16
  refine S4 1 J<|j5 ?_
  refine cN h (λhc h=>?_) λhc h=>?_
  ·refine c8 ?_
   refine j5<|g8<|sR<|iL h J J Ty.D0 Ty.s3 λv17 _ h=>S2 2 J<|b5J [] Ty.mix (by kernel_rfl) (by kernel_rfl)<|S7 5 J<|B2 h λv18 hv13 h=>d0 J (a4b (f:=c4.Pv) (cs:=c4.Pc v18) hv13 J J Ty.e28 Ty.s68 J J) J<|S7 2 J<|d7 J (λ_ hN=>o0 (cs:=[.I 2,.I v17,.I v18.Call]) J Ty.p79 Ty.z79 J J J) J<|B2 h λv19 hv14 h=>d2f J (A0 J b1s J hv14) J<|S7 4 J<|a0J (x':=.agg [.L b7.Pv a0.S.S.a8,.I a0.S.S.Last,.I a0.S.Serial,.L iF a0.Roots,.L c4.Pv v1.1,.L b8.Pv a0.T,.L g7.Pv v19.1.L,.I v19.1.Cap]) (cl':=true) J J (.inr J) Ty.s32<|a6d<|S6 2 J ?_
   exact eL h W
  ·refine o8 ?_
   refine g6<|g6<|l7 ?_
   have h:=xL hx11 h
   exact eJ h W

theorem b0j{a0}:PO Tryz.prog 220 [.L iF a0] (a3i a0) λr=>.fn (.func 292) [.rptr [.L iF r]]:=by
 refine pO Tryz.func220 λr h _ _=>?_
 unfold a3i at h
 refine S4 2 J<|S4 2 J<|b9 ?_
 cases h
 exact f1

theorem b0i{a0}:PO Tryz.prog 137 [.L iF a0] (a3h a0) λr=>.L iF r:=by
 refine pO Tryz.func137 λr h _ _=>?_
 refine S4 1 J<|S4 1 J ?_
 refine jq h (λj10=>St.of [(3,.ptr 2001 0 0)] [(2001,vS (.sl 912501) 1),(912501,⟨List.map iF j10,(List.map iF j10).length,true,1,true⟩)]) (λj10 h=>?_) λκ9 h=>?_
 ·refine S4 2 J ?_
  refine b9 ?_
  cases h
  exact f1
 ·refine S3 1 J ?_
  refine cF h b0j J J λv11 _ h=>yN<|g8<|a1y (WPE (λl=>if l=2011 then 3 else l) [(3,.ptr 2011 0 0),(6,.fn (.func 292) [.rptr [.L iF v11]])] [(2011,vR (.nl) 1)]) ?_
  refine a0m (fn:=Tryz.f292) (N1:=20) J Tryz.func292 J J nl J Ty.c8c J J (λl17 e18 o19 hR20=>?_)
  refine S3 1 J<|nL J Ty.D0<|S2 1 J<|g8<|lq h (λq=>St.of [(1000003,.ptr 2011 0 0),(1000006,.fn (.func 292) [.rptr [.L iF v11]]),(0,.fn (.yield l17) []),(5,.L iF v11),(6,.I (v11.length:Int)),(7,.I q.1)] [(2011,vS (.sl 912511) 1),(912511,⟨List.map iF q.2,(List.map iF q.2).length,true,1,true⟩)]) (Wk.trans (b0l (l0:=2011) (j:=0) (l:=922511) (z:=1) J J J J J) (WP (λl=>if l=912511 then 922511 else l))) λq16 x15 h hx23=>?_
  obtain⟨s13,s14⟩:=q16
  refine S4 1 J<|j5 ?_
  refine cN h (λhc h=>?_) λhc h=>?_
  ·refine c8 ?_
   refine j5<|g8<|sR<|iL h J J Ty.D0 Ty.s3 λv17 _ h=>S2 2 J<|S3 3 J<|j8 J (λhg=>om (d:=.fn (.yield l17) []) J)<|j8 J (λhg=>mI J) ?_
   rcases Bool.eq_false_or_eq_true ((v17 != 0)==true) with hg25 | hg25
   ·have h:=ifT h hg25
    refine G9 (WPE (λl=>if l=2019 then 912511 else l) [(1000003,.ptr 2011 0 0),(1000006,.fn (.func 292) [.rptr [.L iF v11]]),(0,.fn (.yield l17) []),(5,.L iF v11),(6,.I (v11.length:Int)),(7,.I s13),(13,.bool (v17 != 0)),(14,.fn (.yield l17) []),(15,.I v17)] [(2011,vS (.sl 2019) 1),(2019,⟨List.map iF s14,(List.map iF s14).length,true,1,true⟩)]) ?_
    refine a4m hR20 (congrArg some hg25) J J J J J (λe26 o27 o28=>?_)
    refine S6 1 J ?_
    refine⟨J,?_⟩
    refine g8<|S5 2 J<|y0 J (Q2 (f:=iF) (l:=[v17]) J Ty.D0 Ty.s3 Ty.z3 J J nl J J)<|B2 h λv18 hv29 h=>Y5 J (V6 (f:=iF) hv29 J J J J J J (.inl ⟨_,J,J⟩) Ty.D0 Ty.s3 Ty.b3 Ty.z3 J (λ_=>J)) J J J<|S2 1 J ?_
    refine⟨J,?_⟩
    refine G9 (WPE (λl=>if l=2020 then 11 else l) [(1000003,.ptr 2011 0 0),(1000006,.fn (.func 292) [.rptr [.L iF v11]]),(0,.fn (.yield l17) []),(5,.L iF v11),(6,.I (v11.length:Int)),(7,.I s13),(13,.bool (v17 != 0)),(16,.bool true)] [(2011,vS (.sl 2020) 1),(2020,⟨List.map iF v18,s14.length,true,1,true⟩)])<|y0 (congrArg some hg25) (a2Q J J)<|y0 J (a4d J J hg25)<|yN ?_
    refine D8 false J (λq=>nomatch q) (λ_=>?_)
    refine c8<|S6 2 J ?_
    exact eL h (Wk.trans (n8 _ [2020]) (WP (λl=>if l=912511 then 2020 else l)))
   ·have h:=ifF h hg25
    refine U9 (congrArg some hg25)<|U9 (congrArg some hg25)<|y0 J (a4c J J hg25)<|yN ?_
    refine D8 false J (λq=>nomatch q) (λ_=>?_)
    refine c8<|S6 2 J ?_
    exact eL h (Wk.trans (n8 _ [912511]) W)
  ·refine o8 ?_
   refine g6<|g6<|l7 ?_
   refine .inl ⟨J,?_⟩
   have h:=xL hx23 h
   exact eJ h (Wk.trans (n8 _ [912511]) (WP (λl=>if l=2001 then 2011 else if l=912501 then 912511 else l)))

theorem b0w{a0 a1}:PO Tryz.prog 138 [.L b8.Pv a0,.L iF a1] (T4 a0 a1) λr=>.tup [.L b8.Pv r.1,.L iF r.2]:=by
 refine pO Tryz.func138 λr h _ _=>?_
 refine S4 2 J<|S4 1 J ?_
 refine jq h (λq=>St.of [(0,.L b8.Pv q.1),(6,.sl 910006)] [(910006,⟨List.map iF q.2,(List.map iF q.2).length,true,1,true⟩)]) (λq20 h=>?_) λκ17 h=>?_
 ·obtain⟨j18,j19⟩:=q20
  refine S4 4 J<|b9 ?_
  cases h
  exact f2
 ·refine S3 1 J ?_
  refine nL J Ty.D0<|S2 1 J<|g8<|lq h (λq=>St.of [(0,.L b8.Pv q.1),(6,.sl 910006),(12,.L iF a1),(13,.I (a1.length:Int)),(14,.I q.2.1)] [(910006,⟨List.map iF q.2.2,(List.map iF q.2.2).length,true,1,true⟩)]) (Wk.trans (R9 (t:=6) (l:=920006) (z:=1) J J) (WP (λl=>if l=910006 then 920006 else l))) λq26 x25 h hx14=>?_
  obtain⟨s22,s23,s24⟩:=q26
  refine S4 1 J<|j5 ?_
  refine cN h (λhc h=>?_) λhc h=>?_
  ·refine c8 ?_
   refine jq h (λq=>St.of [(0,.L b8.Pv q.1),(6,.sl 31),(12,.L iF a1),(13,.I (a1.length:Int)),(14,.I s23)] [(31,⟨List.map iF q.2,(List.map iF q.2).length,true,1,true⟩)]) (λq33 h=>?_) λκ30 h=>?_
   ·obtain⟨j31,j32⟩:=q33
    refine S6 2 J ?_
    exact eL h (Wk.trans (n8 _ [31]) (WP (λl=>if l=910006 then 31 else l)))
   ·refine g8 ?_
    refine sR<|iL h J J Ty.D0 Ty.s3 λv34 _ h=>S2 2 J<|S3 2 J<|cF h a9u J J λv35 _ h=>S2 7 J<|S4 2 J ?_
    refine cN h (λhc h=>?_) λhc h=>?_
    ·refine S5 3 J ?_
     refine y0 J (Q2 (f:=iF) (l:=[v35.2.1]) J Ty.D0 Ty.s3 Ty.z3 J J nl J J)<|B2 h λv36 hv21 h=>Y5 J (V6 (f:=iF) hv21 J J J J J J (.inl ⟨_,J,J⟩) Ty.D0 Ty.s3 Ty.b3 Ty.z3 J (λ_=>J)) J J J<|S2 2 J ?_
     exact eJ h (Wk.trans (n8 _ [31]) W)
    ·refine c8 ?_
     exact eJ h (Wk.trans (n8 _ [910006]) (WP (λl=>if l=31 then 910006 else l)))
  ·refine o8 ?_
   refine g6<|g6<|l7 ?_
   have h:=xL hx14 h
   exact eJ h (Wk.trans (n8 _ [910006]) W)

theorem a5Y{a0 a1}:PO Tryz.prog 222 [c7.Pv a0,.I a1] (O6 a0 a1) λr=>.tup [c7.Pv r.1,.I r.2]:=by
 refine pO Tryz.func222 λr h _ _=>?_
 refine S4 3 J<|S3 2 J<|cF h a1z J J λv1 _ h=>S2 6 J<|j5<|S4 2 J ?_
 refine cN h (λhc h=>?_) λhc h=>?_
 ·refine S4 4 J ?_
  refine b9 ?_
  cases h
  exact⟨J,[_,_],⟨oL J J J Ty.a24 Ty.s24 nl J,⟨J,tr⟩⟩,J,io⟩
 ·refine c8 ?_
  refine dr [] Ty.mix (by kernel_rfl) (by kernel_rfl)<|S7 2 J<|B2 h λv2 hv2 h=>d2 J (L9 J a6M J hv2) J<|S7 1 J<|B2 h λv3 hv3 h=>d2 J (L9 J a8q J hv3) J<|S7 1 J<|d7 J (λ_ hN=>o0 (cs:=[.I 2,.I v3,.I v1.1.Serial,.I v1.1.Strong,.I v1.1.Weak,.I v1.1.Prog,.bool v1.1.Started,.L iF v1.1.Fields]) J Ty.c4H Ty.c07 J J J) J<|B2 h λv4 hv4 h=>d2f J (A0 J F8 J hv4) J<|a0J (x':=c7.Pv v4) (cl':=true) J J (.inr J) Ty.s24<|S8 1 J<|b9 ?_
  cases h
  exact⟨J,[_,_],⟨oL J J J Ty.a24 Ty.s24 nl J,⟨J,tr⟩⟩,J,io⟩

theorem b01{a0 a1}:PO Tryz.prog 139 [b6.Pv a0,.I a1] (T9 a0 a1) λr=>b6.Pv r:=by
 refine pO Tryz.func139 λr h _ _=>?_
 refine S4 2 J<|S3 3 J<|cF h w7 J J λv1 _ h=>S2 6 J<|S3 1 J<|b1y (x':=.agg [.I v1.1.Serial,.I v1.1.Strong,.I v1.1.Weak,.I v1.1.Prog,.bool v1.1.Started,.nl]) (cl':=true) J J (.inl J) Ty.s27<|S1 1 J<|b1y (x':=.agg [.I v1.1.Serial,.I 0,.I v1.1.Weak,.I v1.1.Prog,.bool v1.1.Started,.nl]) (cl':=true) J J (.inl J) Ty.s3<|yN<|S3 4 J<|cF h Z6 J J λv2 _ h=>S2 5 J<|S3 4 J<|cF h a5Y J J λv3 _ h=>S2 6 J<|j5<|S4 3 J ?_
 refine cN h (λhc h=>?_) λhc h=>?_
 ·refine S5 4 J ?_
  refine cF h a1n J J λv4 _ h=>S2 6 J<|S4 2 J<|b9 ?_
  cases h
  exact⟨J,[_],⟨oL J J J Ty.U0 Ty.M5 nl J,tr⟩,J,io⟩
 ·refine c8 ?_
  refine S4 2 J<|b9 ?_
  cases h
  exact⟨J,[_],⟨oL J J J Ty.U0 Ty.M5 nl J,tr⟩,J,io⟩

theorem a7l{a0 a1}:PO Tryz.prog 65 [b6.Pv a0,.L iF a1] (X8 a0 a1) λr=>b6.Pv r:=by
 refine pO Tryz.func65 λr h _ _=>?_
 refine S4 2 J<|S3 2 J<|cF h a8a J J λv1 _ h=>S2 1 J<|S3 2 J<|cF h b0a J J λv2 _ h=>S2 1 J<|S4 1 J<|S4 2 J ?_
 refine jq h (λj13=>St.of [(2,.ptr 2 0 0),(4,.ptr 4 0 0),(5,.L iF v1),(6,.ptr 6 0 0),(7,.fn (.func 136) [.ptr 6 0 0])] [(6,vS (.sl 910506) 1),(910506,⟨List.map iF j13,(List.map iF j13).length,true,1,true⟩),(4,vR (.agg [.nl,.I 0,.I 0,.nl,.nl,.nl,.nl,.I 0]) 8),(2,vR (b6.Pv v2) 8)]) (λj13 h=>?_) λκ12 h=>?_
 ·refine S3 3 J ?_
  refine cF h b0w J J λv14 _ h=>S2 5 J<|S3 2 J<|G9 (WPE (λl=>if l=2025 then 6 else if l=2026 then 4 else if l=2027 then 2 else if l=2028 then 910506 else l) [(2,.ptr 2027 0 0),(4,.ptr 2026 0 0),(5,.L iF v1),(6,.ptr 2025 0 0),(12,.L b8.Pv v14.1),(51,.fn (.func 136) [.ptr 2025 0 0]),(52,.L iF v14.2)] [(2025,vS (.sl 2028) 1),(2028,⟨List.map iF j13,(List.map iF j13).length,true,1,true⟩),(2026,vR (.agg [.nl,.I 0,.I 0,.nl,.nl,.nl,.nl,.I 0]) 8),(2027,vR (b6.Pv v2) 8)]) ?_
  refine b1x (fn:=Tryz.f136) (N1:=6) J J Tryz.func136 J Ty.c8a J J nl (λe14 o15=>?_)
  refine S5 2 J<|B2 h λv15 hv16 h=>Y5 J (V6 (f:=iF) hv16 J J J J J J (.inl ⟨_,J,J⟩) Ty.D0 Ty.s3 Ty.b3 Ty.z3 J (λ_=>J)) J J J<|S2 1 J ?_
  refine⟨J,[],tr,?_⟩
  refine G9 (WPE (λl=>if l=2029 then 5 else l) [(2,.ptr 2027 0 0),(4,.ptr 2026 0 0),(5,.L iF v1),(6,.ptr 2025 0 0),(12,.L b8.Pv v14.1)] [(2025,vS (.sl 2029) 1),(2029,⟨List.map iF v15,j13.length,true,1,true⟩),(2026,vR (.agg [.nl,.I 0,.I 0,.nl,.nl,.nl,.nl,.I 0]) 8),(2027,vR (b6.Pv v2) 8)])<|yN<|S4 3 J ?_
  refine jq h (λj24=>St.of [(2,.ptr 2027 0 0),(4,.ptr 2026 0 0),(6,.ptr 2025 0 0)] [(2025,vS (.sl 2029) 1),(2029,⟨List.map iF v15,j13.length,true,1,true⟩),(2026,vR (.agg [.nl,.I 0,.I 0,.nl,.nl,.nl,.nl,.I 0]) 8),(2027,vR (b6.Pv j24) 8)]) (λj24 h=>?_) λκ23 h=>?_
  ·refine jq h (λj33=>St.of [(2,.ptr 2027 0 0),(4,.ptr 2026 0 0)] [(2026,vR (.agg [.nl,.I 0,.I 0,.nl,.nl,.nl,.nl,.I 0]) 8),(2027,vR (b6.Pv j33) 8)]) (λj33 h=>?_) λκ32 h=>?_
   ·refine S4 2 J ?_
    refine b9 ?_
    cases h
    exact⟨J,[_],⟨oL J J J Ty.U0 Ty.M5 nl J,tr⟩,J,io⟩
   ·refine S3 1 J ?_
    refine y0 J (b9r (f:=iF) J J J Ty.D0)<|S2 1 J<|g8<|lq h (λq=>St.of [(2,.ptr 2027 0 0),(4,.ptr 2026 0 0),(66,.sl 2029),(67,.I (v15.length:Int)),(68,.I q.1)] [(2029,⟨List.map iF v15,j13.length,true,1,true⟩),(2026,vR (.agg [.nl,.I 0,.I 0,.nl,.nl,.nl,.nl,.I 0]) 8),(2027,vR (b6.Pv q.2) 8)]) W λq38 x37 h hx31=>?_
    obtain⟨s35,s36⟩:=q38
    refine S4 1 J<|j5 ?_
    refine cN h (λhc h=>?_) λhc h=>?_
    ·refine c8 ?_
     refine j5<|g8<|sR<|B2 h λv39 hv32 h=>y0 J (a8t (f:=iF) hv32 J J J J Ty.D0 Ty.s3 J)<|y0 J (c2w (f:=iF) hv32 J J J Ty.a3 J)<|S2 1 J<|S5 2 J<|cF h a0u J J λv40 _ h=>S2 1 J<|S6 2 J ?_
     exact eL h W
    ·refine o8 ?_
     refine g6<|g6<|l7 ?_
     have h:=xL hx31 h
     exact eJ h W
  ·refine S3 1 J ?_
   refine nL J Ty.D0<|S2 1 J<|g8<|lq h (λq=>St.of [(2,.ptr 2027 0 0),(4,.ptr 2026 0 0),(6,.ptr 2025 0 0),(56,.L iF v1),(57,.I (v1.length:Int)),(58,.I q.1)] [(2025,vS (.sl 2029) 1),(2029,⟨List.map iF v15,j13.length,true,1,true⟩),(2026,vR (.agg [.nl,.I 0,.I 0,.nl,.nl,.nl,.nl,.I 0]) 8),(2027,vR (b6.Pv q.2) 8)]) W λq45 x44 h hx36=>?_
   obtain⟨s42,s43⟩:=q45
   refine S4 1 J<|j5 ?_
   refine cN h (λhc h=>?_) λhc h=>?_
   ·refine c8 ?_
    refine j5<|g8<|sR<|iL h J J Ty.D0 Ty.s3 λv46 _ h=>S2 2 J<|S5 2 J<|cF h b01 J J λv47 _ h=>S2 1 J<|S6 2 J ?_
    exact eL h W
   ·refine o8 ?_
    refine g6<|g6<|l7 ?_
    have h:=xL hx36 h
    exact eJ h W
 ·refine S3 1 J ?_
  refine nL J Ty.D0<|S2 1 J<|g8<|lq h (λq=>St.of [(2,.ptr 2 0 0),(4,.ptr 4 0 0),(5,.L iF v1),(6,.ptr 6 0 0),(7,.fn (.func 136) [.ptr 6 0 0]),(25,.L iF v1),(26,.I (v1.length:Int)),(27,.I q.1)] [(6,vS (.sl 910506) 1),(4,vR (.agg [.nl,.I 0,.I 0,.nl,.nl,.nl,.nl,.I 0]) 8),(2,vR (b6.Pv v2) 8),(910506,⟨List.map iF q.2,(List.map iF q.2).length,true,1,true⟩)]) (Wk.trans (b0l (l0:=6) (j:=0) (l:=920506) (z:=1) J J J J J) (WP (λl=>if l=910506 then 920506 else l))) λq52 x51 h hx41=>?_
  obtain⟨s49,s50⟩:=q52
  refine S4 1 J<|j5 ?_
  refine cN h (λhc h=>?_) λhc h=>?_
  ·refine c8 ?_
   refine j5<|g8<|sR<|iL h J J Ty.D0 Ty.s3 λv53 _ h=>S2 2 J<|S3 3 J<|cF h w7 J J λv54 _ h=>S2 6 J<|S5 3 J<|cF h b0i J J λv55 _ h=>G9 (WPE (λl=>if l=2049 then 6 else if l=2050 then 4 else if l=2051 then 2 else if l=2052 then 910506 else l) [(2,.ptr 2051 0 0),(4,.ptr 2050 0 0),(5,.L iF v1),(6,.ptr 2049 0 0),(7,.fn (.func 136) [.ptr 2049 0 0]),(25,.L iF v1),(26,.I (v1.length:Int)),(27,.I s49),(38,.fn (.func 136) [.ptr 2049 0 0]),(41,.L iF v55)] [(2049,vS (.sl 2052) 1),(2052,⟨List.map iF s50,(List.map iF s50).length,true,1,true⟩),(2050,vR (.agg [.nl,.I 0,.I 0,.nl,.nl,.nl,.nl,.I 0]) 8),(2051,vR (b6.Pv v2) 8)]) ?_
   refine b1x (fn:=Tryz.f136) (N1:=6) J J Tryz.func136 J Ty.c8a J J nl (λe45 o46=>?_)
   refine S5 2 J<|B2 h λv56 hv47 h=>Y5 J (V6 (f:=iF) hv47 J J J J J J (.inl ⟨_,J,J⟩) Ty.D0 Ty.s3 Ty.b3 Ty.z3 J (λ_=>J)) J J J<|S2 1 J ?_
   refine⟨J,[],tr,?_⟩
   refine G9 (WPE (λl=>if l=2053 then 5 else l) [(2,.ptr 2051 0 0),(4,.ptr 2050 0 0),(5,.L iF v1),(6,.ptr 2049 0 0),(7,.fn (.func 136) [.ptr 2049 0 0]),(25,.L iF v1),(26,.I (v1.length:Int)),(27,.I s49)] [(2049,vS (.sl 2053) 1),(2053,⟨List.map iF v56,s50.length,true,1,true⟩),(2050,vR (.agg [.nl,.I 0,.I 0,.nl,.nl,.nl,.nl,.I 0]) 8),(2051,vR (b6.Pv v2) 8)])<|yN<|S6 2 J ?_
   exact eL h (Wk.trans (n8 _ [2053]) (WP (λl=>if l=2 then 2051 else if l=4 then 2050 else if l=6 then 2049 else if l=910506 then 2053 else l)))
  ·refine o8 ?_
   refine g6<|g6<|l7 ?_
   have h:=xL hx41 h
   exact eJ h (Wk.trans (n8 _ [910506]) W)

theorem a49{a0}:PO Tryz.prog 64 [b6.Pv a0] (T8 a0) λr=>b6.Pv r:=by
 refine pO Tryz.func64 λr h _ _=>?_
 refine S4 2 J<|lqS h (λs2=>St.of [(1,.ptr 1 0 0),(2,.ptr 2 0 0)] [(2,vR (.agg [.nl,.I 0,.I 0,.nl,.nl,.nl,.nl,.I 0]) 8),(1,vR (b6.Pv s2) 8)]) W λs2 x3 h hx3=>S3 1 J<|cF h b3l J J λv4 _ h=>S2 1 J<|j5<|S3 1 J<|nL J Ty.D0<|S2 1 J ?_
 refine cN h (λhc h=>?_) λhc h=>?_
 ·refine S4 2 J ?_
  refine b9 ?_
  have h:=xL hx3 h
  cases h
  exact⟨J,[_],⟨oL J J J Ty.U0 Ty.M5 nl J,tr⟩,J,io⟩
 ·refine c8 ?_
  refine j5<|dr [] Ty.mix (by kernel_rfl) (by kernel_rfl)<|S7 3 J<|B2 h λv5 hv5 h=>d0 J (a4b (f:=iF) (cs:=[.I v5]) hv5 J J Ty.D0 Ty.s3 J J) J<|S7 1 J<|B2 h λv6 hv6 h=>d2f J (A0 J w7 J hv6) J<|S7 4 J<|a0J (x':=k9.Pv v6.1) (cl':=true) J J (.inr J) Ty.a47<|S8 1 J<|S3 1 J<|cA h a4i J J λv7 _ h=>yN ?_
  refine cN h (λhc h=>?_) λhc h=>?_
  ·refine b5J [] Ty.mix (by kernel_rfl) (by kernel_rfl) ?_
   refine S7 2 J<|d0 J (a4b (f:=iF) (cs:=[.I v5]) hv5 J J Ty.D0 Ty.s3 J J) J<|S7 1 J<|B2 h λv8 hv8 h=>d2f J (A0 J a48 J hv8) J<|a0J (x':=b6.Pv v8) (cl':=true) J J (.inr J) Ty.M5<|a6d<|b9B ?_
   exact eS h W
  ·refine b5J [] Ty.mix (by kernel_rfl) (by kernel_rfl) ?_
   refine S7 2 J<|B2 h λv9 hv9 h=>d0 J (c6P (f:=iF) hv9 J J ⟨_,J⟩ Ty.D0 Ty.s3 (λ_=>J)) J<|B2 h λv10 hv10 h=>d2f J (A0 J a7l J hv10) J<|a0J (x':=b6.Pv v10) (cl':=true) J J (.inr J) Ty.M5<|a6d<|b9B ?_
   exact eS h W

theorem a9L{a0 a1}:PO Tryz.prog 180 [b6.Pv a0,.I a1] (a07 a0 a1) λr=>.I r:=by
 refine pO Tryz.func180 λr h _ _=>?_
 refine S4 2 J<|S3 3 J<|cF h w7 J J λv1 _ h=>S2 6 J<|S4 3 J<|b9 ?_
 cases h
 exact f1

theorem a4u{a0 a1}:PO Tryz.prog 107 [b6.Pv a0,.I a1] (a0C a0 a1) λr=>.I r:=by
 refine pO Tryz.func107 λr h _ _=>?_
 unfold a0C at h
 refine S4 2 J<|dr [] Ty.mix (by kernel_rfl) (by kernel_rfl)<|S7 3 J<|B2 h λv1 hv1 h=>d2 J (L9 J J2 J hv1) J<|B2 h λv2 hv2 h=>d2 J (L9 J a9L J hv2) J<|S8 1 J<|b9 ?_
 cases h
 exact f1

theorem a9M{a0 a1 a2}:PO Tryz.prog 172 [b6.Pv a0,b6.Pv a1,k8.Pv a2] (P3 a0 a1 a2) λr=>.I r:=by
 refine pO Tryz.func172 λr h _ _=>?_
 refine S4 4 J<|j5<|S4 2 J<|g8<|S4 2 J ?_
 refine cN h (λhc h=>?_) λhc h=>?_
 ·refine S3 3 J ?_
  refine cA h a4u J J λv1 _ h=>S2 1 J<|b9 ?_
  cases h
  exact f1
 ·refine jq h (λj3=>St.of [(3,.ptr 3 0 0),(4,.ptr 4 0 0),(5,.ptr 5 0 0),(8,.I a2.Kind),(15,.bool j3)] [(5,vR (k8.Pv a2) 4),(4,vR (b6.Pv a1) 8),(3,vR (b6.Pv a0) 8)]) (λj3 h=>?_) λκ2 h=>?_
  ·refine cN h (λhc h=>?_) λhc h=>?_
   ·refine S3 3 J ?_
    refine cA h a4u J J λv4 _ h=>S2 1 J<|b9 ?_
    cases h
    exact f1
   ·refine S4 2 J ?_
    refine cN h (λhc h=>?_) λhc h=>?_
    ·refine j5 ?_
     refine dr [] Ty.mix (by kernel_rfl) (by kernel_rfl)<|S7 3 J<|B2 h λv5 hv4 h=>d2 J (L9 J J2 J hv4) J<|S7 3 J<|B2 h λv6 hv5 h=>d2 J (L9 J J2 J hv5) J<|S8 1 J ?_
     refine cN h (λhc h=>?_) λhc h=>?_
     ·refine S4 1 J ?_
      refine b9 ?_
      cases h
      exact f1
     ·refine c8 ?_
      refine S4 1 J<|b9 ?_
      cases h
      exact f1
    ·refine c8 ?_
     refine S3 3 J<|cA h a4u J J λv7 _ h=>S2 1 J<|b9 ?_
     cases h
     exact f1
  ·refine S4 2 J ?_
   refine cN h (λhc h=>?_) λhc h=>?_
   ·refine c8 ?_
    exact eJ h W
   ·refine S6 2 J ?_
    exact eJ h W

theorem b3U{a0 a1}:PO Tryz.prog 96 [b6.Pv a0,k8.Pv a1] (p7 a0 a1) λr=>.tup [b6.Pv r.1,.I r.2.1,.I r.2.2]:=by
 refine pO Tryz.func96 λr h _ _=>?_
 refine S4 5 J<|j5<|S3 1 J<|cA h b3N J J λv1 _ h=>S2 1 J<|S4 2 J ?_
 refine cN h (λhc h=>?_) λhc h=>?_
 ·refine S4 5 J ?_
  refine b9 ?_
  cases h
  exact⟨J,[_,_,_],⟨oL J J J Ty.U0 Ty.M5 nl J,⟨J,⟨J,tr⟩⟩⟩,J,io⟩
 ·refine c8 ?_
  refine dr [] Ty.mix (by kernel_rfl) (by kernel_rfl)<|B2 h λv2 hv2 h=>d2f J (A0 J b0D J hv2) J<|S7 2 J<|d4 J (c8s (es:=v2) (k:=a1.Kind) (E:=fvE) (EK:=iF) (d:=.tup [fvE ((r8 v2 a1.Kind).getD (none:Fv)),.bool ((r8 v2 a1.Kind).isSome)]) J J Ty.a6V (s7 Ty.u3) Ty.d0A J (lk2 _ _ _)) J<|S8 5 J<|j5<|S4 2 J ?_
  refine cN h (λhc h=>?_) λhc h=>?_
  ·refine S4 4 J ?_
   refine b9 ?_
   cases h
   exact⟨J,[_,_,_],⟨oL J J J Ty.U0 Ty.M5 nl J,⟨J,⟨J,tr⟩⟩⟩,J,io⟩
  ·refine c8 ?_
   refine S3 3 J<|y0 J (o0 (cs:=[.L b7.Pv a0.S.S.a8,.I a0.S.S.Last,.I a0.S.Serial,.L iF a0.Roots,.L c4.Pv a0.a8,.L b8.Pv a0.T,.L g7.Pv a0.Q.L,.I a0.Q.Cap,.I a1.Kind,.I a1.A,.I a1.B,.I a1.C]) J Ty.c95 Ty.d0B J J J) ?_
   obtain⟨v3,hv3,h⟩:=a8g h
   obtain⟨n4,he4,hk5,hp6⟩:=b75 hv3
   refine G9 (b90 30 J he4)<|yc J (b5y J hk5 J hp6)<|S2 6 J<|j5<|S4 2 J ?_
   refine cN h (λhc h=>?_) λhc h=>?_
   ·refine S4 5 J ?_
    refine b9 ?_
    cases h
    exact⟨J,[_,_,_],⟨oL J J J Ty.U0 Ty.M5 nl J,⟨J,⟨J,tr⟩⟩⟩,J,io⟩
   ·refine c8 ?_
    refine S3 1 J<|cF h a49 J J λv5 _ h=>S2 2 J<|dr [] Ty.mix (by kernel_rfl) (by kernel_rfl)<|S7 4 J<|B2 h λv6 hv8 h=>d2 J (L9 J a9M J hv8) J<|a0J (x':=b6.Pv v5) (cl':=true) J J (.inr J) Ty.M5<|S8 2 J<|b9 ?_
    cases h
    exact⟨J,[_,_,_],⟨oL J J J Ty.U0 Ty.M5 nl J,⟨J,⟨J,tr⟩⟩⟩,J,io⟩

end Go.Proofs.YtlkcpapbolbjnaaGreat.Ok
