/-
 The functions of the program do as the plain functions do.
-/
import Derived.Test.YtlkcpapbolbjnaaGreatO20bPwC
import Derived.Test.YtlkcpapbolbjnaaGreatO20bPwD
import Derived.Test.YtlkcpapbolbjnaaGreatSrt
import Derived.Test.YtlkcpapbolbjnaaGreatO20bSh
import Derived.Test.YtlkcpapbolbjnaaGreatProg
set_option linter.unusedVariables false
set_option linter.unusedSimpArgs false
set_option linter.unusedSectionVars false
namespace Go.Proofs.YtlkcpapbolbjnaaGreat.Ok
open Go Go.Pw Go.Sh Go.Proofs
set_option maxRecDepth 100000
set_option maxHeartbeats 4000000
abbrev _root_.Go.Sh.k8.Pc(x:k8):List PV:=[.I x.Serial,.I x.Strong,.I x.Weak,.I x.Prog,.bool x.Started,.L iF x.Fields]
abbrev _root_.Go.Sh.k8.Pv(x:k8):PV:=.agg x.Pc
abbrev _root_.Go.Sh.b7.Pc(x:b7):List PV:=[.I x.State,.I x.Gen,.I x.Val.Serial,.I x.Val.Strong,.I x.Val.Weak,.I x.Val.Prog,.bool x.Val.Started,.L iF x.Val.Fields]
abbrev _root_.Go.Sh.b7.Pv(x:b7):PV:=.agg x.Pc
abbrev _root_.Go.Sh.g8.Pc(x:g8):List PV:=[.L b7.Pv x.Cells,.I x.Last]
abbrev _root_.Go.Sh.g8.Pv(x:g8):PV:=.agg x.Pc
abbrev _root_.Go.Sh.a7.Pc(x:a7):List PV:=[.L b7.Pv x.S.Cells,.I x.S.Last,.I x.Serial]
abbrev _root_.Go.Sh.a7.Pv(x:a7):PV:=.agg x.Pc
abbrev _root_.Go.Sh.g5.Pc(x:g5):List PV:=[.I x.Target,.bool x.Intact,.I x.Call]
abbrev _root_.Go.Sh.g5.Pv(x:g5):PV:=.agg x.Pc
abbrev _root_.Go.Sh.c7.Pc(x:c7):List PV:=[.I x.State,.I x.Key,.I x.Val]
abbrev _root_.Go.Sh.c7.Pv(x:c7):PV:=.agg x.Pc
abbrev _root_.Go.Sh.c8.Pc(x:c8):List PV:=[.I x.Kind,.I x.At,.I x.Prog]
abbrev _root_.Go.Sh.c8.Pv(x:c8):PV:=.agg x.Pc
abbrev _root_.Go.Sh.c9.Pc(x:c9):List PV:=[.L c8.Pv x.L,.I x.Cap]
abbrev _root_.Go.Sh.c9.Pv(x:c9):PV:=.agg x.Pc
abbrev _root_.Go.Sh.a8.Pc(x:a8):List PV:=[.L b7.Pv x.S.S.Cells,.I x.S.S.Last,.I x.S.Serial,.L iF x.Roots,.L g5.Pv x.Cells,.L c7.Pv x.T,.L c8.Pv x.Q.L,.I x.Q.Cap]
abbrev _root_.Go.Sh.a8.Pv(x:a8):PV:=.agg x.Pc
abbrev _root_.Go.Sh.j1.Pc(x:j1):List PV:=[.I x.Kind,.I x.A,.I x.B,.I x.C]
abbrev _root_.Go.Sh.j1.Pv(x:j1):PV:=.agg x.Pc
abbrev _root_.Go.Sh.B2.Pc(x:B2):List PV:=[.I x.Serial,.I x.Strong,.I x.Weak,.I x.Prog,.bool x.Started,.L iF x.Fields]
abbrev _root_.Go.Sh.B2.Pv(x:B2):PV:=.agg x.Pc
abbrev _root_.Go.Sh.n8.Pc(x:n8):List PV:=[.I x.State,.I x.Gen,.I x.Val.Serial,.I x.Val.Strong,.I x.Val.Weak,.I x.Val.Prog,.bool x.Val.Started,.L iF x.Val.Fields]
abbrev _root_.Go.Sh.n8.Pv(x:n8):PV:=.agg x.Pc
abbrev _root_.Go.Sh.s6.Pc(x:s6):List PV:=[.I x.Target,.bool x.Intact,.I x.Call]
abbrev _root_.Go.Sh.s6.Pv(x:s6):PV:=.agg x.Pc
abbrev _root_.Go.Sh.k7.Pc(x:k7):List PV:=[.I x.State,.I x.Key,.I x.Val]
abbrev _root_.Go.Sh.k7.Pv(x:k7):PV:=.agg x.Pc
abbrev _root_.Go.Sh.r8.Pc(x:r8):List PV:=[.I x.Kind,.I x.At,.I x.Prog]
abbrev _root_.Go.Sh.r8.Pv(x:r8):PV:=.agg x.Pc
abbrev _root_.Go.Sh.k9.Pc(x:k9):List PV:=[.L n8.Pv x.Cells,.I x.Last,.I x.Serial]
abbrev _root_.Go.Sh.k9.Pv(x:k9):PV:=.agg x.Pc
abbrev _root_.Go.Sh.w7.Pc(x:w7):List PV:=[.L r8.Pv x.L,.I x.Cap]
abbrev _root_.Go.Sh.w7.Pv(x:w7):PV:=.agg x.Pc
abbrev _root_.Go.Sh.g9.Pc(x:g9):List PV:=[.L n8.Pv x.S.Cells,.I x.S.Last,.I x.S.Serial,.L iF x.Roots,.L s6.Pv x.Cells,.L k7.Pv x.T,.L r8.Pv x.Q.L,.I x.Q.Cap]
abbrev _root_.Go.Sh.g9.Pv(x:g9):PV:=.agg x.Pc
abbrev _root_.Go.Sh.B5.Pc(x:B5):List PV:=[.I x.State,.I x.Gen,.I x.Val]
abbrev _root_.Go.Sh.B5.Pv(x:B5):PV:=.agg x.Pc
abbrev _root_.Go.Sh.C1.Pc(x:C1):List PV:=[.L B5.Pv x.Cells,.I x.Last]
abbrev _root_.Go.Sh.C1.Pv(x:C1):PV:=.agg x.Pc
abbrev _root_.Go.Sh.C7.Pc(x:C7):List PV:=[.I x.Key,.I x.Val]
abbrev _root_.Go.Sh.C7.Pv(x:C7):PV:=.agg x.Pc
abbrev _root_.Go.Sh.w9.Pc(x:w9):List PV:=[.I x.Kind,.I x.A,.I x.B,.I x.C]
abbrev _root_.Go.Sh.w9.Pv(x:w9):PV:=.agg x.Pc
abbrev _root_.Go.Sh.j2.Pc(x:j2):List PV:=[fvE x.part,.I x.least,.I x.most,.I x.e]
abbrev _root_.Go.Sh.j2.Pv(x:j2):PV:=.agg x.Pc
abbrev _root_.Go.Sh.p8.Pc(x:p8):List PV:=[.L b7.Pv x.x.S.S.Cells,.I x.x.S.S.Last,.I x.x.S.Serial,.L iF x.x.Roots,.L g5.Pv x.x.Cells,.L c7.Pv x.x.T,.L c8.Pv x.x.Q.L,.I x.x.Q.Cap,.I x.o.Kind,.I x.o.A,.I x.o.B,.I x.o.C]
abbrev _root_.Go.Sh.p8.Pv(x:p8):PV:=.agg x.Pc
abbrev _root_.Go.Sh.I0.Pc(x:I0):List PV:=[.I x.r,.I x.h]
abbrev _root_.Go.Sh.I0.Pv(x:I0):PV:=.agg x.Pc
abbrev _root_.Go.Sh.G3.Pc(x:G3):List PV:=[.I x.h,.I x.k,.I x.v]
abbrev _root_.Go.Sh.G3.Pv(x:G3):PV:=.agg x.Pc
abbrev _root_.Go.Sh.H9.Pc(x:H9):List PV:=[.L c7.Pv x.t]
abbrev _root_.Go.Sh.H9.Pv(x:H9):PV:=.agg x.Pc
abbrev _root_.Go.Sh.B9.Pc(x:B9):List PV:=[fvE x.kept]
abbrev _root_.Go.Sh.B9.Pv(x:B9):PV:=.agg x.Pc
abbrev _root_.Go.Sh.l6.Pc(x:l6):List PV:=[.I x.Key,.I x.Val]
abbrev _root_.Go.Sh.l6.Pv(x:l6):PV:=.agg x.Pc
theorem p7:H2 Tryz.prog 3=some false:=by kernel_rfl
theorem a3U:H2 Tryz.prog 4=some false:=by kernel_rfl
theorem c8Z:H2 Tryz.prog 22=some false:=by kernel_rfl
theorem a3e:H2 Tryz.prog 24=some true:=by kernel_rfl
theorem a49:H2 Tryz.prog 26=some true:=by kernel_rfl
theorem U9:H2 Tryz.prog 27=some false:=by kernel_rfl
theorem a7s:H2 Tryz.prog 28=some false:=by kernel_rfl
theorem a9V:H2 Tryz.prog 29=some false:=by kernel_rfl
theorem a7t:H2 Tryz.prog 30=some false:=by kernel_rfl
theorem a5a:H2 Tryz.prog 32=some true:=by kernel_rfl
theorem p5:H2 Tryz.prog 34=some true:=by kernel_rfl
theorem a58:H2 Tryz.prog 37=some false:=by kernel_rfl
theorem b97:H2 Tryz.prog 39=some true:=by kernel_rfl
theorem b98:H2 Tryz.prog 40=some false:=by kernel_rfl
theorem b6J:H2 Tryz.prog 41=some false:=by kernel_rfl
theorem b3S:H2 Tryz.prog 42=some false:=by kernel_rfl
theorem b6K:H2 Tryz.prog 44=some true:=by kernel_rfl
theorem a7u:H2 Tryz.prog 46=some true:=by kernel_rfl
theorem b3T:H2 Tryz.prog 62=some true:=by kernel_rfl
theorem b3U:H2 Tryz.prog 63=some false:=by kernel_rfl
theorem a0E:H2 Tryz.prog 79=some true:=by kernel_rfl
theorem c80:H2 Tryz.prog 91=some false:=by kernel_rfl
theorem b0u:H2 Tryz.prog 114=some true:=by kernel_rfl
theorem c6m:H2 Tryz.prog 135=some true:=by kernel_rfl
theorem c6n:H2 Tryz.prog 140=some false:=by kernel_rfl
theorem c6o:H2 Tryz.prog 142=some true:=by kernel_rfl
theorem c6p:H2 Tryz.prog 154=some true:=by kernel_rfl
theorem a3y:H2 Tryz.prog 279=some true:=by kernel_rfl
theorem c6q:H2 Tryz.prog 394=some true:=by kernel_rfl
theorem O2:H3 Tryz.prog 3=some 8:=by kernel_rfl
theorem c3G:H3 Tryz.prog 68=some 24:=by kernel_rfl
theorem c81:H3 Tryz.prog 79=some 24:=by kernel_rfl
theorem c82:H3 Tryz.prog 85=some 24:=by kernel_rfl
theorem c83:H3 Tryz.prog 91=some 24:=by kernel_rfl
theorem c1k:H3 Tryz.prog 129=some 80:=by kernel_rfl
theorem c6r:H3 Tryz.prog 132=some 80:=by kernel_rfl
theorem c6s:H3 Tryz.prog 134=some 24:=by kernel_rfl
theorem c1l:H3 Tryz.prog 135=some 24:=by kernel_rfl
theorem c6t:H3 Tryz.prog 154=some 32:=by kernel_rfl
theorem c6u:H3 Tryz.prog 170=some 24:=by kernel_rfl
theorem c6v:H3 Tryz.prog 199=some 16:=by kernel_rfl
theorem c6w:H3 Tryz.prog 206=some 24:=by kernel_rfl
theorem c1m:H3 Tryz.prog 235=some 16:=by kernel_rfl
theorem H0:y8 Tryz.prog 22=some 129:=by kernel_rfl
theorem j8:y8 Tryz.prog 27=some 3:=by kernel_rfl
theorem G0:y8 Tryz.prog 28=some 68:=by kernel_rfl
theorem Q0:y8 Tryz.prog 29=some 135:=by kernel_rfl
theorem F7:y8 Tryz.prog 30=some 79:=by kernel_rfl
theorem J8:y8 Tryz.prog 37=some 132:=by kernel_rfl
theorem a19:y8 Tryz.prog 40=some 170:=by kernel_rfl
theorem X9:y8 Tryz.prog 41=some 134:=by kernel_rfl
theorem V0:y8 Tryz.prog 42=some 85:=by kernel_rfl
theorem a6a:y8 Tryz.prog 74=some 73:=by kernel_rfl
theorem a6b:y8 Tryz.prog 77=some 74:=by kernel_rfl
theorem a6c:y8 Tryz.prog 81=some 91:=by kernel_rfl
theorem a9W:y8 Tryz.prog 91=some 154:=by kernel_rfl
theorem a3z:y8 Tryz.prog 140=some 206:=by kernel_rfl
theorem b6L:y8 Tryz.prog 168=some 35:=by kernel_rfl
theorem a4D:y8 Tryz.prog 196=some 199:=by kernel_rfl
theorem a59:y8 Tryz.prog 236=some 235:=by kernel_rfl
theorem a0q:y8 Tryz.prog 273=some 279:=by kernel_rfl
theorem b6M:y8 Tryz.prog 304=some 308:=by kernel_rfl
theorem c3H:E2 Tryz.prog 24 0=some (0,22):=by kernel_rfl
theorem b3V:E2 Tryz.prog 24 1=some (1,3):=by kernel_rfl
theorem b3W:E2 Tryz.prog 26 0=some (0,24):=by kernel_rfl
theorem b3X:E2 Tryz.prog 26 1=some (2,3):=by kernel_rfl
theorem a2O:E2 Tryz.prog 32 0=some (0,30):=by kernel_rfl
theorem c3I:E2 Tryz.prog 32 1=some (1,3):=by kernel_rfl
theorem c3J:E2 Tryz.prog 34 0=some (0,26):=by kernel_rfl
theorem a5p:E2 Tryz.prog 34 1=some (3,27):=by kernel_rfl
theorem a2P:E2 Tryz.prog 34 2=some (4,28):=by kernel_rfl
theorem b8I:E2 Tryz.prog 34 3=some (5,29):=by kernel_rfl
theorem a0L:E2 Tryz.prog 34 4=some (6,32):=by kernel_rfl
theorem a1t:E2 Tryz.prog 39 0=some (0,37):=by kernel_rfl
theorem b0v:E2 Tryz.prog 39 2=some (2,3):=by kernel_rfl
theorem a7v:E2 Tryz.prog 44 0=some (0,42):=by kernel_rfl
theorem c3K:E2 Tryz.prog 46 0=some (0,39):=by kernel_rfl
theorem b3Y:E2 Tryz.prog 46 1=some (3,27):=by kernel_rfl
theorem b3Z:E2 Tryz.prog 46 2=some (4,40):=by kernel_rfl
theorem b0w:E2 Tryz.prog 46 3=some (5,41):=by kernel_rfl
theorem a7w:E2 Tryz.prog 46 4=some (6,44):=by kernel_rfl
theorem a7x:E2 Tryz.prog 62 0=some (0,3):=by kernel_rfl
theorem a7y:E2 Tryz.prog 62 1=some (1,3):=by kernel_rfl
theorem a7z:E2 Tryz.prog 62 2=some (2,3):=by kernel_rfl
theorem a7A:E2 Tryz.prog 62 3=some (3,3):=by kernel_rfl
theorem b0x:E2 Tryz.prog 62 4=some (4,4):=by kernel_rfl
theorem a7B:E2 Tryz.prog 62 5=some (5,27):=by kernel_rfl
theorem b30:E2 Tryz.prog 68 0=some (0,3):=by kernel_rfl
theorem b0y:E2 Tryz.prog 68 1=some (1,4):=by kernel_rfl
theorem c3L:E2 Tryz.prog 68 2=some (2,3):=by kernel_rfl
theorem c3M:E2 Tryz.prog 79 0=some (0,3):=by kernel_rfl
theorem b31:E2 Tryz.prog 79 1=some (1,3):=by kernel_rfl
theorem b8J:E2 Tryz.prog 79 2=some (2,3):=by kernel_rfl
theorem b8K:E2 Tryz.prog 85 0=some (0,3):=by kernel_rfl
theorem a7C:E2 Tryz.prog 85 1=some (1,3):=by kernel_rfl
theorem b8L:E2 Tryz.prog 85 2=some (2,3):=by kernel_rfl
theorem b5Z:E2 Tryz.prog 114 0=some (0,3):=by kernel_rfl
theorem b50:E2 Tryz.prog 114 1=some (1,3):=by kernel_rfl
theorem b1Y:E2 Tryz.prog 114 2=some (2,3):=by kernel_rfl
theorem c2z:E2 Tryz.prog 114 3=some (3,3):=by kernel_rfl
theorem b1Z:E2 Tryz.prog 114 4=some (4,4):=by kernel_rfl
theorem b10:E2 Tryz.prog 114 5=some (5,27):=by kernel_rfl
theorem a5o:E2 Tryz.prog 129 0=some (0,3):=by kernel_rfl
theorem c2A:E2 Tryz.prog 129 1=some (1,3):=by kernel_rfl
theorem a8w:E2 Tryz.prog 129 2=some (2,114):=by kernel_rfl
theorem b11:E2 Tryz.prog 132 0=some (0,3):=by kernel_rfl
theorem b51:E2 Tryz.prog 132 1=some (1,3):=by kernel_rfl
theorem a1g:E2 Tryz.prog 132 2=some (2,62):=by kernel_rfl
theorem b52:E2 Tryz.prog 134 0=some (0,3):=by kernel_rfl
theorem b53:E2 Tryz.prog 134 1=some (1,3):=by kernel_rfl
theorem c2B:E2 Tryz.prog 134 2=some (2,3):=by kernel_rfl
theorem c2C:E2 Tryz.prog 135 0=some (0,3):=by kernel_rfl
theorem b54:E2 Tryz.prog 135 1=some (1,3):=by kernel_rfl
theorem c2D:E2 Tryz.prog 142 0=some (0,140):=by kernel_rfl
theorem b12:E2 Tryz.prog 142 1=some (1,3):=by kernel_rfl
theorem c2E:E2 Tryz.prog 154 0=some (0,3):=by kernel_rfl
theorem b13:E2 Tryz.prog 170 0=some (0,3):=by kernel_rfl
theorem b55:E2 Tryz.prog 170 1=some (1,4):=by kernel_rfl
theorem c2F:E2 Tryz.prog 170 2=some (2,3):=by kernel_rfl
theorem c2G:E2 Tryz.prog 199 1=some (1,3):=by kernel_rfl
theorem b14:E2 Tryz.prog 206 0=some (0,3):=by kernel_rfl
theorem b56:E2 Tryz.prog 206 1=some (1,3):=by kernel_rfl
theorem b57:E2 Tryz.prog 235 1=some (1,3):=by kernel_rfl
theorem c2H:E2 Tryz.prog 279 2=some (2,3):=by kernel_rfl
theorem a7D:c5X Tryz.prog 3=some .i64:=by kernel_rfl
theorem c6x:A6 Tryz.prog 102:=kC Tryz.func102 J
theorem c6y:A6 Tryz.prog 103:=kC Tryz.func103 J
theorem c6z:A6 Tryz.prog 120:=kC Tryz.func120 J
theorem c1n:A6 Tryz.prog 136:=kC Tryz.func136 J
theorem c6A:A6 Tryz.prog 185:=kC Tryz.func185 J
theorem c6B:A6 Tryz.prog 193:=kC Tryz.func193 J
theorem c6C:A6 Tryz.prog 203:=kC Tryz.func203 J
theorem c6D:A6 Tryz.prog 204:=kC Tryz.func204 J
theorem c6E:A6 Tryz.prog 214:=kC Tryz.func214 J
theorem c1o:A6 Tryz.prog 292:=kC Tryz.func292 J
theorem c1p:A6 Tryz.prog 344:=kC Tryz.func344 J
theorem c1q:A6 Tryz.prog 350:=kC Tryz.func350 J
theorem c6F:A6 Tryz.prog 368:=kC Tryz.func368 J
theorem c6G:A6 Tryz.prog 375:=kC Tryz.func375 J
theorem c1r:A6 Tryz.prog 382:=kC Tryz.func382 J
theorem c6H:A6 Tryz.prog 396:=kC Tryz.func396 J
theorem c6I:A6 Tryz.prog 397:=kC Tryz.func397 J
theorem b32:b0l Tryz.prog 150=some (3,3):=by kernel_rfl
theorem Z5:b0l Tryz.prog 210=some (3,208):=by kernel_rfl
theorem b8M:b0l Tryz.prog 239=some (79,4):=by kernel_rfl
theorem b0z:b0l Tryz.prog 254=some (3,4):=by kernel_rfl
theorem T1:b0l Tryz.prog 275=some (3,273):=by kernel_rfl
theorem c3N:D1 Tryz.prog 24=some (λi=>(#[(0,1),(1,1)]:Array (Nat × Nat))[i]?):=by kernel_rfl
theorem c3O:D1 Tryz.prog 26=some (λi=>(#[(0,2),(2,1)]:Array (Nat × Nat))[i]?):=by kernel_rfl
theorem c84:D1 Tryz.prog 32=some (λi=>(#[(0,1),(1,1)]:Array (Nat × Nat))[i]?):=by kernel_rfl
theorem c3P:D1 Tryz.prog 34=some (λi=>(#[(0,3),(3,1),(4,1),(5,1),(6,2)]:Array (Nat × Nat))[i]?):=by kernel_rfl
theorem c85:D1 Tryz.prog 39=some (λi=>(#[(0,1),(1,1),(2,1)]:Array (Nat × Nat))[i]?):=by kernel_rfl
theorem c86:D1 Tryz.prog 44=some (λi=>(#[(0,1),(1,1)]:Array (Nat × Nat))[i]?):=by kernel_rfl
theorem c87:D1 Tryz.prog 46=some (λi=>(#[(0,3),(3,1),(4,1),(5,1),(6,2)]:Array (Nat × Nat))[i]?):=by kernel_rfl
theorem c3Q:D1 Tryz.prog 62=some (λi=>(#[(0,1),(1,1),(2,1),(3,1),(4,1),(5,1)]:Array (Nat × Nat))[i]?):=by kernel_rfl
theorem c88:D1 Tryz.prog 68=some (λi=>(#[(0,1),(1,1),(2,1)]:Array (Nat × Nat))[i]?):=by kernel_rfl
theorem b33:D1 Tryz.prog 73=some (λi=>(#[(0,1),(1,1),(2,1),(3,1)]:Array (Nat × Nat))[i]?):=by kernel_rfl
theorem b15:D1 Tryz.prog 79=some (λi=>(#[(0,1),(1,1),(2,1)]:Array (Nat × Nat))[i]?):=by kernel_rfl
theorem c6J:D1 Tryz.prog 114=some (λi=>(#[(0,1),(1,1),(2,1),(3,1),(4,1),(5,1)]:Array (Nat × Nat))[i]?):=by kernel_rfl
theorem b3l:D1 Tryz.prog 129=some (λi=>(#[(0,1),(1,1),(2,6)]:Array (Nat × Nat))[i]?):=by kernel_rfl
theorem c6K:D1 Tryz.prog 132=some (λi=>(#[(0,1),(1,1),(2,6)]:Array (Nat × Nat))[i]?):=by kernel_rfl
theorem b3m:D1 Tryz.prog 135=some (λi=>(#[(0,1),(1,1),(2,1)]:Array (Nat × Nat))[i]?):=by kernel_rfl
theorem c6L:D1 Tryz.prog 142=some (λi=>(#[(0,1),(1,1)]:Array (Nat × Nat))[i]?):=by kernel_rfl
theorem c6M:D1 Tryz.prog 199=some (λi=>(#[(0,1),(1,1)]:Array (Nat × Nat))[i]?):=by kernel_rfl
theorem c6N:D1 Tryz.prog 206=some (λi=>(#[(0,1),(1,1),(2,1)]:Array (Nat × Nat))[i]?):=by kernel_rfl
theorem c6O:D1 Tryz.prog 213=some (λi=>(#[(0,8),(8,4)]:Array (Nat × Nat))[i]?):=by kernel_rfl
theorem c6P:D1 Tryz.prog 225=some (λi=>(#[(0,1),(1,1)]:Array (Nat × Nat))[i]?):=by kernel_rfl
theorem c1s:D1 Tryz.prog 235=some (λi=>(#[(0,1),(1,1)]:Array (Nat × Nat))[i]?):=by kernel_rfl
theorem c6Q:D1 Tryz.prog 250=some (λi=>(#[(0,1)]:Array (Nat × Nat))[i]?):=by kernel_rfl
theorem a1u:D1 Tryz.prog 279=some (λi=>(#[(0,1),(1,1),(2,1),(3,1)]:Array (Nat × Nat))[i]?):=by kernel_rfl
theorem b3n:D1 Tryz.prog 308=some (λi=>(#[(0,1)]:Array (Nat × Nat))[i]?):=by kernel_rfl
theorem c6R:D1 Tryz.prog 378=some (λi=>(#[(0,1),(1,1),(2,1)]:Array (Nat × Nat))[i]?):=by kernel_rfl
theorem c6S:D1 Tryz.prog 386=some (λi=>(#[(0,1)]:Array (Nat × Nat))[i]?):=by kernel_rfl
theorem c1t:D1 Tryz.prog 394=some (λi=>some (i*1,1)):=by kernel_rfl
theorem b6N:a0F Tryz.prog 79=some [1,1,1]:=by kernel_rfl
theorem c89:a0F Tryz.prog 85=some [1,1,1]:=by kernel_rfl
theorem c6T:a0F Tryz.prog 134=some [1,1,1]:=by kernel_rfl
theorem c1u:a0F Tryz.prog 135=some [1,1,1]:=by kernel_rfl
theorem c6U:a0F Tryz.prog 170=some [1,0,1]:=by kernel_rfl
theorem c6V:a0F Tryz.prog 394=some [1,1,1,1]:=by kernel_rfl
theorem o8:r7 Tryz.prog 3=some 1:=by kernel_rfl
theorem d05:r7 Tryz.prog 4=some 1:=by kernel_rfl
theorem a1v:r7 Tryz.prog 24=some 2:=by kernel_rfl
theorem a5b:r7 Tryz.prog 26=some 3:=by kernel_rfl
theorem c9a:r7 Tryz.prog 27=some 1:=by kernel_rfl
theorem c3R:r7 Tryz.prog 30=some 1:=by kernel_rfl
theorem a1w:r7 Tryz.prog 32=some 2:=by kernel_rfl
theorem n9:r7 Tryz.prog 34=some 8:=by kernel_rfl
theorem c3S:r7 Tryz.prog 35=some 1:=by kernel_rfl
theorem b99:r7 Tryz.prog 39=some 3:=by kernel_rfl
theorem b6O:r7 Tryz.prog 44=some 2:=by kernel_rfl
theorem a6e:r7 Tryz.prog 46=some 8:=by kernel_rfl
theorem a7E:r7 Tryz.prog 62=some 6:=by kernel_rfl
theorem T2:r7 Tryz.prog 68=some 3:=by kernel_rfl
theorem b34:r7 Tryz.prog 73=some 4:=by kernel_rfl
theorem b35:r7 Tryz.prog 74=some 1:=by kernel_rfl
theorem D9:r7 Tryz.prog 79=some 3:=by kernel_rfl
theorem a3f:r7 Tryz.prog 85=some 3:=by kernel_rfl
theorem a9X:r7 Tryz.prog 91=some 1:=by kernel_rfl
theorem a4E:r7 Tryz.prog 114=some 6:=by kernel_rfl
theorem M0:r7 Tryz.prog 129=some 8:=by kernel_rfl
theorem M1:r7 Tryz.prog 132=some 8:=by kernel_rfl
theorem a0X:r7 Tryz.prog 134=some 3:=by kernel_rfl
theorem V1:r7 Tryz.prog 135=some 3:=by kernel_rfl
theorem c6W:r7 Tryz.prog 140=some 1:=by kernel_rfl
theorem c1v:r7 Tryz.prog 142=some 2:=by kernel_rfl
theorem a8x:r7 Tryz.prog 154=some 4:=by kernel_rfl
theorem a6d:r7 Tryz.prog 170=some 3:=by kernel_rfl
theorem a8y:r7 Tryz.prog 199=some 2:=by kernel_rfl
theorem a8z:r7 Tryz.prog 206=some 3:=by kernel_rfl
theorem b0A:r7 Tryz.prog 235=some 2:=by kernel_rfl
theorem K6:r7 Tryz.prog 279=some 4:=by kernel_rfl
theorem c1w:r7 Tryz.prog 308=some 1:=by kernel_rfl
theorem c6X:r7 Tryz.prog 394=some 4:=by kernel_rfl
theorem O9:Tryz.prog.underlying 3=some (.int .i64):=by kernel_rfl
theorem c1x:Tryz.prog.underlying 4=some (.bool):=by kernel_rfl
theorem a7F:Tryz.prog.underlying 5=some (.int .u8):=by kernel_rfl
theorem C2:y5 Tryz.prog 3=some ((.I 0)):=by kernel_rfl
theorem c3W:y5 Tryz.prog 4=some ((.bool false)):=by kernel_rfl
theorem c3T:y5 Tryz.prog 24=some ((.agg #[(.slice none 0 0),(.I 0)])):=by kernel_rfl
theorem c3U:y5 Tryz.prog 26=some ((.agg #[(.slice none 0 0),(.I 0),(.I 0)])):=by kernel_rfl
theorem c9b:y5 Tryz.prog 32=some ((.agg #[(.slice none 0 0),(.I 0)])):=by kernel_rfl
theorem c3V:y5 Tryz.prog 34=some ((.agg #[(.slice none 0 0),(.I 0),(.I 0),(.slice none 0 0),(.slice none 0 0),(.slice none 0 0),(.slice none 0 0),(.I 0)])):=by kernel_rfl
theorem c9c:y5 Tryz.prog 35=some (.nilFunc):=by kernel_rfl
theorem c9d:y5 Tryz.prog 39=some ((.agg #[(.slice none 0 0),(.I 0),(.I 0)])):=by kernel_rfl
theorem c9e:y5 Tryz.prog 44=some ((.agg #[(.slice none 0 0),(.I 0)])):=by kernel_rfl
theorem c9f:y5 Tryz.prog 46=some ((.agg #[(.slice none 0 0),(.I 0),(.I 0),(.slice none 0 0),(.slice none 0 0),(.slice none 0 0),(.slice none 0 0),(.I 0)])):=by kernel_rfl
theorem c3X:y5 Tryz.prog 62=some ((.agg #[(.I 0),(.I 0),(.I 0),(.I 0),(.bool false),(.slice none 0 0)])):=by kernel_rfl
theorem c0a:y5 Tryz.prog 68=some ((.agg #[(.I 0),(.bool false),(.I 0)])):=by kernel_rfl
theorem a9Y:y5 Tryz.prog 73=some ((.agg #[(.I 0),(.I 0),(.I 0),(.I 0)])):=by kernel_rfl
theorem c9g:y5 Tryz.prog 74=some ((.slice none 0 0)):=by kernel_rfl
theorem a7G:y5 Tryz.prog 79=some ((.agg #[(.I 0),(.I 0),(.I 0)])):=by kernel_rfl
theorem c3Y:y5 Tryz.prog 85=some ((.agg #[(.I 0),(.I 0),(.I 0)])):=by kernel_rfl
theorem c3Z:y5 Tryz.prog 91=some ((.slice none 0 0)):=by kernel_rfl
theorem c6Y:y5 Tryz.prog 114=some ((.agg #[(.I 0),(.I 0),(.I 0),(.I 0),(.bool false),(.slice none 0 0)])):=by kernel_rfl
theorem a8A:y5 Tryz.prog 129=some ((.agg #[(.I 0),(.I 0),(.I 0),(.I 0),(.I 0),(.I 0),(.bool false),(.slice none 0 0)])):=by kernel_rfl
theorem b6P:y5 Tryz.prog 132=some ((.agg #[(.I 0),(.I 0),(.I 0),(.I 0),(.I 0),(.I 0),(.bool false),(.slice none 0 0)])):=by kernel_rfl
theorem c1y:y5 Tryz.prog 134=some ((.agg #[(.I 0),(.I 0),(.I 0)])):=by kernel_rfl
theorem a8B:y5 Tryz.prog 135=some ((.agg #[(.I 0),(.I 0),(.I 0)])):=by kernel_rfl
theorem c6Z:y5 Tryz.prog 142=some ((.agg #[(.slice none 0 0),(.I 0)])):=by kernel_rfl
theorem c1z:y5 Tryz.prog 154=some ((.agg #[(.I 0),(.I 0),(.I 0),(.I 0)])):=by kernel_rfl
theorem c1A:y5 Tryz.prog 170=some ((.agg #[(.I 0),(.bool false),(.I 0)])):=by kernel_rfl
theorem b6Q:y5 Tryz.prog 199=some ((.agg #[(.I 0),(.I 0)])):=by kernel_rfl
theorem b6R:y5 Tryz.prog 206=some ((.agg #[(.I 0),(.I 0),(.I 0)])):=by kernel_rfl
theorem c60:y5 Tryz.prog 208=some (.nilFunc):=by kernel_rfl
theorem c61:y5 Tryz.prog 213=some ((.agg #[(.slice none 0 0),(.I 0),(.I 0),(.slice none 0 0),(.slice none 0 0),(.slice none 0 0),(.slice none 0 0),(.I 0),(.I 0),(.I 0),(.I 0),(.I 0)])):=by kernel_rfl
theorem c62:y5 Tryz.prog 225=some ((.agg #[(.I 0),(.I 0)])):=by kernel_rfl
theorem a8C:y5 Tryz.prog 235=some ((.agg #[(.I 0),(.I 0)])):=by kernel_rfl
theorem c63:y5 Tryz.prog 250=some ((.agg #[.nilFunc])):=by kernel_rfl
theorem c64:y5 Tryz.prog 273=some ((.slice none 0 0)):=by kernel_rfl
theorem J5:y5 Tryz.prog 279=some ((.agg #[.nilFunc,(.I 0),(.I 0),(.I 0)])):=by kernel_rfl
theorem b0B:y5 Tryz.prog 308=some ((.agg #[.nilFunc])):=by kernel_rfl
theorem c65:y5 Tryz.prog 378=some ((.agg #[(.I 0),(.I 0),(.I 0)])):=by kernel_rfl
theorem c66:y5 Tryz.prog 386=some ((.agg #[(.slice none 0 0)])):=by kernel_rfl
theorem c1B:y5 Tryz.prog 394=some ((.agg #[(.I 0),(.I 0),(.I 0),(.I 0)])):=by kernel_rfl
theorem u5:Tryz.prog.follows .mixedOrders=true:=by kernel_rfl
def tb:TB:=⟨[((24,0),(0,22)),((24,1),(1,3)),((26,0),(0,24)),((26,1),(2,3)),((32,0),(0,30)),((32,1),(1,3)),((34,0),(0,26)),((34,1),(3,27)),((34,2),(4,28)),((34,3),(5,29)),((34,4),(6,32)),((39,0),(0,37)),((39,1),(1,3)),((44,0),(0,42)),((44,1),(1,3)),((46,0),(0,39)),((46,1),(3,27)),((46,2),(4,40)),((46,3),(5,41)),((46,4),(6,44)),((62,0),(0,3)),((62,1),(1,3)),((62,2),(2,3)),((62,5),(5,27)),((68,0),(0,3)),((68,1),(1,4)),((68,2),(2,3)),((73,0),(0,3)),((73,1),(1,3)),((73,2),(2,3)),((73,3),(3,3)),((79,0),(0,3)),((79,1),(1,3)),((79,2),(2,3)),((85,0),(0,3)),((85,1),(1,3)),((114,0),(0,3)),((114,1),(1,3)),((114,2),(2,3)),((114,3),(3,3)),((114,4),(4,4)),((114,5),(5,27)),((129,0),(0,3)),((129,1),(1,3)),((129,2),(2,114)),((132,0),(0,3)),((132,1),(1,3)),((132,2),(2,62)),((134,0),(0,3)),((134,1),(1,3)),((134,2),(2,3)),((135,0),(0,3)),((135,1),(1,3)),((135,2),(2,3)),((142,0),(0,140)),((154,0),(0,3)),((154,1),(1,3)),((154,2),(2,3)),((154,3),(3,3)),((170,0),(0,3)),((170,2),(2,3)),((199,0),(0,3)),((199,1),(1,3)),((206,0),(0,3)),((206,1),(1,3)),((206,2),(2,3)),((213,0),(0,34)),((213,1),(8,73)),((225,0),(0,3)),((225,1),(1,3)),((235,0),(0,3)),((250,0),(0,248)),((279,0),(0,277)),((279,1),(1,3)),((279,3),(3,63)),((308,0),(0,306)),((378,0),(0,3)),((378,1),(1,3)),((378,2),(2,3)),((386,0),(0,29))],[(3,false),(4,false),(22,false),(24,true),(26,true),(27,false),(28,false),(29,false),(30,false),(32,true),(34,true),(35,false),(37,false),(39,true),(40,false),(41,false),(42,false),(44,true),(46,true),(62,true),(63,false),(68,true),(73,true),(74,false),(77,false),(79,true),(85,true),(91,false),(114,true),(129,true),(132,true),(134,true),(135,true),(140,false),(142,true),(150,false),(154,true),(170,true),(206,true),(213,true),(235,true),(236,false),(238,false),(239,false),(248,false),(250,true),(277,false),(279,true),(306,false),(308,true)],[(3,1),(4,1),(22,1),(24,2),(26,3),(27,1),(28,1),(29,1),(32,2),(34,8),(39,3),(44,2),(46,8),(62,6),(63,1),(68,3),(73,4),(79,3),(85,3),(114,6),(129,8),(132,8),(134,3),(135,3),(142,2),(150,1),(154,4),(170,3),(206,3),(213,12),(235,2),(236,1),(239,1),(250,1),(279,4),(308,1),(394,4)],[(3,.I 0),(4,.bool false),(24,.agg [.lst true (List.map b7.Pv []),.I 0]),(26,.agg [.lst true (List.map b7.Pv []),.I 0,.I 0]),(27,.lst true (List.map iF [])),(29,.lst true (List.map c7.Pv [])),(32,.agg [.lst true (List.map c8.Pv []),.I 0]),(34,.agg [.lst true (List.map b7.Pv []),.I 0,.I 0,.lst true (List.map iF []),.lst true (List.map g5.Pv []),.lst true (List.map c7.Pv []),.lst true (List.map c8.Pv []),.I 0]),(39,.agg [.lst true (List.map n8.Pv []),.I 0,.I 0]),(44,.agg [.lst true (List.map r8.Pv []),.I 0]),(46,.agg [.lst true (List.map n8.Pv []),.I 0,.I 0,.lst true (List.map iF []),.lst true (List.map s6.Pv []),.lst true (List.map k7.Pv []),.lst true (List.map r8.Pv []),.I 0]),(62,.agg [.I 0,.I 0,.I 0,.I 0,.bool false,.lst true (List.map iF [])]),(63,.I 0),(68,.agg [.I 0,.bool false,.I 0]),(73,.agg [.I 0,.I 0,.I 0,.I 0]),(79,.agg [.I 0,.I 0,.I 0]),(85,.agg [.I 0,.I 0,.I 0]),(114,.agg [.I 0,.I 0,.I 0,.I 0,.bool false,.lst true (List.map iF [])]),(129,.agg [.I 0,.I 0,.I 0,.I 0,.I 0,.I 0,.bool false,.lst true (List.map iF [])]),(132,.agg [.I 0,.I 0,.I 0,.I 0,.I 0,.I 0,.bool false,.lst true (List.map iF [])]),(134,.agg [.I 0,.I 0,.I 0]),(135,.agg [.I 0,.I 0,.I 0]),(142,.agg [.lst true (List.map B5.Pv []),.I 0]),(150,.abs b96),(170,.agg [.I 0,.bool false,.I 0]),(206,.agg [.I 0,.I 0,.I 0]),(235,.agg [.I 0,.I 0]),(236,.lst true (List.map l6.Pv [])),(239,.abs b96),(250,.agg [.nilfn]),(279,.agg [.nilfn,.I 0,.I 0,.I 0]),(308,.agg [.nilfn]),(394,.agg [.I 0,.I 0,.I 0,.I 0])]⟩
theorem Tb:TB.Ok Tryz.prog tb:=⟨by kernel_rfl,by kernel_rfl,by kernel_rfl,by kernel_rfl⟩
section
variable{X:Ctx}{ops:Array Oper}{K:Ctx→St→Prop}{i n:Nat}{l l':List Oper}{env env':Nat→PV}{σ σ':Nat→Option Row}{Q:PX→Ctx→St→Prop}{y:Code}{KD:St→Prop}{bar:List Nat}
theorem S1(n:Nat)(h:run tb n l env σ=some (l',env',σ'))(k:Sq X ops (i+n) l' K ⟨env',σ'⟩)(hb:TB.Ok X.P tb:=by exact Tb):Sq X ops i l K ⟨env,σ⟩:=seg hb n h k
theorem S2(n:Nat)(h:run tb n l env σ=some ([],env',σ'))(k:K X ⟨env',σ'⟩)(hb:TB.Ok X.P tb:=by exact Tb):Sq X ops i l K ⟨env,σ⟩:=seg hb n h (yN k)
theorem S3{id:Nat}(n:Nat)(h:run tb n l env σ=some (l',env',σ'))(k:Sq X l.toArray (0+n) l' (λX' s=>U4 X' y Q s) ⟨env',σ'⟩)(hd:a2Q X.N l.toArray=true:=by kernel_rfl)(hb:TB.Ok X.P tb:=by exact Tb):U4 X (.seq (.region id l.toArray false) y) Q ⟨env,σ⟩:=sr hd (seg hb n h k)
theorem S4{id:Nat}(n:Nat)(h:run tb n l env σ=some ([],env',σ'))(k:U4 X y Q ⟨env',σ'⟩)(hd:a2Q X.N l.toArray=true:=by kernel_rfl)(hb:TB.Ok X.P tb:=by exact Tb):U4 X (.seq (.region id l.toArray false) y) Q ⟨env,σ⟩:=sr hd (seg hb n h (yN k))
theorem S5{id:Nat}(n:Nat)(h:run tb n l env σ=some (l',env',σ'))(k:Sq X l.toArray (0+n) l' (Q .normal) ⟨env',σ'⟩)(hd:a2Q X.N l.toArray=true:=by kernel_rfl)(hb:TB.Ok X.P tb:=by exact Tb):U4 X (.region id l.toArray false) Q ⟨env,σ⟩:=sr1 hd (seg hb n h k)
theorem S6{id:Nat}(n:Nat)(h:run tb n l env σ=some ([],env',σ'))(k:Q .normal X ⟨env',σ'⟩)(hd:a2Q X.N l.toArray=true:=by kernel_rfl)(hb:TB.Ok X.P tb:=by exact Tb):U4 X (.region id l.toArray false) Q ⟨env,σ⟩:=sr1 hd (seg hb n h (yN k))
theorem S7(n:Nat)(h:c74 tb bar n i l env σ=some (l',env',σ'))(k:Ex X.P ops bar true (i+n) l' ⟨env',σ'⟩ KD)(hb:TB.Ok X.P tb:=by exact Tb):Ex X.P ops bar true i l ⟨env,σ⟩ KD:=dG hb n h k
theorem S8(n:Nat)(h:c74 tb bar n i l env σ=some ([],env',σ'))(k:KD ⟨env',σ'⟩)(hb:TB.Ok X.P tb:=by exact Tb):Ex X.P ops bar true i l ⟨env,σ⟩ KD:=dG hb n h k
end
theorem d0H:b6I Tryz.prog (Tryz.sortF_ren.f 6):=c3r Tryz.sortF
theorem b8v{a0}:PO Tryz.prog 119 [a7.Pv a0] (a9m a0) λr=>.bool r:=by
 refine pO Tryz.func119 λr h _ _=>?_;refine S4 2 J ?_;refine jq h (λ_=>St.of [(1,.ptr 1 0 0)] [(1,vR (a7.Pv a0) 3)]) (λq6 h=>?_) λκ5 h=>?_
 ·refine S3 3 J ?_;refine nL J H0<|S2 2 J<|b8 ?_;cases h;exact f1
 ·refine S4 1 J ?_;refine g6<|lq h (λs8=>St.of [(1,.ptr 1 0 0),(3,.I s8)] [(1,vR (a7.Pv a0) 3)]) W λs8 x9 h hx8=>g7<|S3 4 J<|nL J H0<|S1 2 J<|c5 J (λhg=>mI J)<|c5 J (λhg=>l5 (ct hg) J J)<|y0 J (m8 J J J (λq=>J2 q))<|yN ?_;refine cN h (λhc h=>?_) λhc h=>?_
  ·refine b9 ?_;refine g7<|g6<|S3 4 J<|iL h J J H0 M0 λv10 _ h=>S1 3 J<|nL J j8<|S2 1 J ?_;refine cN h (λhc h=>?_) λhc h=>?_
   ·refine S4 1 J ?_;refine b8 ?_;have h:=xL hx8 h;cases h;exact f1
   ·refine b9 ?_;refine S6 3 J ?_;exact eL h W
  ·refine m7 ?_;refine c4<|c4<|j4 ?_;have h:=xL hx8 h;exact eJ h W

theorem a1e{a0}:PO Tryz.prog 49 [a8.Pv a0] (a10 a0) λr=>.bool r:=by
 refine pO Tryz.func49 λr h _ _=>?_;refine S4 2 J<|S3 2 J<|cA h b8v J J λv1 _ h=>S1 1 J<|c5 J (λhg=>oF J a5p J)<|c5 J (λhg=>oS (ct hg) J J U9 J)<|c5 J (λhg=>J7 (f:=iF) (ct hg) j8)<|c5 J (λhg=>l5 (ct hg) J J)<|y0 J (m8 J J J (λq=>J2 q))<|S1 1 J<|c5 J (λhg=>oF J a2P J)<|c5 J (λhg=>oS (ct hg) J J a7s J)<|c5 J (λhg=>J7 (f:=g5.Pv) (ct hg) G0)<|c5 J (λhg=>l5 (ct hg) J J)<|y0 J (m8 J J J (λq=>J2 q))<|S1 1 J<|c5 J (λhg=>oF J b8I J)<|c5 J (λhg=>oS (ct hg) J J a9V J)<|c5 J (λhg=>J7 (f:=c7.Pv) (ct hg) Q0)<|c5 J (λhg=>l5 (ct hg) J J)<|y0 J (m8 J J J (λq=>J2 q))<|S1 1 J<|c5 J (λhg=>oF J a0L J)<|c5 J (λhg=>oF (ct hg) a2O J)<|c5 J (λhg=>oS (ct hg) J J a7t J)<|c5 J (λhg=>J7 (f:=c8.Pv) (ct hg) F7)<|c5 J (λhg=>l5 (ct hg) J J)<|y0 J (m8 J J J (λq=>J2 q))<|S2 1 J<|b8 ?_;cases h;exact f1

theorem c1d{a0}:PO Tryz.prog 192 [k8.Pv a0] (b3P a0) λr=>B2.Pv r:=by
 refine pO Tryz.func192 λr h _ _=>?_;unfold b3P at h;refine S4 2 J<|S3 12 J<|y0 J (s7 (cs:=[.I a0.Serial,.I a0.Strong,.I a0.Weak,.I a0.Prog,.bool a0.Started,.L iF a0.Fields]) J c3Q c3X J J J)<|S2 1 J<|b8 ?_;cases h;exact⟨J,[_],⟨oL J J J b3T a7E nl J,tr⟩,J,io⟩

theorem c1c{a0}:PO Tryz.prog 115 [a7.Pv a0] (b3O a0) λr=>k9.Pv r:=by
 refine pO Tryz.func115 λr h _ _=>?_;refine S4 2 J<|sR<|y0 J (G1 J J8 M1)<|S2 1 J ?_;refine jq h (λj10=>St.of [(1,.ptr 1 0 0),(2,.ptr 2 0 0),(3,.sl 910003)] [(910003,⟨List.map n8.Pv j10,(List.map n8.Pv j10).length,true,8,true⟩),(2,vR (.agg [.nl,.I 0,.I 0]) 3),(1,vR (a7.Pv a0) 3)]) (λj10 h=>?_) λκ9 h=>?_
 ·refine S3 6 J ?_;refine y0 J (s7 (cs:=[.sl 910003,.I a0.S.Last,.I a0.Serial]) J c85 c9d J J J)<|S2 1 J<|b8 ?_;cases h;exact⟨J,[_],⟨oL J J J b97 b99 nl J,tr⟩,J,io⟩
 ·refine S4 1 J ?_;refine g6<|lq h (λq=>St.of [(1,.ptr 1 0 0),(2,.ptr 2 0 0),(3,.sl 910003),(4,.I q.1)] [(2,vR (.agg [.nl,.I 0,.I 0]) 3),(1,vR (a7.Pv a0) 3),(910003,⟨List.map n8.Pv q.2,(List.map n8.Pv q.2).length,true,8,true⟩)]) (Wk.trans (H4 (t:=3) (l:=920003) (z:=8) J J) (WP (λl=>if l=910003 then 920003 else l))) λq15 x14 h hx10=>?_
  obtain⟨s12,s13⟩:=q15;refine g7<|S3 4 J<|nL J H0<|S2 1 J ?_;refine cN h (λhc h=>?_) λhc h=>?_
  ·refine b9 ?_;refine g7<|g6<|S3 4 J<|iL h J J H0 M0 λv16 _ h=>S2 3 J<|a7Z [] u5 (by kernel_rfl) (by kernel_rfl)<|S7 7 J<|w8 h λv17 hv12 h=>d2f J (B0 J c1d J hv12) J<|d7 J (λ_ hN=>s7 (cs:=[.I v16.State,.I v16.Gen,.I v17.Serial,.I v17.Strong,.I v17.Weak,.I v17.Prog,.bool v17.Started,.L iF v17.Fields]) J c6K b6P J J J) J<|d1n J (N9 (f:=n8.Pv) (l:=[(⟨v16.State,v16.Gen,v17⟩:n8)]) J J8 M1 b6P J J nl J J) J<|w8 h λv18 hv13 h=>d3a J (K5 (f:=n8.Pv) hv13 J J J J J J (.inl ⟨_,J,J⟩) J8 M1 c6r b6P J (λ_=>J)) J J J J J<|S8 1 J<|S6 3 J ?_
   exact eL h (Wk.trans (n7 _ [31]) (WP (λl=>if l=910003 then 31 else l)))
  ·refine m7 ?_;refine c4<|c4<|j4 ?_;have h:=xL hx10 h;exact eJ h (Wk.trans (n7 _ [910003]) W)

theorem b8t{a0}:PO Tryz.prog 116 [.L g5.Pv a0] (a9k a0) λr=>.L s6.Pv r:=by
 refine pO Tryz.func116 λr h _ _=>?_;refine S4 1 J<|sR<|y0 J (G1 J a19 a6d)<|S2 1 J ?_;refine jq h (λj9=>St.of [(3,.sl 910003)] [(910003,⟨List.map s6.Pv j9,(List.map s6.Pv j9).length,true,3,true⟩)]) (λj9 h=>?_) λκ8 h=>?_
 ·refine S4 2 J ?_;refine b8 ?_;cases h;exact f1
 ·refine S4 1 J ?_;refine g6<|lq h (λq=>St.of [(0,.L g5.Pv a0),(3,.sl 910003),(4,.I q.1)] [(910003,⟨List.map s6.Pv q.2,(List.map s6.Pv q.2).length,true,3,true⟩)]) (Wk.trans (H4 (t:=3) (l:=920003) (z:=3) J J) (WP (λl=>if l=910003 then 920003 else l))) λq14 x13 h hx9=>?_
  obtain⟨s11,s12⟩:=q14;refine g7<|S3 2 J<|nL J G0<|S2 1 J ?_;refine cN h (λhc h=>?_) λhc h=>?_
  ·refine b9 ?_;refine g7<|g6<|S5 3 J<|iL h J J G0 T2 λv15 _ h=>S1 1 J<|y0 J (N9 (f:=s6.Pv) (l:=[(⟨v15.Target,v15.Intact,v15.Call⟩:s6)]) J a19 a6d c1A J J nl J J)<|w8 h λv16 hv11 h=>O5 J (K5 (f:=s6.Pv) hv11 J J J J J J (.inl ⟨_,J,J⟩) a19 a6d c6u c1A J (λ_=>J)) J J J<|S2 1 J<|S6 3 J ?_;exact eL h (Wk.trans (n7 _ [18]) (WP (λl=>if l=910003 then 18 else l)))
  ·refine m7 ?_;refine c4<|c4<|j4 ?_;have h:=xL hx9 h;exact eJ h (Wk.trans (n7 _ [910003]) W)

theorem c1e{a0}:PO Tryz.prog 117 [.L c7.Pv a0] (b3Q a0) λr=>.L k7.Pv r:=by
 refine pO Tryz.func117 λr h _ _=>?_;refine S4 1 J<|sR<|y0 J (G1 J X9 a0X)<|S2 1 J ?_;refine jq h (λj9=>St.of [(3,.sl 910003)] [(910003,⟨List.map k7.Pv j9,(List.map k7.Pv j9).length,true,3,true⟩)]) (λj9 h=>?_) λκ8 h=>?_
 ·refine S4 2 J ?_;refine b8 ?_;cases h;exact f1
 ·refine S4 1 J ?_;refine g6<|lq h (λq=>St.of [(0,.L c7.Pv a0),(3,.sl 910003),(4,.I q.1)] [(910003,⟨List.map k7.Pv q.2,(List.map k7.Pv q.2).length,true,3,true⟩)]) (Wk.trans (H4 (t:=3) (l:=920003) (z:=3) J J) (WP (λl=>if l=910003 then 920003 else l))) λq14 x13 h hx9=>?_
  obtain⟨s11,s12⟩:=q14;refine g7<|S3 2 J<|nL J Q0<|S2 1 J ?_;refine cN h (λhc h=>?_) λhc h=>?_
  ·refine b9 ?_;refine g7<|g6<|S5 3 J<|iL h J J Q0 V1 λv15 _ h=>S1 1 J<|y0 J (N9 (f:=k7.Pv) (l:=[(⟨v15.State,v15.Key,v15.Val⟩:k7)]) J X9 a0X c1y J J nl J J)<|w8 h λv16 hv11 h=>O5 J (K5 (f:=k7.Pv) hv11 J J J J J J (.inl ⟨_,J,J⟩) X9 a0X c6s c1y J (λ_=>J)) J J J<|S2 1 J<|S6 3 J ?_;exact eL h (Wk.trans (n7 _ [18]) (WP (λl=>if l=910003 then 18 else l)))
  ·refine m7 ?_;refine c4<|c4<|j4 ?_;have h:=xL hx9 h;exact eJ h (Wk.trans (n7 _ [910003]) W)

theorem b8x{a0}:PO Tryz.prog 118 [c9.Pv a0] (a9o a0) λr=>w7.Pv r:=by
 refine pO Tryz.func118 λr h _ _=>?_;refine S4 2 J<|sR<|y0 J (G1 J V0 a3f)<|S2 1 J ?_;refine jq h (λj9=>St.of [(1,.ptr 1 0 0),(2,.ptr 2 0 0),(3,.sl 910003)] [(910003,⟨List.map r8.Pv j9,(List.map r8.Pv j9).length,true,3,true⟩),(2,vR (.agg [.nl,.I 0]) 2),(1,vR (c9.Pv a0) 2)]) (λj9 h=>?_) λκ8 h=>?_
 ·refine S3 3 J ?_;refine y0 J (s7 (cs:=[.sl 910003,.I a0.Cap]) J c86 c9e J J J)<|S2 1 J<|b8 ?_;cases h;exact⟨J,[_],⟨oL J J J b6K b6O nl J,tr⟩,J,io⟩
 ·refine S4 1 J ?_;refine g6<|lq h (λq=>St.of [(1,.ptr 1 0 0),(2,.ptr 2 0 0),(3,.sl 910003),(4,.I q.1)] [(2,vR (.agg [.nl,.I 0]) 2),(1,vR (c9.Pv a0) 2),(910003,⟨List.map r8.Pv q.2,(List.map r8.Pv q.2).length,true,3,true⟩)]) (Wk.trans (H4 (t:=3) (l:=920003) (z:=3) J J) (WP (λl=>if l=910003 then 920003 else l))) λq14 x13 h hx9=>?_
  obtain⟨s11,s12⟩:=q14;refine g7<|S3 3 J<|nL J F7<|S2 1 J ?_;refine cN h (λhc h=>?_) λhc h=>?_
  ·refine b9 ?_;refine g7<|g6<|S5 4 J<|iL h J J F7 D9 λv15 _ h=>S1 1 J<|y0 J (N9 (f:=r8.Pv) (l:=[(⟨v15.Kind,v15.At,v15.Prog⟩:r8)]) J V0 a3f c3Y J J nl J J)<|w8 h λv16 hv11 h=>O5 J (K5 (f:=r8.Pv) hv11 J J J J J J (.inl ⟨_,J,J⟩) V0 a3f c82 c3Y J (λ_=>J)) J J J<|S2 1 J<|S6 3 J ?_;exact eL h (Wk.trans (n7 _ [20]) (WP (λl=>if l=910003 then 20 else l)))
  ·refine m7 ?_;refine c4<|c4<|j4 ?_;have h:=xL hx9 h;exact eJ h (Wk.trans (n7 _ [910003]) W)

theorem O4{a0}:PO Tryz.prog 48 [a8.Pv a0] (Q7 a0) λr=>g9.Pv r:=by
 refine pO Tryz.func48 λr h _ _=>?_;unfold Q7 at h;refine S4 2 J<|dr [] u5 (by kernel_rfl) (by kernel_rfl)<|S7 2 J<|w8 h λv1 hv1 h=>d2f J (B0 J c1c J hv1) J<|S7 4 J<|w8 h λv2 hv2 h=>d2f J (B0 J b8t J hv2) J<|S7 2 J<|w8 h λv3 hv3 h=>d2f J (B0 J c1e J hv3) J<|S7 2 J<|w8 h λv4 hv4 h=>d2f J (B0 J b8x J hv4) J<|d7 J (λ_ hN=>s7 (cs:=[.L n8.Pv v1.Cells,.I v1.Last,.I v1.Serial,.L iF a0.Roots,.L s6.Pv v2,.L k7.Pv v3,.L r8.Pv v4.L,.I v4.Cap]) J c87 c9f J J J) J<|P0 (x':=.agg [.L n8.Pv v1.Cells,.I v1.Last,.I v1.Serial,.L iF a0.Roots,.L s6.Pv v2,.L k7.Pv v3,.L r8.Pv v4.L,.I v4.Cap]) (cl':=true) J J (.inr J) a6e<|U7<|b8 ?_
 cases h;exact⟨J,[_],⟨oL J J J a7u a6e nl J,tr⟩,J,io⟩

theorem a1P{a0}:PO Tryz.prog 95 [k9.Pv a0] (M4 a0) λr=>C1.Pv r:=by
 refine pO Tryz.func95 λr h _ _=>?_;refine S4 2 J<|S3 2 J<|y0 J (s7 (cs:=[.nl,.I a0.Last]) J c6L c6Z J J J)<|S1 1 J<|b1V (x':=.agg [.nl,.I a0.Last]) (cl':=true) J J (.inl J) c1v<|yN ?_;refine jq h (λj9=>St.of [(2,.ptr 2 0 0),(3,.ptr 3 0 0)] [(3,vS (.agg [.sl 910503,.I a0.Last]) 2),(910503,⟨List.map B5.Pv j9,(List.map B5.Pv j9).length,true,3,true⟩),(2,vR (.agg [.nl,.I 0]) 2)]) (λj9 h=>?_) λκ8 h=>?_
 ·refine S4 2 J ?_;refine b8 ?_;cases h;exact⟨J,[_],⟨oL J J J c6o c1v nl J,tr⟩,J,io⟩
 ·refine S4 1 J ?_;refine g6<|lq h (λq=>St.of [(1,.ptr 1 0 0),(2,.ptr 2 0 0),(3,.ptr 3 0 0),(4,.I q.1)] [(3,vS (.agg [.sl 910503,.I a0.Last]) 2),(2,vR (.agg [.nl,.I 0]) 2),(1,vR (k9.Pv a0) 3),(910503,⟨List.map B5.Pv q.2,(List.map B5.Pv q.2).length,true,3,true⟩)]) (Wk.trans (a9p (l0:=3) (j:=0) (l:=920503) (z:=3) J J J J J) (WP (λl=>if l=910503 then 920503 else l))) λq14 x13 h hx9=>?_
  obtain⟨s11,s12⟩:=q14;refine g7<|S3 3 J<|nL J J8<|S2 1 J ?_;refine cN h (λhc h=>?_) λhc h=>?_
  ·refine b9 ?_;refine g7<|g6<|a7Z [] u5 (by kernel_rfl) (by kernel_rfl)<|S7 5 J<|w8 h λv15 hv10 h=>d0 J (z7 (f:=n8.Pv) (cs:=n8.Pc v15) hv10 J J J8 M1 J J) J<|S7 5 J<|d0 J (z7 (f:=n8.Pv) (cs:=n8.Pc v15) hv10 J J J8 M1 J J) J<|S7 3 J<|d7 J (λ_ hN=>s7 (cs:=[.I v15.State,.I v15.Gen,.I s11]) J c6N b6R J J J) J<|d1n J (N9 (f:=B5.Pv) (l:=[(⟨v15.State,v15.Gen,s11⟩:B5)]) J a3z a8z b6R J J nl J J) J<|w8 h λv16 hv11 h=>d3a J (K5 (f:=B5.Pv) hv11 J J J J J J (.inl ⟨_,J,J⟩) a3z a8z c6w b6R J (λ_=>J)) J J J J J<|S7 1 J<|P0 (x':=.agg [.sl 32,.I a0.Last]) (cl':=false) J J (.inl J) c6W<|U7<|S6 3 J ?_
   exact eL h (Wk.trans (n7 _ [32]) (WP (λl=>if l=910503 then 32 else l)))
  ·refine m7 ?_;refine c4<|c4<|j4 ?_;have h:=xL hx9 h;exact eJ h (Wk.trans (n7 _ [910503]) W)

theorem b7z{a0}:PO Tryz.prog 155 [C1.Pv a0] (a8T a0) λr=>.bool r:=by
 refine pO Tryz.func155 λr h _ _=>?_;refine S4 2 J<|g7<|S3 2 J<|nL J a3z<|S1 2 J<|c5 J (λhg=>oF J b12 J)<|c5 J (λhg=>oS (ct hg) J J p7 J)<|c5 J (λhg=>l5 (ct hg) J J)<|y0 J (o9 J J J (λq=>I8 q))<|S1 1 J<|c5 J (λhg=>oF J b12 J)<|c5 J (λhg=>oS (ct hg) J J p7 J)<|c5 J (λhg=>l5 (ct hg) J J)<|y0 J (o9 J J J (λq=>I8 q))<|yN ?_;refine cN h (λhc h=>?_) λhc h=>?_
 ·refine S4 1 J ?_;refine b8 ?_;cases h;exact f1
 ·refine b9 ?_;refine jq h (λ_=>St.of [] []) (λq6 h=>?_) λκ5 h=>?_
  ·refine S4 1 J ?_;refine b8 ?_;cases h;exact f1
  ·refine S4 1 J ?_;refine g6<|lq h (λs8=>St.of [(1,.ptr 1 0 0),(3,.I s8)] [(1,vR (C1.Pv a0) 2)]) W λs8 x9 h hx8=>g7<|S3 3 J<|nL J a3z<|S2 1 J ?_;refine cN h (λhc h=>?_) λhc h=>?_
   ·refine b9 ?_;refine g7<|g6<|S3 3 J<|iL h J J a3z a8z λv10 _ h=>S2 3 J<|S3 4 J<|c5 J (λhg=>oF J b14 J)<|c5 J (λhg=>oS (ct hg) J J p7 J)<|c5 J (λhg=>l5 (ct hg) J J)<|y0 J (o9 J J J (λq=>I8 q))<|S1 1 J<|c5 J (λhg=>oF J b56 J)<|c5 J (λhg=>oS (ct hg) J J p7 J)<|c5 J (λhg=>l5 (ct hg) J J)<|y0 J (o9 J J J (λq=>I8 q))<|S1 1 J<|c5 J (λhg=>oF J b56 J)<|c5 J (λhg=>oS (ct hg) J J p7 J)<|c5 J (λhg=>oF J b12 J)<|c5 J (λhg=>oS (ct hg) J J p7 J)<|c5 J (λhg=>l5 (ct hg) (ct hg) J)<|y0 J (o9 J J J (λq=>I8 q))<|yN ?_;refine cN h (λhc h=>?_) λhc h=>?_
    ·refine S4 1 J ?_;refine b8 ?_;have h:=xL hx8 h;cases h;exact f1
    ·refine b9 ?_;refine S6 3 J ?_;exact eL h W
   ·refine m7 ?_;refine c4<|c4<|j4 ?_;have h:=xL hx8 h;exact eJ h W

theorem b1k{a0}:PO Tryz.prog 156 [n8.Pv a0] (a3Q a0) λr=>.bool r:=by
 refine pO Tryz.func156 λr h _ _=>?_;unfold a3Q at h;refine S4 2 J<|S3 4 J<|c5 J (λhg=>oF J b11 J)<|c5 J (λhg=>oS (ct hg) J J p7 J)<|c5 J (λhg=>l5 (ct hg) J J)<|y0 J (o9 J J J (λq=>I8 q))<|S2 1 J<|b8 ?_;cases h;exact f1

theorem b7F{a0}:PO Tryz.prog 80 [k9.Pv a0] (a8U a0) λr=>.bool r:=by
 refine pO Tryz.func80 λr h _ _=>?_;refine S4 2 J<|g7<|S3 1 J<|cF h a1P J J λv1 _ h=>cA h b7z J J λv2 _ h=>S1 2 J<|c5 J (λhg=>oF J b0v J)<|c5 J (λhg=>oS (ct hg) J J p7 J)<|c5 J (λhg=>l5 (ct hg) J J)<|y0 J (o9 J J J (λq=>I8 q))<|yN ?_;refine cN h (λhc h=>?_) λhc h=>?_
 ·refine S4 1 J ?_;refine b8 ?_;cases h;exact f1
 ·refine b9 ?_;refine jq h (λ_=>St.of [] []) (λq23 h=>?_) λκ22 h=>?_
  ·refine S4 1 J ?_;refine b8 ?_;cases h;exact f1
  ·refine S4 1 J ?_;refine g6<|lq h (λs25=>St.of [(1,.ptr 1 0 0),(3,.I s25)] [(1,vR (k9.Pv a0) 3)]) W λs25 x26 h hx24=>g7<|S3 3 J<|nL J J8<|S2 1 J ?_;refine cN h (λhc h=>?_) λhc h=>?_
   ·refine b9 ?_;refine jq h (λ_=>St.of [(1,.ptr 1 0 0),(3,.I s25)] [(1,vR (k9.Pv a0) 3)]) (λq35 h=>?_) λκ34 h=>?_
    ·refine S6 3 J ?_;exact eL h W
    ·refine g6 ?_;refine S3 3 J<|iL h J J J8 M1 λv36 _ h=>S2 3 J<|S4 4 J<|g7<|S3 1 J<|cA h b1k J J λv37 _ h=>S2 1 J ?_;refine cN h (λhc h=>?_) λhc h=>?_
     ·refine g7 ?_;refine S3 4 J<|c5 J (λhg=>oF J a7y J)<|c5 J (λhg=>oS (ct hg) J J p7 J)<|c5 J (λhg=>l5 (ct hg) J J)<|y0 J (o9 J J J (λq=>I8 q))<|S1 1 J<|c5 J (λhg=>oF J a7z J)<|c5 J (λhg=>oS (ct hg) J J p7 J)<|c5 J (λhg=>l5 (ct hg) J J)<|y0 J (o9 J J J (λq=>I8 q))<|S1 1 J<|c5 J (λhg=>oF J a7A J)<|c5 J (λhg=>oS (ct hg) J J p7 J)<|c5 J (λhg=>l5 (ct hg) J J)<|y0 J (o9 J J J (λq=>I8 q))<|S1 1 J<|c5 J (λhg=>oF J b0x J)<|c5 J (λhg=>oS (ct hg) J J a3U J)<|y0 J (o9 J J J (λq=>I8 q))<|S1 1 J<|c5 J (λhg=>oF J a7B J)<|c5 J (λhg=>oS (ct hg) J J U9 J)<|c5 J (λhg=>J7 (f:=iF) (ct hg) j8)<|c5 J (λhg=>l5 (ct hg) J J)<|y0 J (o9 J J J (λq=>I8 q))<|yN ?_;refine cN h (λhc h=>?_) λhc h=>?_
      ·refine S4 1 J ?_;refine b8 ?_;have h:=xL hx24 h;cases h;exact f1
      ·refine b9 ?_;refine m7<|c4<|j4 ?_;exact eJ h W
     ·refine b9 ?_;refine g7<|S3 4 J<|c5 J (λhg=>oF J a7x J)<|c5 J (λhg=>oS (ct hg) J J p7 J)<|c5 J (λhg=>oF J b0v J)<|c5 J (λhg=>oS (ct hg) J J p7 J)<|c5 J (λhg=>l5 (ct hg) (ct hg) J)<|y0 J (o9 J J J (λq=>I8 q))<|S1 1 J<|c5 J (λhg=>oF J a7y J)<|c5 J (λhg=>oS (ct hg) J J p7 J)<|c5 J (λhg=>l5 (ct hg) J J)<|y0 J (o9 J J J (λq=>I8 q))<|S1 1 J<|c5 J (λhg=>oF J a7z J)<|c5 J (λhg=>oS (ct hg) J J p7 J)<|c5 J (λhg=>l5 (ct hg) J J)<|y0 J (o9 J J J (λq=>I8 q))<|S1 1 J<|c5 J (λhg=>oF J a7A J)<|c5 J (λhg=>oS (ct hg) J J p7 J)<|c5 J (λhg=>l5 (ct hg) J J)<|y0 J (o9 J J J (λq=>I8 q))<|S1 1 J<|c5 J (λhg=>oF J a7A J)<|c5 J (λhg=>oS (ct hg) J J p7 J)<|c5 J (λhg=>l5 (ct hg) J J)<|y0 J (o9 J J J (λq=>I8 q))<|S1 1 J<|c5 J (λhg=>oF J a7B J) ?_;refine c5 J (λhg=>oS (ct hg) J J U9 J)<|c5 J (λhg=>J7 (f:=iF) (ct hg) j8)<|c5 J (λhg=>l5 (ct hg) J J)<|y0 J (o9 J J J (λq=>I8 q))<|yN ?_;refine cN h (λhc h=>?_) λhc h=>?_
      ·refine S4 1 J ?_;refine b8 ?_;have h:=xL hx24 h;cases h;exact f1
      ·refine b9 ?_;refine S4 1 J<|g6<|lq h (λs39=>St.of [(1,.ptr 1 0 0),(3,.I s25),(5,.ptr 5 0 0),(6,.I s39)] [(5,vR (B2.Pv v36.Val) 6),(1,vR (k9.Pv a0) 3)]) W λs39 x40 h hx37=>g7<|S4 3 J ?_;refine cN h (λhc h=>?_) λhc h=>?_
       ·refine b9 ?_;refine g7<|g6<|dr [] u5 (by kernel_rfl) (by kernel_rfl)<|S7 3 J<|w8 h λv41 hv38 h=>d0 J (z7 (f:=n8.Pv) (cs:=n8.Pc v41) hv38 J J J8 M1 J J) J<|S7 1 J<|w8 h λv42 hv39 h=>d2 J (z8 J b1k J hv39) J<|S7 1 J<|p9 J (λhg _ hN=>oF J a1t J) J<|A5 J (λhg=>oS (ct hg) J J a58 J) J<|p9 J (λhg _ hN=>mI J) J<|A5 J (λhg=>z7 (f:=n8.Pv) (cs:=n8.Pc v41) hv38 (ct hg) (ct hg) J8 M1 J J) J<|p9 J (λhg _ hN=>A3 (ct hg) a1g J) J<|p9 J (λhg _ hN=>A3 (ct hg) a7x J) J<|A5 J (λhg=>E6 (ct hg) p7 J) J<|p9 J (λhg _ hN=>oF J a7x J) J<|A5 J (λhg=>oS (ct hg) J J p7 J) J<|p9 J (λhg _ hN=>l5 (ct hg) (ct hg) J) J<|d7 J (λ_ hN=>m8 J J J (λq=>J2 q)) J<|U7 ?_
        refine cN h (λhc h=>?_) λhc h=>?_
        ·refine S4 1 J ?_;refine b8 ?_;have h:=xL hx37 h;have h:=xL hx24 h;cases h;exact f1
        ·refine b9 ?_;refine S6 3 J ?_;exact eL h W
       ·refine m7 ?_;refine c4<|c4<|j4 ?_;have h:=xL hx37 h;exact eJ h W
   ·refine m7 ?_;refine c4<|c4<|j4 ?_;have h:=xL hx24 h;exact eJ h W

theorem b20{a0 a1}:PO Tryz.prog 157 [.L k7.Pv a0,.I a1] (a0S a0 a1) λr=>.I r:=by
 refine pO Tryz.func157 λr h _ _=>?_;refine S4 1 J ?_;refine jq h (λ_=>St.of [] []) (λq6 h=>?_) λκ5 h=>?_
 ·refine S4 1 J ?_;refine b8 ?_;cases h;exact f1
 ·refine S4 1 J ?_;refine g6<|lq h (λs8=>St.of [(0,.L k7.Pv a0),(1,.I a1),(5,.I s8)] []) W λs8 x9 h hx8=>g7<|S3 2 J<|nL J X9<|S2 1 J ?_;refine cN h (λhc h=>?_) λhc h=>?_
  ·refine b9 ?_;refine g7<|g6<|S3 2 J<|iL h J J X9 a0X λv10 hv9 h=>S1 4 J<|c5 J (λhg=>om (d:=.L k7.Pv a0) J)<|c5 J (λhg=>mI J)<|c5 J (λhg=>z7 (f:=k7.Pv) (cs:=k7.Pc v10) hv9 (ct hg) (ct hg) X9 a0X J J)<|c5 J (λhg=>A3 (ct hg) b53 J)<|c5 J (λhg=>E6 (ct hg) p7 J)<|c5 J (λhg=>mI J)<|c5 J (λhg=>l5 (ct hg) (ct hg) J)<|y0 J (m8 J J J (λq=>J2 q))<|yN ?_;refine cN h (λhc h=>?_) λhc h=>?_
   ·refine S4 2 J ?_;refine b8 ?_;have h:=xL hx8 h;cases h;exact f1
   ·refine b9 ?_;refine S6 3 J ?_;exact eL h W
  ·refine m7 ?_;refine c4<|c4<|j4 ?_;have h:=xL hx8 h;exact eJ h W

theorem b9u{a0 a1}:PO Tryz.prog 158 [.I a0,.I a1] (b1n a0 a1) λr=>.I r:=by
 refine pO Tryz.func158 λr h _ _=>?_;refine S4 1 J<|g7<|S4 2 J ?_;refine cN h (λhc h=>?_) λhc h=>?_
 ·refine S4 1 J ?_;refine b8 ?_;cases h;exact f1
 ·refine b9 ?_;refine S3 4 J<|w8 h λv1 hv1 h=>y0 J (a3u J J hv1)<|S2 1 J<|g7<|S4 2 J ?_;refine cN h (λhc h=>?_) λhc h=>?_
  ·refine S6 4 J ?_;refine S4 2 J<|b8 ?_;cases h;exact f1
  ·refine b9 ?_;refine S4 2 J<|b8 ?_;cases h;exact f1

theorem b7K{a0}:PO Tryz.prog 81 [.L k7.Pv a0] (a8W a0) λr=>.bool r:=by
 refine pO Tryz.func81 λr h _ _=>?_;refine S4 1 J<|S3 1 J<|nL J X9<|S2 1 J<|g7<|S3 3 J<|c5 J (λhg=>mI J)<|c5 J (λhg=>l5 (ct hg) J J)<|y0 J (o9 J J J (λq=>I8 q))<|yN ?_;refine cN h (λhc h=>?_) λhc h=>?_
 ·refine S4 1 J ?_;refine b8 ?_;cases h;exact f1
 ·refine b9 ?_;refine jq h (λ_=>St.of [] []) (λq23 h=>?_) λκ22 h=>?_
  ·refine S4 1 J ?_;refine b8 ?_;cases h;exact f1
  ·refine S4 1 J ?_;refine g6<|lq h (λs25=>St.of [(0,.L k7.Pv a0),(3,.I (a0.length:Int)),(4,.I s25)] []) W λs25 x26 h hx24=>g7<|S4 3 J ?_;refine cN h (λhc h=>?_) λhc h=>?_
   ·refine b9 ?_;refine jq h (λ_=>St.of [(0,.L k7.Pv a0),(3,.I (a0.length:Int)),(4,.I s25)] []) (λq36 h=>?_) λκ35 h=>?_
    ·refine S6 3 J ?_;exact eL h W
    ·refine g6 ?_;refine S3 2 J<|iL h J J X9 a0X λv37 _ h=>S2 3 J<|g7<|S3 4 J<|c5 J (λhg=>oF J b52 J)<|c5 J (λhg=>oS (ct hg) J J p7 J)<|c5 J (λhg=>l5 (ct hg) J J)<|y0 J (o9 J J J (λq=>I8 q))<|S1 1 J<|c5 J (λhg=>oF J b52 J)<|c5 J (λhg=>oS (ct hg) J J p7 J)<|c5 J (λhg=>l5 (ct hg) J J)<|c5 J (λhg=>om (d:=.bool (v37.State != 1)) (ct hg))<|c5 (r9 J J J) (λhg=>oF J b53 J)<|c5 (r9 J J J) (λhg=>oS (ct hg) J J p7 J)<|c5 (r9 J J J) (λhg=>l5 (ct hg) J J)<|c5 (r9 J J J) (λhg=>om (d:=.bool (v37.Key != 0)) (ct hg))<|c5 (r9 J J J) (λhg=>oF J c2B J)<|c5 (r9 J J J) (λhg=>oS (ct hg) J J p7 J)<|c5 (r9 J J J) (λhg=>l5 (ct hg) J J)<|c5 (r9 J J J) (λhg=>o9 (ct hg) J J (λq=>a2a hg (I8 q)))<|c5 J (λhg=>m8 (ct hg) J J (λq=>a2a hg (J2 q)))<|y0 J (o9 J J J (λq=>I8 q))<|yN ?_;refine cN h (λhc h=>?_) λhc h=>?_
     ·refine S4 1 J ?_;refine b8 ?_;have h:=xL hx24 h;cases h;exact f1
     ·refine b9 ?_;refine g7<|S4 3 J ?_;refine cN h (λhc h=>?_) λhc h=>?_
      ·refine m7 ?_;refine c4<|j4 ?_;exact eJ h W
      ·refine b9 ?_;refine g7<|S3 3 J<|cA h b20 J J λv38 _ h=>S2 2 J ?_;refine cN h (λhc h=>?_) λhc h=>?_
       ·refine S4 1 J ?_;refine b8 ?_;have h:=xL hx24 h;cases h;exact f1
       ·refine b9 ?_;refine S3 3 J<|cA h b9u J J λv39 _ h=>S2 1 J<|g6<|lq h (λs41=>St.of [(0,.L k7.Pv a0),(3,.I (a0.length:Int)),(4,.I s25),(6,.I s41)] []) W λs41 x42 h hx39=>g7<|S4 3 J ?_;refine cN h (λhc h=>?_) λhc h=>?_
        ·refine b9 ?_;refine g7<|g6<|S3 2 J<|iL h J J X9 a0X λv43 _ h=>S2 3 J ?_;refine cN h (λhc h=>?_) λhc h=>?_
         ·refine S4 1 J ?_;refine b8 ?_;have h:=xL hx39 h;have h:=xL hx24 h;cases h;exact f1
         ·refine b9 ?_;refine S5 3 J<|w8 h λv44 hv41 h=>y0 J (a3u J J hv41)<|S2 1 J ?_;exact eL h W
        ·refine m7 ?_;refine c4<|c4<|j4 ?_;have h:=xL hx39 h;exact eJ h W
   ·refine m7 ?_;refine c4<|c4<|j4 ?_;have h:=xL hx24 h;exact eJ h W

theorem a71{a0 a1}:PO Tryz.prog 92 [.I a0,.I a1] (a2Z a0 a1) λr=>.I r:=by
 refine pO Tryz.func92 λr h _ _=>?_;refine S4 1 J<|g7<|S3 3 J<|c5 J (λhg=>mI J)<|c5 J (λhg=>l5 (ct hg) J J)<|y0 J (o9 J J J (λq=>I8 q))<|S1 1 J<|c5 J (λhg=>mI J)<|c5 J (λhg=>l5 (ct hg) J J)<|y0 J (o9 J J J (λq=>I8 q))<|S1 1 J<|c5 J (λhg=>mI J)<|c5 J (λhg=>l5 (ct hg) J J)<|y0 J (o9 J J J (λq=>I8 q))<|yN ?_;refine cN h (λhc h=>?_) λhc h=>?_
 ·refine S4 1 J ?_;refine b8 ?_;cases h;exact f1
 ·refine b9 ?_;refine S4 6 J<|b8 ?_;cases h;exact f1

theorem b1g{a0}:PO Tryz.prog 302 [.I a0] (a5I a0) λr=>.bool r:=by
 refine pO Tryz.func302 λr h _ _=>?_;refine S4 1 J<|g7<|S3 3 J<|c5 J (λhg=>mI J)<|c5 J (λhg=>l5 (ct hg) J J)<|y0 J (o9 J J J (λq=>I8 q))<|yN ?_;refine cN h (λhc h=>?_) λhc h=>?_
 ·refine S4 1 J ?_;refine b8 ?_;cases h;exact f1
 ·refine b9 ?_;refine S3 2 J<|w8 h λv1 hv1 h=>y0 J (a3u J J hv1)<|S1 2 J<|w8 h λv2 hv2 h=>y0 J (a3u J J hv2)<|cA h a71 J J λv3 _ h=>S2 3 J<|b8 ?_;cases h;exact f1

theorem b9o{a0}:PO Tryz.prog 235 [.I a0] (a5H a0) λr=>.I r:=by
 refine pO Tryz.func235 λr h _ _=>?_;refine S4 1 J<|g7<|S3 1 J<|cA h b1g J J λv1 _ h=>S2 1 J ?_;refine cN h (λhc h=>?_) λhc h=>?_
 ·refine S4 1 J ?_;refine b8 ?_;cases h;exact f1
 ·refine b9 ?_;refine S3 2 J<|w8 h λv2 hv2 h=>y0 J (a3u J J hv2)<|S2 1 J<|b8 ?_;cases h;exact f1

theorem c0R{a0}:PO Tryz.prog 236 [.I a0] (b3C a0) λr=>.I r:=by
 refine pO Tryz.func236 λr h _ _=>?_;refine S4 1 J<|g7<|S3 1 J<|cA h b1g J J λv1 _ h=>S2 1 J ?_;refine cN h (λhc h=>?_) λhc h=>?_
 ·refine S4 1 J ?_;refine b8 ?_;cases h;exact f1
 ·refine b9 ?_;refine S3 2 J<|w8 h λv2 hv2 h=>y0 J (a3u J J hv2)<|S2 1 J<|b8 ?_;cases h;exact f1

theorem a4Y{a0 a1}:PO Tryz.prog 161 [C1.Pv a0,.I a1] (N2 a0 a1) λr=>.tup [.I r.1,.I r.2]:=by
 refine pO Tryz.func161 λr h _ _=>?_;refine S4 3 J<|g7<|S4 2 J ?_;refine cN h (λhc h=>?_) λhc h=>?_
 ·refine S4 2 J ?_;refine b8 ?_;cases h;exact f2
 ·refine b9 ?_;refine S3 1 J<|cA h b9o J J λv1 _ h=>S2 1 J<|g7<|S3 3 J<|c5 J (λhg=>mI J)<|c5 J (λhg=>oF J c2D J)<|c5 J (λhg=>oS (ct hg) J J c6n J)<|c5 J (λhg=>J7 (f:=B5.Pv) (ct hg) a3z)<|c5 J (λhg=>l5 (ct hg) (ct hg) J)<|y0 J (o9 J J J (λq=>I8 q))<|yN ?_;refine cN h (λhc h=>?_) λhc h=>?_
  ·refine S4 2 J ?_;refine b8 ?_;cases h;exact f2
  ·refine b9 ?_;refine S3 3 J<|iL h J J a3z a8z λv2 _ h=>S2 3 J<|g7<|dr [] u5 (by kernel_rfl) (by kernel_rfl)<|S7 3 J<|w8 h λv3 hv3 h=>d2 J (z8 J c0R J hv3) J<|S7 2 J<|p9 J (λhg _ hN=>oF J b14 J) J<|A5 J (λhg=>oS (ct hg) J J p7 J) J<|p9 J (λhg _ hN=>l5 (ct hg) J J) J<|p9 J (λhg _ hN=>om (d:=.bool (v2.State != 1)) (ct hg)) J<|p9 (r9 J J J) (λhg _ hN=>oF J b14 J) J<|A5 (r9 J J J) (λhg=>oS (ct hg) J J p7 J) J<|p9 (r9 J J J) (λhg _ hN=>l5 (ct hg) J J) J<|p9 J (λhg _ hN=>m8 (ct hg) J J (λq=>a2a hg (J2 q))) J<|d7 J (λ_ hN=>o9 J J J (λq=>I8 q)) J<|U7 ?_
   refine cN h (λhc h=>?_) λhc h=>?_
   ·refine S4 2 J ?_;refine b8 ?_;cases h;exact f2
   ·refine b9 ?_;refine S4 3 J<|b8 ?_;cases h;exact f2

theorem c0S{a0 a1}:PO Tryz.prog 94 [C1.Pv a0,.I a1] (b1h a0 a1) λr=>.tup [.I r.1,.I r.2]:=by
 refine pO Tryz.func94 λr h _ _=>?_;refine S4 3 J<|S3 2 J<|cA h a4Y J J λv1 _ h=>S2 5 J<|g7<|S4 2 J ?_;refine cN h (λhc h=>?_) λhc h=>?_
 ·refine S4 3 J ?_;refine b8 ?_;cases h;exact f2
 ·refine b9 ?_;refine g7<|S3 3 J<|iL h J J a3z a8z λv2 hv2 h=>S2 3 J ?_;refine cN h (λhc h=>?_) λhc h=>?_
  ·refine S4 2 J ?_;refine b8 ?_;cases h;exact f2
  ·refine b9 ?_;refine S3 3 J<|y0 J (z7 (f:=B5.Pv) (cs:=B5.Pc v2) hv2 J J a3z a8z J J)<|S2 4 J<|b8 ?_;cases h;exact f2

theorem a09{a0 a1}:PO Tryz.prog 37 [k9.Pv a0,.I a1] (F5 a0 a1) λr=>.tup [B2.Pv r.1,.I r.2]:=by
 refine pO Tryz.func37 λr h _ _=>?_;refine S4 3 J<|S3 1 J<|cF h a1P J J λv1 _ h=>S1 1 J<|cA h c0S J J λv2 _ h=>S2 5 J<|g7<|S4 2 J ?_;refine cN h (λhc h=>?_) λhc h=>?_
 ·refine sR ?_;refine y0 J (s7 (cs:=[.I 0,.I 0,.I 0,.I 0,.bool false,.nl]) J c3Q c3X J J J)<|S1 1 J<|b1V (x':=.agg [.I 0,.I 0,.I 0,.I 0,.bool false,.nl]) (cl':=true) J J (.inl J) a7E<|S2 1 J<|b8 ?_;cases h;exact⟨J,[_,_],⟨oL J J J b3T a7E nl J,⟨J,tr⟩⟩,J,io⟩
 ·refine b9 ?_;refine S3 3 J<|iL h J J J8 M1 λv3 _ h=>S2 4 J<|b8 ?_;cases h;exact⟨J,[_,_],⟨oL J J J b3T a7E nl J,⟨J,tr⟩⟩,J,io⟩

theorem b7T{a0}:PO Tryz.prog 82 [g9.Pv a0] (a83 a0) λr=>.bool r:=by
 refine pO Tryz.func82 λr h _ _=>?_;refine S4 2 J ?_;refine jq h (λ_=>St.of [(1,.ptr 1 0 0)] [(1,vR (g9.Pv a0) 8)]) (λq31 h=>?_) λκ30 h=>?_
 ·refine S3 5 J ?_;refine c5 J (λhg=>oF J a7w J)<|c5 J (λhg=>oF (ct hg) a7v J)<|c5 J (λhg=>oS (ct hg) J J b3S J)<|c5 J (λhg=>J7 (f:=r8.Pv) (ct hg) V0)<|c5 J (λhg=>l5 (ct hg) J J)<|y0 J (m8 J J J (λq=>J2 q))<|S2 1 J<|b8 ?_;cases h;exact f1
 ·refine S4 1 J ?_;refine g6<|lq h (λs33=>St.of [(1,.ptr 1 0 0),(3,.I s33)] [(1,vR (g9.Pv a0) 8)]) W λs33 x34 h hx30=>g7<|S3 4 J<|nL J V0<|S2 1 J ?_;refine cN h (λhc h=>?_) λhc h=>?_
  ·refine b9 ?_;refine jq h (λ_=>St.of [(1,.ptr 1 0 0),(3,.I s33)] [(1,vR (g9.Pv a0) 8)]) (λq48 h=>?_) λκ47 h=>?_
   ·refine S6 3 J ?_;exact eL h W
   ·refine g6 ?_;refine S3 4 J<|iL h J J V0 a3f λv49 _ h=>S2 3 J<|g7<|S3 4 J<|c5 J (λhg=>oF J b8K J)<|c5 J (λhg=>oS (ct hg) J J p7 J)<|c5 J (λhg=>l5 (ct hg) J J)<|y0 J (m8 J J J (λq=>J2 q))<|S1 1 J<|c5 J (λhg=>oF J b8L J)<|c5 J (λhg=>oS (ct hg) J J p7 J)<|c5 J (λhg=>l5 (ct hg) J J)<|y0 J (o9 J J J (λq=>I8 q))<|S1 1 J<|c5 J (λhg=>oF J b8L J)<|c5 J (λhg=>oS (ct hg) J J p7 J)<|c5 J (λhg=>l5 (ct hg) J J)<|y0 J (o9 J J J (λq=>I8 q))<|yN ?_;refine cN h (λhc h=>?_) λhc h=>?_
    ·refine S4 1 J ?_;refine b8 ?_;have h:=xL hx30 h;cases h;exact f1
    ·refine b9 ?_;refine jq h (λ_=>St.of [(1,.ptr 1 0 0),(3,.I s33),(4,.ptr 4 0 0)] [(4,vR (r8.Pv v49) 3),(1,vR (g9.Pv a0) 8)]) (λq55 h=>?_) λκ54 h=>?_
     ·refine S3 4 J ?_;refine cF h a09 J J λv56 _ h=>S2 6 J<|S3 4 J<|c5 J (λhg=>mI J)<|c5 J (λhg=>l5 (ct hg) J J)<|c5 J (λhg=>om (d:=.bool (v56.2 != 0)) (ct hg))<|c5 (r9 J J J) (λhg=>oF J b0x J)<|c5 (r9 J J J) (λhg=>oS (ct hg) J J a3U J)<|c5 (r9 J J J) (λhg=>P5 (ct hg) J)<|c5 J (λhg=>o9 (ct hg) J J (λq=>a2a hg (I8 q)))<|y0 J (m8 J J J (λq=>J2 q))<|S1 1 J<|c5 J (λhg=>oF J b8K J)<|c5 J (λhg=>oS (ct hg) J J p7 J)<|c5 J (λhg=>l5 (ct hg) J J)<|c5 J (λhg=>om (d:=.bool (v49.Kind==2)) (ct hg))<|c5 (r9 J J J) (λhg=>oF J a7C J)<|c5 (r9 J J J) (λhg=>oS (ct hg) J J p7 J)<|c5 (r9 J J J) (λhg=>l5 (ct hg) J J)<|c5 (r9 J J J) (λhg=>om (d:=.bool (decide (v49.At<0))) (ct hg))<|c5 (r9 J J J) (λhg=>oF J a7C J)<|c5 (r9 J J J) (λhg=>oS (ct hg) J J p7 J)<|c5 (r9 J J J) (λhg=>l5 (ct hg) J J)<|c5 (r9 J J J) (λhg=>o9 (ct hg) J J (λq=>a2a hg (I8 q)))<|c5 J (λhg=>m8 (ct hg) J J (λq=>a2a hg (J2 q)))<|y0 J (o9 J J J (λq=>I8 q))<|yN ?_;refine cN h (λhc h=>?_) λhc h=>?_
      ·refine S4 1 J ?_;refine b8 ?_;have h:=xL hx30 h;cases h;exact f1
      ·refine b9 ?_;exact eJ h W
     ·refine S4 1 J ?_;refine g6<|lq h (λs58=>St.of [(1,.ptr 1 0 0),(3,.I s33),(4,.ptr 4 0 0),(5,.I s58)] [(4,vR (r8.Pv v49) 3),(1,vR (g9.Pv a0) 8)]) W λs58 x59 h hx52=>g7<|S4 3 J ?_;refine cN h (λhc h=>?_) λhc h=>?_
      ·refine b9 ?_;refine g7<|g6<|dr [] u5 (by kernel_rfl) (by kernel_rfl)<|S7 4 J<|w8 h λv60 hv53 h=>d0 J (z7 (f:=r8.Pv) (cs:=r8.Pc v60) hv53 J J V0 a3f J J) J<|S7 6 J<|p9 J (λhg _ hN=>oF J a7w J) J<|p9 J (λhg _ hN=>oF (ct hg) a7v J) J<|A5 J (λhg=>oS (ct hg) J J b3S J) J<|p9 J (λhg _ hN=>mI J) J<|A5 J (λhg=>z7 (f:=r8.Pv) (cs:=r8.Pc v60) hv53 (ct hg) (ct hg) V0 a3f J J) J<|p9 J (λhg _ hN=>A3 (ct hg) a7C J) J<|A5 J (λhg=>E6 (ct hg) p7 J) J<|p9 J (λhg _ hN=>oF J a7C J) J<|A5 J (λhg=>oS (ct hg) J J p7 J) J<|p9 J (λhg _ hN=>l5 (ct hg) (ct hg) J) J<|d7 J (λ_ hN=>m8 J J J (λq=>J2 q)) J<|U7 ?_
       refine cN h (λhc h=>?_) λhc h=>?_
       ·refine S4 1 J ?_;refine b8 ?_;have h:=xL hx52 h;have h:=xL hx30 h;cases h;exact f1
       ·refine b9 ?_;refine S6 3 J ?_;exact eL h W
      ·refine m7 ?_;refine c4<|c4<|j4 ?_;have h:=xL hx52 h;exact eJ h W
  ·refine m7 ?_;refine c4<|c4<|j4 ?_;have h:=xL hx30 h;exact eJ h W

theorem a3G{a0 a1}:PO Tryz.prog 153 [g9.Pv a0,.I a1] (W9 a0 a1) λr=>.bool r:=by
 refine pO Tryz.func153 λr h _ _=>?_;refine S4 2 J<|S3 3 J<|cF h a09 J J λv1 _ h=>S2 6 J<|S4 3 J<|b8 ?_;cases h;exact f1

theorem b1u{a0 a1}:PO Tryz.prog 159 [g9.Pv a0,.I a1] (X0 a0 a1) λr=>.bool r:=by
 refine pO Tryz.func159 λr h _ _=>?_;unfold X0 at h;refine S4 2 J<|S3 3 J<|c5 J (λhg=>oL J J J a7u a6e nl J)<|c5 J (λhg=>mI J)<|w8 h λv1 hv1 h=>c5 J (λhg=>z8 J a3G (u6 (ct hg) (u6 (ct hg) J)) (y7 hv1 hg))<|y0 J (o9 J J J (λq=>I8 q))<|S2 1 J<|b8 ?_;cases h;exact f1

theorem b5L{a0 a1}:PO Tryz.prog 93 [k9.Pv a0,.L iF a1] (a4d a0 a1) λr=>.L iF r:=by
 refine pO Tryz.func93 λr h _ _=>?_;unfold a4d at h;refine S4 2 J<|sR<|y0 J (G1 J j8 o8)<|S1 1 J<|w8 h λv1 hv1 h=>y1 J (b9i (f:=iF) hv1 J J (.inl ⟨_,J,J⟩) j8 o8 O2 C2 J (λ_=>J)) J<|S2 1 J ?_;refine jq h (λj36=>St.of [(5,.sl 15)] [(15,⟨List.map iF j36,0,true,1,true⟩)]) (λj36 h=>?_) λκ35 h=>?_
 ·refine S4 2 J ?_;refine b8 ?_;cases h;exact f1
 ·refine S4 1 J ?_;refine g6<|lq h (λq=>St.of [(2,.ptr 2 0 0),(5,.sl 15),(6,.I q.1)] [(15,⟨List.map iF q.2,0,true,1,true⟩),(2,vR (k9.Pv a0) 3)]) W λq41 x40 h hx31=>?_;obtain⟨s38,s39⟩:=q41;refine g7<|S3 2 J<|y0 J (c1Y (f:=iF) J J J j8)<|S2 1 J ?_;refine cN h (λhc h=>?_) λhc h=>?_
  ·refine b9 ?_;refine jq h (λj56=>St.of [(2,.ptr 2 0 0),(5,.sl 15),(6,.I s38)] [(15,⟨List.map iF j56,0,true,1,true⟩),(2,vR (k9.Pv a0) 3)]) (λj56 h=>?_) λκ55 h=>?_
   ·refine S6 3 J ?_;exact eL h W
   ·refine g6 ?_;refine S4 2 J<|g6<|lq h (λq=>St.of [(2,.ptr 2 0 0),(5,.sl 15),(6,.I s38),(7,.I q.1)] [(15,⟨List.map iF q.2,0,true,1,true⟩),(2,vR (k9.Pv a0) 3)]) W λq61 x60 h hx46=>?_;obtain⟨s58,s59⟩:=q61;refine g7<|S4 2 J ?_;refine cN h (λhc h=>?_) λhc h=>?_
    ·refine b9 ?_;refine g7<|g6<|dr [] u5 (by kernel_rfl) (by kernel_rfl)<|S7 1 J<|w8 h λv62 hv47 h=>d2f J (B0 J a1P J hv47) J<|S7 3 J<|w8 h λv63 hv48 h=>d0 J (a4a (f:=iF) hv48 J J J J j8 o8 J) J<|d0 J (b6s (f:=iF) hv48 J J J p7 J) J<|w8 h λv64 hv49 h=>d2 J (z8 J a4Y J hv49) J<|S8 5 J<|dr [] u5 (by kernel_rfl) (by kernel_rfl)<|S7 1 J<|d2f J (B0 J a1P J hv47) J<|S7 2 J<|w8 h λv65 hv50 h=>d0 J (a4a (f:=iF) hv50 J J J J j8 o8 J) J<|d0 J (b6s (f:=iF) hv50 J J J p7 J) J<|w8 h λv66 hv51 h=>d2 J (z8 J a4Y J hv51) J<|S8 5 J<|g7<|dr [] u5 (by kernel_rfl) (by kernel_rfl)<|S7 3 J<|p9 J (λhg _ hN=>mI J) J<|p9 J (λhg _ hN=>l5 (ct hg) J J) J<|d7 J (λ_ hN=>o9 J J J (λq=>I8 q)) J<|S7 1 J<|p9 J (λhg _ hN=>oF J a1t J) J<|A5 J (λhg=>oS (ct hg) J J a58 J) J<|p9 J (λhg _ hN=>mI J) J<|w8 h λv67 hv52 h=>A5 J (λhg=>z7 (f:=n8.Pv) (cs:=n8.Pc v67) (y7 hv52 hg) (ct hg) (ct hg) J8 M1 J J) J<|p9 J (λhg _ hN=>A3 (ct hg) a1g J) J<|p9 J (λhg _ hN=>A3 (ct hg) a7x J) J<|A5 J (λhg=>E6 (ct hg) p7 J) J<|p9 J (λhg _ hN=>oF J a1t J) J<|A5 J (λhg=>oS (ct hg) J J a58 J) J<|p9 J (λhg _ hN=>mI J) J<|w8 h λv68 hv53 h=>A5 J (λhg=>z7 (f:=n8.Pv) (cs:=n8.Pc v68) (y7 hv53 hg) (ct hg) (ct hg) J8 M1 J J) J<|p9 J (λhg _ hN=>A3 (ct hg) a1g J) J<|p9 J (λhg _ hN=>A3 (ct hg) a7x J) J<|A5 J (λhg=>E6 (ct hg) p7 J) J<|p9 J (λhg _ hN=>l5 (ct hg) (ct hg) J) J<|d7 J (λ_ hN=>o9 J J J (λq=>I8 q)) J<|U7 ?_
     refine cN h (λhc h=>?_) λhc h=>?_
     ·refine m7 ?_;refine c4<|b0D (by decide)<|c4<|c4<|j4 ?_
      have h:=xL hx46 h;exact eJ h W
     ·refine b9 ?_;refine S3 2 J<|y0 J (a4a (f:=iF) hv50 J J J J j8 o8 J)<|y0 J (b6s (f:=iF) hv50 J J J p7 J)<|S2 1 J<|S3 5 J<|y0 J (a4a (f:=iF) hv48 J J J J j8 o8 J)<|y0 J (b6s (f:=iF) hv48 J J J p7 J)<|y0 J (a4a (f:=iF) hv50 J J J J j8 o8 J)<|b1U (f:=iF) (v:=v63) hv50 J J (.inl J) o8<|yN<|S5 4 J<|w8 h λv69 hv54 h=>y0 J (a4a (f:=iF) hv54 J J J J j8 o8 J)<|b1U (f:=iF) (v:=v65) hv54 J J (.inl J) o8<|yN<|S6 3 J ?_;exact eL h W
    ·refine m7 ?_;refine c4<|c4<|j4 ?_;have h:=xL hx46 h;exact eJ h W
  ·refine m7 ?_;refine c4<|c4<|j4 ?_;have h:=xL hx31 h;exact eJ h W

theorem a4Z{a0}:PO Tryz.prog 36 [k9.Pv a0] (a4c a0) λr=>.L iF r:=by
 refine pO Tryz.func36 λr h _ _=>?_;refine S4 2 J<|sR<|y0 J (G1 J j8 o8)<|S2 1 J ?_;refine jq h (λj15=>St.of [(1,.ptr 1 0 0),(3,.sl 910003)] [(910003,⟨List.map iF j15,(List.map iF j15).length,true,1,true⟩),(1,vR (k9.Pv a0) 3)]) (λj15 h=>?_) λκ14 h=>?_
 ·refine S3 2 J ?_;obtain⟨v16,hv12,h⟩:=a7H h;refine ycL J (B0 J b5L J hv12) J<|S2 1 J<|b8 ?_;cases h;exact f1
 ·refine S4 1 J ?_;refine g6<|lq h (λq=>St.of [(1,.ptr 1 0 0),(3,.sl 910003),(4,.I q.1)] [(1,vR (k9.Pv a0) 3),(910003,⟨List.map iF q.2,(List.map iF q.2).length,true,1,true⟩)]) (Wk.trans (H4 (t:=3) (l:=920003) (z:=1) J J) (WP (λl=>if l=910003 then 920003 else l))) λq21 x20 h hx15=>?_
  obtain⟨s18,s19⟩:=q21;refine g7<|S3 3 J<|nL J J8<|S2 1 J ?_;refine cN h (λhc h=>?_) λhc h=>?_
  ·refine b9 ?_;refine jq h (λj26=>St.of [(1,.ptr 1 0 0),(3,.sl 30),(4,.I s18)] [(30,⟨List.map iF j26,(List.map iF j26).length,true,1,true⟩),(1,vR (k9.Pv a0) 3)]) (λj26 h=>?_) λκ25 h=>?_
   ·refine S6 3 J ?_;exact eL h (Wk.trans (n7 _ [30]) (WP (λl=>if l=910003 then 30 else l)))
   ·refine g6 ?_;refine S3 3 J<|iL h J J J8 M1 λv27 hv20 h=>S2 3 J ?_;refine cN h (λhc h=>?_) λhc h=>?_
    ·refine S5 5 J ?_;refine y0 J (z7 (f:=n8.Pv) (cs:=n8.Pc v27) hv20 J J J8 M1 J J)<|S1 2 J<|cA h a71 J J λv28 _ h=>y0 J (N9 (f:=iF) (l:=[v28]) J j8 o8 C2 J J nl J J)<|w8 h λv29 hv22 h=>O5 J (K5 (f:=iF) hv22 J J J J J J (.inl ⟨_,J,J⟩) j8 o8 O2 C2 J (λ_=>J)) J J J<|S2 1 J ?_;exact eJ h (Wk.trans (n7 _ [30]) W)
    ·refine b9 ?_;exact eJ h (Wk.trans (n7 _ [910003]) (WP (λl=>if l=30 then 910003 else l)))
  ·refine m7 ?_;refine c4<|c4<|j4 ?_;have h:=xL hx15 h;exact eJ h (Wk.trans (n7 _ [910003]) W)

theorem b9v{a0}:PO Tryz.prog 233 [.L k7.Pv a0] (b1o a0) λr=>.L iF r:=by
 refine pO Tryz.func233 λr h _ _=>?_;refine S4 1 J<|sR<|y0 J (G1 J j8 o8)<|S2 1 J ?_;refine jq h (λj13=>St.of [(3,.sl 910003)] [(910003,⟨List.map iF j13,(List.map iF j13).length,true,1,true⟩)]) (λj13 h=>?_) λκ12 h=>?_
 ·refine S4 2 J ?_;refine b8 ?_;cases h;exact f1
 ·refine S4 1 J ?_;refine g6<|lq h (λq=>St.of [(0,.L k7.Pv a0),(3,.sl 910003),(4,.I q.1)] [(910003,⟨List.map iF q.2,(List.map iF q.2).length,true,1,true⟩)]) (Wk.trans (H4 (t:=3) (l:=920003) (z:=1) J J) (WP (λl=>if l=910003 then 920003 else l))) λq18 x17 h hx12=>?_
  obtain⟨s15,s16⟩:=q18;refine g7<|S3 2 J<|nL J X9<|S2 1 J ?_;refine cN h (λhc h=>?_) λhc h=>?_
  ·refine b9 ?_;refine jq h (λj22=>St.of [(0,.L k7.Pv a0),(3,.sl 25),(4,.I s15)] [(25,⟨List.map iF j22,(List.map iF j22).length,true,1,true⟩)]) (λj22 h=>?_) λκ21 h=>?_
   ·refine S6 3 J ?_;exact eL h (Wk.trans (n7 _ [25]) (WP (λl=>if l=910003 then 25 else l)))
   ·refine g6 ?_;refine S3 2 J<|iL h J J X9 a0X λv23 hv16 h=>S2 3 J ?_;refine cN h (λhc h=>?_) λhc h=>?_
    ·refine S5 3 J ?_;refine y0 J (z7 (f:=k7.Pv) (cs:=k7.Pc v23) hv16 J J X9 a0X J J)<|S1 2 J<|y0 J (N9 (f:=iF) (l:=[v23.Key]) J j8 o8 C2 J J nl J J)<|w8 h λv24 hv17 h=>O5 J (K5 (f:=iF) hv17 J J J J J J (.inl ⟨_,J,J⟩) j8 o8 O2 C2 J (λ_=>J)) J J J<|S2 1 J ?_;exact eJ h (Wk.trans (n7 _ [25]) W)
    ·refine b9 ?_;exact eJ h (Wk.trans (n7 _ [910003]) (WP (λl=>if l=25 then 910003 else l)))
  ·refine m7 ?_;refine c4<|c4<|j4 ?_;have h:=xL hx12 h;exact eJ h (Wk.trans (n7 _ [910003]) W)

theorem c0U{a0 a1}:PO Tryz.prog 234 [.L k7.Pv a0,.I a1] (a8V a0 a1) λr=>.tup [.I r.1,.I r.2]:=by
 refine pO Tryz.func234 λr h _ _=>?_;refine S4 2 J<|S3 2 J<|cA h b20 J J λv1 _ h=>S2 1 J<|g7<|S4 2 J ?_;refine cN h (λhc h=>?_) λhc h=>?_
 ·refine S4 2 J ?_;refine b8 ?_;cases h;exact f2
 ·refine b9 ?_;refine S3 2 J<|iL h J J X9 a0X λv2 _ h=>S2 4 J<|b8 ?_;cases h;exact f2

theorem b1q{a0}:PO Tryz.prog 160 [.L k7.Pv a0] (a5K a0) λr=>.L C7.Pv r:=by
 refine pO Tryz.func160 λr h _ _=>?_;refine S4 1 J<|sR<|y0 J (G1 J a4D a8y)<|S2 1 J<|S3 1 J<|cF h b9v J J λv1 _ h=>S2 1 J ?_;refine jq h (λj11=>St.of [(3,.sl 910003)] [(910003,⟨List.map C7.Pv j11,(List.map C7.Pv j11).length,true,2,true⟩)]) (λj11 h=>?_) λκ10 h=>?_
 ·refine S4 2 J ?_;refine b8 ?_;cases h;exact f1
 ·refine S4 1 J ?_;refine g6<|lq h (λq=>St.of [(0,.L k7.Pv a0),(3,.sl 910003),(4,.L iF v1),(5,.I q.1)] [(910003,⟨List.map C7.Pv q.2,(List.map C7.Pv q.2).length,true,2,true⟩)]) (Wk.trans (H4 (t:=3) (l:=920003) (z:=2) J J) (WP (λl=>if l=910003 then 920003 else l))) λq16 x15 h hx11=>?_
  obtain⟨s13,s14⟩:=q16;refine g7<|S3 2 J<|nL J j8<|S2 1 J ?_;refine cN h (λhc h=>?_) λhc h=>?_
  ·refine b9 ?_;refine g7<|g6<|S3 3 J<|iL h J J j8 o8 λv17 hv12 h=>S1 1 J<|cA h c0U J J λv18 _ h=>S2 5 J<|S5 3 J<|y0 J (z7 (f:=iF) (cs:=[.I v17]) hv12 J J j8 o8 J J)<|S1 2 J<|y0 J (s7 (cs:=[.I v17,.I v18.1]) J c6M b6Q J J J)<|y0 J (N9 (f:=C7.Pv) (l:=[(⟨v17,v18.1⟩:C7)]) J a4D a8y b6Q J J nl J J)<|w8 h λv19 hv14 h=>O5 J (K5 (f:=C7.Pv) hv14 J J J J J J (.inl ⟨_,J,J⟩) a4D a8y c6v b6Q J (λ_=>J)) J J J<|S2 1 J<|S6 3 J ?_;exact eL h (Wk.trans (n7 _ [34]) (WP (λl=>if l=910003 then 34 else l)))
  ·refine m7 ?_;refine c4<|c4<|j4 ?_;have h:=xL hx11 h;exact eJ h (Wk.trans (n7 _ [910003]) W)

theorem b7S{a0}:PO Tryz.prog 83 [g9.Pv a0] (a82 a0) λr=>.bool r:=by
 refine pO Tryz.func83 λr h _ _=>?_;refine S4 2 J ?_;refine jq h (λ_=>St.of [(1,.ptr 1 0 0)] [(1,vR (g9.Pv a0) 8)]) (λq7 h=>?_) λκ6 h=>?_
 ·refine S3 2 J ?_;refine cF h a4Z J J λv8 _ h=>S2 1 J ?_;refine jq h (λ_=>St.of [(1,.ptr 1 0 0)] [(1,vR (g9.Pv a0) 8)]) (λq29 h=>?_) λκ28 h=>?_
  ·refine S3 2 J ?_;refine cF h b1q J J λv30 _ h=>S2 1 J ?_;refine jq h (λ_=>St.of [] []) (λq38 h=>?_) λκ37 h=>?_
   ·refine S4 1 J ?_;refine b8 ?_;cases h;exact f1
   ·refine S4 1 J ?_;refine g6<|lq h (λs40=>St.of [(1,.ptr 1 0 0),(9,.L C7.Pv v30),(10,.I s40)] [(1,vR (g9.Pv a0) 8)]) W λs40 x41 h hx37=>g7<|S3 2 J<|nL J a4D<|S2 1 J ?_;refine cN h (λhc h=>?_) λhc h=>?_
    ·refine b9 ?_;refine g7<|g6<|dr [] u5 (by kernel_rfl) (by kernel_rfl)<|S7 3 J<|w8 h λv42 hv38 h=>d0 J (z7 (f:=C7.Pv) (cs:=C7.Pc v42) hv38 J J a4D a8y J J) J<|S7 2 J<|w8 h λv43 hv39 h=>d2 J (z8 J a3G J hv39) J<|S7 2 J<|A5 J (λhg=>oL J J J a7u a6e nl J) J<|p9 J (λhg _ hN=>om (d:=.L C7.Pv v30) J) J<|p9 J (λhg _ hN=>mI J) J<|A5 J (λhg=>z7 (f:=C7.Pv) (cs:=C7.Pc v42) hv38 (ct hg) (ct hg) a4D a8y J J) J<|p9 J (λhg _ hN=>A3 (ct hg) c2G J) J<|A5 J (λhg=>E6 (ct hg) p7 J) J<|w8 h λv44 hv40 h=>a4G J (λhg=>z8 J a3G (u6 (ct hg) (u6 (ct hg) J)) (y7 hv40 hg)) J<|p9 J (λhg _ hN=>P5 (ct hg) J) J<|d7 J (λ_ hN=>o9 J J J (λq=>I8 q)) J<|U7 ?_
     refine cN h (λhc h=>?_) λhc h=>?_
     ·refine S4 1 J ?_;refine b8 ?_;have h:=xL hx37 h;cases h;exact f1
     ·refine b9 ?_;refine S6 3 J ?_;exact eL h W
    ·refine m7 ?_;refine c4<|c4<|j4 ?_;have h:=xL hx37 h;exact eJ h W
  ·refine S4 1 J ?_;refine g6<|lq h (λs46=>St.of [(1,.ptr 1 0 0),(4,.L iF v8),(5,.I s46)] [(1,vR (g9.Pv a0) 8)]) W λs46 x47 h hx43=>g7<|S3 2 J<|nL J j8<|S2 1 J ?_;refine cN h (λhc h=>?_) λhc h=>?_
   ·refine b9 ?_;refine jq h (λ_=>St.of [(1,.ptr 1 0 0),(4,.L iF v8),(5,.I s46)] [(1,vR (g9.Pv a0) 8)]) (λq56 h=>?_) λκ55 h=>?_
    ·refine S6 3 J ?_;exact eL h W
    ·refine g6 ?_;refine dr [] u5 (by kernel_rfl) (by kernel_rfl)<|S7 4 J<|w8 h λv57 hv52 h=>d0 J (z7 (f:=iF) (cs:=[.I v57]) hv52 J J j8 o8 J J) J<|S7 1 J<|w8 h λv58 hv53 h=>d2f J (B0 J a09 J hv53) J<|S7 4 J<|P0 (x':=B2.Pv v58.1) (cl':=true) J J (.inr J) a7E<|S8 1 J<|S4 1 J<|g6<|lq h (λs60=>St.of [(1,.ptr 1 0 0),(4,.L iF v8),(5,.I s46),(6,.ptr 6 0 0),(8,.I s60)] [(6,vR (B2.Pv v58.1) 6),(1,vR (g9.Pv a0) 8)]) W λs60 x61 h hx56=>g7<|S3 3 J<|nL J j8<|S2 1 J ?_
     refine cN h (λhc h=>?_) λhc h=>?_
     ·refine b9 ?_;refine g7<|g6<|dr [] u5 (by kernel_rfl) (by kernel_rfl)<|S7 4 J<|w8 h λv62 hv57 h=>d0 J (z7 (f:=iF) (cs:=[.I v62]) hv57 J J j8 o8 J J) J<|S7 1 J<|w8 h λv63 hv58 h=>d2 J (z8 J b1u J hv58) J<|S8 1 J ?_
      refine cN h (λhc h=>?_) λhc h=>?_
      ·refine S4 1 J ?_;refine b8 ?_;have h:=xL hx56 h;have h:=xL hx43 h;cases h;exact f1
      ·refine b9 ?_;refine S6 3 J ?_;exact eL h W
     ·refine m7 ?_;refine c4<|c4<|j4 ?_;have h:=xL hx56 h;exact eJ h W
   ·refine m7 ?_;refine c4<|c4<|j4 ?_;have h:=xL hx43 h;exact eJ h W
 ·refine S4 1 J ?_;refine g6<|lq h (λs65=>St.of [(1,.ptr 1 0 0),(3,.I s65)] [(1,vR (g9.Pv a0) 8)]) W λs65 x66 h hx61=>g7<|S3 3 J<|nL J j8<|S2 1 J ?_;refine cN h (λhc h=>?_) λhc h=>?_
  ·refine b9 ?_;refine g7<|g6<|dr [] u5 (by kernel_rfl) (by kernel_rfl)<|S7 4 J<|w8 h λv67 hv62 h=>d0 J (z7 (f:=iF) (cs:=[.I v67]) hv62 J J j8 o8 J J) J<|S7 1 J<|w8 h λv68 hv63 h=>d2 J (z8 J b1u J hv63) J<|S8 1 J ?_
   refine cN h (λhc h=>?_) λhc h=>?_
   ·refine S4 1 J ?_;refine b8 ?_;have h:=xL hx61 h;cases h;exact f1
   ·refine b9 ?_;refine S6 3 J ?_;exact eL h W
  ·refine m7 ?_;refine c4<|c4<|j4 ?_;have h:=xL hx61 h;exact eJ h W

theorem b7P{a0 a1}:PO Tryz.prog 162 [w7.Pv a0,.I a1] (a2l a0 a1) λr=>.bool r:=by
 refine pO Tryz.func162 λr h _ _=>?_;refine S4 2 J ?_;refine jq h (λ_=>St.of [] []) (λq6 h=>?_) λκ5 h=>?_
 ·refine S4 1 J ?_;refine b8 ?_;cases h;exact f1
 ·refine S4 1 J ?_;refine g6<|lq h (λs8=>St.of [(1,.I a1),(2,.ptr 2 0 0),(5,.I s8)] [(2,vR (w7.Pv a0) 2)]) W λs8 x9 h hx8=>g7<|S3 3 J<|nL J V0<|S2 1 J ?_;refine cN h (λhc h=>?_) λhc h=>?_
  ·refine b9 ?_;refine g7<|g6<|S3 3 J<|iL h J J V0 a3f λv10 hv9 h=>S1 4 J<|c5 J (λhg=>oF J a7v J)<|c5 J (λhg=>oS (ct hg) J J b3S J)<|c5 J (λhg=>mI J)<|c5 J (λhg=>z7 (f:=r8.Pv) (cs:=r8.Pc v10) hv9 (ct hg) (ct hg) V0 a3f J J)<|c5 J (λhg=>A3 (ct hg) a7C J)<|c5 J (λhg=>E6 (ct hg) p7 J)<|c5 J (λhg=>mI J)<|c5 J (λhg=>l5 (ct hg) (ct hg) J)<|y0 J (m8 J J J (λq=>J2 q))<|yN ?_;refine cN h (λhc h=>?_) λhc h=>?_
   ·refine S4 1 J ?_;refine b8 ?_;have h:=xL hx8 h;cases h;exact f1
   ·refine b9 ?_;refine S6 3 J ?_;exact eL h W
  ·refine m7 ?_;refine c4<|c4<|j4 ?_;have h:=xL hx8 h;exact eJ h W

theorem b7R{a0}:PO Tryz.prog 84 [g9.Pv a0] (a81 a0) λr=>.bool r:=by
 refine pO Tryz.func84 λr h _ _=>?_;refine S4 2 J ?_;refine jq h (λ_=>St.of [] []) (λq10 h=>?_) λκ9 h=>?_
 ·refine S4 1 J ?_;refine b8 ?_;cases h;exact f1
 ·refine S4 1 J ?_;refine g6<|lq h (λs12=>St.of [(1,.ptr 1 0 0),(3,.I s12)] [(1,vR (g9.Pv a0) 8)]) W λs12 x13 h hx12=>g7<|S3 3 J<|nL J a19<|S2 1 J ?_;refine cN h (λhc h=>?_) λhc h=>?_
  ·refine b9 ?_;refine g7<|g6<|S3 3 J<|iL h J J a19 a6d λv14 _ h=>S2 3 J<|dr [] u5 (by kernel_rfl) (by kernel_rfl)<|S7 2 J<|w8 h λv15 hv14 h=>d2f J (B0 J a1P J hv14) J<|S7 2 J<|w8 h λv16 hv15 h=>d2 J (z8 J a4Y J hv15) J<|S8 5 J<|S3 4 J<|c5 J (λhg=>oF J c2F J)<|c5 J (λhg=>oS (ct hg) J J p7 J)<|c5 J (λhg=>l5 (ct hg) J J)<|y0 J (o9 J J J (λq=>I8 q))<|S1 1 J<|c5 J (λhg=>oF J b13 J)<|c5 J (λhg=>oS (ct hg) J J p7 J)<|c5 J (λhg=>l5 (ct hg) J J)<|c5 J (λhg=>om (d:=.bool (v14.Target==0)) (ct hg))<|c5 (r9 J J J) (λhg=>oF J b55 J)<|c5 (r9 J J J) (λhg=>oS (ct hg) J J a3U J)<|c5 J (λhg=>m8 (ct hg) J J (λq=>a2a hg (J2 q)))<|y0 J (o9 J J J (λq=>I8 q))<|S1 1 J<|c5 J (λhg=>oF J b13 J)<|c5 J (λhg=>oS (ct hg) J J p7 J)<|c5 J (λhg=>l5 (ct hg) J J)<|c5 J (λhg=>om (d:=.bool (v14.Target != 0)) (ct hg))<|c5 (r9 J J J) (λhg=>mI J)<|c5 (r9 J J J) (λhg=>l5 (ct hg) J J)<|c5 J (λhg=>m8 (ct hg) J J (λq=>a2a hg (J2 q)))<|y0 J (o9 J J J (λq=>I8 q))<|S1 1 J<|c5 J (λhg=>oF J b55 J)<|c5 J (λhg=>oS (ct hg) J J a3U J)<|c5 J (λhg=>om (d:=.bool v14.Intact) (ct hg))<|c5 (r9 J J J) (λhg=>oL J J J a7u a6e nl J) ?_
   refine c5 (r9 J J J) (λhg=>oF J b13 J)<|c5 (r9 J J J) (λhg=>oS (ct hg) J J p7 J)<|w8 h λv17 hv16 h=>c5 (r9 J J J) (λhg=>z8 J a3G (u6 (ct hg) (u6 (ct hg) J)) (y7 hv16 hg))<|c5 (r9 J J J) (λhg=>P5 (ct hg) J)<|c5 (r9 J J J) (λhg=>om (d:=.bool (!v17)) (ct hg))<|c5 (r9 J J J) (λhg=>oF J a7w J)<|c5 (r9 J J J) (λhg=>oL (ct hg) J J b6K b6O nl J)<|c5 (r9 J J J) (λhg=>mI J)<|w8 h λv18 hv17 h=>c5 (r9 J J J) (λhg=>z8 J b7P (u6 (ct hg) (u6 (ct hg) J)) (y7 hv17 hg))<|c5 (r9 J J J) (λhg=>o9 (ct hg) J J (λq=>a2a hg (I8 q)))<|c5 J (λhg=>m8 (ct hg) J J (λq=>a2a hg (J2 q)))<|y0 J (o9 J J J (λq=>I8 q))<|yN ?_;refine cN h (λhc h=>?_) λhc h=>?_
   ·refine S4 1 J ?_;refine b8 ?_;have h:=xL hx12 h;cases h;exact f1
   ·refine b9 ?_;refine S6 3 J ?_;exact eL h W
  ·refine m7 ?_;refine c4<|c4<|j4 ?_;have h:=xL hx12 h;exact eJ h W

theorem b5K{a0 a1}:PO Tryz.prog 163 [.I a0,.I a1] (b0i a0 a1) λr=>.I r:=by
 refine pO Tryz.func163 λr h _ _=>?_;refine S4 1 J<|S3 2 J<|cA h a71 J J λv1 _ h=>S2 1 J<|b8 ?_;cases h;exact f1

theorem b5M{a0 a1}:PO Tryz.prog 164 [.L s6.Pv a0,.I a1] (a6E a0 a1) λr=>.I r:=by
 refine pO Tryz.func164 λr h _ _=>?_;refine S4 1 J<|S4 1 J ?_;refine jq h (λj11=>St.of [(5,.I j11)] []) (λj11 h=>?_) λκ10 h=>?_
 ·refine S4 2 J ?_;refine b8 ?_;cases h;exact f1
 ·refine S4 1 J ?_;refine g6<|lq h (λq=>St.of [(0,.L s6.Pv a0),(1,.I a1),(5,.I q.1),(6,.I q.2)] []) W λq16 x15 h hx10=>?_;obtain⟨s13,s14⟩:=q16;refine g7<|S3 2 J<|nL J a19<|S2 1 J ?_;refine cN h (λhc h=>?_) λhc h=>?_
  ·refine b9 ?_;refine jq h (λj19=>St.of [(0,.L s6.Pv a0),(1,.I a1),(5,.I j19),(6,.I s14)] []) (λj19 h=>?_) λκ18 h=>?_
   ·refine S6 3 J ?_;exact eL h W
   ·refine g6 ?_;refine S3 2 J<|iL h J J a19 a6d λv20 _ h=>S1 5 J<|c5 J (λhg=>mI J)<|c5 J (λhg=>l5 (ct hg) J J)<|y0 J (m8 J J J (λq=>J2 q))<|yN ?_;refine cN h (λhc h=>?_) λhc h=>?_
    ·refine S6 3 J ?_;exact eJ h W
    ·refine b9 ?_;exact eJ h W
  ·refine m7 ?_;refine c4<|c4<|j4 ?_;have h:=xL hx10 h;exact eJ h W

theorem b7U{a0}:PO Tryz.prog 85 [g9.Pv a0] (a84 a0) λr=>.bool r:=by
 refine pO Tryz.func85 λr h _ _=>?_;refine S4 2 J ?_;refine jq h (λ_=>St.of [] []) (λq13 h=>?_) λκ12 h=>?_
 ·refine S4 1 J ?_;refine b8 ?_;cases h;exact f1
 ·refine S4 1 J ?_;refine g6<|lq h (λs15=>St.of [(1,.ptr 1 0 0),(3,.I s15)] [(1,vR (g9.Pv a0) 8)]) W λs15 x16 h hx14=>g7<|S3 4 J<|nL J J8<|S2 1 J ?_;refine cN h (λhc h=>?_) λhc h=>?_
  ·refine b9 ?_;refine jq h (λ_=>St.of [(1,.ptr 1 0 0),(3,.I s15)] [(1,vR (g9.Pv a0) 8)]) (λq21 h=>?_) λκ20 h=>?_
   ·refine S6 3 J ?_;exact eL h W
   ·refine g6 ?_;refine S3 4 J<|iL h J J J8 M1 λv22 _ h=>S2 3 J<|g7<|S3 4 J<|c5 J (λhg=>oF J b11 J)<|c5 J (λhg=>oS (ct hg) J J p7 J)<|c5 J (λhg=>l5 (ct hg) J J)<|y0 J (m8 J J J (λq=>J2 q))<|yN ?_;refine cN h (λhc h=>?_) λhc h=>?_
    ·refine m7 ?_;refine c4<|j4 ?_;exact eJ h W
    ·refine b9 ?_;refine S3 3 J<|cA h b5K J J λv23 _ h=>S2 1 J<|dr [] u5 (by kernel_rfl) (by kernel_rfl)<|S7 6 J<|w8 h λv24 hv21 h=>d2 J (z8 J b5M J hv21) J<|S7 2 J<|p9 J (λhg _ hN=>oF J b11 J) J<|A5 J (λhg=>oS (ct hg) J J p7 J) J<|p9 J (λhg _ hN=>l5 (ct hg) J J) J<|p9 J (λhg _ hN=>om (d:=.bool (v22.State==2)) (ct hg)) J<|p9 (r9 J J J) (λhg _ hN=>oF J a1g J) J<|p9 (r9 J J J) (λhg _ hN=>oF (ct hg) a7z J) J<|A5 (r9 J J J) (λhg=>oS (ct hg) J J p7 J) J<|p9 (r9 J J J) (λhg _ hN=>l5 (ct hg) J J) J<|p9 (r9 J J J) (λhg _ hN=>om (d:=.bool (decide (v22.Val.Weak<1))) (ct hg)) J<|p9 (r9 J J J) (λhg _ hN=>oF J a1g J) J<|p9 (r9 J J J) (λhg _ hN=>oF (ct hg) a7B J) J<|A5 (r9 J J J) (λhg=>oS (ct hg) J J U9 J) J<|A5 (r9 J J J) (λhg=>J7 (f:=iF) (ct hg) j8) J<|p9 (r9 J J J) (λhg _ hN=>l5 (ct hg) J J) J<|p9 (r9 J J J) (λhg _ hN=>o9 (ct hg) J J (λq=>a2a hg (I8 q))) J<|p9 (r9 J J J) (λhg _ hN=>om (d:=.bool ((decide (v22.Val.Weak<1))||(decide ((v22.Val.Fields.length:Int) > 0)))) (ct hg)) J<|p9 (r9 J J J) (λhg _ hN=>oF J a1g J) J<|p9 (r9 J J J) (λhg _ hN=>oF (ct hg) a7y J) J<|A5 (r9 J J J) (λhg=>oS (ct hg) J J p7 J) J<|p9 (r9 J J J) (λhg _ hN=>l5 (ct hg) J J) J<|p9 (r9 J J J) (λhg _ hN=>o9 (ct hg) J J (λq=>a2a hg (I8 q))) J<|p9 J (λhg _ hN=>m8 (ct hg) J J (λq=>a2a hg (J2 q))) J<|d7 J (λ_ hN=>o9 J J J (λq=>I8 q)) J<|U7 ?_
     refine cN h (λhc h=>?_) λhc h=>?_
     ·refine S4 1 J ?_;refine b8 ?_;have h:=xL hx14 h;cases h;exact f1
     ·refine b9 ?_;exact eJ h W
  ·refine m7 ?_;refine c4<|c4<|j4 ?_;have h:=xL hx14 h;exact eJ h W

theorem b9z{a0}:PO Tryz.prog 167 [w7.Pv a0] (a78 a0) λr=>.L iF r:=by
 refine pO Tryz.func167 λr h _ _=>?_;refine S4 2 J<|sR<|y0 J (G1 J j8 o8)<|S2 1 J ?_;refine jq h (λj13=>St.of [(3,.sl 910003)] [(910003,⟨List.map iF j13,(List.map iF j13).length,true,1,true⟩)]) (λj13 h=>?_) λκ12 h=>?_
 ·refine S4 2 J ?_;refine b8 ?_;cases h;exact f1
 ·refine S4 1 J ?_;refine g6<|lq h (λq=>St.of [(1,.ptr 1 0 0),(3,.sl 910003),(4,.I q.1)] [(1,vR (w7.Pv a0) 2),(910003,⟨List.map iF q.2,(List.map iF q.2).length,true,1,true⟩)]) (Wk.trans (H4 (t:=3) (l:=920003) (z:=1) J J) (WP (λl=>if l=910003 then 920003 else l))) λq18 x17 h hx12=>?_
  obtain⟨s15,s16⟩:=q18;refine g7<|S3 3 J<|nL J V0<|S2 1 J ?_;refine cN h (λhc h=>?_) λhc h=>?_
  ·refine b9 ?_;refine jq h (λj22=>St.of [(1,.ptr 1 0 0),(3,.sl 28),(4,.I s15)] [(28,⟨List.map iF j22,(List.map iF j22).length,true,1,true⟩),(1,vR (w7.Pv a0) 2)]) (λj22 h=>?_) λκ21 h=>?_
   ·refine S6 3 J ?_;exact eL h (Wk.trans (n7 _ [28]) (WP (λl=>if l=910003 then 28 else l)))
   ·refine g6 ?_;refine S3 3 J<|iL h J J V0 a3f λv23 hv16 h=>S2 3 J ?_;refine cN h (λhc h=>?_) λhc h=>?_
    ·refine S5 4 J ?_;refine y0 J (z7 (f:=r8.Pv) (cs:=r8.Pc v23) hv16 J J V0 a3f J J)<|S1 2 J<|y0 J (N9 (f:=iF) (l:=[v23.At]) J j8 o8 C2 J J nl J J)<|w8 h λv24 hv17 h=>O5 J (K5 (f:=iF) hv17 J J J J J J (.inl ⟨_,J,J⟩) j8 o8 O2 C2 J (λ_=>J)) J J J<|S2 1 J ?_;exact eJ h (Wk.trans (n7 _ [28]) W)
    ·refine b9 ?_;exact eJ h (Wk.trans (n7 _ [910003]) (WP (λl=>if l=28 then 910003 else l)))
  ·refine m7 ?_;refine c4<|c4<|j4 ?_;have h:=xL hx12 h;exact eJ h (Wk.trans (n7 _ [910003]) W)

theorem b7Q{a0}:PO Tryz.prog 87 [g9.Pv a0] (a80 a0) λr=>.L iF r:=by
 refine pO Tryz.func87 λr h _ _=>?_;refine S4 2 J<|sR<|y0 J (G1 J j8 o8)<|S2 1 J ?_;refine jq h (λj13=>St.of [(1,.ptr 1 0 0),(3,.sl 910003)] [(910003,⟨List.map iF j13,(List.map iF j13).length,true,1,true⟩),(1,vR (g9.Pv a0) 8)]) (λj13 h=>?_) λκ12 h=>?_
 ·refine S3 3 J ?_;refine cF h b9z J J λv14 _ h=>w8 h λv15 hv11 h=>O5 J (K5 (f:=iF) hv11 J J J J J J (.inl ⟨_,J,J⟩) j8 o8 O2 C2 J (λ_=>J)) J J J<|S2 1 J<|b8 ?_;cases h;exact f1
 ·refine S4 1 J ?_;refine g6<|lq h (λq=>St.of [(1,.ptr 1 0 0),(3,.sl 910003),(4,.I q.1)] [(1,vR (g9.Pv a0) 8),(910003,⟨List.map iF q.2,(List.map iF q.2).length,true,1,true⟩)]) (Wk.trans (H4 (t:=3) (l:=920003) (z:=1) J J) (WP (λl=>if l=910003 then 920003 else l))) λq20 x19 h hx14=>?_
  obtain⟨s17,s18⟩:=q20;refine g7<|S3 3 J<|nL J j8<|S2 1 J ?_;refine cN h (λhc h=>?_) λhc h=>?_
  ·refine b9 ?_;refine jq h (λj24=>St.of [(1,.ptr 1 0 0),(3,.sl 26),(4,.I s17)] [(26,⟨List.map iF j24,(List.map iF j24).length,true,1,true⟩),(1,vR (g9.Pv a0) 8)]) (λj24 h=>?_) λκ23 h=>?_
   ·refine S6 3 J ?_;exact eL h (Wk.trans (n7 _ [26]) (WP (λl=>if l=910003 then 26 else l)))
   ·refine g6 ?_;refine S3 3 J<|iL h J J j8 o8 λv25 hv18 h=>S2 2 J ?_;refine cN h (λhc h=>?_) λhc h=>?_
    ·refine S5 4 J ?_;refine y0 J (z7 (f:=iF) (cs:=[.I v25]) hv18 J J j8 o8 J J)<|S1 1 J<|y0 J (N9 (f:=iF) (l:=[v25]) J j8 o8 C2 J J nl J J)<|w8 h λv26 hv19 h=>O5 J (K5 (f:=iF) hv19 J J J J J J (.inl ⟨_,J,J⟩) j8 o8 O2 C2 J (λ_=>J)) J J J<|S2 1 J ?_;exact eJ h (Wk.trans (n7 _ [26]) W)
    ·refine b9 ?_;exact eJ h (Wk.trans (n7 _ [910003]) (WP (λl=>if l=26 then 910003 else l)))
  ·refine m7 ?_;refine c4<|c4<|j4 ?_;have h:=xL hx14 h;exact eJ h (Wk.trans (n7 _ [910003]) W)

theorem b7B{a0}:PO Tryz.prog 91 [.I a0] (a0y a0) λr=>.bool r:=by
 refine pO Tryz.func91 λr h _ _=>?_;unfold a0y at h;refine S4 1 J<|S4 3 J<|b8 ?_;cases h;exact f1

theorem b7O{a0 a1}:PO Tryz.prog 165 [k9.Pv a0,.I a1] (a8Z a0 a1) λr=>.bool r:=by
 refine pO Tryz.func165 λr h _ _=>?_;refine S4 2 J<|S3 2 J<|cF h a09 J J λv1 _ h=>S2 6 J<|S3 2 J<|cA h b7B J J λv2 _ h=>S2 1 J<|b8 ?_;cases h;exact f1

theorem b7C{a0}:PO Tryz.prog 145 [.L iF a0] (a2k a0) λr=>.L iF r:=by
 refine pO Tryz.func145 λr h _ _=>?_;refine S4 1 J<|sR<|y0 J (G1 J j8 o8)<|S2 1 J ?_;refine jq h (λj13=>St.of [(3,.sl 910003)] [(910003,⟨List.map iF j13,(List.map iF j13).length,true,1,true⟩)]) (λj13 h=>?_) λκ12 h=>?_
 ·refine S4 2 J ?_;refine b8 ?_;cases h;exact f1
 ·refine S4 1 J ?_;refine g6<|lq h (λq=>St.of [(0,.L iF a0),(3,.sl 910003),(4,.I q.1)] [(910003,⟨List.map iF q.2,(List.map iF q.2).length,true,1,true⟩)]) (Wk.trans (H4 (t:=3) (l:=920003) (z:=1) J J) (WP (λl=>if l=910003 then 920003 else l))) λq18 x17 h hx12=>?_
  obtain⟨s15,s16⟩:=q18;refine g7<|S3 2 J<|nL J j8<|S2 1 J ?_;refine cN h (λhc h=>?_) λhc h=>?_
  ·refine b9 ?_;refine jq h (λj22=>St.of [(0,.L iF a0),(3,.sl 23),(4,.I s15)] [(23,⟨List.map iF j22,(List.map iF j22).length,true,1,true⟩)]) (λj22 h=>?_) λκ21 h=>?_
   ·refine S6 3 J ?_;exact eL h (Wk.trans (n7 _ [23]) (WP (λl=>if l=910003 then 23 else l)))
   ·refine g6 ?_;refine S3 2 J<|iL h J J j8 o8 λv23 hv16 h=>S2 2 J ?_;refine cN h (λhc h=>?_) λhc h=>?_
    ·refine S5 3 J ?_;refine y0 J (z7 (f:=iF) (cs:=[.I v23]) hv16 J J j8 o8 J J)<|S1 1 J<|y0 J (N9 (f:=iF) (l:=[v23]) J j8 o8 C2 J J nl J J)<|w8 h λv24 hv17 h=>O5 J (K5 (f:=iF) hv17 J J J J J J (.inl ⟨_,J,J⟩) j8 o8 O2 C2 J (λ_=>J)) J J J<|S2 1 J ?_;exact eJ h (Wk.trans (n7 _ [23]) W)
    ·refine b9 ?_;exact eJ h (Wk.trans (n7 _ [910003]) (WP (λl=>if l=23 then 910003 else l)))
  ·refine m7 ?_;refine c4<|c4<|j4 ?_;have h:=xL hx12 h;exact eJ h (Wk.trans (n7 _ [910003]) W)

theorem c0T{a0 a1}:PO Tryz.prog 239 [k9.Pv a0,.I a1] (b3F a0 a1) λr=>.L iF r:=by
 refine pO Tryz.func239 λr h _ _=>?_;refine S4 2 J<|S3 2 J<|cF h a09 J J λv1 _ h=>S2 6 J<|g7<|S4 2 J ?_;refine cN h (λhc h=>?_) λhc h=>?_
 ·refine S4 1 J ?_;refine b8 ?_;cases h;exact f1
 ·refine b9 ?_;refine S3 2 J<|cF h b7C J J λv2 _ h=>S2 1 J<|b8 ?_;cases h;exact f1

theorem a3F{a0 a1}:PO Tryz.prog 38 [.L iF a0,.I a1] (T9 a0 a1) λr=>.I r:=by
 refine pO Tryz.func38 λr h _ _=>?_;refine S4 1 J<|S4 1 J ?_;refine jq h (λj11=>St.of [(5,.I j11)] []) (λj11 h=>?_) λκ10 h=>?_
 ·refine S4 2 J ?_;refine b8 ?_;cases h;exact f1
 ·refine S4 1 J ?_;refine g6<|lq h (λq=>St.of [(0,.L iF a0),(1,.I a1),(5,.I q.1),(6,.I q.2)] []) W λq16 x15 h hx10=>?_;obtain⟨s13,s14⟩:=q16;refine g7<|S3 2 J<|nL J j8<|S2 1 J ?_;refine cN h (λhc h=>?_) λhc h=>?_
  ·refine b9 ?_;refine jq h (λj19=>St.of [(0,.L iF a0),(1,.I a1),(5,.I j19),(6,.I s14)] []) (λj19 h=>?_) λκ18 h=>?_
   ·refine S6 3 J ?_;exact eL h W
   ·refine g6 ?_;refine S3 2 J<|iL h J J j8 o8 λv20 _ h=>S1 4 J<|c5 J (λhg=>mI J)<|c5 J (λhg=>l5 (ct hg) J J)<|y0 J (m8 J J J (λq=>J2 q))<|yN ?_;refine cN h (λhc h=>?_) λhc h=>?_
    ·refine S6 3 J ?_;exact eJ h W
    ·refine b9 ?_;exact eJ h W
  ·refine m7 ?_;refine c4<|c4<|j4 ?_;have h:=xL hx10 h;exact eJ h W

theorem c3h{a0 a1}:PO Tryz.prog 303 [k9.Pv a0,.I a1] (b7G a0 a1) λr=>.I r:=by
 refine pO Tryz.func303 λr h _ _=>?_;refine S4 2 J<|S4 1 J<|S3 1 J<|cF h a4Z J J λv1 _ h=>S2 1 J ?_;refine jq h (λj11=>St.of [(5,.I j11)] []) (λj11 h=>?_) λκ10 h=>?_
 ·refine S4 2 J ?_;refine b8 ?_;cases h;exact f1
 ·refine S4 1 J ?_;refine g6<|lq h (λq=>St.of [(1,.I a1),(2,.ptr 2 0 0),(5,.I q.1),(6,.L iF v1),(7,.I q.2)] [(2,vR (k9.Pv a0) 3)]) W λq16 x15 h hx11=>?_;obtain⟨s13,s14⟩:=q16;refine g7<|S3 2 J<|nL J j8<|S2 1 J ?_;refine cN h (λhc h=>?_) λhc h=>?_
  ·refine b9 ?_;refine g7<|g6<|a7Z [] u5 (by kernel_rfl) (by kernel_rfl)<|S7 4 J<|w8 h λv17 hv12 h=>d0 J (z7 (f:=iF) (cs:=[.I v17]) hv12 J J j8 o8 J J) J<|S7 1 J<|w8 h λv18 hv13 h=>d2f J (B0 J c0T J hv13) J<|S7 1 J<|w8 h λv19 hv14 h=>d2 J (z8 J a3F J hv14) J<|S8 2 J<|S6 3 J ?_
   exact eL h W
  ·refine m7 ?_;refine c4<|c4<|j4 ?_;have h:=xL hx11 h;exact eJ h W

theorem b7L{a0 a1}:PO Tryz.prog 304 [.L k7.Pv a0,.I a1] (a8X a0 a1) λr=>.I r:=by
 refine pO Tryz.func304 λr h _ _=>?_;refine S4 1 J<|S4 1 J<|S3 1 J<|cF h b1q J J λv1 _ h=>S2 1 J ?_;refine jq h (λj12=>St.of [(5,.I j12)] []) (λj12 h=>?_) λκ11 h=>?_
 ·refine S4 2 J ?_;refine b8 ?_;cases h;exact f1
 ·refine S4 1 J ?_;refine g6<|lq h (λq=>St.of [(1,.I a1),(5,.I q.1),(6,.L C7.Pv v1),(7,.I q.2)] []) W λq17 x16 h hx11=>?_;obtain⟨s14,s15⟩:=q17;refine g7<|S3 2 J<|nL J a4D<|S2 1 J ?_;refine cN h (λhc h=>?_) λhc h=>?_
  ·refine b9 ?_;refine jq h (λj20=>St.of [(1,.I a1),(5,.I j20),(6,.L C7.Pv v1),(7,.I s15)] []) (λj20 h=>?_) λκ19 h=>?_
   ·refine S6 3 J ?_;exact eL h W
   ·refine g6 ?_;refine S3 2 J<|iL h J J a4D a8y λv21 _ h=>S1 5 J<|c5 J (λhg=>mI J)<|c5 J (λhg=>l5 (ct hg) J J)<|y0 J (m8 J J J (λq=>J2 q))<|yN ?_;refine cN h (λhc h=>?_) λhc h=>?_
    ·refine S6 3 J ?_;exact eJ h W
    ·refine b9 ?_;exact eJ h W
  ·refine m7 ?_;refine c4<|c4<|j4 ?_;have h:=xL hx11 h;exact eJ h W

theorem b7N{a0 a1 a2}:PO Tryz.prog 237 [k9.Pv a0,.L k7.Pv a1,.I a2] (a8Y a0 a1 a2) λr=>.I r:=by
 refine pO Tryz.func237 λr h _ _=>?_;refine S4 2 J<|S3 2 J<|cA h c3h J J λv1 _ h=>S1 2 J<|cA h b7L J J λv2 _ h=>S2 2 J<|b8 ?_;cases h;exact f1

theorem b9y{a0 a1 a2}:PO Tryz.prog 166 [k9.Pv a0,.L k7.Pv a1,.I a2] (b1s a0 a1 a2) λr=>.I r:=by
 refine pO Tryz.func166 λr h _ _=>?_;refine S4 2 J<|S3 2 J<|cF h a09 J J λv1 _ h=>S2 6 J<|g7<|S4 2 J ?_;refine cN h (λhc h=>?_) λhc h=>?_
 ·refine S4 1 J ?_;refine b8 ?_;cases h;exact f1
 ·refine b9 ?_;refine dr [] u5 (by kernel_rfl) (by kernel_rfl)<|S7 5 J<|w8 h λv2 hv2 h=>d2 J (z8 J b7N J hv2) J<|S8 2 J<|b8 ?_
  cases h;exact f1

theorem b9x{a0 a1 a2}:PO Tryz.prog 86 [k9.Pv a0,.L k7.Pv a1,.L iF a2] (b1r a0 a1 a2) λr=>.bool r:=by
 refine pO Tryz.func86 λr h _ _=>?_;refine S4 2 J<|S3 1 J<|cF h a4Z J J λv1 _ h=>S2 1 J ?_;refine jq h (λ_=>St.of [] []) (λq10 h=>?_) λκ9 h=>?_
 ·refine S4 1 J ?_;refine b8 ?_;cases h;exact f1
 ·refine S4 1 J ?_;refine g6<|lq h (λs12=>St.of [(1,.L k7.Pv a1),(2,.L iF a2),(3,.ptr 3 0 0),(7,.L iF v1),(8,.I s12)] [(3,vR (k9.Pv a0) 3)]) W λs12 x13 h hx12=>g7<|S3 2 J<|nL J j8<|S2 1 J ?_;refine cN h (λhc h=>?_) λhc h=>?_
  ·refine b9 ?_;refine g7<|g6<|dr [] u5 (by kernel_rfl) (by kernel_rfl)<|S7 3 J<|w8 h λv14 hv13 h=>d0 J (z7 (f:=iF) (cs:=[.I v14]) hv13 J J j8 o8 J J) J<|S7 1 J<|w8 h λv15 hv14 h=>d2 J (z8 J b7O J hv14) J<|S7 2 J<|A5 J (λhg=>oL J J J b97 b99 nl J) J<|p9 J (λhg _ hN=>om (d:=.L k7.Pv a1) J) J<|p9 J (λhg _ hN=>om (d:=.L iF v1) J) J<|p9 J (λhg _ hN=>mI J) J<|A5 J (λhg=>z7 (f:=iF) (cs:=[.I v14]) hv13 (ct hg) (ct hg) j8 o8 J J) J<|A5 J (λhg=>E6 (ct hg) p7 J) J<|w8 h λv16 hv15 h=>a4G J (λhg=>z8 J b9y (u6 (ct hg) (u6 (ct hg) (u6 (ct hg) J))) (y7 hv15 hg)) J<|p9 J (λhg _ hN=>om (d:=.L iF a2) J) J<|p9 J (λhg _ hN=>om (d:=.L iF v1) J) J<|p9 J (λhg _ hN=>mI J) J<|A5 J (λhg=>z7 (f:=iF) (cs:=[.I v14]) hv13 (ct hg) (ct hg) j8 o8 J J) J<|A5 J (λhg=>E6 (ct hg) p7 J) J<|w8 h λv17 hv16 h=>a4G J (λhg=>z8 J a3F (u6 (ct hg) (u6 (ct hg) J)) (y7 hv16 hg)) J<|p9 J (λhg _ hN=>l5 (ct hg) (ct hg) J) J<|d7 J (λ_ hN=>m8 J J J (λq=>J2 q)) J<|U7 ?_
   refine cN h (λhc h=>?_) λhc h=>?_
   ·refine S4 1 J ?_;refine b8 ?_;have h:=xL hx12 h;cases h;exact f1
   ·refine b9 ?_;refine S6 3 J ?_;exact eL h W
  ·refine m7 ?_;refine c4<|c4<|j4 ?_;have h:=xL hx12 h;exact eJ h W

theorem a6G{a0}:PO Tryz.prog 30 [g9.Pv a0] (a2m a0) λr=>.bool r:=by
 refine pO Tryz.func30 λr h _ _=>?_;refine S4 2 J<|g7<|S3 2 J<|cA h b7F J J λv1 _ h=>S1 2 J<|c5 J (λhg=>oF J b0w J)<|c5 J (λhg=>oS (ct hg) J J b6J J)<|w8 h λv2 hv2 h=>c5 J (λhg=>z8 J b7K (u6 (ct hg) J) (y7 hv2 hg))<|c5 J (λhg=>P5 (ct hg) J)<|y0 J (o9 J J J (λq=>I8 q))<|S1 1 J<|c5 J (λhg=>oF J b3Y J)<|c5 J (λhg=>oS (ct hg) J J U9 J)<|c5 J (λhg=>J7 (f:=iF) (ct hg) j8)<|c5 J (λhg=>l5 (ct hg) J J)<|y0 J (o9 J J J (λq=>I8 q))<|S1 1 J<|c5 J (λhg=>oF J b3Z J)<|c5 J (λhg=>oS (ct hg) J J b98 J)<|c5 J (λhg=>J7 (f:=s6.Pv) (ct hg) a19)<|c5 J (λhg=>l5 (ct hg) J J)<|y0 J (o9 J J J (λq=>I8 q))<|yN ?_;refine cN h (λhc h=>?_) λhc h=>?_
 ·refine S4 1 J ?_;refine b8 ?_;cases h;exact f1
 ·refine b9 ?_;refine dr [] u5 (by kernel_rfl) (by kernel_rfl)<|S7 1 J<|w8 h λv3 hv3 h=>d2 J (z8 J b7T J hv3) J<|S7 1 J<|A5 J (λhg=>oL J J J a7u a6e nl J) J<|w8 h λv4 hv4 h=>a4G J (λhg=>z8 J b7S (u6 (ct hg) J) (y7 hv4 hg)) J<|d7 J (λ_ hN=>m8 J J J (λq=>J2 q)) J<|S7 1 J<|A5 J (λhg=>oL J J J a7u a6e nl J) J<|w8 h λv5 hv5 h=>a4G J (λhg=>z8 J b7R (u6 (ct hg) J) (y7 hv5 hg)) J<|d7 J (λ_ hN=>m8 J J J (λq=>J2 q)) J<|S7 1 J<|A5 J (λhg=>oL J J J a7u a6e nl J) J<|w8 h λv6 hv6 h=>a4G J (λhg=>z8 J b7U (u6 (ct hg) J) (y7 hv6 hg)) J<|d7 J (λ_ hN=>m8 J J J (λq=>J2 q)) J<|S7 1 J<|p9 J (λhg _ hN=>oF J c3K J) J<|A5 J (λhg=>oL (ct hg) J J b97 b99 nl J) J<|p9 J (λhg _ hN=>oF J b0w J) J<|A5 J (λhg=>oS (ct hg) J J b6J J) J<|A5 J (λhg=>oL J J J a7u a6e nl J) J<|w8 h λv7 hv7 h=>b4b J (λhg=>B0 J b7Q (u6 (ct hg) J) (y7 hv7 hg)) J<|w8 h λv8 hv8 h=>a4G J (λhg=>z8 J b9x (u6 (ct hg) (u6 (ct hg) (u6 (ct hg) J))) (y7 hv8 hg)) J<|d7 J (λ_ hN=>m8 J J J (λq=>J2 q)) J<|S8 1 J<|b8 ?_
  cases h;exact f1

theorem b8w{a0}:PO Tryz.prog 105 [a8.Pv a0] (a9n a0) λr=>.bool r:=by
 refine pO Tryz.func105 λr h _ _=>?_;refine S4 2 J<|S3 1 J<|cA h a1e J J λv1 _ h=>S1 1 J<|c5 J (λhg=>oF J c3J J)<|c5 J (λhg=>oF (ct hg) b3X J)<|c5 J (λhg=>oS (ct hg) J J p7 J)<|c5 J (λhg=>l5 (ct hg) J J)<|y0 J (m8 J J J (λq=>J2 q))<|S1 1 J<|c5 J (λhg=>oL J J J p5 n9 nl J)<|w8 h λv2 hv2 h=>b6E J (λhg=>B0 J O4 (u6 (ct hg) J) (y7 hv2 hg))<|w8 h λv3 hv3 h=>c5 J (λhg=>z8 J a6G (u6 (ct hg) J) (y7 hv3 hg))<|y0 J (m8 J J J (λq=>J2 q))<|S2 1 J<|b8 ?_;cases h;exact f1

theorem b9B{a0}:PO Tryz.prog 88 [g9.Pv a0] (a5M a0) λr=>.L iF r:=by
 refine pO Tryz.func88 λr h _ _=>?_;refine S4 2 J<|sR<|y0 J (G1 J j8 o8)<|S2 1 J<|S3 2 J<|cF h a4Z J J λv1 _ h=>S2 1 J ?_;refine jq h (λj16=>St.of [(3,.sl 910003)] [(910003,⟨List.map iF j16,(List.map iF j16).length,true,1,true⟩)]) (λj16 h=>?_) λκ15 h=>?_
 ·refine S4 2 J ?_;refine b8 ?_;cases h;exact f1
 ·refine S4 1 J ?_;refine g6<|lq h (λq=>St.of [(1,.ptr 1 0 0),(3,.sl 910003),(4,.L iF v1),(5,.I q.1)] [(1,vR (g9.Pv a0) 8),(910003,⟨List.map iF q.2,(List.map iF q.2).length,true,1,true⟩)]) (Wk.trans (H4 (t:=3) (l:=920003) (z:=1) J J) (WP (λl=>if l=910003 then 920003 else l))) λq21 x20 h hx15=>?_
  obtain⟨s18,s19⟩:=q21;refine g7<|S3 2 J<|nL J j8<|S2 1 J ?_;refine cN h (λhc h=>?_) λhc h=>?_
  ·refine b9 ?_;refine jq h (λj26=>St.of [(1,.ptr 1 0 0),(3,.sl 37),(4,.L iF v1),(5,.I s18)] [(37,⟨List.map iF j26,(List.map iF j26).length,true,1,true⟩),(1,vR (g9.Pv a0) 8)]) (λj26 h=>?_) λκ25 h=>?_
   ·refine S6 3 J ?_;exact eL h (Wk.trans (n7 _ [37]) (WP (λl=>if l=910003 then 37 else l)))
   ·refine g6 ?_;refine dr [] u5 (by kernel_rfl) (by kernel_rfl)<|S7 4 J<|w8 h λv27 hv20 h=>d0 J (z7 (f:=iF) (cs:=[.I v27]) hv20 J J j8 o8 J J) J<|S7 1 J<|w8 h λv28 hv21 h=>d2f J (B0 J a09 J hv21) J<|S7 4 J<|P0 (x':=B2.Pv v28.1) (cl':=true) J J (.inr J) a7E<|S8 1 J<|S4 3 J ?_
    refine cN h (λhc h=>?_) λhc h=>?_
    ·refine S5 3 J ?_;refine y0 J (z7 (f:=iF) (cs:=[.I v27]) hv20 J J j8 o8 J J)<|S1 1 J<|y0 J (N9 (f:=iF) (l:=[v27]) J j8 o8 C2 J J nl J J)<|w8 h λv29 hv22 h=>O5 J (K5 (f:=iF) hv22 J J J J J J (.inl ⟨_,J,J⟩) j8 o8 O2 C2 J (λ_=>J)) J J J<|S2 1 J ?_;exact eJ h (Wk.trans (n7 _ [37]) W)
    ·refine b9 ?_;exact eJ h (Wk.trans (n7 _ [910003]) (WP (λl=>if l=37 then 910003 else l)))
  ·refine m7 ?_;refine c4<|c4<|j4 ?_;have h:=xL hx15 h;exact eJ h (Wk.trans (n7 _ [910003]) W)

theorem a4f{a0}:PO Tryz.prog 31 [g9.Pv a0] (a1m a0) λr=>.bool r:=by
 refine pO Tryz.func31 λr h _ _=>?_;refine S4 2 J<|S3 1 J<|cF h b9B J J λv1 _ h=>nL J j8<|S2 2 J<|b8 ?_;cases h;exact f1

theorem a29{a0}:PO Tryz.prog 42 [a8.Pv a0] (a1Z a0) λr=>.bool r:=by
 refine pO Tryz.func42 λr h _ _=>?_;refine S4 2 J<|S3 1 J<|cA h b8w J J λv1 _ h=>S1 1 J<|c5 J (λhg=>oL J J J p5 n9 nl J)<|w8 h λv2 hv2 h=>b6E J (λhg=>B0 J O4 (u6 (ct hg) J) (y7 hv2 hg))<|w8 h λv3 hv3 h=>c5 J (λhg=>z8 J a4f (u6 (ct hg) J) (y7 hv3 hg))<|y0 J (m8 J J J (λq=>J2 q))<|S2 1 J<|b8 ?_;cases h;exact f1

theorem b8u{a0}:PO Tryz.prog 45 [.L (Ls j1.Pv) a0] (a9l a0) λr=>.L (Ls w9.Pv) r:=by
 refine pO Tryz.func45 λr h _ _=>?_;refine S4 1 J<|sR<|y0 J (G1 J a6c a9X)<|S2 1 J ?_;refine jq h (λj47=>St.of [(3,.sl 910003)] [(910003,⟨List.map (Ls w9.Pv) j47,(List.map (Ls w9.Pv) j47).length,true,1,true⟩)]) (λj47 h=>?_) λκ46 h=>?_
 ·refine S4 2 J ?_;refine b8 ?_;cases h;exact f1
 ·refine S4 1 J ?_;refine g6<|lq h (λq=>St.of [(0,.L (Ls j1.Pv) a0),(3,.sl 910003),(4,.I q.1)] [(910003,⟨List.map (Ls w9.Pv) q.2,(List.map (Ls w9.Pv) q.2).length,true,1,true⟩)]) (Wk.trans (H4 (t:=3) (l:=920003) (z:=1) J J) (WP (λl=>if l=910003 then 920003 else l))) λq52 x51 h hx36=>?_
  obtain⟨s49,s50⟩:=q52;refine g7<|S3 2 J<|nL J a6b<|S2 1 J ?_;refine cN h (λhc h=>?_) λhc h=>?_
  ·refine b9 ?_;refine jq h (λj73=>St.of [(0,.L (Ls j1.Pv) a0),(3,.sl 37),(4,.I s49)] [(37,⟨List.map (Ls w9.Pv) j73,s50.length,true,1,true⟩)]) (λj73 h=>?_) λκ72 h=>?_
   ·refine S6 3 J ?_;exact eL h (Wk.trans (n7 _ [37]) (WP (λl=>if l=910003 then 37 else l)))
   ·refine g6 ?_;refine sR<|y0 J (G1 J a9W a8x)<|S2 1 J ?_;refine jq h (λj83=>St.of [(0,.L (Ls j1.Pv) a0),(3,.sl 910003),(4,.I s49),(5,.sl 910005)] [(910005,⟨List.map w9.Pv j83,(List.map w9.Pv j83).length,true,4,true⟩),(910003,⟨List.map (Ls w9.Pv) s50,(List.map (Ls w9.Pv) s50).length,true,1,true⟩)]) (λj83 h=>?_) λκ82 h=>?_
    ·refine S5 2 J ?_;refine L2 (d1U 35 J)<|y0 J (N9 (f:=(Ls w9.Pv)) (l:=[j83]) J a6c a9X c3Z J J nl J J)<|w8 h λv84 hv59 h=>O5 J (K5 (f:=(Ls w9.Pv)) hv59 J J J J J J (.inl ⟨_,J,J⟩) a6c a9X c83 c3Z J (λ_=>J)) J J J<|S2 1 J ?_;exact eJ h W
    ·refine S4 1 J ?_;refine g6<|lq h (λq=>St.of [(0,.L (Ls j1.Pv) a0),(3,.sl 910003),(4,.I s49),(5,.sl 910005),(6,.I q.1)] [(910003,⟨List.map (Ls w9.Pv) s50,(List.map (Ls w9.Pv) s50).length,true,1,true⟩),(910005,⟨List.map w9.Pv q.2,(List.map w9.Pv q.2).length,true,4,true⟩)]) (Wk.trans (H4 (t:=5) (l:=920005) (z:=4) J J) (Wk.trans (n7 _ [910003]) (WP (λl=>if l=910005 then 920005 else l)))) λq89 x88 h hx62=>?_
     obtain⟨s86,s87⟩:=q89;refine g7<|S3 3 J<|iL h J J a6b b35 λv90 hv63 h=>S1 1 J<|nL J a6a<|S2 1 J ?_;refine cN h (λhc h=>?_) λhc h=>?_
     ·refine b9 ?_;refine g7<|g6<|S5 3 J<|y0 J (z7 (f:=(Ls j1.Pv)) (cs:=[.L j1.Pv v90]) hv63 J J a6b b35 J J)<|S1 2 J<|iL h J J a6a b34 λv91 _ h=>S1 1 J<|y0 J (N9 (f:=w9.Pv) (l:=[(⟨v91.Kind,v91.A,v91.B,v91.C⟩:w9)]) J a9W a8x c1z J J nl J J)<|w8 h λv92 hv65 h=>O5 J (K5 (f:=w9.Pv) hv65 J J J J J J (.inl ⟨_,J,J⟩) a9W a8x c6t c1z J (λ_=>J)) J J J<|S2 1 J<|S6 3 J ?_;exact eL h (Wk.trans (n7 _ [910003,33]) (WP (λl=>if l=910005 then 33 else l)))
     ·refine m7 ?_;refine c4<|c4<|j4 ?_;have h:=xL hx62 h;exact eJ h (Wk.trans (n7 _ [910003,910005]) W)
  ·refine m7 ?_;refine c4<|c4<|j4 ?_;have h:=xL hx36 h;exact eJ h (Wk.trans (n7 _ [910003]) W)

theorem b7W{a0}:PO Tryz.prog 178 [w9.Pv a0] (Q1 a0) λr=>.bool r:=by
 refine pO Tryz.func178 λr h _ _=>?_;unfold Q1 at h;refine S4 2 J<|S3 4 J<|c5 J (λhg=>oF J c2E J)<|c5 J (λhg=>oS (ct hg) J J p7 J)<|c5 J (λhg=>l5 (ct hg) J J)<|y0 J (m8 J J J (λq=>J2 q))<|S2 1 J<|b8 ?_;cases h;exact f1

theorem O7{a0 a1 a2 a3}:PO Tryz.prog 262 [.I a0,.I a1,.I a2,.I a3] (a0J a0 a1 a2 a3) λr=>.I r:=by
 refine pO Tryz.func262 λr h _ _=>?_;refine S4 1 J<|g7<|S3 4 J<|c5 J (λhg=>mI J)<|c5 J (λhg=>mI J)<|c5 J (λhg=>l5 (ct hg) (ct hg) J)<|y0 J (o9 J J J (λq=>I8 q))<|yN ?_;refine cN h (λhc h=>?_) λhc h=>?_
 ·refine S4 2 J ?_;refine b8 ?_;cases h;exact f1
 ·refine b9 ?_;refine S4 1 J<|b8 ?_;cases h;exact f1

theorem V8{a0 a1 a2}:PO Tryz.prog 263 [.I a0,.I a1,.I a2] (X4 a0 a1 a2) λr=>.I r:=by
 refine pO Tryz.func263 λr h _ _=>?_;refine S4 1 J<|g7<|S4 2 J ?_;refine cN h (λhc h=>?_) λhc h=>?_
 ·refine S4 2 J ?_;refine b8 ?_;cases h;exact f1
 ·refine b9 ?_;refine g7<|S4 2 J ?_;refine cN h (λhc h=>?_) λhc h=>?_
  ·refine S4 2 J ?_;refine b8 ?_;cases h;exact f1
  ·refine b9 ?_;refine S4 2 J<|b8 ?_;cases h;exact f1

theorem b7V{a0}:PO Tryz.prog 179 [w9.Pv a0] (a2n a0) λr=>.I r:=by
 refine pO Tryz.func179 λr h _ _=>?_;refine S4 2 J<|S3 2 J<|cA h O7 J J λv1 _ h=>S2 1 J<|S3 2 J<|cA h O7 J J λv2 _ h=>S2 1 J<|g7<|S4 2 J<|g6<|S4 2 J ?_;refine cN h (λhc h=>?_) λhc h=>?_
 ·refine dr [] u5 (by kernel_rfl) (by kernel_rfl) ?_
  refine S7 3 J<|w8 h λv3 hv3 h=>d2 J (z8 J O7 J hv3) J<|S7 2 J<|w8 h λv4 hv4 h=>d2 J (z8 J O7 J hv4) J<|w8 h λv5 hv5 h=>d2 J (z8 J V8 J hv5) J<|S8 1 J<|b8 ?_;cases h;exact f1
 ·refine jq h (λj7=>St.of [(1,.ptr 1 0 0),(3,.I v1),(4,.I v2),(12,.I a0.Kind),(23,.bool j7)] [(1,vR (w9.Pv a0) 4)]) (λj7 h=>?_) λκ6 h=>?_
  ·refine cN h (λhc h=>?_) λhc h=>?_
   ·refine S3 2 J ?_;refine cA h V8 J J λv8 _ h=>S2 1 J<|b8 ?_;cases h;exact f1
   ·refine S4 2 J ?_;refine cN h (λhc h=>?_) λhc h=>?_
    ·refine S4 2 J ?_;refine b8 ?_;cases h;exact f1
    ·refine S4 2 J ?_;refine cN h (λhc h=>?_) λhc h=>?_
     ·refine S3 4 J ?_;refine cA h O7 J J λv9 _ h=>cA h V8 J J λv10 _ h=>S2 1 J<|b8 ?_;cases h;exact f1
     ·refine S4 2 J ?_;refine cN h (λhc h=>?_) λhc h=>?_
      ·refine dr [] u5 (by kernel_rfl) (by kernel_rfl) ?_
       refine S7 3 J<|w8 h λv11 hv10 h=>d2 J (z8 J O7 J hv10) J<|S7 2 J<|w8 h λv12 hv11 h=>d2 J (z8 J O7 J hv11) J<|w8 h λv13 hv12 h=>d2 J (z8 J V8 J hv12) J<|S8 1 J<|b8 ?_;cases h;exact f1
      ·refine S4 2 J ?_;refine cN h (λhc h=>?_) λhc h=>?_
       ·refine dr [] u5 (by kernel_rfl) (by kernel_rfl) ?_
        refine S7 2 J<|w8 h λv14 hv13 h=>d2 J (z8 J O7 J hv13) J<|S7 2 J<|w8 h λv15 hv14 h=>d2 J (z8 J O7 J hv14) J<|S7 2 J<|w8 h λv16 hv15 h=>d2 J (z8 J O7 J hv15) J<|w8 h λv17 hv16 h=>d2 J (z8 J V8 J hv16) J<|S8 1 J<|b8 ?_;cases h;exact f1
       ·refine S4 2 J ?_;refine cN h (λhc h=>?_) λhc h=>?_
        ·refine S3 3 J ?_;refine cA h O7 J J λv18 _ h=>cA h V8 J J λv19 _ h=>S2 1 J<|b8 ?_;cases h;exact f1
        ·refine S4 2 J ?_;refine cN h (λhc h=>?_) λhc h=>?_
         ·refine S3 3 J ?_;refine cA h O7 J J λv20 _ h=>cA h V8 J J λv21 _ h=>S2 1 J<|b8 ?_;cases h;exact f1
         ·refine S4 2 J ?_;refine cN h (λhc h=>?_) λhc h=>?_
          ·refine S4 1 J ?_;refine b8 ?_;cases h;exact f1
          ·refine S4 2 J ?_;refine cN h (λhc h=>?_) λhc h=>?_
           ·refine S3 2 J ?_;refine cA h O7 J J λv22 _ h=>S2 1 J<|b8 ?_;cases h;exact f1
           ·refine b9 ?_;refine S4 1 J<|b8 ?_;cases h;exact f1
  ·refine S4 2 J ?_;refine cN h (λhc h=>?_) λhc h=>?_
   ·refine b9 ?_;exact eJ h W
   ·refine S4 2 J ?_;refine cN h (λhc h=>?_) λhc h=>?_
    ·refine b9 ?_;exact eJ h W
    ·refine S6 2 J ?_;exact eJ h W

theorem b7X{a0}:PO Tryz.prog 106 [.L (Ls w9.Pv) a0] (a85 a0) λr=>.bool r:=by
 refine pO Tryz.func106 λr h _ _=>?_;refine S4 1 J<|g7<|S3 1 J<|nL J a6c<|S2 1 J ?_;refine cN h (λhc h=>?_) λhc h=>?_
 ·refine S4 1 J ?_;refine b8 ?_;cases h;exact f1
 ·refine b9 ?_;refine jq h (λ_=>St.of [] []) (λq21 h=>?_) λκ20 h=>?_
  ·refine S4 1 J ?_;refine b8 ?_;cases h;exact f1
  ·refine S4 1 J ?_;refine g6<|lq h (λs23=>St.of [(0,.L (Ls w9.Pv) a0),(3,.I s23)] []) W λs23 x24 h hx22=>g7<|S3 2 J<|nL J a6c<|S2 1 J ?_;refine cN h (λhc h=>?_) λhc h=>?_
   ·refine b9 ?_;refine jq h (λ_=>St.of [(0,.L (Ls w9.Pv) a0),(3,.I s23)] []) (λq33 h=>?_) λκ32 h=>?_
    ·refine S6 3 J ?_;exact eL h W
    ·refine g6 ?_;refine g7<|S3 2 J<|iL h J J a6c a9X λv34 hv31 h=>S1 1 J<|nL J a9W<|S2 1 J ?_;refine cN h (λhc h=>?_) λhc h=>?_
     ·refine S4 1 J ?_;refine b8 ?_;have h:=xL hx22 h;cases h;exact f1
     ·refine b9 ?_;refine S4 1 J<|g6<|lq h (λs36=>St.of [(0,.L (Ls w9.Pv) a0),(3,.I s23),(4,.I s36)] []) W λs36 x37 h hx34=>g7<|S3 3 J<|y0 J (z7 (f:=(Ls w9.Pv)) (cs:=[.L w9.Pv v34]) hv31 J J a6c a9X J J)<|S1 1 J<|nL J a9W<|S2 1 J ?_;refine cN h (λhc h=>?_) λhc h=>?_
      ·refine b9 ?_;refine g7<|g6<|S3 2 J<|y0 J (z7 (f:=(Ls w9.Pv)) (cs:=[.L w9.Pv v34]) hv31 J J a6c a9X J J)<|S1 2 J<|iL h J J a9W a8x λv38 hv35 h=>S1 1 J<|cA h b7W J J λv39 _ h=>S1 2 J<|c5 J (λhg=>om (d:=.L (Ls w9.Pv) a0) J)<|c5 J (λhg=>mI J)<|c5 J (λhg=>z7 (f:=(Ls w9.Pv)) (cs:=[.L w9.Pv v34]) hv31 (ct hg) (ct hg) a6c a9X J J)<|c5 J (λhg=>E6 (ct hg) c80 J)<|c5 J (λhg=>mI J)<|c5 J (λhg=>z7 (f:=w9.Pv) (cs:=w9.Pc v38) hv35 (ct hg) (ct hg) a9W a8x J J)<|c5 J (λhg=>a4b (ct hg) c6p a8x nl J)<|w8 h λv40 hv37 h=>c5 J (λhg=>z8 J b7V (u6 (ct hg) J) (y7 hv37 hg))<|c5 J (λhg=>l5 (ct hg) J J)<|y0 J (o9 J J J (λq=>I8 q))<|yN ?_;refine cN h (λhc h=>?_) λhc h=>?_
       ·refine S4 1 J ?_;refine b8 ?_;have h:=xL hx34 h;have h:=xL hx22 h;cases h;exact f1
       ·refine b9 ?_;refine S6 3 J ?_;exact eL h W
      ·refine m7 ?_;refine c4<|c4<|j4 ?_;have h:=xL hx34 h;exact eJ h W
   ·refine m7 ?_;refine c4<|c4<|j4 ?_;have h:=xL hx22 h;exact eJ h W

theorem a4u{a0}:PO Tryz.prog 43 [.L (Ls j1.Pv) a0] (a02 a0) λr=>.bool r:=by
 refine pO Tryz.func43 λr h _ _=>?_;refine S4 1 J ?_;refine jq h (λ_=>St.of [(0,.L (Ls j1.Pv) a0)] []) (λq6 h=>?_) λκ5 h=>?_
 ·refine S3 1 J ?_;refine nL J a6b<|S1 2 J<|c5 J (λhg=>om (d:=.L (Ls j1.Pv) a0) J)<|w8 h λv7 hv6 h=>b6E J (λhg=>B0 J b8u (u6 (ct hg) J) (y7 hv6 hg))<|w8 h λv8 hv7 h=>c5 J (λhg=>z8 J b7X (u6 (ct hg) J) (y7 hv7 hg))<|y0 J (m8 J J J (λq=>J2 q))<|S2 1 J<|b8 ?_;cases h;exact f1
 ·refine S4 1 J ?_;refine g6<|lq h (λs10=>St.of [(0,.L (Ls j1.Pv) a0),(3,.I s10)] []) W λs10 x11 h hx10=>g7<|S3 2 J<|nL J a6b<|S1 2 J<|c5 J (λhg=>mI J)<|c5 J (λhg=>l5 (ct hg) J J)<|y0 J (m8 J J J (λq=>J2 q))<|yN ?_;refine cN h (λhc h=>?_) λhc h=>?_
  ·refine b9 ?_;refine g7<|g6<|S3 2 J<|iL h J J a6b b35 λv12 _ h=>S1 1 J<|nL J a6a<|S2 1 J ?_;refine cN h (λhc h=>?_) λhc h=>?_
   ·refine S4 1 J ?_;refine b8 ?_;have h:=xL hx10 h;cases h;exact f1
   ·refine b9 ?_;refine S6 3 J ?_;exact eL h W
  ·refine m7 ?_;refine c4<|c4<|j4 ?_;have h:=xL hx10 h;exact eJ h W

theorem a7k{a0 a1}:PO Tryz.prog 173 [.I a0,.I a1] (a1d a0 a1) λr=>g8.Pv r:=by
 refine pO Tryz.func173 λr h _ _=>?_;refine S4 1 J<|g7<|S3 3 J<|c5 J (λhg=>mI J)<|c5 J (λhg=>l5 (ct hg) J J)<|y0 J (o9 J J J (λq=>I8 q))<|S1 1 J<|c5 J (λhg=>mI J)<|c5 J (λhg=>l5 (ct hg) J J)<|y0 J (o9 J J J (λq=>I8 q))<|S1 1 J<|c5 J (λhg=>mI J)<|c5 J (λhg=>l5 (ct hg) J J)<|y0 J (o9 J J J (λq=>I8 q))<|yN ?_;refine cN h (λhc h=>?_) λhc h=>?_
 ·refine sR ?_;refine y0 J (s7 (cs:=[.nl,.I 0]) J c3N c3T J J J)<|b1V (x':=.agg [.nl,.I 0]) (cl':=true) J J (.inl J) a1v<|yN<|b8 ?_;cases h;exact⟨J,[_],⟨oL J J J a3e a1v nl J,tr⟩,J,io⟩
 ·refine b9 ?_;refine S3 1 J<|w8 h λv1 hv1 h=>y1 J (c0F (f:=b7.Pv) hv1 J J J H0 M0 a8A c1k J J J) J<|S1 1 J<|y0 J (s7 (cs:=[.sl 21,.I a1]) J c3N c3T J J J)<|S2 1 J<|b8 ?_;cases h;exact⟨J,[_],⟨oL J J J a3e a1v nl J,tr⟩,J,io⟩

theorem b8k{a0 a1}:PO Tryz.prog 97 [.I a0,.I a1] (a9c a0 a1) λr=>a7.Pv r:=by
 refine pO Tryz.func97 λr h _ _=>?_;refine S4 1 J<|S3 2 J<|cF h a7k J J λv1 _ h=>y0 J (s7 (cs:=[.L b7.Pv v1.Cells,.I v1.Last,.I 0]) J c3O c3U J J J)<|S2 1 J<|b8 ?_;cases h;exact⟨J,[_],⟨oL J J J a49 a5b nl J,tr⟩,J,io⟩

theorem b90{a0}:PO Tryz.prog 98 [.I a0] (b9Z a0) λr=>.L g5.Pv r:=by
 refine pO Tryz.func98 λr h _ _=>?_;refine S4 1 J<|g7<|S3 3 J<|c5 J (λhg=>mI J)<|c5 J (λhg=>l5 (ct hg) J J)<|y0 J (o9 J J J (λq=>I8 q))<|yN ?_;refine cN h (λhc h=>?_) λhc h=>?_
 ·refine S4 1 J ?_;refine b8 ?_;cases h;exact f1
 ·refine b9 ?_;refine S3 1 J<|w8 h λv1 hv1 h=>y1 J (c0F (f:=g5.Pv) hv1 J J J G0 T2 c0a c3G J J J) J<|S2 1 J ?_;refine jq h (λj9=>St.of [(3,.sl 12)] [(12,⟨List.map g5.Pv j9,0,true,3,true⟩)]) (λj9 h=>?_) λκ8 h=>?_
  ·refine S4 2 J ?_;refine b8 ?_;cases h;exact f1
  ·refine S3 1 J ?_;refine y0 J (c1Y (f:=g5.Pv) J J J G0)<|S2 1 J<|g6<|lq h (λq=>St.of [(3,.sl 12),(14,.I (v1.length:Int)),(15,.I q.1)] [(12,⟨List.map g5.Pv q.2,0,true,3,true⟩)]) W λq14 x13 h hx9=>?_;obtain⟨s11,s12⟩:=q14;refine S4 1 J<|g7 ?_;refine cN h (λhc h=>?_) λhc h=>?_
   ·refine b9 ?_;refine g7<|g6<|S4 2 J<|S5 2 J<|w8 h λv15 hv10 h=>y0 J (a4a (f:=g5.Pv) hv10 J J J J G0 T2 J)<|S1 1 J<|b1U (f:=g5.Pv) (v:=(⟨v15.Target,v15.Intact,(-1)⟩:g5)) hv10 J J (.inl J) o8<|yN<|S6 2 J ?_;exact eL h W
   ·refine m7 ?_;refine c4<|c4<|j4 ?_;have h:=xL hx9 h;exact eJ h W

theorem b82{a0}:PO Tryz.prog 99 [.I a0] (b0V a0) λr=>.L c7.Pv r:=by
 refine pO Tryz.func99 λr h _ _=>?_;refine S4 1 J<|g7<|S3 3 J<|c5 J (λhg=>mI J)<|c5 J (λhg=>l5 (ct hg) J J)<|y0 J (o9 J J J (λq=>I8 q))<|yN ?_;refine cN h (λhc h=>?_) λhc h=>?_
 ·refine S4 1 J ?_;refine b8 ?_;cases h;exact f1
 ·refine b9 ?_;refine S3 1 J<|w8 h λv1 hv1 h=>y1 J (c0F (f:=c7.Pv) hv1 J J J Q0 V1 a8B c1l J J J) J<|S2 1 J<|b8 ?_;cases h;exact f1

theorem a6C{a0}:PO Tryz.prog 174 [.I a0] (a0H a0) λr=>c9.Pv r:=by
 refine pO Tryz.func174 λr h _ _=>?_;unfold a0H at h;refine S4 1 J<|S3 1 J<|y0 J (s7 (cs:=[.nl,.I a0]) J c84 c9b J J J)<|b1V (x':=.agg [.nl,.I a0]) (cl':=true) J J (.inl J) a1w<|yN<|b8 ?_;cases h;exact⟨J,[_],⟨oL J J J a5a a1w nl J,tr⟩,J,io⟩

theorem b26:PO Tryz.prog 100 [] (b1J) λr=>c9.Pv r:=by
 refine pO Tryz.func100 λr h _ _=>?_;refine S4 1 J<|sR<|cF h a6C J J λv1 _ h=>S2 1 J<|b8 ?_;cases h;exact⟨J,[_],⟨oL J J J a5a a1w nl J,tr⟩,J,io⟩

theorem b85{a0 a1 a2}:PO Tryz.prog 40 [.I a0,.I a1,.I a2] (a7S a0 a1 a2) λr=>a8.Pv r:=by
 refine pO Tryz.func40 λr h _ _=>?_;refine S4 1 J<|g7<|S3 3 J<|c5 J (λhg=>mI J)<|c5 J (λhg=>l5 (ct hg) J J)<|y0 J (o9 J J J (λq=>I8 q))<|S1 1 J<|c5 J (λhg=>mI J)<|c5 J (λhg=>l5 (ct hg) J J)<|y0 J (o9 J J J (λq=>I8 q))<|S1 1 J<|c5 J (λhg=>mI J)<|c5 J (λhg=>l5 (ct hg) J J)<|y0 J (o9 J J J (λq=>I8 q))<|S1 1 J<|c5 J (λhg=>mI J)<|c5 J (λhg=>l5 (ct hg) J J)<|y0 J (o9 J J J (λq=>I8 q))<|S1 1 J<|c5 J (λhg=>mI J)<|c5 J (λhg=>l5 (ct hg) J J)<|y0 J (o9 J J J (λq=>I8 q))<|yN ?_;refine cN h (λhc h=>?_) λhc h=>?_
 ·refine sR ?_;refine y0 J (s7 (cs:=[.nl,.I 0,.I 0,.nl,.nl,.nl,.nl,.I 0]) J c3P c3V J J J)<|b1V (x':=.agg [.nl,.I 0,.I 0,.nl,.nl,.nl,.nl,.I 0]) (cl':=true) J J (.inl J) n9<|yN<|b8 ?_;cases h;exact⟨J,[_],⟨oL J J J p5 n9 nl J,tr⟩,J,io⟩
 ·refine b9 ?_;refine dr [] u5 (by kernel_rfl) (by kernel_rfl)<|S7 2 J<|w8 h λv1 hv1 h=>d2f J (B0 J b8k J hv1) J<|w8 h λv2 hv2 h=>d1 J (c0F (f:=iF) hv2 J J J j8 o8 C2 O2 J J J) J J J<|w8 h λv3 hv3 h=>d2f J (B0 J b90 J hv3) J<|S7 1 J<|w8 h λv4 hv4 h=>d2f J (B0 J b82 J hv4) J<|w8 h λv5 hv5 h=>d2f J (B0 J b26 J hv5) J<|d7 J (λ_ hN=>s7 (cs:=[.L b7.Pv v1.S.Cells,.I v1.S.Last,.I v1.Serial,.sl 33,.L g5.Pv v3,.L c7.Pv v4,.L c8.Pv v5.L,.I v5.Cap]) J c3P c3V J J J) J<|P0 (x':=.agg [.L b7.Pv v1.S.Cells,.I v1.S.Last,.I v1.Serial,.sl 33,.L g5.Pv v3,.L c7.Pv v4,.L c8.Pv v5.L,.I v5.Cap]) (cl':=false) J J (.inr J) n9<|U7<|b8 ?_
  cases h;exact⟨J,[_],⟨oL J J J p5 n9 nl J,tr⟩,J,io⟩

theorem z6:PO Tryz.prog 306 [.fn (.func 307) []] (Y3) λr=>j2.Pv r:=by
 refine pO Tryz.func306 λr h _ _=>?_;unfold Y3 at h;refine S4 1 J<|S3 1 J<|y0 J (s7 (cs:=[.fn (.func 307) [],.I 0,.I 5,.I 6]) J a1u J5 J J J)<|L2 (a3x 4 (d':=.agg [fvE (some 307),.I 0,.I 5,.I 6]) J)<|S2 1 J<|b8 ?_;cases h;exact⟨J,[_],⟨oL J J J a3y K6 nl J,tr⟩,J,io⟩

theorem Y8:PO Tryz.prog 309 [.fn (.func 310) []] (Q9) λr=>j2.Pv r:=by
 refine pO Tryz.func309 λr h _ _=>?_;unfold Q9 at h;refine S4 1 J<|S3 1 J<|y0 J (s7 (cs:=[.fn (.func 310) [],.I (-1),.I 5,.I 13]) J a1u J5 J J J)<|L2 (a3x 4 (d':=.agg [fvE (some 310),.I (-1),.I 5,.I 13]) J)<|S2 1 J<|b8 ?_;cases h;exact⟨J,[_],⟨oL J J J a3y K6 nl J,tr⟩,J,io⟩

theorem E0{a0}:PO Tryz.prog 305 [.L j2.Pv a0] (J1 a0) λr=>.L j2.Pv r:=by
 refine pO Tryz.func305 λr h _ _=>?_;unfold J1 at h;refine S4 1 J<|S4 2 J<|b8 ?_;cases h;exact f1

theorem K8:PO Tryz.prog 306 [.fn (.func 308) []] (Y4) λr=>j2.Pv r:=by
 refine pO Tryz.func306 λr h _ _=>?_;unfold Y4 at h;refine S4 1 J<|S3 1 J<|y0 J (s7 (cs:=[.fn (.func 308) [],.I 0,.I 5,.I 6]) J a1u J5 J J J)<|L2 (a3x 4 (d':=.agg [fvE (some 308),.I 0,.I 5,.I 6]) J)<|S2 1 J<|b8 ?_;cases h;exact⟨J,[_],⟨oL J J J a3y K6 nl J,tr⟩,J,io⟩

theorem a4z:PO Tryz.prog 311 [.fn (.func 310) []] (V3) λr=>j2.Pv r:=by
 refine pO Tryz.func311 λr h _ _=>?_;unfold V3 at h;refine S4 1 J<|S3 1 J<|y0 J (s7 (cs:=[.fn (.func 310) [],.I 0,.I 3,.I 5]) J a1u J5 J J J)<|L2 (a3x 4 (d':=.agg [fvE (some 310),.I 0,.I 3,.I 5]) J)<|S2 1 J<|b8 ?_;cases h;exact⟨J,[_],⟨oL J J J a3y K6 nl J,tr⟩,J,io⟩

theorem a4y:PO Tryz.prog 311 [.fn (.func 308) []] (V2) λr=>j2.Pv r:=by
 refine pO Tryz.func311 λr h _ _=>?_;unfold V2 at h;refine S4 1 J<|S3 1 J<|y0 J (s7 (cs:=[.fn (.func 308) [],.I 0,.I 3,.I 5]) J a1u J5 J J J)<|L2 (a3x 4 (d':=.agg [fvE (some 308),.I 0,.I 3,.I 5]) J)<|S2 1 J<|b8 ?_;cases h;exact⟨J,[_],⟨oL J J J a3y K6 nl J,tr⟩,J,io⟩

theorem a2b:PO Tryz.prog 312 [.fn (.func 310) []] (N7) λr=>j2.Pv r:=by
 refine pO Tryz.func312 λr h _ _=>?_;unfold N7 at h;refine S4 1 J<|S3 1 J<|y0 J (s7 (cs:=[.fn (.func 310) [],.I (-1),.I 5,.I 6]) J a1u J5 J J J)<|L2 (a3x 4 (d':=.agg [fvE (some 310),.I (-1),.I 5,.I 6]) J)<|S2 1 J<|b8 ?_;cases h;exact⟨J,[_],⟨oL J J J a3y K6 nl J,tr⟩,J,io⟩

theorem a5c:PO Tryz.prog 313 [.fn (.func 307) []] (Y1) λr=>j2.Pv r:=by
 refine pO Tryz.func313 λr h _ _=>?_;unfold Y1 at h;refine S4 1 J<|S3 1 J<|y0 J (s7 (cs:=[.fn (.func 307) [],.I 0,.I 5,.I 7]) J a1u J5 J J J)<|L2 (a3x 4 (d':=.agg [fvE (some 307),.I 0,.I 5,.I 7]) J)<|S2 1 J<|b8 ?_;cases h;exact⟨J,[_],⟨oL J J J a3y K6 nl J,tr⟩,J,io⟩

theorem T3:PO Tryz.prog 312 [.fn (.func 308) []] (N6) λr=>j2.Pv r:=by
 refine pO Tryz.func312 λr h _ _=>?_;unfold N6 at h;refine S4 1 J<|S3 1 J<|y0 J (s7 (cs:=[.fn (.func 308) [],.I (-1),.I 5,.I 6]) J a1u J5 J J J)<|L2 (a3x 4 (d':=.agg [fvE (some 308),.I (-1),.I 5,.I 6]) J)<|S2 1 J<|b8 ?_;cases h;exact⟨J,[_],⟨oL J J J a3y K6 nl J,tr⟩,J,io⟩

theorem a5d:PO Tryz.prog 313 [.fn (.func 308) []] (Y2) λr=>j2.Pv r:=by
 refine pO Tryz.func313 λr h _ _=>?_;unfold Y2 at h;refine S4 1 J<|S3 1 J<|y0 J (s7 (cs:=[.fn (.func 308) [],.I 0,.I 5,.I 7]) J a1u J5 J J J)<|L2 (a3x 4 (d':=.agg [fvE (some 308),.I 0,.I 5,.I 7]) J)<|S2 1 J<|b8 ?_;cases h;exact⟨J,[_],⟨oL J J J a3y K6 nl J,tr⟩,J,io⟩

theorem b3e:PO Tryz.prog 241 [] (a6i) λr=>.abs (a3r (List.map (ent iF (Ls j2.Pv)) r)):=by
 refine pO Tryz.func241 λr h _ _=>?_;refine S4 1 J<|sR<|b6G (KT:=Int) (VT:=List j2) (EK:=iF) (E:=(Ls j2.Pv)) 5000001 J J<|cF h z6 J J λv1 hv1 h=>y0 J (s7 (cs:=[.fn (.func 308) [],.I 0,.I 4,.I 1]) J a1u J5 J J J)<|L2 (a3x 3 (d':=.agg [fvE (some 308),.I 0,.I 4,.I 1]) J)<|cF h Y8 J J λv2 hv2 h=>y0 J (N9 (f:=j2.Pv) (l:=[v1,(⟨(some 308),0,4,1⟩:j2),v2]) J a0q K6 J5 J J nl J J)<|cF h E0 J J λv3 _ h=>a0K (es:=[]) (k:=1) (v:=v3) (E:=(Ls j2.Pv)) (EK:=iF) (.inr J) J J J J J J T1 (B4 O9)<|yc J (B0 J z6 J hv1)<|cF h K8 J J λv4 hv4 h=>y0 J (N9 (f:=j2.Pv) (l:=[v1,v4]) J a0q K6 J5 J J nl J J)<|cF h E0 J J λv5 hv5 h=>a0K (es:=(p6 [] 1 v3)) (k:=2) (v:=v5) (E:=(Ls j2.Pv)) (EK:=iF) (.inr J) J J J J J J T1 (B4 O9)<|yc J (B0 J z6 J hv1)<|y0 J (N9 (f:=j2.Pv) (l:=[v1]) J a0q K6 J5 J J nl J J)<|cF h E0 J J λv6 _ h=>a0K (es:=(p6 (p6 [] 1 v3) 2 v5)) (k:=3) (v:=v6) (E:=(Ls j2.Pv)) (EK:=iF) (.inr J) J J J J J J T1 (B4 O9)<|yc J (B0 J z6 J hv1)<|yc J (B0 J K8 J hv4)<|cF h a4z J J λv7 _ h=>y0 J (N9 (f:=j2.Pv) (l:=[v1,v4,v7]) J a0q K6 J5 J J nl J J)<|cF h E0 J J λv8 _ h=>a0K (es:=(p6 (p6 (p6 [] 1 v3) 2 v5) 3 v6)) (k:=4) (v:=v8) (E:=(Ls j2.Pv)) (EK:=iF) (.inr J) J J J J J J T1 (B4 O9)<|yc J (B0 J z6 J hv1)<|cF h a4y J J λv9 _ h=>cF h a2b J J λv10 _ h=>y0 J (N9 (f:=j2.Pv) (l:=[v1,v9,v10]) J a0q K6 J5 J J nl J J)<|cF h E0 J J λv11 _ h=>?_;refine a0K (es:=(p6 (p6 (p6 (p6 [] 1 v3) 2 v5) 3 v6) 4 v8)) (k:=5) (v:=v11) (E:=(Ls j2.Pv)) (EK:=iF) (.inr J) J J J J J J T1 (B4 O9)<|cF h a5c J J λv12 _ h=>cF h T3 J J λv13 hv13 h=>yc J (B0 J Y8 J hv2)<|y0 J (N9 (f:=j2.Pv) (l:=[v12,v13,v2]) J a0q K6 J5 J J nl J J)<|cF h E0 J J λv14 _ h=>a0K (es:=(p6 (p6 (p6 (p6 (p6 [] 1 v3) 2 v5) 3 v6) 4 v8) 5 v11)) (k:=6) (v:=v14) (E:=(Ls j2.Pv)) (EK:=iF) (.inr J) J J J J J J T1 (B4 O9)<|yc J (B0 J z6 J hv1)<|cF h a5d J J λv15 _ h=>y0 J (N9 (f:=j2.Pv) (l:=[v1,v15]) J a0q K6 J5 J J nl J J)<|cF h E0 J J λv16 _ h=>a0K (es:=(p6 (p6 (p6 (p6 (p6 (p6 [] 1 v3) 2 v5) 3 v6) 4 v8) 5 v11) 6 v14)) (k:=7) (v:=v16) (E:=(Ls j2.Pv)) (EK:=iF) (.inr J) J J J J J J T1 (B4 O9)<|yc J (B0 J z6 J hv1)<|yc J (B0 J T3 J hv13)<|y0 J (N9 (f:=j2.Pv) (l:=[v1,v13]) J a0q K6 J5 J J nl J J)<|cF h E0 J J λv17 _ h=>a0K (es:=(p6 (p6 (p6 (p6 (p6 (p6 (p6 [] 1 v3) 2 v5) 3 v6) 4 v8) 5 v11) 6 v14) 7 v16)) (k:=8) (v:=v17) (E:=(Ls j2.Pv)) (EK:=iF) (.inr J) J J J J J J T1 (B4 O9)<|yc J (B0 J z6 J hv1)<|yc J (B0 J K8 J hv4)<|y0 J (N9 (f:=j2.Pv) (l:=[v1,v4]) J a0q K6 J5 J J nl J J)<|yc J (B0 J E0 J hv5)<|a0K (es:=(p6 (p6 (p6 (p6 (p6 (p6 (p6 (p6 [] 1 v3) 2 v5) 3 v6) 4 v8) 5 v11) 6 v14) 7 v16) 8 v17)) (k:=9) (v:=v5) (E:=(Ls j2.Pv)) (EK:=iF) (.inr J) J J J J J J T1 (B4 O9)<|yc J (B0 J z6 J hv1)<|yc J (B0 J K8 J hv4)<|y0 J (N9 (f:=j2.Pv) (l:=[v1,v4]) J a0q K6 J5 J J nl J J)<|yc J (B0 J E0 J hv5)<|a0K (es:=(p6 (p6 (p6 (p6 (p6 (p6 (p6 (p6 (p6 [] 1 v3) 2 v5) 3 v6) 4 v8) 5 v11) 6 v14) 7 v16) 8 v17) 9 v5)) (k:=10) (v:=v5) (E:=(Ls j2.Pv)) (EK:=iF) (.inr J) J J J J J J T1 (B4 O9)<|cF h E0 J J λv18 _ h=>a0K (es:=(p6 (p6 (p6 (p6 (p6 (p6 (p6 (p6 (p6 (p6 [] 1 v3) 2 v5) 3 v6) 4 v8) 5 v11) 6 v14) 7 v16) 8 v17) 9 v5) 10 v5)) (k:=11) (v:=v18) (E:=(Ls j2.Pv)) (EK:=iF) (.inr J) J J J J J J T1 (B4 O9)<|y0 J (s7 (cs:=[.fn (.func 307) [],.I 0,.I 200,.I 12]) J a1u J5 J J J) ?_;refine L2 (a3x 46 (d':=.agg [fvE (some 307),.I 0,.I 200,.I 12]) J)<|y0 J (N9 (f:=j2.Pv) (l:=[(⟨(some 307),0,200,12⟩:j2)]) J a0q K6 J5 J J nl J J)<|cF h E0 J J λv19 _ h=>a0K (es:=(p6 (p6 (p6 (p6 (p6 (p6 (p6 (p6 (p6 (p6 (p6 [] 1 v3) 2 v5) 3 v6) 4 v8) 5 v11) 6 v14) 7 v16) 8 v17) 9 v5) 10 v5) 11 v18)) (k:=12) (v:=v19) (E:=(Ls j2.Pv)) (EK:=iF) (.inr J) J J J J J J T1 (B4 O9)<|S2 2 J<|a2Y (c54 0 5000001 J J)<|b8 ?_;cases h;exact f1

theorem a9B{a0}:PO Tryz.prog 307 [j1.Pv a0] (a92 a0) λr=>.I r:=by
 refine pO Tryz.func307 λr h _ _=>?_;unfold a92 at h;refine S4 2 J<|S4 3 J<|b8 ?_;cases h;exact f1

theorem a9C{a0}:PO Tryz.prog 308 [j1.Pv a0] (a93 a0) λr=>.I r:=by
 refine pO Tryz.func308 λr h _ _=>?_;unfold a93 at h;refine S4 2 J<|S4 3 J<|b8 ?_;cases h;exact f1

theorem a9D{a0}:PO Tryz.prog 310 [j1.Pv a0] (a94 a0) λr=>.I r:=by
 refine pO Tryz.func310 λr h _ _=>?_;unfold a94 at h;refine S4 2 J<|S4 3 J<|b8 ?_;cases h;exact f1

theorem c0n{f:Fv}{a0:j1}{r:Int}(h:b0P f a0=some r):∃n,f=some n∧A6 Tryz.prog n∧T0 Tryz.prog n [j1.Pv a0] (.I r):=by
 unfold b0P at h;by_cases e307:f=some 307
 ·rw[if_pos e307] at h;exact⟨307,e307,(@a9B a0).1,(@a9B a0).2 _ h⟩
 rw[if_neg e307] at h;by_cases e308:f=some 308
 ·rw[if_pos e308] at h;exact⟨308,e308,(@a9C a0).1,(@a9C a0).2 _ h⟩
 rw[if_neg e308] at h;by_cases e310:f=some 310
 ·rw[if_pos e310] at h;exact⟨310,e310,(@a9D a0).1,(@a9D a0).2 _ h⟩
 rw[if_neg e310] at h;cases h

theorem b5B{a0}:PO Tryz.prog 170 [j1.Pv a0] (a3W a0) λr=>.I r:=by
 refine pO Tryz.func170 λr h _ _=>?_;unfold a3W at h;refine S4 2 J<|dr [] u5 (by kernel_rfl) (by kernel_rfl)<|w8 h λv1 hv1 h=>d2f J (B0 J b3e J hv1) J<|S7 2 J<|d4 J (c41 (es:=v1) (k:=a0.Kind) (E:=(Ls j2.Pv)) (EK:=iF) (d:=.tup [.L j2.Pv ((A9 v1 a0.Kind).getD ([]:List j2)),.bool ((A9 v1 a0.Kind).isSome)]) J J T1 (B4 O9) c64 J (lk2 _ _ ([]:List j2))) J<|S8 5 J<|g7<|S4 2 J ?_
 refine cN h (λhc h=>?_) λhc h=>?_
 ·refine S4 1 J ?_;refine b8 ?_;cases h;exact f1
 ·refine b9 ?_;refine jq h (λ_=>St.of [] []) (λq9 h=>?_) λκ8 h=>?_
  ·refine S4 1 J ?_;refine b8 ?_;cases h;exact f1
  ·refine S3 1 J ?_;refine nL J a0q<|S2 1 J<|g6<|lq h (λs11=>St.of [(1,.ptr 1 0 0),(17,.L j2.Pv ((A9 v1 a0.Kind).getD ([]:List j2))),(18,.I (((A9 v1 a0.Kind).getD ([]:List j2)).length:Int)),(19,.I s11)] [(1,vR (j1.Pv a0) 4)]) W λs11 x12 h hx13=>S4 1 J<|g7 ?_;refine cN h (λhc h=>?_) λhc h=>?_
   ·refine b9 ?_;refine g7<|g6<|sR<|iL h J J a0q K6 λv13 _ h=>S2 3 J<|S3 3 J ?_;obtain⟨v14,hv15,h⟩:=a7H h;obtain⟨n15,he16,hk17,hp18⟩:=c0n hv15;refine L2 (c2v 24 J he16)<|y0 J (b4E J hk17 J hp18)<|S2 1 J<|S3 5 J<|c5 J (λhg=>mI J)<|c5 J (λhg=>oF J c2H J)<|c5 J (λhg=>oS (ct hg) J J p7 J)<|c5 J (λhg=>l5 (ct hg) (ct hg) J)<|y0 J (o9 J J J (λq=>I8 q))<|yN ?_;refine cN h (λhc h=>?_) λhc h=>?_
    ·refine S4 3 J ?_;refine b8 ?_;have h:=xL hx13 h;cases h;exact f1
    ·refine b9 ?_;refine S6 2 J ?_;exact eL h W
   ·refine m7 ?_;refine c4<|c4<|j4 ?_;have h:=xL hx13 h;exact eJ h W

theorem b2o:PO Tryz.prog 171 [] (a2I) λr=>.abs (a3r (List.map (ent iF fvE) r)):=by
 refine pO Tryz.func171 λr h _ _=>?_;unfold a2I at h;refine S4 1 J<|sR<|b6G (KT:=Int) (VT:=Fv) (EK:=iF) (E:=fvE) 5000001 J J<|a5l (es:=[]) (k:=1) (v:=(some 242)) (E:=fvE) (EK:=iF) (.inr J) J J J J J J Z5 (B4 O9)<|a5l (es:=(p6 [] 1 (some 242))) (k:=2) (v:=(some 243)) (E:=fvE) (EK:=iF) (.inr J) J J J J J J Z5 (B4 O9)<|a5l (es:=(p6 (p6 [] 1 (some 242)) 2 (some 243))) (k:=3) (v:=(some 244)) (E:=fvE) (EK:=iF) (.inr J) J J J J J J Z5 (B4 O9)<|a5l (es:=(p6 (p6 (p6 [] 1 (some 242)) 2 (some 243)) 3 (some 244))) (k:=4) (v:=(some 245)) (E:=fvE) (EK:=iF) (.inr J) J J J J J J Z5 (B4 O9)<|a5l (es:=(p6 (p6 (p6 (p6 [] 1 (some 242)) 2 (some 243)) 3 (some 244)) 4 (some 245))) (k:=5) (v:=(some 246)) (E:=fvE) (EK:=iF) (.inr J) J J J J J J Z5 (B4 O9)<|a5l (es:=(p6 (p6 (p6 (p6 (p6 [] 1 (some 242)) 2 (some 243)) 3 (some 244)) 4 (some 245)) 5 (some 246))) (k:=6) (v:=(some 247)) (E:=fvE) (EK:=iF) (.inr J) J J J J J J Z5 (B4 O9)<|a5l (es:=(p6 (p6 (p6 (p6 (p6 (p6 [] 1 (some 242)) 2 (some 243)) 3 (some 244)) 4 (some 245)) 5 (some 246)) 6 (some 247))) (k:=7) (v:=(some 248)) (E:=fvE) (EK:=iF) (.inr J) J J J J J J Z5 (B4 O9)<|a5l (es:=(p6 (p6 (p6 (p6 (p6 (p6 (p6 [] 1 (some 242)) 2 (some 243)) 3 (some 244)) 4 (some 245)) 5 (some 246)) 6 (some 247)) 7 (some 248))) (k:=8) (v:=(some 249)) (E:=fvE) (EK:=iF) (.inr J) J J J J J J Z5 (B4 O9)<|a5l (es:=(p6 (p6 (p6 (p6 (p6 (p6 (p6 (p6 [] 1 (some 242)) 2 (some 243)) 3 (some 244)) 4 (some 245)) 5 (some 246)) 6 (some 247)) 7 (some 248)) 8 (some 249))) (k:=9) (v:=(some 250)) (E:=fvE) (EK:=iF) (.inr J) J J J J J J Z5 (B4 O9)<|a5l (es:=(p6 (p6 (p6 (p6 (p6 (p6 (p6 (p6 (p6 [] 1 (some 242)) 2 (some 243)) 3 (some 244)) 4 (some 245)) 5 (some 246)) 6 (some 247)) 7 (some 248)) 8 (some 249)) 9 (some 250))) (k:=10) (v:=(some 251)) (E:=fvE) (EK:=iF) (.inr J) J J J J J J Z5 (B4 O9)<|S2 2 J<|a2Y (c54 0 5000001 J J)<|b8 ?_;cases h;exact f1

theorem c1b{a0}:PO Tryz.prog 364 [.I a0] (b8s a0) λr=>.tup [.L iF r.1,.I r.2]:=by
 refine pO Tryz.func364 λr h _ _=>?_;refine S4 2 J<|g7<|S3 3 J<|c5 J (λhg=>mI J)<|c5 J (λhg=>l5 (ct hg) J J)<|y0 J (o9 J J J (λq=>I8 q))<|yN ?_;refine cN h (λhc h=>?_) λhc h=>?_
 ·refine S4 2 J ?_;refine b8 ?_;cases h;exact f2
 ·refine b9 ?_;refine S3 1 J<|w8 h λv1 hv1 h=>y1 J (c0F (f:=iF) hv1 J J J j8 o8 C2 O2 J J J) J<|S2 2 J<|b8 ?_;cases h;exact f2

theorem a28{a0}:PO Tryz.prog 365 [.I a0] (I7 a0) λr=>.bool r:=by
 refine pO Tryz.func365 λr h _ _=>?_;unfold I7 at h;refine S4 1 J<|S3 3 J<|c5 J (λhg=>mI J)<|c5 J (λhg=>l5 (ct hg) J J)<|y0 J (m8 J J J (λq=>J2 q))<|S2 1 J<|b8 ?_;cases h;exact f1

theorem a6S{a0}:PO Tryz.prog 390 [g8.Pv a0] (N4 a0) λr=>.fn (.func 397) [.rptr (g8.Pc r)]:=by
 refine pO Tryz.func390 λr h _ _=>?_;unfold N4 at h;refine S4 2 J<|S4 2 J<|b8 ?_;cases h;exact f1

theorem L8{a0}:PON Tryz.prog 351 [.L b7.Pv a0] (x6 a0) λr=>⟨List.map b7.Pv r,0,true,8,true⟩:=by
 refine pON Tryz.func351 λr h _ _=>?_;unfold x6 at h;refine S4 1 J<|g7<|S3 1 J<|b8B J H0 λb hb=>yN ?_;refine G9 b J (λhc=>?_) (λhc=>?_)
 ·obtain rfl:a0 = []:=by simpa using hb hc
  refine S4 1 J<|a2Y (H4 (t:=2) (l:=920000) (z:=8) J J)<|b8 ?_;cases h;exact⟨J,_,_,J,J,J,J⟩
 ·refine b9 ?_;refine sR<|y0 J (G1 J H0 M0)<|S1 1 J<|y1 J (b9i (f:=b7.Pv) h J J (.inl ⟨_,J,J⟩) H0 M0 c1k a8A J (λ_=>J)) J<|S2 1 J<|b8 ?_;exact⟨J,_,_,J,J,J,J⟩

end Go.Proofs.YtlkcpapbolbjnaaGreat.Ok
