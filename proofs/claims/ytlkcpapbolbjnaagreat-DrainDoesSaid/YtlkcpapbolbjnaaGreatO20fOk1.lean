/-
 The functions of the program do as the plain functions do.
-/
import Derived.Test.YtlkcpapbolbjnaaGreatO20fPwC
import Derived.Test.YtlkcpapbolbjnaaGreatO20fPwD
import Derived.Test.YtlkcpapbolbjnaaGreatSrt
import Derived.Test.YtlkcpapbolbjnaaGreatO20fSh
import Derived.Test.YtlkcpapbolbjnaaGreatProg
set_option linter.unusedVariables false
set_option linter.unusedSimpArgs false
set_option linter.unusedSectionVars false
namespace Go.Proofs.YtlkcpapbolbjnaaGreat.Ok
open Go Go.Pw Go.Sh Go.Proofs
set_option maxRecDepth 100000
set_option maxHeartbeats 4000000
abbrev _root_.Go.Sh.k9.Pc(x:k9):List PV:=[.I x.Serial,.I x.Strong,.I x.Weak,.I x.Prog,.bool x.Started,.L iF x.Fields]
abbrev _root_.Go.Sh.k9.Pv(x:k9):PV:=.agg x.Pc
abbrev _root_.Go.Sh.b8.Pc(x:b8):List PV:=[.I x.State,.I x.Gen,.I x.Val.Serial,.I x.Val.Strong,.I x.Val.Weak,.I x.Val.Prog,.bool x.Val.Started,.L iF x.Val.Fields]
abbrev _root_.Go.Sh.b8.Pv(x:b8):PV:=.agg x.Pc
abbrev _root_.Go.Sh.g9.Pc(x:g9):List PV:=[.L b8.Pv x.Cells,.I x.Last]
abbrev _root_.Go.Sh.g9.Pv(x:g9):PV:=.agg x.Pc
abbrev _root_.Go.Sh.a7.Pc(x:a7):List PV:=[.L b8.Pv x.S.Cells,.I x.S.Last,.I x.Serial]
abbrev _root_.Go.Sh.a7.Pv(x:a7):PV:=.agg x.Pc
abbrev _root_.Go.Sh.g7.Pc(x:g7):List PV:=[.I x.Target,.bool x.Intact,.I x.Call]
abbrev _root_.Go.Sh.g7.Pv(x:g7):PV:=.agg x.Pc
abbrev _root_.Go.Sh.c9.Pc(x:c9):List PV:=[.I x.State,.I x.Key,.I x.Val]
abbrev _root_.Go.Sh.c9.Pv(x:c9):PV:=.agg x.Pc
abbrev _root_.Go.Sh.g8.Pc(x:g8):List PV:=[.I x.Kind,.I x.At,.I x.Prog]
abbrev _root_.Go.Sh.g8.Pv(x:g8):PV:=.agg x.Pc
abbrev _root_.Go.Sh.g6.Pc(x:g6):List PV:=[.L g8.Pv x.L,.I x.Cap]
abbrev _root_.Go.Sh.g6.Pv(x:g6):PV:=.agg x.Pc
abbrev _root_.Go.Sh.b7.Pc(x:b7):List PV:=[.L b8.Pv x.S.S.Cells,.I x.S.S.Last,.I x.S.Serial,.L iF x.Roots,.L g7.Pv x.Cells,.L c9.Pv x.T,.L g8.Pv x.Q.L,.I x.Q.Cap]
abbrev _root_.Go.Sh.b7.Pv(x:b7):PV:=.agg x.Pc
abbrev _root_.Go.Sh.j2.Pc(x:j2):List PV:=[.I x.Kind,.I x.A,.I x.B,.I x.C]
abbrev _root_.Go.Sh.j2.Pv(x:j2):PV:=.agg x.Pc
abbrev _root_.Go.Sh.B0.Pc(x:B0):List PV:=[.I x.Serial,.I x.Strong,.I x.Weak,.I x.Prog,.bool x.Started,.L iF x.Fields]
abbrev _root_.Go.Sh.B0.Pv(x:B0):PV:=.agg x.Pc
abbrev _root_.Go.Sh.l7.Pc(x:l7):List PV:=[.I x.State,.I x.Gen,.I x.Val.Serial,.I x.Val.Strong,.I x.Val.Weak,.I x.Val.Prog,.bool x.Val.Started,.L iF x.Val.Fields]
abbrev _root_.Go.Sh.l7.Pv(x:l7):PV:=.agg x.Pc
abbrev _root_.Go.Sh.l5.Pc(x:l5):List PV:=[.I x.Target,.bool x.Intact,.I x.Call]
abbrev _root_.Go.Sh.l5.Pv(x:l5):PV:=.agg x.Pc
abbrev _root_.Go.Sh.j8.Pc(x:j8):List PV:=[.I x.State,.I x.Key,.I x.Val]
abbrev _root_.Go.Sh.j8.Pv(x:j8):PV:=.agg x.Pc
abbrev _root_.Go.Sh.n0.Pc(x:n0):List PV:=[.I x.Kind,.I x.At,.I x.Prog]
abbrev _root_.Go.Sh.n0.Pv(x:n0):PV:=.agg x.Pc
abbrev _root_.Go.Sh.k7.Pc(x:k7):List PV:=[.L l7.Pv x.Cells,.I x.Last,.I x.Serial]
abbrev _root_.Go.Sh.k7.Pv(x:k7):PV:=.agg x.Pc
abbrev _root_.Go.Sh.u9.Pc(x:u9):List PV:=[.L n0.Pv x.L,.I x.Cap]
abbrev _root_.Go.Sh.u9.Pv(x:u9):PV:=.agg x.Pc
abbrev _root_.Go.Sh.c7.Pc(x:c7):List PV:=[.L l7.Pv x.S.Cells,.I x.S.Last,.I x.S.Serial,.L iF x.Roots,.L l5.Pv x.Cells,.L j8.Pv x.T,.L n0.Pv x.Q.L,.I x.Q.Cap]
abbrev _root_.Go.Sh.c7.Pv(x:c7):PV:=.agg x.Pc
abbrev _root_.Go.Sh.x4.Pc(x:x4):List PV:=[.I x.State,.I x.Gen,.I x.Val]
abbrev _root_.Go.Sh.x4.Pv(x:x4):PV:=.agg x.Pc
abbrev _root_.Go.Sh.x8.Pc(x:x8):List PV:=[.L x4.Pv x.Cells,.I x.Last]
abbrev _root_.Go.Sh.x8.Pv(x:x8):PV:=.agg x.Pc
abbrev _root_.Go.Sh.D3.Pc(x:D3):List PV:=[.I x.Key,.I x.Val]
abbrev _root_.Go.Sh.D3.Pv(x:D3):PV:=.agg x.Pc
abbrev _root_.Go.Sh.p9.Pc(x:p9):List PV:=[.I x.Kind,.I x.A,.I x.B,.I x.C]
abbrev _root_.Go.Sh.p9.Pv(x:p9):PV:=.agg x.Pc
abbrev _root_.Go.Sh.j4.Pc(x:j4):List PV:=[fvE x.part,.I x.least,.I x.most,.I x.e]
abbrev _root_.Go.Sh.j4.Pv(x:j4):PV:=.agg x.Pc
abbrev _root_.Go.Sh.r9.Pc(x:r9):List PV:=[.L b8.Pv x.x.S.S.Cells,.I x.x.S.S.Last,.I x.x.S.Serial,.L iF x.x.Roots,.L g7.Pv x.x.Cells,.L c9.Pv x.x.T,.L g8.Pv x.x.Q.L,.I x.x.Q.Cap,.I x.o.Kind,.I x.o.A,.I x.o.B,.I x.o.C]
abbrev _root_.Go.Sh.r9.Pv(x:r9):PV:=.agg x.Pc
abbrev _root_.Go.Sh.I6.Pc(x:I6):List PV:=[.I x.r,.I x.h]
abbrev _root_.Go.Sh.I6.Pv(x:I6):PV:=.agg x.Pc
abbrev _root_.Go.Sh.G6.Pc(x:G6):List PV:=[.I x.h,.I x.k,.I x.v]
abbrev _root_.Go.Sh.G6.Pv(x:G6):PV:=.agg x.Pc
abbrev _root_.Go.Sh.I5.Pc(x:I5):List PV:=[.L c9.Pv x.t]
abbrev _root_.Go.Sh.I5.Pv(x:I5):PV:=.agg x.Pc
abbrev _root_.Go.Sh.C4.Pc(x:C4):List PV:=[fvE x.kept]
abbrev _root_.Go.Sh.C4.Pv(x:C4):PV:=.agg x.Pc
abbrev _root_.Go.Sh.m7.Pc(x:m7):List PV:=[.I x.Key,.I x.Val]
abbrev _root_.Go.Sh.m7.Pv(x:m7):PV:=.agg x.Pc
theorem p8:H5 Tryz.prog 3=some false:=by kernel_rfl
theorem a20:H5 Tryz.prog 4=some false:=by kernel_rfl
theorem c9N:H5 Tryz.prog 22=some false:=by kernel_rfl
theorem a3o:H5 Tryz.prog 24=some true:=by kernel_rfl
theorem a5q:H5 Tryz.prog 26=some true:=by kernel_rfl
theorem a0a:H5 Tryz.prog 27=some false:=by kernel_rfl
theorem a7T:H5 Tryz.prog 28=some false:=by kernel_rfl
theorem b0i:H5 Tryz.prog 29=some false:=by kernel_rfl
theorem c0J:H5 Tryz.prog 30=some false:=by kernel_rfl
theorem a5r:H5 Tryz.prog 32=some true:=by kernel_rfl
theorem u4:H5 Tryz.prog 34=some true:=by kernel_rfl
theorem a6z:H5 Tryz.prog 37=some false:=by kernel_rfl
theorem a0b:H5 Tryz.prog 39=some true:=by kernel_rfl
theorem c0K:H5 Tryz.prog 40=some false:=by kernel_rfl
theorem b7m:H5 Tryz.prog 41=some false:=by kernel_rfl
theorem b2u:H5 Tryz.prog 42=some false:=by kernel_rfl
theorem a6A:H5 Tryz.prog 44=some true:=by kernel_rfl
theorem y7:H5 Tryz.prog 46=some true:=by kernel_rfl
theorem b4u:H5 Tryz.prog 62=some true:=by kernel_rfl
theorem b4v:H5 Tryz.prog 63=some false:=by kernel_rfl
theorem a0c:H5 Tryz.prog 79=some true:=by kernel_rfl
theorem a6B:H5 Tryz.prog 85=some true:=by kernel_rfl
theorem c9O:H5 Tryz.prog 91=some false:=by kernel_rfl
theorem b0S:H5 Tryz.prog 114=some true:=by kernel_rfl
theorem c7g:H5 Tryz.prog 135=some true:=by kernel_rfl
theorem c7h:H5 Tryz.prog 140=some false:=by kernel_rfl
theorem a3G:H5 Tryz.prog 142=some true:=by kernel_rfl
theorem c7i:H5 Tryz.prog 154=some true:=by kernel_rfl
theorem a3H:H5 Tryz.prog 279=some true:=by kernel_rfl
theorem c7j:H5 Tryz.prog 394=some true:=by kernel_rfl
theorem J6:H8 Tryz.prog 3=some 8:=by kernel_rfl
theorem c4G:H8 Tryz.prog 68=some 24:=by kernel_rfl
theorem c9P:H8 Tryz.prog 79=some 24:=by kernel_rfl
theorem c0L:H8 Tryz.prog 85=some 24:=by kernel_rfl
theorem c9Q:H8 Tryz.prog 91=some 24:=by kernel_rfl
theorem c2c:H8 Tryz.prog 129=some 80:=by kernel_rfl
theorem b7n:H8 Tryz.prog 132=some 80:=by kernel_rfl
theorem c2d:H8 Tryz.prog 134=some 24:=by kernel_rfl
theorem c2e:H8 Tryz.prog 135=some 24:=by kernel_rfl
theorem c7k:H8 Tryz.prog 154=some 32:=by kernel_rfl
theorem b7o:H8 Tryz.prog 170=some 24:=by kernel_rfl
theorem c7l:H8 Tryz.prog 199=some 16:=by kernel_rfl
theorem c2f:H8 Tryz.prog 206=some 24:=by kernel_rfl
theorem c2g:H8 Tryz.prog 235=some 16:=by kernel_rfl
theorem H7:A1 Tryz.prog 22=some 129:=by kernel_rfl
theorem j5:A1 Tryz.prog 27=some 3:=by kernel_rfl
theorem G4:A1 Tryz.prog 28=some 68:=by kernel_rfl
theorem Q5:A1 Tryz.prog 29=some 135:=by kernel_rfl
theorem a0d:A1 Tryz.prog 30=some 79:=by kernel_rfl
theorem E5:A1 Tryz.prog 37=some 132:=by kernel_rfl
theorem J9:A1 Tryz.prog 40=some 170:=by kernel_rfl
theorem O6:A1 Tryz.prog 41=some 134:=by kernel_rfl
theorem I3:A1 Tryz.prog 42=some 85:=by kernel_rfl
theorem a5s:A1 Tryz.prog 74=some 73:=by kernel_rfl
theorem a6D:A1 Tryz.prog 77=some 74:=by kernel_rfl
theorem a35:A1 Tryz.prog 81=some 91:=by kernel_rfl
theorem a36:A1 Tryz.prog 91=some 154:=by kernel_rfl
theorem M7:A1 Tryz.prog 140=some 206:=by kernel_rfl
theorem b7p:A1 Tryz.prog 168=some 35:=by kernel_rfl
theorem a4O:A1 Tryz.prog 196=some 199:=by kernel_rfl
theorem a6C:A1 Tryz.prog 236=some 235:=by kernel_rfl
theorem a0F:A1 Tryz.prog 273=some 279:=by kernel_rfl
theorem b7q:A1 Tryz.prog 304=some 308:=by kernel_rfl
theorem c4H:E6 Tryz.prog 24 0=some (0,22):=by kernel_rfl
theorem b4w:E6 Tryz.prog 24 1=some (1,3):=by kernel_rfl
theorem b4x:E6 Tryz.prog 26 0=some (0,24):=by kernel_rfl
theorem b4y:E6 Tryz.prog 26 1=some (2,3):=by kernel_rfl
theorem b4z:E6 Tryz.prog 32 0=some (0,30):=by kernel_rfl
theorem c4I:E6 Tryz.prog 32 1=some (1,3):=by kernel_rfl
theorem c4J:E6 Tryz.prog 34 0=some (0,26):=by kernel_rfl
theorem b0T:E6 Tryz.prog 34 1=some (3,27):=by kernel_rfl
theorem a21:E6 Tryz.prog 34 2=some (4,28):=by kernel_rfl
theorem b9d:E6 Tryz.prog 34 3=some (5,29):=by kernel_rfl
theorem a7U:E6 Tryz.prog 34 4=some (6,32):=by kernel_rfl
theorem a1E:E6 Tryz.prog 39 0=some (0,37):=by kernel_rfl
theorem b0U:E6 Tryz.prog 39 2=some (2,3):=by kernel_rfl
theorem a7V:E6 Tryz.prog 44 0=some (0,42):=by kernel_rfl
theorem c4K:E6 Tryz.prog 46 0=some (0,39):=by kernel_rfl
theorem b4A:E6 Tryz.prog 46 1=some (3,27):=by kernel_rfl
theorem b4B:E6 Tryz.prog 46 2=some (4,40):=by kernel_rfl
theorem b0V:E6 Tryz.prog 46 3=some (5,41):=by kernel_rfl
theorem a5L:E6 Tryz.prog 46 4=some (6,44):=by kernel_rfl
theorem a7W:E6 Tryz.prog 62 0=some (0,3):=by kernel_rfl
theorem a7X:E6 Tryz.prog 62 1=some (1,3):=by kernel_rfl
theorem a5M:E6 Tryz.prog 62 2=some (2,3):=by kernel_rfl
theorem a5N:E6 Tryz.prog 62 3=some (3,3):=by kernel_rfl
theorem a7Y:E6 Tryz.prog 62 4=some (4,4):=by kernel_rfl
theorem a7Z:E6 Tryz.prog 62 5=some (5,27):=by kernel_rfl
theorem b4C:E6 Tryz.prog 68 0=some (0,3):=by kernel_rfl
theorem b0W:E6 Tryz.prog 68 1=some (1,4):=by kernel_rfl
theorem c4L:E6 Tryz.prog 68 2=some (2,3):=by kernel_rfl
theorem b0X:E6 Tryz.prog 79 1=some (1,3):=by kernel_rfl
theorem b9e:E6 Tryz.prog 79 2=some (2,3):=by kernel_rfl
theorem b9f:E6 Tryz.prog 85 0=some (0,3):=by kernel_rfl
theorem a71:E6 Tryz.prog 85 1=some (1,3):=by kernel_rfl
theorem b9g:E6 Tryz.prog 85 2=some (2,3):=by kernel_rfl
theorem b6E:E6 Tryz.prog 114 0=some (0,3):=by kernel_rfl
theorem b6F:E6 Tryz.prog 114 1=some (1,3):=by kernel_rfl
theorem b2v:E6 Tryz.prog 114 2=some (2,3):=by kernel_rfl
theorem c3v:E6 Tryz.prog 114 3=some (3,3):=by kernel_rfl
theorem b2w:E6 Tryz.prog 114 4=some (4,4):=by kernel_rfl
theorem b2x:E6 Tryz.prog 114 5=some (5,27):=by kernel_rfl
theorem a5K:E6 Tryz.prog 129 0=some (0,3):=by kernel_rfl
theorem c3w:E6 Tryz.prog 129 1=some (1,3):=by kernel_rfl
theorem a8T:E6 Tryz.prog 129 2=some (2,114):=by kernel_rfl
theorem b2y:E6 Tryz.prog 132 0=some (0,3):=by kernel_rfl
theorem b6G:E6 Tryz.prog 132 1=some (1,3):=by kernel_rfl
theorem a1s:E6 Tryz.prog 132 2=some (2,62):=by kernel_rfl
theorem b6H:E6 Tryz.prog 134 0=some (0,3):=by kernel_rfl
theorem b6I:E6 Tryz.prog 134 1=some (1,3):=by kernel_rfl
theorem c3x:E6 Tryz.prog 134 2=some (2,3):=by kernel_rfl
theorem c3y:E6 Tryz.prog 135 0=some (0,3):=by kernel_rfl
theorem b6J:E6 Tryz.prog 135 1=some (1,3):=by kernel_rfl
theorem c3z:E6 Tryz.prog 142 0=some (0,140):=by kernel_rfl
theorem b2z:E6 Tryz.prog 142 1=some (1,3):=by kernel_rfl
theorem c3A:E6 Tryz.prog 154 0=some (0,3):=by kernel_rfl
theorem c3B:E6 Tryz.prog 154 2=some (2,3):=by kernel_rfl
theorem a8U:E6 Tryz.prog 170 0=some (0,3):=by kernel_rfl
theorem b2A:E6 Tryz.prog 170 1=some (1,4):=by kernel_rfl
theorem c3C:E6 Tryz.prog 170 2=some (2,3):=by kernel_rfl
theorem c3D:E6 Tryz.prog 199 1=some (1,3):=by kernel_rfl
theorem b2B:E6 Tryz.prog 206 0=some (0,3):=by kernel_rfl
theorem b6K:E6 Tryz.prog 206 1=some (1,3):=by kernel_rfl
theorem b6L:E6 Tryz.prog 235 1=some (1,3):=by kernel_rfl
theorem c3E:E6 Tryz.prog 279 2=some (2,3):=by kernel_rfl
theorem c9a:c6R Tryz.prog 3=some .i64:=by kernel_rfl
theorem c7m:B1 Tryz.prog 102:=kC Tryz.func102 J
theorem c7n:B1 Tryz.prog 103:=kC Tryz.func103 J
theorem c7o:B1 Tryz.prog 120:=kC Tryz.func120 J
theorem c2h:B1 Tryz.prog 136:=kC Tryz.func136 J
theorem c7p:B1 Tryz.prog 185:=kC Tryz.func185 J
theorem c7q:B1 Tryz.prog 193:=kC Tryz.func193 J
theorem c7r:B1 Tryz.prog 203:=kC Tryz.func203 J
theorem c7s:B1 Tryz.prog 204:=kC Tryz.func204 J
theorem c7t:B1 Tryz.prog 214:=kC Tryz.func214 J
theorem c2i:B1 Tryz.prog 292:=kC Tryz.func292 J
theorem c2j:B1 Tryz.prog 344:=kC Tryz.func344 J
theorem c2k:B1 Tryz.prog 350:=kC Tryz.func350 J
theorem c7u:B1 Tryz.prog 368:=kC Tryz.func368 J
theorem c7v:B1 Tryz.prog 375:=kC Tryz.func375 J
theorem c2l:B1 Tryz.prog 382:=kC Tryz.func382 J
theorem c7w:B1 Tryz.prog 396:=kC Tryz.func396 J
theorem c7x:B1 Tryz.prog 397:=kC Tryz.func397 J
theorem b4D:b0J Tryz.prog 150=some (3,3):=by kernel_rfl
theorem a0e:b0J Tryz.prog 210=some (3,208):=by kernel_rfl
theorem b9h:b0J Tryz.prog 239=some (79,4):=by kernel_rfl
theorem b0Y:b0J Tryz.prog 254=some (3,4):=by kernel_rfl
theorem T6:b0J Tryz.prog 275=some (3,273):=by kernel_rfl
theorem c4M:C1 Tryz.prog 24=some (λi=>(#[(0,1),(1,1)]:Array (Nat × Nat))[i]?):=by kernel_rfl
theorem c4N:C1 Tryz.prog 26=some (λi=>(#[(0,2),(2,1)]:Array (Nat × Nat))[i]?):=by kernel_rfl
theorem c9R:C1 Tryz.prog 32=some (λi=>(#[(0,1),(1,1)]:Array (Nat × Nat))[i]?):=by kernel_rfl
theorem c4O:C1 Tryz.prog 34=some (λi=>(#[(0,3),(3,1),(4,1),(5,1),(6,2)]:Array (Nat × Nat))[i]?):=by kernel_rfl
theorem c0M:C1 Tryz.prog 39=some (λi=>(#[(0,1),(1,1),(2,1)]:Array (Nat × Nat))[i]?):=by kernel_rfl
theorem c0N:C1 Tryz.prog 44=some (λi=>(#[(0,1),(1,1)]:Array (Nat × Nat))[i]?):=by kernel_rfl
theorem c9S:C1 Tryz.prog 46=some (λi=>(#[(0,3),(3,1),(4,1),(5,1),(6,2)]:Array (Nat × Nat))[i]?):=by kernel_rfl
theorem b7s:C1 Tryz.prog 62=some (λi=>(#[(0,1),(1,1),(2,1),(3,1),(4,1),(5,1)]:Array (Nat × Nat))[i]?):=by kernel_rfl
theorem c9T:C1 Tryz.prog 68=some (λi=>(#[(0,1),(1,1),(2,1)]:Array (Nat × Nat))[i]?):=by kernel_rfl
theorem b4E:C1 Tryz.prog 73=some (λi=>(#[(0,1),(1,1),(2,1),(3,1)]:Array (Nat × Nat))[i]?):=by kernel_rfl
theorem b2C:C1 Tryz.prog 79=some (λi=>(#[(0,1),(1,1),(2,1)]:Array (Nat × Nat))[i]?):=by kernel_rfl
theorem b7t:C1 Tryz.prog 85=some (λi=>(#[(0,1),(1,1),(2,1)]:Array (Nat × Nat))[i]?):=by kernel_rfl
theorem c7y:C1 Tryz.prog 114=some (λi=>(#[(0,1),(1,1),(2,1),(3,1),(4,1),(5,1)]:Array (Nat × Nat))[i]?):=by kernel_rfl
theorem b3V:C1 Tryz.prog 129=some (λi=>(#[(0,1),(1,1),(2,6)]:Array (Nat × Nat))[i]?):=by kernel_rfl
theorem c2m:C1 Tryz.prog 132=some (λi=>(#[(0,1),(1,1),(2,6)]:Array (Nat × Nat))[i]?):=by kernel_rfl
theorem b7r:C1 Tryz.prog 134=some (λi=>(#[(0,1),(1,1),(2,1)]:Array (Nat × Nat))[i]?):=by kernel_rfl
theorem b3W:C1 Tryz.prog 135=some (λi=>(#[(0,1),(1,1),(2,1)]:Array (Nat × Nat))[i]?):=by kernel_rfl
theorem c2n:C1 Tryz.prog 142=some (λi=>(#[(0,1),(1,1)]:Array (Nat × Nat))[i]?):=by kernel_rfl
theorem c7z:C1 Tryz.prog 170=some (λi=>(#[(0,1),(1,1),(2,1)]:Array (Nat × Nat))[i]?):=by kernel_rfl
theorem c7A:C1 Tryz.prog 199=some (λi=>(#[(0,1),(1,1)]:Array (Nat × Nat))[i]?):=by kernel_rfl
theorem b0Z:C1 Tryz.prog 206=some (λi=>(#[(0,1),(1,1),(2,1)]:Array (Nat × Nat))[i]?):=by kernel_rfl
theorem c7B:C1 Tryz.prog 213=some (λi=>(#[(0,8),(8,4)]:Array (Nat × Nat))[i]?):=by kernel_rfl
theorem c7C:C1 Tryz.prog 225=some (λi=>(#[(0,1),(1,1)]:Array (Nat × Nat))[i]?):=by kernel_rfl
theorem c2o:C1 Tryz.prog 235=some (λi=>(#[(0,1),(1,1)]:Array (Nat × Nat))[i]?):=by kernel_rfl
theorem c7D:C1 Tryz.prog 250=some (λi=>(#[(0,1)]:Array (Nat × Nat))[i]?):=by kernel_rfl
theorem a1F:C1 Tryz.prog 279=some (λi=>(#[(0,1),(1,1),(2,1),(3,1)]:Array (Nat × Nat))[i]?):=by kernel_rfl
theorem b3X:C1 Tryz.prog 308=some (λi=>(#[(0,1)]:Array (Nat × Nat))[i]?):=by kernel_rfl
theorem c7E:C1 Tryz.prog 378=some (λi=>(#[(0,1),(1,1),(2,1)]:Array (Nat × Nat))[i]?):=by kernel_rfl
theorem c7F:C1 Tryz.prog 386=some (λi=>(#[(0,1)]:Array (Nat × Nat))[i]?):=by kernel_rfl
theorem c2p:C1 Tryz.prog 394=some (λi=>some (i*1,1)):=by kernel_rfl
theorem c0O:a0X Tryz.prog 79=some [1,1,1]:=by kernel_rfl
theorem c4P:a0X Tryz.prog 85=some [1,1,1]:=by kernel_rfl
theorem c7G:a0X Tryz.prog 134=some [1,1,1]:=by kernel_rfl
theorem c2q:a0X Tryz.prog 135=some [1,1,1]:=by kernel_rfl
theorem c7H:a0X Tryz.prog 170=some [1,0,1]:=by kernel_rfl
theorem c7I:a0X Tryz.prog 394=some [1,1,1,1]:=by kernel_rfl
theorem n7:s6 Tryz.prog 3=some 1:=by kernel_rfl
theorem d1L:s6 Tryz.prog 4=some 1:=by kernel_rfl
theorem a1H:s6 Tryz.prog 24=some 2:=by kernel_rfl
theorem a5t:s6 Tryz.prog 26=some 3:=by kernel_rfl
theorem c4Q:s6 Tryz.prog 27=some 1:=by kernel_rfl
theorem c4R:s6 Tryz.prog 30=some 1:=by kernel_rfl
theorem a1I:s6 Tryz.prog 32=some 2:=by kernel_rfl
theorem p5:s6 Tryz.prog 34=some 8:=by kernel_rfl
theorem c4S:s6 Tryz.prog 35=some 1:=by kernel_rfl
theorem Y4:s6 Tryz.prog 39=some 3:=by kernel_rfl
theorem a3p:s6 Tryz.prog 44=some 2:=by kernel_rfl
theorem u6:s6 Tryz.prog 46=some 8:=by kernel_rfl
theorem a5u:s6 Tryz.prog 62=some 6:=by kernel_rfl
theorem T7:s6 Tryz.prog 68=some 3:=by kernel_rfl
theorem b4F:s6 Tryz.prog 73=some 4:=by kernel_rfl
theorem b4G:s6 Tryz.prog 74=some 1:=by kernel_rfl
theorem I4:s6 Tryz.prog 79=some 3:=by kernel_rfl
theorem H2:s6 Tryz.prog 85=some 3:=by kernel_rfl
theorem a72:s6 Tryz.prog 91=some 1:=by kernel_rfl
theorem a4P:s6 Tryz.prog 114=some 6:=by kernel_rfl
theorem M8:s6 Tryz.prog 129=some 8:=by kernel_rfl
theorem E9:s6 Tryz.prog 132=some 8:=by kernel_rfl
theorem Q1:s6 Tryz.prog 134=some 3:=by kernel_rfl
theorem V6:s6 Tryz.prog 135=some 3:=by kernel_rfl
theorem c7J:s6 Tryz.prog 140=some 1:=by kernel_rfl
theorem a1G:s6 Tryz.prog 142=some 2:=by kernel_rfl
theorem a6E:s6 Tryz.prog 154=some 4:=by kernel_rfl
theorem M9:s6 Tryz.prog 170=some 3:=by kernel_rfl
theorem a8V:s6 Tryz.prog 199=some 2:=by kernel_rfl
theorem Q8:s6 Tryz.prog 206=some 3:=by kernel_rfl
theorem b00:s6 Tryz.prog 235=some 2:=by kernel_rfl
theorem L2:s6 Tryz.prog 279=some 4:=by kernel_rfl
theorem c2r:s6 Tryz.prog 308=some 1:=by kernel_rfl
theorem c7K:s6 Tryz.prog 394=some 4:=by kernel_rfl
theorem P4:Tryz.prog.underlying 3=some (.int .i64):=by kernel_rfl
theorem c9b:Tryz.prog.underlying 4=some (.bool):=by kernel_rfl
theorem c9c:Tryz.prog.underlying 5=some (.int .u8):=by kernel_rfl
theorem B9:z7 Tryz.prog 3=some ((.I 0)):=by kernel_rfl
theorem c4W:z7 Tryz.prog 4=some ((.bool false)):=by kernel_rfl
theorem c4T:z7 Tryz.prog 24=some ((.agg #[(.slice none 0 0),(.I 0)])):=by kernel_rfl
theorem c4U:z7 Tryz.prog 26=some ((.agg #[(.slice none 0 0),(.I 0),(.I 0)])):=by kernel_rfl
theorem c9U:z7 Tryz.prog 32=some ((.agg #[(.slice none 0 0),(.I 0)])):=by kernel_rfl
theorem c4V:z7 Tryz.prog 34=some ((.agg #[(.slice none 0 0),(.I 0),(.I 0),(.slice none 0 0),(.slice none 0 0),(.slice none 0 0),(.slice none 0 0),(.I 0)])):=by kernel_rfl
theorem c9V:z7 Tryz.prog 35=some (.nilFunc):=by kernel_rfl
theorem c0P:z7 Tryz.prog 39=some ((.agg #[(.slice none 0 0),(.I 0),(.I 0)])):=by kernel_rfl
theorem c0Q:z7 Tryz.prog 44=some ((.agg #[(.slice none 0 0),(.I 0)])):=by kernel_rfl
theorem c9W:z7 Tryz.prog 46=some ((.agg #[(.slice none 0 0),(.I 0),(.I 0),(.slice none 0 0),(.slice none 0 0),(.slice none 0 0),(.slice none 0 0),(.I 0)])):=by kernel_rfl
theorem b7v:z7 Tryz.prog 62=some ((.agg #[(.I 0),(.I 0),(.I 0),(.I 0),(.bool false),(.slice none 0 0)])):=by kernel_rfl
theorem c0R:z7 Tryz.prog 68=some ((.agg #[(.I 0),(.bool false),(.I 0)])):=by kernel_rfl
theorem b0j:z7 Tryz.prog 73=some ((.agg #[(.I 0),(.I 0),(.I 0),(.I 0)])):=by kernel_rfl
theorem c9X:z7 Tryz.prog 74=some ((.slice none 0 0)):=by kernel_rfl
theorem a73:z7 Tryz.prog 79=some ((.agg #[(.I 0),(.I 0),(.I 0)])):=by kernel_rfl
theorem a6G:z7 Tryz.prog 85=some ((.agg #[(.I 0),(.I 0),(.I 0)])):=by kernel_rfl
theorem c4X:z7 Tryz.prog 91=some ((.slice none 0 0)):=by kernel_rfl
theorem c7L:z7 Tryz.prog 114=some ((.agg #[(.I 0),(.I 0),(.I 0),(.I 0),(.bool false),(.slice none 0 0)])):=by kernel_rfl
theorem a8W:z7 Tryz.prog 129=some ((.agg #[(.I 0),(.I 0),(.I 0),(.I 0),(.I 0),(.I 0),(.bool false),(.slice none 0 0)])):=by kernel_rfl
theorem a6F:z7 Tryz.prog 132=some ((.agg #[(.I 0),(.I 0),(.I 0),(.I 0),(.I 0),(.I 0),(.bool false),(.slice none 0 0)])):=by kernel_rfl
theorem a8X:z7 Tryz.prog 134=some ((.agg #[(.I 0),(.I 0),(.I 0)])):=by kernel_rfl
theorem a8Y:z7 Tryz.prog 135=some ((.agg #[(.I 0),(.I 0),(.I 0)])):=by kernel_rfl
theorem c2s:z7 Tryz.prog 142=some ((.agg #[(.slice none 0 0),(.I 0)])):=by kernel_rfl
theorem c2t:z7 Tryz.prog 154=some ((.agg #[(.I 0),(.I 0),(.I 0),(.I 0)])):=by kernel_rfl
theorem a8Z:z7 Tryz.prog 170=some ((.agg #[(.I 0),(.bool false),(.I 0)])):=by kernel_rfl
theorem b7u:z7 Tryz.prog 199=some ((.agg #[(.I 0),(.I 0)])):=by kernel_rfl
theorem a4Q:z7 Tryz.prog 206=some ((.agg #[(.I 0),(.I 0),(.I 0)])):=by kernel_rfl
theorem c7M:z7 Tryz.prog 208=some (.nilFunc):=by kernel_rfl
theorem c7N:z7 Tryz.prog 213=some ((.agg #[(.slice none 0 0),(.I 0),(.I 0),(.slice none 0 0),(.slice none 0 0),(.slice none 0 0),(.slice none 0 0),(.I 0),(.I 0),(.I 0),(.I 0),(.I 0)])):=by kernel_rfl
theorem c7O:z7 Tryz.prog 225=some ((.agg #[(.I 0),(.I 0)])):=by kernel_rfl
theorem a80:z7 Tryz.prog 235=some ((.agg #[(.I 0),(.I 0)])):=by kernel_rfl
theorem c7P:z7 Tryz.prog 250=some ((.agg #[.nilFunc])):=by kernel_rfl
theorem c7Q:z7 Tryz.prog 273=some ((.slice none 0 0)):=by kernel_rfl
theorem K2:z7 Tryz.prog 279=some ((.agg #[.nilFunc,(.I 0),(.I 0),(.I 0)])):=by kernel_rfl
theorem b01:z7 Tryz.prog 308=some ((.agg #[.nilFunc])):=by kernel_rfl
theorem c7R:z7 Tryz.prog 378=some ((.agg #[(.I 0),(.I 0),(.I 0)])):=by kernel_rfl
theorem c7S:z7 Tryz.prog 386=some ((.agg #[(.slice none 0 0)])):=by kernel_rfl
theorem c2u:z7 Tryz.prog 394=some ((.agg #[(.I 0),(.I 0),(.I 0),(.I 0)])):=by kernel_rfl
theorem p6:Tryz.prog.follows .mixedOrders=true:=by kernel_rfl
def tb:TB:=⟨[((24,0),(0,22)),((24,1),(1,3)),((26,0),(0,24)),((26,1),(2,3)),((32,0),(0,30)),((32,1),(1,3)),((34,0),(0,26)),((34,1),(3,27)),((34,2),(4,28)),((34,3),(5,29)),((34,4),(6,32)),((39,0),(0,37)),((39,1),(1,3)),((39,2),(2,3)),((44,0),(0,42)),((44,1),(1,3)),((46,0),(0,39)),((46,1),(3,27)),((46,2),(4,40)),((46,3),(5,41)),((46,4),(6,44)),((62,0),(0,3)),((62,1),(1,3)),((62,2),(2,3)),((62,3),(3,3)),((62,4),(4,4)),((62,5),(5,27)),((68,0),(0,3)),((68,1),(1,4)),((68,2),(2,3)),((73,0),(0,3)),((73,1),(1,3)),((73,2),(2,3)),((73,3),(3,3)),((79,0),(0,3)),((79,1),(1,3)),((79,2),(2,3)),((85,0),(0,3)),((85,1),(1,3)),((85,2),(2,3)),((114,0),(0,3)),((114,1),(1,3)),((114,2),(2,3)),((114,3),(3,3)),((114,4),(4,4)),((114,5),(5,27)),((129,0),(0,3)),((129,1),(1,3)),((129,2),(2,114)),((132,0),(0,3)),((132,1),(1,3)),((132,2),(2,62)),((134,0),(0,3)),((134,1),(1,3)),((134,2),(2,3)),((135,0),(0,3)),((135,1),(1,3)),((135,2),(2,3)),((142,0),(0,140)),((142,1),(1,3)),((154,0),(0,3)),((154,1),(1,3)),((154,2),(2,3)),((154,3),(3,3)),((170,0),(0,3)),((170,1),(1,4)),((170,2),(2,3)),((199,0),(0,3)),((199,1),(1,3)),((206,0),(0,3)),((206,1),(1,3)),((206,2),(2,3)),((213,0),(0,34)),((213,1),(8,73)),((225,0),(0,3)),((225,1),(1,3)),((235,0),(0,3)),((250,0),(0,248)),((279,0),(0,277)),((279,1),(1,3)),((279,3),(3,63)),((308,0),(0,306)),((378,0),(0,3)),((378,1),(1,3)),((378,2),(2,3)),((386,0),(0,29))],[(3,false),(4,false),(22,false),(24,true),(26,true),(27,false),(28,false),(29,false),(30,false),(32,true),(34,true),(35,false),(37,false),(39,true),(40,false),(41,false),(42,false),(44,true),(46,true),(62,true),(63,false),(68,true),(73,true),(74,false),(77,false),(79,true),(85,true),(91,false),(114,true),(129,true),(132,true),(134,true),(135,true),(140,false),(142,true),(150,false),(154,true),(170,true),(206,true),(213,true),(235,true),(236,false),(238,false),(239,false),(248,false),(250,true),(277,false),(279,true),(306,false),(308,true)],[(3,1),(4,1),(22,1),(24,2),(26,3),(27,1),(28,1),(29,1),(32,2),(34,8),(39,3),(40,1),(41,1),(44,2),(46,8),(62,6),(63,1),(68,3),(73,4),(79,3),(85,3),(114,6),(129,8),(132,8),(134,3),(135,3),(142,2),(150,1),(154,4),(170,3),(206,3),(213,12),(235,2),(236,1),(239,1),(250,1),(279,4),(308,1),(394,4)],[(3,.I 0),(4,.bool false),(24,.agg [.lst true (List.map b8.Pv []),.I 0]),(26,.agg [.lst true (List.map b8.Pv []),.I 0,.I 0]),(27,.lst true (List.map iF [])),(29,.lst true (List.map c9.Pv [])),(32,.agg [.lst true (List.map g8.Pv []),.I 0]),(34,.agg [.lst true (List.map b8.Pv []),.I 0,.I 0,.lst true (List.map iF []),.lst true (List.map g7.Pv []),.lst true (List.map c9.Pv []),.lst true (List.map g8.Pv []),.I 0]),(39,.agg [.lst true (List.map l7.Pv []),.I 0,.I 0]),(44,.agg [.lst true (List.map n0.Pv []),.I 0]),(46,.agg [.lst true (List.map l7.Pv []),.I 0,.I 0,.lst true (List.map iF []),.lst true (List.map l5.Pv []),.lst true (List.map j8.Pv []),.lst true (List.map n0.Pv []),.I 0]),(62,.agg [.I 0,.I 0,.I 0,.I 0,.bool false,.lst true (List.map iF [])]),(63,.I 0),(68,.agg [.I 0,.bool false,.I 0]),(73,.agg [.I 0,.I 0,.I 0,.I 0]),(79,.agg [.I 0,.I 0,.I 0]),(85,.agg [.I 0,.I 0,.I 0]),(114,.agg [.I 0,.I 0,.I 0,.I 0,.bool false,.lst true (List.map iF [])]),(129,.agg [.I 0,.I 0,.I 0,.I 0,.I 0,.I 0,.bool false,.lst true (List.map iF [])]),(132,.agg [.I 0,.I 0,.I 0,.I 0,.I 0,.I 0,.bool false,.lst true (List.map iF [])]),(134,.agg [.I 0,.I 0,.I 0]),(135,.agg [.I 0,.I 0,.I 0]),(142,.agg [.lst true (List.map x4.Pv []),.I 0]),(150,.abs c0I),(170,.agg [.I 0,.bool false,.I 0]),(206,.agg [.I 0,.I 0,.I 0]),(235,.agg [.I 0,.I 0]),(236,.lst true (List.map m7.Pv [])),(239,.abs c0I),(250,.agg [.nilfn]),(279,.agg [.nilfn,.I 0,.I 0,.I 0]),(308,.agg [.nilfn]),(394,.agg [.I 0,.I 0,.I 0,.I 0])]⟩
theorem Tb:TB.Ok Tryz.prog tb:=⟨by kernel_rfl,by kernel_rfl,by kernel_rfl,by kernel_rfl⟩
section
variable{X:Ctx}{ops:Array Oper}{K:Ctx→St→Prop}{i n:Nat}{l l':List Oper}{env env':Nat→PV}{σ σ':Nat→Option Row}{Q:PX→Ctx→St→Prop}{y:Code}{KD:St→Prop}{bar:List Nat}
theorem S1(n:Nat)(h:run tb n l env σ=some (l',env',σ'))(k:Sq X ops (i+n) l' K ⟨env',σ'⟩)(hb:TB.Ok X.P tb:=by exact Tb):Sq X ops i l K ⟨env,σ⟩:=seg hb n h k
theorem S2(n:Nat)(h:run tb n l env σ=some ([],env',σ'))(k:K X ⟨env',σ'⟩)(hb:TB.Ok X.P tb:=by exact Tb):Sq X ops i l K ⟨env,σ⟩:=seg hb n h (yN k)
theorem S3{id:Nat}(n:Nat)(h:run tb n l env σ=some (l',env',σ'))(k:Sq X l.toArray (0+n) l' (λX' s=>V1 X' y Q s) ⟨env',σ'⟩)(hd:a26 X.N l.toArray=true:=by kernel_rfl)(hb:TB.Ok X.P tb:=by exact Tb):V1 X (.seq (.region id l.toArray false) y) Q ⟨env,σ⟩:=sr hd (seg hb n h k)
theorem S4{id:Nat}(n:Nat)(h:run tb n l env σ=some ([],env',σ'))(k:V1 X y Q ⟨env',σ'⟩)(hd:a26 X.N l.toArray=true:=by kernel_rfl)(hb:TB.Ok X.P tb:=by exact Tb):V1 X (.seq (.region id l.toArray false) y) Q ⟨env,σ⟩:=sr hd (seg hb n h (yN k))
theorem S5{id:Nat}(n:Nat)(h:run tb n l env σ=some (l',env',σ'))(k:Sq X l.toArray (0+n) l' (Q .normal) ⟨env',σ'⟩)(hd:a26 X.N l.toArray=true:=by kernel_rfl)(hb:TB.Ok X.P tb:=by exact Tb):V1 X (.region id l.toArray false) Q ⟨env,σ⟩:=sr1 hd (seg hb n h k)
theorem S6{id:Nat}(n:Nat)(h:run tb n l env σ=some ([],env',σ'))(k:Q .normal X ⟨env',σ'⟩)(hd:a26 X.N l.toArray=true:=by kernel_rfl)(hb:TB.Ok X.P tb:=by exact Tb):V1 X (.region id l.toArray false) Q ⟨env,σ⟩:=sr1 hd (seg hb n h (yN k))
theorem S7(n:Nat)(h:c8O tb bar n i l env σ=some (l',env',σ'))(k:Ex X.P ops bar true (i+n) l' ⟨env',σ'⟩ KD)(hb:TB.Ok X.P tb:=by exact Tb):Ex X.P ops bar true i l ⟨env,σ⟩ KD:=dG hb n h k
theorem S8(n:Nat)(h:c8O tb bar n i l env σ=some ([],env',σ'))(k:KD ⟨env',σ'⟩)(hb:TB.Ok X.P tb:=by exact Tb):Ex X.P ops bar true i l ⟨env,σ⟩ KD:=dG hb n h k
end
theorem d1m:b7l Tryz.prog (Tryz.sortF_ren.f 6):=c4r Tryz.sortF
theorem b80{a0}:PO Tryz.prog 119 [a7.Pv a0] (a9J a0) λr=>.bool r:=by
 refine pO Tryz.func119 λr h _ _=>?_;refine S4 2 J ?_;refine jq h (λ_=>St.of [(1,.ptr 1 0 0)] [(1,vR (a7.Pv a0) 3)]) (λq6 h=>?_) λκ5 h=>?_
 ·refine S3 3 J ?_;refine nL J H7<|S2 2 J<|a8 ?_;cases h;exact f1
 ·refine S4 1 J ?_;refine g5<|lq h (λs8=>St.of [(1,.ptr 1 0 0),(3,.I s8)] [(1,vR (a7.Pv a0) 3)]) W λs8 x9 h hx8=>c5<|S3 4 J<|nL J H7<|S1 2 J<|c8 J (λhg=>mI J)<|c8 J (λhg=>m8 (ct hg) J J)<|y0 J (n9 J J J (λq=>K3 q))<|yN ?_;refine cN h (λhc h=>?_) λhc h=>?_
  ·refine b9 ?_;refine c5<|g5<|S3 4 J<|iL h J J H7 M8 λv10 _ h=>S1 3 J<|nL J j5<|S2 1 J ?_;refine cN h (λhc h=>?_) λhc h=>?_
   ·refine S4 1 J ?_;refine a8 ?_;have h:=xL hx8 h;cases h;exact f1
   ·refine b9 ?_;refine S6 3 J ?_;exact eL h W
  ·refine l6 ?_;refine c4<|c4<|j1 ?_;have h:=xL hx8 h;exact eJ h W

theorem b0M{a0}:PO Tryz.prog 49 [b7.Pv a0] (a7r a0) λr=>.bool r:=by
 refine pO Tryz.func49 λr h _ _=>?_;refine S4 2 J<|S3 2 J<|cA h b80 J J λv1 _ h=>S1 1 J<|c8 J (λhg=>oF J b0T J)<|c8 J (λhg=>oS (ct hg) J J a0a J)<|c8 J (λhg=>H9 (f:=iF) (ct hg) j5)<|c8 J (λhg=>m8 (ct hg) J J)<|y0 J (n9 J J J (λq=>K3 q))<|S1 1 J<|c8 J (λhg=>oF J a21 J)<|c8 J (λhg=>oS (ct hg) J J a7T J)<|c8 J (λhg=>H9 (f:=g7.Pv) (ct hg) G4)<|c8 J (λhg=>m8 (ct hg) J J)<|y0 J (n9 J J J (λq=>K3 q))<|S1 1 J<|c8 J (λhg=>oF J b9d J)<|c8 J (λhg=>oS (ct hg) J J b0i J)<|c8 J (λhg=>H9 (f:=c9.Pv) (ct hg) Q5)<|c8 J (λhg=>m8 (ct hg) J J)<|y0 J (n9 J J J (λq=>K3 q))<|S1 1 J<|c8 J (λhg=>oF J a7U J)<|c8 J (λhg=>oF (ct hg) b4z J)<|c8 J (λhg=>oS (ct hg) J J c0J J)<|c8 J (λhg=>H9 (f:=g8.Pv) (ct hg) a0d)<|c8 J (λhg=>m8 (ct hg) J J)<|y0 J (n9 J J J (λq=>K3 q))<|S2 1 J<|a8 ?_;cases h;exact f1

theorem c14{a0}:PO Tryz.prog 192 [k9.Pv a0] (b4r a0) λr=>B0.Pv r:=by
 refine pO Tryz.func192 λr h _ _=>?_;unfold b4r at h;refine S4 2 J<|S3 12 J<|y0 J (o9 (cs:=[.I a0.Serial,.I a0.Strong,.I a0.Weak,.I a0.Prog,.bool a0.Started,.L iF a0.Fields]) J b7s b7v J J J)<|S2 1 J<|a8 ?_;cases h;exact⟨J,[_],⟨oL J J J b4u a5u nl J,tr⟩,J,io⟩

theorem c13{a0}:PO Tryz.prog 115 [a7.Pv a0] (b4q a0) λr=>k7.Pv r:=by
 refine pO Tryz.func115 λr h _ _=>?_;refine S4 2 J<|sR<|y0 J (B5 J E5 E9)<|S2 1 J ?_;refine jq h (λj10=>St.of [(1,.ptr 1 0 0),(2,.ptr 2 0 0),(3,.sl 910003)] [(910003,⟨List.map l7.Pv j10,(List.map l7.Pv j10).length,true,8,true⟩),(2,vR (.agg [.nl,.I 0,.I 0]) 3),(1,vR (a7.Pv a0) 3)]) (λj10 h=>?_) λκ9 h=>?_
 ·refine S3 6 J ?_;refine y0 J (o9 (cs:=[.sl 910003,.I a0.S.Last,.I a0.Serial]) J c0M c0P J J J)<|S2 1 J<|a8 ?_;cases h;exact⟨J,[_],⟨oL J J J a0b Y4 nl J,tr⟩,J,io⟩
 ·refine S4 1 J ?_;refine g5<|lq h (λq=>St.of [(1,.ptr 1 0 0),(2,.ptr 2 0 0),(3,.sl 910003),(4,.I q.1)] [(2,vR (.agg [.nl,.I 0,.I 0]) 3),(1,vR (a7.Pv a0) 3),(910003,⟨List.map l7.Pv q.2,(List.map l7.Pv q.2).length,true,8,true⟩)]) (Wk.trans (G1 (t:=3) (l:=920003) (z:=8) J J) (WP (λl=>if l=910003 then 920003 else l))) λq15 x14 h hx10=>?_
  obtain⟨s12,s13⟩:=q15;refine c5<|S3 4 J<|nL J H7<|S2 1 J ?_;refine cN h (λhc h=>?_) λhc h=>?_
  ·refine b9 ?_;refine c5<|g5<|S3 4 J<|iL h J J H7 M8 λv16 _ h=>S2 3 J<|a2w [] p6 (by kernel_rfl) (by kernel_rfl)<|S7 7 J<|u5 h λv17 hv12 h=>d2f J (y8 J c14 J hv12) J<|d7 J (λ_ hN=>o9 (cs:=[.I v16.State,.I v16.Gen,.I v17.Serial,.I v17.Strong,.I v17.Weak,.I v17.Prog,.bool v17.Started,.L iF v17.Fields]) J c2m a6F J J J) J<|d1n J (M3 (f:=l7.Pv) (l:=[(⟨v16.State,v16.Gen,v17⟩:l7)]) J E5 E9 a6F J J nl J J) J<|u5 h λv18 hv13 h=>d3a J (G8 (f:=l7.Pv) hv13 J J J J J J (.inl ⟨_,J,J⟩) E5 E9 b7n a6F J (λ_=>J)) J J J J J<|S8 1 J<|S6 3 J ?_
   exact eL h (Wk.trans (n8 _ [31]) (WP (λl=>if l=910003 then 31 else l)))
  ·refine l6 ?_;refine c4<|c4<|j1 ?_;have h:=xL hx10 h;exact eJ h (Wk.trans (n8 _ [910003]) W)

theorem b8Z{a0}:PO Tryz.prog 116 [.L g7.Pv a0] (a9I a0) λr=>.L l5.Pv r:=by
 refine pO Tryz.func116 λr h _ _=>?_;refine S4 1 J<|sR<|y0 J (B5 J J9 M9)<|S2 1 J ?_;refine jq h (λj9=>St.of [(3,.sl 910003)] [(910003,⟨List.map l5.Pv j9,(List.map l5.Pv j9).length,true,3,true⟩)]) (λj9 h=>?_) λκ8 h=>?_
 ·refine S4 2 J ?_;refine a8 ?_;cases h;exact f1
 ·refine S4 1 J ?_;refine g5<|lq h (λq=>St.of [(0,.L g7.Pv a0),(3,.sl 910003),(4,.I q.1)] [(910003,⟨List.map l5.Pv q.2,(List.map l5.Pv q.2).length,true,3,true⟩)]) (Wk.trans (G1 (t:=3) (l:=920003) (z:=3) J J) (WP (λl=>if l=910003 then 920003 else l))) λq14 x13 h hx9=>?_
  obtain⟨s11,s12⟩:=q14;refine c5<|S3 2 J<|nL J G4<|S2 1 J ?_;refine cN h (λhc h=>?_) λhc h=>?_
  ·refine b9 ?_;refine c5<|g5<|S5 3 J<|iL h J J G4 T7 λv15 _ h=>S1 1 J<|y0 J (M3 (f:=l5.Pv) (l:=[(⟨v15.Target,v15.Intact,v15.Call⟩:l5)]) J J9 M9 a8Z J J nl J J)<|u5 h λv16 hv11 h=>J8 J (G8 (f:=l5.Pv) hv11 J J J J J J (.inl ⟨_,J,J⟩) J9 M9 b7o a8Z J (λ_=>J)) J J J<|S2 1 J<|S6 3 J ?_;exact eL h (Wk.trans (n8 _ [18]) (WP (λl=>if l=910003 then 18 else l)))
  ·refine l6 ?_;refine c4<|c4<|j1 ?_;have h:=xL hx9 h;exact eJ h (Wk.trans (n8 _ [910003]) W)

theorem c15{a0}:PO Tryz.prog 117 [.L c9.Pv a0] (b4s a0) λr=>.L j8.Pv r:=by
 refine pO Tryz.func117 λr h _ _=>?_;refine S4 1 J<|sR<|y0 J (B5 J O6 Q1)<|S2 1 J ?_;refine jq h (λj9=>St.of [(3,.sl 910003)] [(910003,⟨List.map j8.Pv j9,(List.map j8.Pv j9).length,true,3,true⟩)]) (λj9 h=>?_) λκ8 h=>?_
 ·refine S4 2 J ?_;refine a8 ?_;cases h;exact f1
 ·refine S4 1 J ?_;refine g5<|lq h (λq=>St.of [(0,.L c9.Pv a0),(3,.sl 910003),(4,.I q.1)] [(910003,⟨List.map j8.Pv q.2,(List.map j8.Pv q.2).length,true,3,true⟩)]) (Wk.trans (G1 (t:=3) (l:=920003) (z:=3) J J) (WP (λl=>if l=910003 then 920003 else l))) λq14 x13 h hx9=>?_
  obtain⟨s11,s12⟩:=q14;refine c5<|S3 2 J<|nL J Q5<|S2 1 J ?_;refine cN h (λhc h=>?_) λhc h=>?_
  ·refine b9 ?_;refine c5<|g5<|S5 3 J<|iL h J J Q5 V6 λv15 _ h=>S1 1 J<|y0 J (M3 (f:=j8.Pv) (l:=[(⟨v15.State,v15.Key,v15.Val⟩:j8)]) J O6 Q1 a8X J J nl J J)<|u5 h λv16 hv11 h=>J8 J (G8 (f:=j8.Pv) hv11 J J J J J J (.inl ⟨_,J,J⟩) O6 Q1 c2d a8X J (λ_=>J)) J J J<|S2 1 J<|S6 3 J ?_;exact eL h (Wk.trans (n8 _ [18]) (WP (λl=>if l=910003 then 18 else l)))
  ·refine l6 ?_;refine c4<|c4<|j1 ?_;have h:=xL hx9 h;exact eJ h (Wk.trans (n8 _ [910003]) W)

theorem b82{a0}:PO Tryz.prog 118 [g6.Pv a0] (a9L a0) λr=>u9.Pv r:=by
 refine pO Tryz.func118 λr h _ _=>?_;refine S4 2 J<|sR<|y0 J (B5 J I3 H2)<|S2 1 J ?_;refine jq h (λj9=>St.of [(1,.ptr 1 0 0),(2,.ptr 2 0 0),(3,.sl 910003)] [(910003,⟨List.map n0.Pv j9,(List.map n0.Pv j9).length,true,3,true⟩),(2,vR (.agg [.nl,.I 0]) 2),(1,vR (g6.Pv a0) 2)]) (λj9 h=>?_) λκ8 h=>?_
 ·refine S3 3 J ?_;refine y0 J (o9 (cs:=[.sl 910003,.I a0.Cap]) J c0N c0Q J J J)<|S2 1 J<|a8 ?_;cases h;exact⟨J,[_],⟨oL J J J a6A a3p nl J,tr⟩,J,io⟩
 ·refine S4 1 J ?_;refine g5<|lq h (λq=>St.of [(1,.ptr 1 0 0),(2,.ptr 2 0 0),(3,.sl 910003),(4,.I q.1)] [(2,vR (.agg [.nl,.I 0]) 2),(1,vR (g6.Pv a0) 2),(910003,⟨List.map n0.Pv q.2,(List.map n0.Pv q.2).length,true,3,true⟩)]) (Wk.trans (G1 (t:=3) (l:=920003) (z:=3) J J) (WP (λl=>if l=910003 then 920003 else l))) λq14 x13 h hx9=>?_
  obtain⟨s11,s12⟩:=q14;refine c5<|S3 3 J<|nL J a0d<|S2 1 J ?_;refine cN h (λhc h=>?_) λhc h=>?_
  ·refine b9 ?_;refine c5<|g5<|S5 4 J<|iL h J J a0d I4 λv15 _ h=>S1 1 J<|y0 J (M3 (f:=n0.Pv) (l:=[(⟨v15.Kind,v15.At,v15.Prog⟩:n0)]) J I3 H2 a6G J J nl J J)<|u5 h λv16 hv11 h=>J8 J (G8 (f:=n0.Pv) hv11 J J J J J J (.inl ⟨_,J,J⟩) I3 H2 c0L a6G J (λ_=>J)) J J J<|S2 1 J<|S6 3 J ?_;exact eL h (Wk.trans (n8 _ [20]) (WP (λl=>if l=910003 then 20 else l)))
  ·refine l6 ?_;refine c4<|c4<|j1 ?_;have h:=xL hx9 h;exact eJ h (Wk.trans (n8 _ [910003]) W)

theorem a0D{a0}:PO Tryz.prog 48 [b7.Pv a0] (a0C a0) λr=>c7.Pv r:=by
 refine pO Tryz.func48 λr h _ _=>?_;unfold a0C at h;refine S4 2 J<|dr [] p6 (by kernel_rfl) (by kernel_rfl)<|S7 2 J<|u5 h λv1 hv1 h=>d2f J (y8 J c13 J hv1) J<|S7 4 J<|u5 h λv2 hv2 h=>d2f J (y8 J b8Z J hv2) J<|S7 2 J<|u5 h λv3 hv3 h=>d2f J (y8 J c15 J hv3) J<|S7 2 J<|u5 h λv4 hv4 h=>d2f J (y8 J b82 J hv4) J<|d7 J (λ_ hN=>o9 (cs:=[.L l7.Pv v1.Cells,.I v1.Last,.I v1.Serial,.L iF a0.Roots,.L l5.Pv v2,.L j8.Pv v3,.L n0.Pv v4.L,.I v4.Cap]) J c9S c9W J J J) J<|C9 (x':=.agg [.L l7.Pv v1.Cells,.I v1.Last,.I v1.Serial,.L iF a0.Roots,.L l5.Pv v2,.L j8.Pv v3,.L n0.Pv v4.L,.I v4.Cap]) (cl':=true) J J (.inr J) u6<|N2<|a8 ?_
 cases h;exact⟨J,[_],⟨oL J J J y7 u6 nl J,tr⟩,J,io⟩

theorem L7{a0}:PO Tryz.prog 95 [k7.Pv a0] (N5 a0) λr=>x8.Pv r:=by
 refine pO Tryz.func95 λr h _ _=>?_;refine S4 2 J<|S3 2 J<|y0 J (o9 (cs:=[.nl,.I a0.Last]) J c2n c2s J J J)<|S1 1 J<|a8S (x':=.agg [.nl,.I a0.Last]) (cl':=true) J J (.inl J) a1G<|yN ?_;refine jq h (λj9=>St.of [(2,.ptr 2 0 0),(3,.ptr 3 0 0)] [(3,vS (.agg [.sl 910503,.I a0.Last]) 2),(910503,⟨List.map x4.Pv j9,(List.map x4.Pv j9).length,true,3,true⟩),(2,vR (.agg [.nl,.I 0]) 2)]) (λj9 h=>?_) λκ8 h=>?_
 ·refine S4 2 J ?_;refine a8 ?_;cases h;exact⟨J,[_],⟨oL J J J a3G a1G nl J,tr⟩,J,io⟩
 ·refine S4 1 J ?_;refine g5<|lq h (λq=>St.of [(1,.ptr 1 0 0),(2,.ptr 2 0 0),(3,.ptr 3 0 0),(4,.I q.1)] [(3,vS (.agg [.sl 910503,.I a0.Last]) 2),(2,vR (.agg [.nl,.I 0]) 2),(1,vR (k7.Pv a0) 3),(910503,⟨List.map x4.Pv q.2,(List.map x4.Pv q.2).length,true,3,true⟩)]) (Wk.trans (a9M (l0:=3) (j:=0) (l:=920503) (z:=3) J J J J J) (WP (λl=>if l=910503 then 920503 else l))) λq14 x13 h hx9=>?_
  obtain⟨s11,s12⟩:=q14;refine c5<|S3 3 J<|nL J E5<|S2 1 J ?_;refine cN h (λhc h=>?_) λhc h=>?_
  ·refine b9 ?_;refine c5<|g5<|a2w [] p6 (by kernel_rfl) (by kernel_rfl)<|S7 5 J<|u5 h λv15 hv10 h=>d0 J (x5 (f:=l7.Pv) (cs:=l7.Pc v15) hv10 J J E5 E9 J J) J<|S7 5 J<|d0 J (x5 (f:=l7.Pv) (cs:=l7.Pc v15) hv10 J J E5 E9 J J) J<|S7 3 J<|d7 J (λ_ hN=>o9 (cs:=[.I v15.State,.I v15.Gen,.I s11]) J b0Z a4Q J J J) J<|d1n J (M3 (f:=x4.Pv) (l:=[(⟨v15.State,v15.Gen,s11⟩:x4)]) J M7 Q8 a4Q J J nl J J) J<|u5 h λv16 hv11 h=>d3a J (G8 (f:=x4.Pv) hv11 J J J J J J (.inl ⟨_,J,J⟩) M7 Q8 c2f a4Q J (λ_=>J)) J J J J J<|S7 1 J<|C9 (x':=.agg [.sl 32,.I a0.Last]) (cl':=false) J J (.inl J) c7J<|N2<|S6 3 J ?_
   exact eL h (Wk.trans (n8 _ [32]) (WP (λl=>if l=910503 then 32 else l)))
  ·refine l6 ?_;refine c4<|c4<|j1 ?_;have h:=xL hx9 h;exact eJ h (Wk.trans (n8 _ [910503]) W)

theorem b8a{a0}:PO Tryz.prog 155 [x8.Pv a0] (a9g a0) λr=>.bool r:=by
 refine pO Tryz.func155 λr h _ _=>?_;refine S4 2 J<|c5<|S3 2 J<|nL J M7<|S1 2 J<|c8 J (λhg=>oF J b2z J)<|c8 J (λhg=>oS (ct hg) J J p8 J)<|c8 J (λhg=>m8 (ct hg) J J)<|y0 J (r8 J J J (λq=>K5 q))<|S1 1 J<|c8 J (λhg=>oF J b2z J)<|c8 J (λhg=>oS (ct hg) J J p8 J)<|c8 J (λhg=>m8 (ct hg) J J)<|y0 J (r8 J J J (λq=>K5 q))<|yN ?_;refine cN h (λhc h=>?_) λhc h=>?_
 ·refine S4 1 J ?_;refine a8 ?_;cases h;exact f1
 ·refine b9 ?_;refine jq h (λ_=>St.of [] []) (λq6 h=>?_) λκ5 h=>?_
  ·refine S4 1 J ?_;refine a8 ?_;cases h;exact f1
  ·refine S4 1 J ?_;refine g5<|lq h (λs8=>St.of [(1,.ptr 1 0 0),(3,.I s8)] [(1,vR (x8.Pv a0) 2)]) W λs8 x9 h hx8=>c5<|S3 3 J<|nL J M7<|S2 1 J ?_;refine cN h (λhc h=>?_) λhc h=>?_
   ·refine b9 ?_;refine c5<|g5<|S3 3 J<|iL h J J M7 Q8 λv10 _ h=>S2 3 J<|S3 4 J<|c8 J (λhg=>oF J b2B J)<|c8 J (λhg=>oS (ct hg) J J p8 J)<|c8 J (λhg=>m8 (ct hg) J J)<|y0 J (r8 J J J (λq=>K5 q))<|S1 1 J<|c8 J (λhg=>oF J b6K J)<|c8 J (λhg=>oS (ct hg) J J p8 J)<|c8 J (λhg=>m8 (ct hg) J J)<|y0 J (r8 J J J (λq=>K5 q))<|S1 1 J<|c8 J (λhg=>oF J b6K J)<|c8 J (λhg=>oS (ct hg) J J p8 J)<|c8 J (λhg=>oF J b2z J)<|c8 J (λhg=>oS (ct hg) J J p8 J)<|c8 J (λhg=>m8 (ct hg) (ct hg) J)<|y0 J (r8 J J J (λq=>K5 q))<|yN ?_;refine cN h (λhc h=>?_) λhc h=>?_
    ·refine S4 1 J ?_;refine a8 ?_;have h:=xL hx8 h;cases h;exact f1
    ·refine b9 ?_;refine S6 3 J ?_;exact eL h W
   ·refine l6 ?_;refine c4<|c4<|j1 ?_;have h:=xL hx8 h;exact eJ h W

theorem b1R{a0}:PO Tryz.prog 156 [l7.Pv a0] (a3X a0) λr=>.bool r:=by
 refine pO Tryz.func156 λr h _ _=>?_;unfold a3X at h;refine S4 2 J<|S3 4 J<|c8 J (λhg=>oF J b2y J)<|c8 J (λhg=>oS (ct hg) J J p8 J)<|c8 J (λhg=>m8 (ct hg) J J)<|y0 J (r8 J J J (λq=>K5 q))<|S2 1 J<|a8 ?_;cases h;exact f1

theorem b8c{a0}:PO Tryz.prog 80 [k7.Pv a0] (a9h a0) λr=>.bool r:=by
 refine pO Tryz.func80 λr h _ _=>?_;refine S4 2 J<|c5<|S3 1 J<|cF h L7 J J λv1 _ h=>cA h b8a J J λv2 _ h=>S1 2 J<|c8 J (λhg=>oF J b0U J)<|c8 J (λhg=>oS (ct hg) J J p8 J)<|c8 J (λhg=>m8 (ct hg) J J)<|y0 J (r8 J J J (λq=>K5 q))<|yN ?_;refine cN h (λhc h=>?_) λhc h=>?_
 ·refine S4 1 J ?_;refine a8 ?_;cases h;exact f1
 ·refine b9 ?_;refine jq h (λ_=>St.of [] []) (λq23 h=>?_) λκ22 h=>?_
  ·refine S4 1 J ?_;refine a8 ?_;cases h;exact f1
  ·refine S4 1 J ?_;refine g5<|lq h (λs25=>St.of [(1,.ptr 1 0 0),(3,.I s25)] [(1,vR (k7.Pv a0) 3)]) W λs25 x26 h hx24=>c5<|S3 3 J<|nL J E5<|S2 1 J ?_;refine cN h (λhc h=>?_) λhc h=>?_
   ·refine b9 ?_;refine jq h (λ_=>St.of [(1,.ptr 1 0 0),(3,.I s25)] [(1,vR (k7.Pv a0) 3)]) (λq35 h=>?_) λκ34 h=>?_
    ·refine S6 3 J ?_;exact eL h W
    ·refine g5 ?_;refine S3 3 J<|iL h J J E5 E9 λv36 _ h=>S2 3 J<|S4 4 J<|c5<|S3 1 J<|cA h b1R J J λv37 _ h=>S2 1 J ?_;refine cN h (λhc h=>?_) λhc h=>?_
     ·refine c5 ?_;refine S3 4 J<|c8 J (λhg=>oF J a7X J)<|c8 J (λhg=>oS (ct hg) J J p8 J)<|c8 J (λhg=>m8 (ct hg) J J)<|y0 J (r8 J J J (λq=>K5 q))<|S1 1 J<|c8 J (λhg=>oF J a5M J)<|c8 J (λhg=>oS (ct hg) J J p8 J)<|c8 J (λhg=>m8 (ct hg) J J)<|y0 J (r8 J J J (λq=>K5 q))<|S1 1 J<|c8 J (λhg=>oF J a5N J)<|c8 J (λhg=>oS (ct hg) J J p8 J)<|c8 J (λhg=>m8 (ct hg) J J)<|y0 J (r8 J J J (λq=>K5 q))<|S1 1 J<|c8 J (λhg=>oF J a7Y J)<|c8 J (λhg=>oS (ct hg) J J a20 J)<|y0 J (r8 J J J (λq=>K5 q))<|S1 1 J<|c8 J (λhg=>oF J a7Z J)<|c8 J (λhg=>oS (ct hg) J J a0a J)<|c8 J (λhg=>H9 (f:=iF) (ct hg) j5)<|c8 J (λhg=>m8 (ct hg) J J)<|y0 J (r8 J J J (λq=>K5 q))<|yN ?_;refine cN h (λhc h=>?_) λhc h=>?_
      ·refine S4 1 J ?_;refine a8 ?_;have h:=xL hx24 h;cases h;exact f1
      ·refine b9 ?_;refine l6<|c4<|j1 ?_;exact eJ h W
     ·refine b9 ?_;refine c5<|S3 4 J<|c8 J (λhg=>oF J a7W J)<|c8 J (λhg=>oS (ct hg) J J p8 J)<|c8 J (λhg=>oF J b0U J)<|c8 J (λhg=>oS (ct hg) J J p8 J)<|c8 J (λhg=>m8 (ct hg) (ct hg) J)<|y0 J (r8 J J J (λq=>K5 q))<|S1 1 J<|c8 J (λhg=>oF J a7X J)<|c8 J (λhg=>oS (ct hg) J J p8 J)<|c8 J (λhg=>m8 (ct hg) J J)<|y0 J (r8 J J J (λq=>K5 q))<|S1 1 J<|c8 J (λhg=>oF J a5M J)<|c8 J (λhg=>oS (ct hg) J J p8 J)<|c8 J (λhg=>m8 (ct hg) J J)<|y0 J (r8 J J J (λq=>K5 q))<|S1 1 J<|c8 J (λhg=>oF J a5N J)<|c8 J (λhg=>oS (ct hg) J J p8 J)<|c8 J (λhg=>m8 (ct hg) J J)<|y0 J (r8 J J J (λq=>K5 q))<|S1 1 J<|c8 J (λhg=>oF J a5N J)<|c8 J (λhg=>oS (ct hg) J J p8 J)<|c8 J (λhg=>m8 (ct hg) J J)<|y0 J (r8 J J J (λq=>K5 q))<|S1 1 J<|c8 J (λhg=>oF J a7Z J) ?_;refine c8 J (λhg=>oS (ct hg) J J a0a J)<|c8 J (λhg=>H9 (f:=iF) (ct hg) j5)<|c8 J (λhg=>m8 (ct hg) J J)<|y0 J (r8 J J J (λq=>K5 q))<|yN ?_;refine cN h (λhc h=>?_) λhc h=>?_
      ·refine S4 1 J ?_;refine a8 ?_;have h:=xL hx24 h;cases h;exact f1
      ·refine b9 ?_;refine S4 1 J<|g5<|lq h (λs39=>St.of [(1,.ptr 1 0 0),(3,.I s25),(5,.ptr 5 0 0),(6,.I s39)] [(5,vR (B0.Pv v36.Val) 6),(1,vR (k7.Pv a0) 3)]) W λs39 x40 h hx37=>c5<|S4 3 J ?_;refine cN h (λhc h=>?_) λhc h=>?_
       ·refine b9 ?_;refine c5<|g5<|dr [] p6 (by kernel_rfl) (by kernel_rfl)<|S7 3 J<|u5 h λv41 hv38 h=>d0 J (x5 (f:=l7.Pv) (cs:=l7.Pc v41) hv38 J J E5 E9 J J) J<|S7 1 J<|u5 h λv42 hv39 h=>d2 J (A0 J b1R J hv39) J<|S7 1 J<|s7 J (λhg _ hN=>oF J a1E J) J<|A5 J (λhg=>oS (ct hg) J J a6z J) J<|s7 J (λhg _ hN=>mI J) J<|A5 J (λhg=>x5 (f:=l7.Pv) (cs:=l7.Pc v41) hv38 (ct hg) (ct hg) E5 E9 J J) J<|s7 J (λhg _ hN=>A9 (ct hg) a1s J) J<|s7 J (λhg _ hN=>A9 (ct hg) a7W J) J<|A5 J (λhg=>F2 (ct hg) p8 J) J<|s7 J (λhg _ hN=>oF J a7W J) J<|A5 J (λhg=>oS (ct hg) J J p8 J) J<|s7 J (λhg _ hN=>m8 (ct hg) (ct hg) J) J<|d7 J (λ_ hN=>n9 J J J (λq=>K3 q)) J<|N2 ?_
        refine cN h (λhc h=>?_) λhc h=>?_
        ·refine S4 1 J ?_;refine a8 ?_;have h:=xL hx37 h;have h:=xL hx24 h;cases h;exact f1
        ·refine b9 ?_;refine S6 3 J ?_;exact eL h W
       ·refine l6 ?_;refine c4<|c4<|j1 ?_;have h:=xL hx37 h;exact eJ h W
   ·refine l6 ?_;refine c4<|c4<|j1 ?_;have h:=xL hx24 h;exact eJ h W

theorem a5e{a0 a1}:PO Tryz.prog 157 [.L j8.Pv a0,.I a1] (a08 a0 a1) λr=>.I r:=by
 refine pO Tryz.func157 λr h _ _=>?_;refine S4 1 J ?_;refine jq h (λ_=>St.of [] []) (λq6 h=>?_) λκ5 h=>?_
 ·refine S4 1 J ?_;refine a8 ?_;cases h;exact f1
 ·refine S4 1 J ?_;refine g5<|lq h (λs8=>St.of [(0,.L j8.Pv a0),(1,.I a1),(5,.I s8)] []) W λs8 x9 h hx8=>c5<|S3 2 J<|nL J O6<|S2 1 J ?_;refine cN h (λhc h=>?_) λhc h=>?_
  ·refine b9 ?_;refine c5<|g5<|S3 2 J<|iL h J J O6 Q1 λv10 hv9 h=>S1 4 J<|c8 J (λhg=>om (d:=.L j8.Pv a0) J)<|c8 J (λhg=>mI J)<|c8 J (λhg=>x5 (f:=j8.Pv) (cs:=j8.Pc v10) hv9 (ct hg) (ct hg) O6 Q1 J J)<|c8 J (λhg=>A9 (ct hg) b6I J)<|c8 J (λhg=>F2 (ct hg) p8 J)<|c8 J (λhg=>mI J)<|c8 J (λhg=>m8 (ct hg) (ct hg) J)<|y0 J (n9 J J J (λq=>K3 q))<|yN ?_;refine cN h (λhc h=>?_) λhc h=>?_
   ·refine S4 2 J ?_;refine a8 ?_;have h:=xL hx8 h;cases h;exact f1
   ·refine b9 ?_;refine S6 3 J ?_;exact eL h W
  ·refine l6 ?_;refine c4<|c4<|j1 ?_;have h:=xL hx8 h;exact eJ h W

theorem b3u{a0 a1}:PO Tryz.prog 158 [.I a0,.I a1] (b1T a0 a1) λr=>.I r:=by
 refine pO Tryz.func158 λr h _ _=>?_;refine S4 1 J<|c5<|S4 2 J ?_;refine cN h (λhc h=>?_) λhc h=>?_
 ·refine S4 1 J ?_;refine a8 ?_;cases h;exact f1
 ·refine b9 ?_;refine S3 4 J<|u5 h λv1 hv1 h=>y0 J (a56 J J hv1)<|S2 1 J<|c5<|S4 2 J ?_;refine cN h (λhc h=>?_) λhc h=>?_
  ·refine S6 4 J ?_;refine S4 2 J<|a8 ?_;cases h;exact f1
  ·refine b9 ?_;refine S4 2 J<|a8 ?_;cases h;exact f1

theorem b8f{a0}:PO Tryz.prog 81 [.L j8.Pv a0] (a9k a0) λr=>.bool r:=by
 refine pO Tryz.func81 λr h _ _=>?_;refine S4 1 J<|S3 1 J<|nL J O6<|S2 1 J<|c5<|S3 3 J<|c8 J (λhg=>mI J)<|c8 J (λhg=>m8 (ct hg) J J)<|y0 J (r8 J J J (λq=>K5 q))<|yN ?_;refine cN h (λhc h=>?_) λhc h=>?_
 ·refine S4 1 J ?_;refine a8 ?_;cases h;exact f1
 ·refine b9 ?_;refine jq h (λ_=>St.of [] []) (λq23 h=>?_) λκ22 h=>?_
  ·refine S4 1 J ?_;refine a8 ?_;cases h;exact f1
  ·refine S4 1 J ?_;refine g5<|lq h (λs25=>St.of [(0,.L j8.Pv a0),(3,.I (a0.length:Int)),(4,.I s25)] []) W λs25 x26 h hx24=>c5<|S4 3 J ?_;refine cN h (λhc h=>?_) λhc h=>?_
   ·refine b9 ?_;refine jq h (λ_=>St.of [(0,.L j8.Pv a0),(3,.I (a0.length:Int)),(4,.I s25)] []) (λq36 h=>?_) λκ35 h=>?_
    ·refine S6 3 J ?_;exact eL h W
    ·refine g5 ?_;refine S3 2 J<|iL h J J O6 Q1 λv37 _ h=>S2 3 J<|c5<|S3 4 J<|c8 J (λhg=>oF J b6H J)<|c8 J (λhg=>oS (ct hg) J J p8 J)<|c8 J (λhg=>m8 (ct hg) J J)<|y0 J (r8 J J J (λq=>K5 q))<|S1 1 J<|c8 J (λhg=>oF J b6H J)<|c8 J (λhg=>oS (ct hg) J J p8 J)<|c8 J (λhg=>m8 (ct hg) J J)<|c8 J (λhg=>om (d:=.bool (v37.State != 1)) (ct hg))<|c8 (w8 J J J) (λhg=>oF J b6I J)<|c8 (w8 J J J) (λhg=>oS (ct hg) J J p8 J)<|c8 (w8 J J J) (λhg=>m8 (ct hg) J J)<|c8 (w8 J J J) (λhg=>om (d:=.bool (v37.Key != 0)) (ct hg))<|c8 (w8 J J J) (λhg=>oF J c3x J)<|c8 (w8 J J J) (λhg=>oS (ct hg) J J p8 J)<|c8 (w8 J J J) (λhg=>m8 (ct hg) J J)<|c8 (w8 J J J) (λhg=>r8 (ct hg) J J (λq=>a3I hg (K5 q)))<|c8 J (λhg=>n9 (ct hg) J J (λq=>a3I hg (K3 q)))<|y0 J (r8 J J J (λq=>K5 q))<|yN ?_;refine cN h (λhc h=>?_) λhc h=>?_
     ·refine S4 1 J ?_;refine a8 ?_;have h:=xL hx24 h;cases h;exact f1
     ·refine b9 ?_;refine c5<|S4 3 J ?_;refine cN h (λhc h=>?_) λhc h=>?_
      ·refine l6 ?_;refine c4<|j1 ?_;exact eJ h W
      ·refine b9 ?_;refine c5<|S3 3 J<|cA h a5e J J λv38 _ h=>S2 2 J ?_;refine cN h (λhc h=>?_) λhc h=>?_
       ·refine S4 1 J ?_;refine a8 ?_;have h:=xL hx24 h;cases h;exact f1
       ·refine b9 ?_;refine S3 3 J<|cA h b3u J J λv39 _ h=>S2 1 J<|g5<|lq h (λs41=>St.of [(0,.L j8.Pv a0),(3,.I (a0.length:Int)),(4,.I s25),(6,.I s41)] []) W λs41 x42 h hx39=>c5<|S4 3 J ?_;refine cN h (λhc h=>?_) λhc h=>?_
        ·refine b9 ?_;refine c5<|g5<|S3 2 J<|iL h J J O6 Q1 λv43 _ h=>S2 3 J ?_;refine cN h (λhc h=>?_) λhc h=>?_
         ·refine S4 1 J ?_;refine a8 ?_;have h:=xL hx39 h;have h:=xL hx24 h;cases h;exact f1
         ·refine b9 ?_;refine S5 3 J<|u5 h λv44 hv41 h=>y0 J (a56 J J hv41)<|S2 1 J ?_;exact eL h W
        ·refine l6 ?_;refine c4<|c4<|j1 ?_;have h:=xL hx39 h;exact eJ h W
   ·refine l6 ?_;refine c4<|c4<|j1 ?_;have h:=xL hx24 h;exact eJ h W

theorem a5b{a0 a1}:PO Tryz.prog 92 [.I a0,.I a1] (a3e a0 a1) λr=>.I r:=by
 refine pO Tryz.func92 λr h _ _=>?_;refine S4 1 J<|c5<|S3 3 J<|c8 J (λhg=>mI J)<|c8 J (λhg=>m8 (ct hg) J J)<|y0 J (r8 J J J (λq=>K5 q))<|S1 1 J<|c8 J (λhg=>mI J)<|c8 J (λhg=>m8 (ct hg) J J)<|y0 J (r8 J J J (λq=>K5 q))<|S1 1 J<|c8 J (λhg=>mI J)<|c8 J (λhg=>m8 (ct hg) J J)<|y0 J (r8 J J J (λq=>K5 q))<|yN ?_;refine cN h (λhc h=>?_) λhc h=>?_
 ·refine S4 1 J ?_;refine a8 ?_;cases h;exact f1
 ·refine b9 ?_;refine S4 6 J<|a8 ?_;cases h;exact f1

theorem b1J{a0}:PO Tryz.prog 302 [.I a0] (a6a a0) λr=>.bool r:=by
 refine pO Tryz.func302 λr h _ _=>?_;refine S4 1 J<|c5<|S3 3 J<|c8 J (λhg=>mI J)<|c8 J (λhg=>m8 (ct hg) J J)<|y0 J (r8 J J J (λq=>K5 q))<|yN ?_;refine cN h (λhc h=>?_) λhc h=>?_
 ·refine S4 1 J ?_;refine a8 ?_;cases h;exact f1
 ·refine b9 ?_;refine S3 2 J<|u5 h λv1 hv1 h=>y0 J (a56 J J hv1)<|S1 2 J<|u5 h λv2 hv2 h=>y0 J (a56 J J hv2)<|cA h a5b J J λv3 _ h=>S2 3 J<|a8 ?_;cases h;exact f1

theorem a8p{a0}:PO Tryz.prog 235 [.I a0] (a59 a0) λr=>.I r:=by
 refine pO Tryz.func235 λr h _ _=>?_;refine S4 1 J<|c5<|S3 1 J<|cA h b1J J J λv1 _ h=>S2 1 J ?_;refine cN h (λhc h=>?_) λhc h=>?_
 ·refine S4 1 J ?_;refine a8 ?_;cases h;exact f1
 ·refine b9 ?_;refine S3 2 J<|u5 h λv2 hv2 h=>y0 J (a56 J J hv2)<|S2 1 J<|a8 ?_;cases h;exact f1

theorem c1A{a0}:PO Tryz.prog 236 [.I a0] (b4c a0) λr=>.I r:=by
 refine pO Tryz.func236 λr h _ _=>?_;refine S4 1 J<|c5<|S3 1 J<|cA h b1J J J λv1 _ h=>S2 1 J ?_;refine cN h (λhc h=>?_) λhc h=>?_
 ·refine S4 1 J ?_;refine a8 ?_;cases h;exact f1
 ·refine b9 ?_;refine S3 2 J<|u5 h λv2 hv2 h=>y0 J (a56 J J hv2)<|S2 1 J<|a8 ?_;cases h;exact f1

theorem V5{a0 a1}:PO Tryz.prog 161 [x8.Pv a0,.I a1] (O2 a0 a1) λr=>.tup [.I r.1,.I r.2]:=by
 refine pO Tryz.func161 λr h _ _=>?_;refine S4 3 J<|c5<|S4 2 J ?_;refine cN h (λhc h=>?_) λhc h=>?_
 ·refine S4 2 J ?_;refine a8 ?_;cases h;exact f2
 ·refine b9 ?_;refine S3 1 J<|cA h a8p J J λv1 _ h=>S2 1 J<|c5<|S3 3 J<|c8 J (λhg=>mI J)<|c8 J (λhg=>oF J c3z J)<|c8 J (λhg=>oS (ct hg) J J c7h J)<|c8 J (λhg=>H9 (f:=x4.Pv) (ct hg) M7)<|c8 J (λhg=>m8 (ct hg) (ct hg) J)<|y0 J (r8 J J J (λq=>K5 q))<|yN ?_;refine cN h (λhc h=>?_) λhc h=>?_
  ·refine S4 2 J ?_;refine a8 ?_;cases h;exact f2
  ·refine b9 ?_;refine S3 3 J<|iL h J J M7 Q8 λv2 _ h=>S2 3 J<|c5<|dr [] p6 (by kernel_rfl) (by kernel_rfl)<|S7 3 J<|u5 h λv3 hv3 h=>d2 J (A0 J c1A J hv3) J<|S7 2 J<|s7 J (λhg _ hN=>oF J b2B J) J<|A5 J (λhg=>oS (ct hg) J J p8 J) J<|s7 J (λhg _ hN=>m8 (ct hg) J J) J<|s7 J (λhg _ hN=>om (d:=.bool (v2.State != 1)) (ct hg)) J<|s7 (w8 J J J) (λhg _ hN=>oF J b2B J) J<|A5 (w8 J J J) (λhg=>oS (ct hg) J J p8 J) J<|s7 (w8 J J J) (λhg _ hN=>m8 (ct hg) J J) J<|s7 J (λhg _ hN=>n9 (ct hg) J J (λq=>a3I hg (K3 q))) J<|d7 J (λ_ hN=>r8 J J J (λq=>K5 q)) J<|N2 ?_
   refine cN h (λhc h=>?_) λhc h=>?_
   ·refine S4 2 J ?_;refine a8 ?_;cases h;exact f2
   ·refine b9 ?_;refine S4 3 J<|a8 ?_;cases h;exact f2

theorem b5o{a0 a1}:PO Tryz.prog 94 [x8.Pv a0,.I a1] (b1K a0 a1) λr=>.tup [.I r.1,.I r.2]:=by
 refine pO Tryz.func94 λr h _ _=>?_;refine S4 3 J<|S3 2 J<|cA h V5 J J λv1 _ h=>S2 5 J<|c5<|S4 2 J ?_;refine cN h (λhc h=>?_) λhc h=>?_
 ·refine S4 3 J ?_;refine a8 ?_;cases h;exact f2
 ·refine b9 ?_;refine c5<|S3 3 J<|iL h J J M7 Q8 λv2 hv2 h=>S2 3 J ?_;refine cN h (λhc h=>?_) λhc h=>?_
  ·refine S4 2 J ?_;refine a8 ?_;cases h;exact f2
  ·refine b9 ?_;refine S3 3 J<|y0 J (x5 (f:=x4.Pv) (cs:=x4.Pc v2) hv2 J J M7 Q8 J J)<|S2 4 J<|a8 ?_;cases h;exact f2

theorem E7{a0 a1}:PO Tryz.prog 37 [k7.Pv a0,.I a1] (F9 a0 a1) λr=>.tup [B0.Pv r.1,.I r.2]:=by
 refine pO Tryz.func37 λr h _ _=>?_;refine S4 3 J<|S3 1 J<|cF h L7 J J λv1 _ h=>S1 1 J<|cA h b5o J J λv2 _ h=>S2 5 J<|c5<|S4 2 J ?_;refine cN h (λhc h=>?_) λhc h=>?_
 ·refine sR ?_;refine y0 J (o9 (cs:=[.I 0,.I 0,.I 0,.I 0,.bool false,.nl]) J b7s b7v J J J)<|S1 1 J<|a8S (x':=.agg [.I 0,.I 0,.I 0,.I 0,.bool false,.nl]) (cl':=true) J J (.inl J) a5u<|S2 1 J<|a8 ?_;cases h;exact⟨J,[_,_],⟨oL J J J b4u a5u nl J,⟨J,tr⟩⟩,J,io⟩
 ·refine b9 ?_;refine S3 3 J<|iL h J J E5 E9 λv3 _ h=>S2 4 J<|a8 ?_;cases h;exact⟨J,[_,_],⟨oL J J J b4u a5u nl J,⟨J,tr⟩⟩,J,io⟩

theorem b8o{a0}:PO Tryz.prog 82 [c7.Pv a0] (a9s a0) λr=>.bool r:=by
 refine pO Tryz.func82 λr h _ _=>?_;refine S4 2 J ?_;refine jq h (λ_=>St.of [(1,.ptr 1 0 0)] [(1,vR (c7.Pv a0) 8)]) (λq31 h=>?_) λκ30 h=>?_
 ·refine S3 5 J ?_;refine c8 J (λhg=>oF J a5L J)<|c8 J (λhg=>oF (ct hg) a7V J)<|c8 J (λhg=>oS (ct hg) J J b2u J)<|c8 J (λhg=>H9 (f:=n0.Pv) (ct hg) I3)<|c8 J (λhg=>m8 (ct hg) J J)<|y0 J (n9 J J J (λq=>K3 q))<|S2 1 J<|a8 ?_;cases h;exact f1
 ·refine S4 1 J ?_;refine g5<|lq h (λs33=>St.of [(1,.ptr 1 0 0),(3,.I s33)] [(1,vR (c7.Pv a0) 8)]) W λs33 x34 h hx30=>c5<|S3 4 J<|nL J I3<|S2 1 J ?_;refine cN h (λhc h=>?_) λhc h=>?_
  ·refine b9 ?_;refine jq h (λ_=>St.of [(1,.ptr 1 0 0),(3,.I s33)] [(1,vR (c7.Pv a0) 8)]) (λq48 h=>?_) λκ47 h=>?_
   ·refine S6 3 J ?_;exact eL h W
   ·refine g5 ?_;refine S3 4 J<|iL h J J I3 H2 λv49 _ h=>S2 3 J<|c5<|S3 4 J<|c8 J (λhg=>oF J b9f J)<|c8 J (λhg=>oS (ct hg) J J p8 J)<|c8 J (λhg=>m8 (ct hg) J J)<|y0 J (n9 J J J (λq=>K3 q))<|S1 1 J<|c8 J (λhg=>oF J b9g J)<|c8 J (λhg=>oS (ct hg) J J p8 J)<|c8 J (λhg=>m8 (ct hg) J J)<|y0 J (r8 J J J (λq=>K5 q))<|S1 1 J<|c8 J (λhg=>oF J b9g J)<|c8 J (λhg=>oS (ct hg) J J p8 J)<|c8 J (λhg=>m8 (ct hg) J J)<|y0 J (r8 J J J (λq=>K5 q))<|yN ?_;refine cN h (λhc h=>?_) λhc h=>?_
    ·refine S4 1 J ?_;refine a8 ?_;have h:=xL hx30 h;cases h;exact f1
    ·refine b9 ?_;refine jq h (λ_=>St.of [(1,.ptr 1 0 0),(3,.I s33),(4,.ptr 4 0 0)] [(4,vR (n0.Pv v49) 3),(1,vR (c7.Pv a0) 8)]) (λq55 h=>?_) λκ54 h=>?_
     ·refine S3 4 J ?_;refine cF h E7 J J λv56 _ h=>S2 6 J<|S3 4 J<|c8 J (λhg=>mI J)<|c8 J (λhg=>m8 (ct hg) J J)<|c8 J (λhg=>om (d:=.bool (v56.2 != 0)) (ct hg))<|c8 (w8 J J J) (λhg=>oF J a7Y J)<|c8 (w8 J J J) (λhg=>oS (ct hg) J J a20 J)<|c8 (w8 J J J) (λhg=>U3 (ct hg) J)<|c8 J (λhg=>r8 (ct hg) J J (λq=>a3I hg (K5 q)))<|y0 J (n9 J J J (λq=>K3 q))<|S1 1 J<|c8 J (λhg=>oF J b9f J)<|c8 J (λhg=>oS (ct hg) J J p8 J)<|c8 J (λhg=>m8 (ct hg) J J)<|c8 J (λhg=>om (d:=.bool (v49.Kind==2)) (ct hg))<|c8 (w8 J J J) (λhg=>oF J a71 J)<|c8 (w8 J J J) (λhg=>oS (ct hg) J J p8 J)<|c8 (w8 J J J) (λhg=>m8 (ct hg) J J)<|c8 (w8 J J J) (λhg=>om (d:=.bool (decide (v49.At<0))) (ct hg))<|c8 (w8 J J J) (λhg=>oF J a71 J)<|c8 (w8 J J J) (λhg=>oS (ct hg) J J p8 J)<|c8 (w8 J J J) (λhg=>m8 (ct hg) J J)<|c8 (w8 J J J) (λhg=>r8 (ct hg) J J (λq=>a3I hg (K5 q)))<|c8 J (λhg=>n9 (ct hg) J J (λq=>a3I hg (K3 q)))<|y0 J (r8 J J J (λq=>K5 q))<|yN ?_;refine cN h (λhc h=>?_) λhc h=>?_
      ·refine S4 1 J ?_;refine a8 ?_;have h:=xL hx30 h;cases h;exact f1
      ·refine b9 ?_;exact eJ h W
     ·refine S4 1 J ?_;refine g5<|lq h (λs58=>St.of [(1,.ptr 1 0 0),(3,.I s33),(4,.ptr 4 0 0),(5,.I s58)] [(4,vR (n0.Pv v49) 3),(1,vR (c7.Pv a0) 8)]) W λs58 x59 h hx52=>c5<|S4 3 J ?_;refine cN h (λhc h=>?_) λhc h=>?_
      ·refine b9 ?_;refine c5<|g5<|dr [] p6 (by kernel_rfl) (by kernel_rfl)<|S7 4 J<|u5 h λv60 hv53 h=>d0 J (x5 (f:=n0.Pv) (cs:=n0.Pc v60) hv53 J J I3 H2 J J) J<|S7 6 J<|s7 J (λhg _ hN=>oF J a5L J) J<|s7 J (λhg _ hN=>oF (ct hg) a7V J) J<|A5 J (λhg=>oS (ct hg) J J b2u J) J<|s7 J (λhg _ hN=>mI J) J<|A5 J (λhg=>x5 (f:=n0.Pv) (cs:=n0.Pc v60) hv53 (ct hg) (ct hg) I3 H2 J J) J<|s7 J (λhg _ hN=>A9 (ct hg) a71 J) J<|A5 J (λhg=>F2 (ct hg) p8 J) J<|s7 J (λhg _ hN=>oF J a71 J) J<|A5 J (λhg=>oS (ct hg) J J p8 J) J<|s7 J (λhg _ hN=>m8 (ct hg) (ct hg) J) J<|d7 J (λ_ hN=>n9 J J J (λq=>K3 q)) J<|N2 ?_
       refine cN h (λhc h=>?_) λhc h=>?_
       ·refine S4 1 J ?_;refine a8 ?_;have h:=xL hx52 h;have h:=xL hx30 h;cases h;exact f1
       ·refine b9 ?_;refine S6 3 J ?_;exact eL h W
      ·refine l6 ?_;refine c4<|c4<|j1 ?_;have h:=xL hx52 h;exact eJ h W
  ·refine l6 ?_;refine c4<|c4<|j1 ?_;have h:=xL hx30 h;exact eJ h W

theorem W4{a0 a1}:PO Tryz.prog 153 [c7.Pv a0,.I a1] (X9 a0 a1) λr=>.bool r:=by
 refine pO Tryz.func153 λr h _ _=>?_;refine S4 2 J<|S3 3 J<|cF h E7 J J λv1 _ h=>S2 6 J<|S4 3 J<|a8 ?_;cases h;exact f1

theorem a0O{a0 a1}:PO Tryz.prog 159 [c7.Pv a0,.I a1] (Y0 a0 a1) λr=>.bool r:=by
 refine pO Tryz.func159 λr h _ _=>?_;unfold Y0 at h;refine S4 2 J<|S3 3 J<|c8 J (λhg=>oL J J J y7 u6 nl J)<|c8 J (λhg=>mI J)<|u5 h λv1 hv1 h=>c8 J (λhg=>A0 J W4 (w7 (ct hg) (w7 (ct hg) J)) (B6 hv1 hg))<|y0 J (r8 J J J (λq=>K5 q))<|S2 1 J<|a8 ?_;cases h;exact f1

theorem b6p{a0 a1}:PO Tryz.prog 93 [k7.Pv a0,.L iF a1] (a4o a0 a1) λr=>.L iF r:=by
 refine pO Tryz.func93 λr h _ _=>?_;unfold a4o at h;refine S4 2 J<|sR<|y0 J (B5 J j5 n7)<|S1 1 J<|u5 h λv1 hv1 h=>y1 J (a7C (f:=iF) hv1 J J (.inl ⟨_,J,J⟩) j5 n7 J6 B9 J (λ_=>J)) J<|S2 1 J ?_;refine jq h (λj36=>St.of [(5,.sl 15)] [(15,⟨List.map iF j36,0,true,1,true⟩)]) (λj36 h=>?_) λκ35 h=>?_
 ·refine S4 2 J ?_;refine a8 ?_;cases h;exact f1
 ·refine S4 1 J ?_;refine g5<|lq h (λq=>St.of [(2,.ptr 2 0 0),(5,.sl 15),(6,.I q.1)] [(15,⟨List.map iF q.2,0,true,1,true⟩),(2,vR (k7.Pv a0) 3)]) W λq41 x40 h hx31=>?_;obtain⟨s38,s39⟩:=q41;refine c5<|S3 2 J<|y0 J (b9N (f:=iF) J J J j5)<|S2 1 J ?_;refine cN h (λhc h=>?_) λhc h=>?_
  ·refine b9 ?_;refine jq h (λj56=>St.of [(2,.ptr 2 0 0),(5,.sl 15),(6,.I s38)] [(15,⟨List.map iF j56,0,true,1,true⟩),(2,vR (k7.Pv a0) 3)]) (λj56 h=>?_) λκ55 h=>?_
   ·refine S6 3 J ?_;exact eL h W
   ·refine g5 ?_;refine S4 2 J<|g5<|lq h (λq=>St.of [(2,.ptr 2 0 0),(5,.sl 15),(6,.I s38),(7,.I q.1)] [(15,⟨List.map iF q.2,0,true,1,true⟩),(2,vR (k7.Pv a0) 3)]) W λq61 x60 h hx46=>?_;obtain⟨s58,s59⟩:=q61;refine c5<|S4 2 J ?_;refine cN h (λhc h=>?_) λhc h=>?_
    ·refine b9 ?_;refine c5<|g5<|dr [] p6 (by kernel_rfl) (by kernel_rfl)<|S7 1 J<|u5 h λv62 hv47 h=>d2f J (y8 J L7 J hv47) J<|S7 3 J<|u5 h λv63 hv48 h=>d0 J (a0W (f:=iF) hv48 J J J J j5 n7 J) J<|d0 J (b5d (f:=iF) hv48 J J J p8 J) J<|u5 h λv64 hv49 h=>d2 J (A0 J V5 J hv49) J<|S8 5 J<|dr [] p6 (by kernel_rfl) (by kernel_rfl)<|S7 1 J<|d2f J (y8 J L7 J hv47) J<|S7 2 J<|u5 h λv65 hv50 h=>d0 J (a0W (f:=iF) hv50 J J J J j5 n7 J) J<|d0 J (b5d (f:=iF) hv50 J J J p8 J) J<|u5 h λv66 hv51 h=>d2 J (A0 J V5 J hv51) J<|S8 5 J<|c5<|dr [] p6 (by kernel_rfl) (by kernel_rfl)<|S7 3 J<|s7 J (λhg _ hN=>mI J) J<|s7 J (λhg _ hN=>m8 (ct hg) J J) J<|d7 J (λ_ hN=>r8 J J J (λq=>K5 q)) J<|S7 1 J<|s7 J (λhg _ hN=>oF J a1E J) J<|A5 J (λhg=>oS (ct hg) J J a6z J) J<|s7 J (λhg _ hN=>mI J) J<|u5 h λv67 hv52 h=>A5 J (λhg=>x5 (f:=l7.Pv) (cs:=l7.Pc v67) (B6 hv52 hg) (ct hg) (ct hg) E5 E9 J J) J<|s7 J (λhg _ hN=>A9 (ct hg) a1s J) J<|s7 J (λhg _ hN=>A9 (ct hg) a7W J) J<|A5 J (λhg=>F2 (ct hg) p8 J) J<|s7 J (λhg _ hN=>oF J a1E J) J<|A5 J (λhg=>oS (ct hg) J J a6z J) J<|s7 J (λhg _ hN=>mI J) J<|u5 h λv68 hv53 h=>A5 J (λhg=>x5 (f:=l7.Pv) (cs:=l7.Pc v68) (B6 hv53 hg) (ct hg) (ct hg) E5 E9 J J) J<|s7 J (λhg _ hN=>A9 (ct hg) a1s J) J<|s7 J (λhg _ hN=>A9 (ct hg) a7W J) J<|A5 J (λhg=>F2 (ct hg) p8 J) J<|s7 J (λhg _ hN=>m8 (ct hg) (ct hg) J) J<|d7 J (λ_ hN=>r8 J J J (λq=>K5 q)) J<|N2 ?_
     refine cN h (λhc h=>?_) λhc h=>?_
     ·refine l6 ?_;refine c4<|b03 (by decide)<|c4<|c4<|j1 ?_
      have h:=xL hx46 h;exact eJ h W
     ·refine b9 ?_;refine S3 2 J<|y0 J (a0W (f:=iF) hv50 J J J J j5 n7 J)<|y0 J (b5d (f:=iF) hv50 J J J p8 J)<|S2 1 J<|S3 5 J<|y0 J (a0W (f:=iF) hv48 J J J J j5 n7 J)<|y0 J (b5d (f:=iF) hv48 J J J p8 J)<|y0 J (a0W (f:=iF) hv50 J J J J j5 n7 J)<|a4G (f:=iF) (v:=v63) hv50 J J (.inl J) n7<|yN<|S5 4 J<|u5 h λv69 hv54 h=>y0 J (a0W (f:=iF) hv54 J J J J j5 n7 J)<|a4G (f:=iF) (v:=v65) hv54 J J (.inl J) n7<|yN<|S6 3 J ?_;exact eL h W
    ·refine l6 ?_;refine c4<|c4<|j1 ?_;have h:=xL hx46 h;exact eJ h W
  ·refine l6 ?_;refine c4<|c4<|j1 ?_;have h:=xL hx31 h;exact eJ h W

theorem a5d{a0}:PO Tryz.prog 36 [k7.Pv a0] (a4n a0) λr=>.L iF r:=by
 refine pO Tryz.func36 λr h _ _=>?_;refine S4 2 J<|sR<|y0 J (B5 J j5 n7)<|S2 1 J ?_;refine jq h (λj15=>St.of [(1,.ptr 1 0 0),(3,.sl 910003)] [(910003,⟨List.map iF j15,(List.map iF j15).length,true,1,true⟩),(1,vR (k7.Pv a0) 3)]) (λj15 h=>?_) λκ14 h=>?_
 ·refine S3 2 J ?_;obtain⟨v16,hv12,h⟩:=a74 h;refine ycL J (y8 J b6p J hv12) J<|S2 1 J<|a8 ?_;cases h;exact f1
 ·refine S4 1 J ?_;refine g5<|lq h (λq=>St.of [(1,.ptr 1 0 0),(3,.sl 910003),(4,.I q.1)] [(1,vR (k7.Pv a0) 3),(910003,⟨List.map iF q.2,(List.map iF q.2).length,true,1,true⟩)]) (Wk.trans (G1 (t:=3) (l:=920003) (z:=1) J J) (WP (λl=>if l=910003 then 920003 else l))) λq21 x20 h hx15=>?_
  obtain⟨s18,s19⟩:=q21;refine c5<|S3 3 J<|nL J E5<|S2 1 J ?_;refine cN h (λhc h=>?_) λhc h=>?_
  ·refine b9 ?_;refine jq h (λj26=>St.of [(1,.ptr 1 0 0),(3,.sl 30),(4,.I s18)] [(30,⟨List.map iF j26,(List.map iF j26).length,true,1,true⟩),(1,vR (k7.Pv a0) 3)]) (λj26 h=>?_) λκ25 h=>?_
   ·refine S6 3 J ?_;exact eL h (Wk.trans (n8 _ [30]) (WP (λl=>if l=910003 then 30 else l)))
   ·refine g5 ?_;refine S3 3 J<|iL h J J E5 E9 λv27 hv20 h=>S2 3 J ?_;refine cN h (λhc h=>?_) λhc h=>?_
    ·refine S5 5 J ?_;refine y0 J (x5 (f:=l7.Pv) (cs:=l7.Pc v27) hv20 J J E5 E9 J J)<|S1 2 J<|cA h a5b J J λv28 _ h=>y0 J (M3 (f:=iF) (l:=[v28]) J j5 n7 B9 J J nl J J)<|u5 h λv29 hv22 h=>J8 J (G8 (f:=iF) hv22 J J J J J J (.inl ⟨_,J,J⟩) j5 n7 J6 B9 J (λ_=>J)) J J J<|S2 1 J ?_;exact eJ h (Wk.trans (n8 _ [30]) W)
    ·refine b9 ?_;exact eJ h (Wk.trans (n8 _ [910003]) (WP (λl=>if l=30 then 910003 else l)))
  ·refine l6 ?_;refine c4<|c4<|j1 ?_;have h:=xL hx15 h;exact eJ h (Wk.trans (n8 _ [910003]) W)

theorem b93{a0}:PO Tryz.prog 233 [.L j8.Pv a0] (b1U a0) λr=>.L iF r:=by
 refine pO Tryz.func233 λr h _ _=>?_;refine S4 1 J<|sR<|y0 J (B5 J j5 n7)<|S2 1 J ?_;refine jq h (λj13=>St.of [(3,.sl 910003)] [(910003,⟨List.map iF j13,(List.map iF j13).length,true,1,true⟩)]) (λj13 h=>?_) λκ12 h=>?_
 ·refine S4 2 J ?_;refine a8 ?_;cases h;exact f1
 ·refine S4 1 J ?_;refine g5<|lq h (λq=>St.of [(0,.L j8.Pv a0),(3,.sl 910003),(4,.I q.1)] [(910003,⟨List.map iF q.2,(List.map iF q.2).length,true,1,true⟩)]) (Wk.trans (G1 (t:=3) (l:=920003) (z:=1) J J) (WP (λl=>if l=910003 then 920003 else l))) λq18 x17 h hx12=>?_
  obtain⟨s15,s16⟩:=q18;refine c5<|S3 2 J<|nL J O6<|S2 1 J ?_;refine cN h (λhc h=>?_) λhc h=>?_
  ·refine b9 ?_;refine jq h (λj22=>St.of [(0,.L j8.Pv a0),(3,.sl 25),(4,.I s15)] [(25,⟨List.map iF j22,(List.map iF j22).length,true,1,true⟩)]) (λj22 h=>?_) λκ21 h=>?_
   ·refine S6 3 J ?_;exact eL h (Wk.trans (n8 _ [25]) (WP (λl=>if l=910003 then 25 else l)))
   ·refine g5 ?_;refine S3 2 J<|iL h J J O6 Q1 λv23 hv16 h=>S2 3 J ?_;refine cN h (λhc h=>?_) λhc h=>?_
    ·refine S5 3 J ?_;refine y0 J (x5 (f:=j8.Pv) (cs:=j8.Pc v23) hv16 J J O6 Q1 J J)<|S1 2 J<|y0 J (M3 (f:=iF) (l:=[v23.Key]) J j5 n7 B9 J J nl J J)<|u5 h λv24 hv17 h=>J8 J (G8 (f:=iF) hv17 J J J J J J (.inl ⟨_,J,J⟩) j5 n7 J6 B9 J (λ_=>J)) J J J<|S2 1 J ?_;exact eJ h (Wk.trans (n8 _ [25]) W)
    ·refine b9 ?_;exact eJ h (Wk.trans (n8 _ [910003]) (WP (λl=>if l=25 then 910003 else l)))
  ·refine l6 ?_;refine c4<|c4<|j1 ?_;have h:=xL hx12 h;exact eJ h (Wk.trans (n8 _ [910003]) W)

theorem b0F{a0 a1}:PO Tryz.prog 234 [.L j8.Pv a0,.I a1] (a9j a0 a1) λr=>.tup [.I r.1,.I r.2]:=by
 refine pO Tryz.func234 λr h _ _=>?_;refine S4 2 J<|S3 2 J<|cA h a5e J J λv1 _ h=>S2 1 J<|c5<|S4 2 J ?_;refine cN h (λhc h=>?_) λhc h=>?_
 ·refine S4 2 J ?_;refine a8 ?_;cases h;exact f2
 ·refine b9 ?_;refine S3 2 J<|iL h J J O6 Q1 λv2 _ h=>S2 4 J<|a8 ?_;cases h;exact f2

theorem b1X{a0}:PO Tryz.prog 160 [.L j8.Pv a0] (a6e a0) λr=>.L D3.Pv r:=by
 refine pO Tryz.func160 λr h _ _=>?_;refine S4 1 J<|sR<|y0 J (B5 J a4O a8V)<|S2 1 J<|S3 1 J<|cF h b93 J J λv1 _ h=>S2 1 J ?_;refine jq h (λj11=>St.of [(3,.sl 910003)] [(910003,⟨List.map D3.Pv j11,(List.map D3.Pv j11).length,true,2,true⟩)]) (λj11 h=>?_) λκ10 h=>?_
 ·refine S4 2 J ?_;refine a8 ?_;cases h;exact f1
 ·refine S4 1 J ?_;refine g5<|lq h (λq=>St.of [(0,.L j8.Pv a0),(3,.sl 910003),(4,.L iF v1),(5,.I q.1)] [(910003,⟨List.map D3.Pv q.2,(List.map D3.Pv q.2).length,true,2,true⟩)]) (Wk.trans (G1 (t:=3) (l:=920003) (z:=2) J J) (WP (λl=>if l=910003 then 920003 else l))) λq16 x15 h hx11=>?_
  obtain⟨s13,s14⟩:=q16;refine c5<|S3 2 J<|nL J j5<|S2 1 J ?_;refine cN h (λhc h=>?_) λhc h=>?_
  ·refine b9 ?_;refine c5<|g5<|S3 3 J<|iL h J J j5 n7 λv17 hv12 h=>S1 1 J<|cA h b0F J J λv18 _ h=>S2 5 J<|S5 3 J<|y0 J (x5 (f:=iF) (cs:=[.I v17]) hv12 J J j5 n7 J J)<|S1 2 J<|y0 J (o9 (cs:=[.I v17,.I v18.1]) J c7A b7u J J J)<|y0 J (M3 (f:=D3.Pv) (l:=[(⟨v17,v18.1⟩:D3)]) J a4O a8V b7u J J nl J J)<|u5 h λv19 hv14 h=>J8 J (G8 (f:=D3.Pv) hv14 J J J J J J (.inl ⟨_,J,J⟩) a4O a8V c7l b7u J (λ_=>J)) J J J<|S2 1 J<|S6 3 J ?_;exact eL h (Wk.trans (n8 _ [34]) (WP (λl=>if l=910003 then 34 else l)))
  ·refine l6 ?_;refine c4<|c4<|j1 ?_;have h:=xL hx11 h;exact eJ h (Wk.trans (n8 _ [910003]) W)

theorem b8n{a0}:PO Tryz.prog 83 [c7.Pv a0] (a9r a0) λr=>.bool r:=by
 refine pO Tryz.func83 λr h _ _=>?_;refine S4 2 J ?_;refine jq h (λ_=>St.of [(1,.ptr 1 0 0)] [(1,vR (c7.Pv a0) 8)]) (λq7 h=>?_) λκ6 h=>?_
 ·refine S3 2 J ?_;refine cF h a5d J J λv8 _ h=>S2 1 J ?_;refine jq h (λ_=>St.of [(1,.ptr 1 0 0)] [(1,vR (c7.Pv a0) 8)]) (λq29 h=>?_) λκ28 h=>?_
  ·refine S3 2 J ?_;refine cF h b1X J J λv30 _ h=>S2 1 J ?_;refine jq h (λ_=>St.of [] []) (λq38 h=>?_) λκ37 h=>?_
   ·refine S4 1 J ?_;refine a8 ?_;cases h;exact f1
   ·refine S4 1 J ?_;refine g5<|lq h (λs40=>St.of [(1,.ptr 1 0 0),(9,.L D3.Pv v30),(10,.I s40)] [(1,vR (c7.Pv a0) 8)]) W λs40 x41 h hx37=>c5<|S3 2 J<|nL J a4O<|S2 1 J ?_;refine cN h (λhc h=>?_) λhc h=>?_
    ·refine b9 ?_;refine c5<|g5<|dr [] p6 (by kernel_rfl) (by kernel_rfl)<|S7 3 J<|u5 h λv42 hv38 h=>d0 J (x5 (f:=D3.Pv) (cs:=D3.Pc v42) hv38 J J a4O a8V J J) J<|S7 2 J<|u5 h λv43 hv39 h=>d2 J (A0 J W4 J hv39) J<|S7 2 J<|A5 J (λhg=>oL J J J y7 u6 nl J) J<|s7 J (λhg _ hN=>om (d:=.L D3.Pv v30) J) J<|s7 J (λhg _ hN=>mI J) J<|A5 J (λhg=>x5 (f:=D3.Pv) (cs:=D3.Pc v42) hv38 (ct hg) (ct hg) a4O a8V J J) J<|s7 J (λhg _ hN=>A9 (ct hg) c3D J) J<|A5 J (λhg=>F2 (ct hg) p8 J) J<|u5 h λv44 hv40 h=>a24 J (λhg=>A0 J W4 (w7 (ct hg) (w7 (ct hg) J)) (B6 hv40 hg)) J<|s7 J (λhg _ hN=>U3 (ct hg) J) J<|d7 J (λ_ hN=>r8 J J J (λq=>K5 q)) J<|N2 ?_
     refine cN h (λhc h=>?_) λhc h=>?_
     ·refine S4 1 J ?_;refine a8 ?_;have h:=xL hx37 h;cases h;exact f1
     ·refine b9 ?_;refine S6 3 J ?_;exact eL h W
    ·refine l6 ?_;refine c4<|c4<|j1 ?_;have h:=xL hx37 h;exact eJ h W
  ·refine S4 1 J ?_;refine g5<|lq h (λs46=>St.of [(1,.ptr 1 0 0),(4,.L iF v8),(5,.I s46)] [(1,vR (c7.Pv a0) 8)]) W λs46 x47 h hx43=>c5<|S3 2 J<|nL J j5<|S2 1 J ?_;refine cN h (λhc h=>?_) λhc h=>?_
   ·refine b9 ?_;refine jq h (λ_=>St.of [(1,.ptr 1 0 0),(4,.L iF v8),(5,.I s46)] [(1,vR (c7.Pv a0) 8)]) (λq56 h=>?_) λκ55 h=>?_
    ·refine S6 3 J ?_;exact eL h W
    ·refine g5 ?_;refine dr [] p6 (by kernel_rfl) (by kernel_rfl)<|S7 4 J<|u5 h λv57 hv52 h=>d0 J (x5 (f:=iF) (cs:=[.I v57]) hv52 J J j5 n7 J J) J<|S7 1 J<|u5 h λv58 hv53 h=>d2f J (y8 J E7 J hv53) J<|S7 4 J<|C9 (x':=B0.Pv v58.1) (cl':=true) J J (.inr J) a5u<|S8 1 J<|S4 1 J<|g5<|lq h (λs60=>St.of [(1,.ptr 1 0 0),(4,.L iF v8),(5,.I s46),(6,.ptr 6 0 0),(8,.I s60)] [(6,vR (B0.Pv v58.1) 6),(1,vR (c7.Pv a0) 8)]) W λs60 x61 h hx56=>c5<|S3 3 J<|nL J j5<|S2 1 J ?_
     refine cN h (λhc h=>?_) λhc h=>?_
     ·refine b9 ?_;refine c5<|g5<|dr [] p6 (by kernel_rfl) (by kernel_rfl)<|S7 4 J<|u5 h λv62 hv57 h=>d0 J (x5 (f:=iF) (cs:=[.I v62]) hv57 J J j5 n7 J J) J<|S7 1 J<|u5 h λv63 hv58 h=>d2 J (A0 J a0O J hv58) J<|S8 1 J ?_
      refine cN h (λhc h=>?_) λhc h=>?_
      ·refine S4 1 J ?_;refine a8 ?_;have h:=xL hx56 h;have h:=xL hx43 h;cases h;exact f1
      ·refine b9 ?_;refine S6 3 J ?_;exact eL h W
     ·refine l6 ?_;refine c4<|c4<|j1 ?_;have h:=xL hx56 h;exact eJ h W
   ·refine l6 ?_;refine c4<|c4<|j1 ?_;have h:=xL hx43 h;exact eJ h W
 ·refine S4 1 J ?_;refine g5<|lq h (λs65=>St.of [(1,.ptr 1 0 0),(3,.I s65)] [(1,vR (c7.Pv a0) 8)]) W λs65 x66 h hx61=>c5<|S3 3 J<|nL J j5<|S2 1 J ?_;refine cN h (λhc h=>?_) λhc h=>?_
  ·refine b9 ?_;refine c5<|g5<|dr [] p6 (by kernel_rfl) (by kernel_rfl)<|S7 4 J<|u5 h λv67 hv62 h=>d0 J (x5 (f:=iF) (cs:=[.I v67]) hv62 J J j5 n7 J J) J<|S7 1 J<|u5 h λv68 hv63 h=>d2 J (A0 J a0O J hv63) J<|S8 1 J ?_
   refine cN h (λhc h=>?_) λhc h=>?_
   ·refine S4 1 J ?_;refine a8 ?_;have h:=xL hx61 h;cases h;exact f1
   ·refine b9 ?_;refine S6 3 J ?_;exact eL h W
  ·refine l6 ?_;refine c4<|c4<|j1 ?_;have h:=xL hx61 h;exact eJ h W

theorem b12{a0 a1}:PO Tryz.prog 162 [u9.Pv a0,.I a1] (a2A a0 a1) λr=>.bool r:=by
 refine pO Tryz.func162 λr h _ _=>?_;refine S4 2 J ?_;refine jq h (λ_=>St.of [] []) (λq6 h=>?_) λκ5 h=>?_
 ·refine S4 1 J ?_;refine a8 ?_;cases h;exact f1
 ·refine S4 1 J ?_;refine g5<|lq h (λs8=>St.of [(1,.I a1),(2,.ptr 2 0 0),(5,.I s8)] [(2,vR (u9.Pv a0) 2)]) W λs8 x9 h hx8=>c5<|S3 3 J<|nL J I3<|S2 1 J ?_;refine cN h (λhc h=>?_) λhc h=>?_
  ·refine b9 ?_;refine c5<|g5<|S3 3 J<|iL h J J I3 H2 λv10 hv9 h=>S1 4 J<|c8 J (λhg=>oF J a7V J)<|c8 J (λhg=>oS (ct hg) J J b2u J)<|c8 J (λhg=>mI J)<|c8 J (λhg=>x5 (f:=n0.Pv) (cs:=n0.Pc v10) hv9 (ct hg) (ct hg) I3 H2 J J)<|c8 J (λhg=>A9 (ct hg) a71 J)<|c8 J (λhg=>F2 (ct hg) p8 J)<|c8 J (λhg=>mI J)<|c8 J (λhg=>m8 (ct hg) (ct hg) J)<|y0 J (n9 J J J (λq=>K3 q))<|yN ?_;refine cN h (λhc h=>?_) λhc h=>?_
   ·refine S4 1 J ?_;refine a8 ?_;have h:=xL hx8 h;cases h;exact f1
   ·refine b9 ?_;refine S6 3 J ?_;exact eL h W
  ·refine l6 ?_;refine c4<|c4<|j1 ?_;have h:=xL hx8 h;exact eJ h W

theorem b8m{a0}:PO Tryz.prog 84 [c7.Pv a0] (a9q a0) λr=>.bool r:=by
 refine pO Tryz.func84 λr h _ _=>?_;refine S4 2 J ?_;refine jq h (λ_=>St.of [] []) (λq10 h=>?_) λκ9 h=>?_
 ·refine S4 1 J ?_;refine a8 ?_;cases h;exact f1
 ·refine S4 1 J ?_;refine g5<|lq h (λs12=>St.of [(1,.ptr 1 0 0),(3,.I s12)] [(1,vR (c7.Pv a0) 8)]) W λs12 x13 h hx12=>c5<|S3 3 J<|nL J J9<|S2 1 J ?_;refine cN h (λhc h=>?_) λhc h=>?_
  ·refine b9 ?_;refine c5<|g5<|S3 3 J<|iL h J J J9 M9 λv14 _ h=>S2 3 J<|dr [] p6 (by kernel_rfl) (by kernel_rfl)<|S7 2 J<|u5 h λv15 hv14 h=>d2f J (y8 J L7 J hv14) J<|S7 2 J<|u5 h λv16 hv15 h=>d2 J (A0 J V5 J hv15) J<|S8 5 J<|S3 4 J<|c8 J (λhg=>oF J c3C J)<|c8 J (λhg=>oS (ct hg) J J p8 J)<|c8 J (λhg=>m8 (ct hg) J J)<|y0 J (r8 J J J (λq=>K5 q))<|S1 1 J<|c8 J (λhg=>oF J a8U J)<|c8 J (λhg=>oS (ct hg) J J p8 J)<|c8 J (λhg=>m8 (ct hg) J J)<|c8 J (λhg=>om (d:=.bool (v14.Target==0)) (ct hg))<|c8 (w8 J J J) (λhg=>oF J b2A J)<|c8 (w8 J J J) (λhg=>oS (ct hg) J J a20 J)<|c8 J (λhg=>n9 (ct hg) J J (λq=>a3I hg (K3 q)))<|y0 J (r8 J J J (λq=>K5 q))<|S1 1 J<|c8 J (λhg=>oF J a8U J)<|c8 J (λhg=>oS (ct hg) J J p8 J)<|c8 J (λhg=>m8 (ct hg) J J)<|c8 J (λhg=>om (d:=.bool (v14.Target != 0)) (ct hg))<|c8 (w8 J J J) (λhg=>mI J)<|c8 (w8 J J J) (λhg=>m8 (ct hg) J J)<|c8 J (λhg=>n9 (ct hg) J J (λq=>a3I hg (K3 q)))<|y0 J (r8 J J J (λq=>K5 q))<|S1 1 J<|c8 J (λhg=>oF J b2A J)<|c8 J (λhg=>oS (ct hg) J J a20 J)<|c8 J (λhg=>om (d:=.bool v14.Intact) (ct hg))<|c8 (w8 J J J) (λhg=>oL J J J y7 u6 nl J) ?_
   refine c8 (w8 J J J) (λhg=>oF J a8U J)<|c8 (w8 J J J) (λhg=>oS (ct hg) J J p8 J)<|u5 h λv17 hv16 h=>c8 (w8 J J J) (λhg=>A0 J W4 (w7 (ct hg) (w7 (ct hg) J)) (B6 hv16 hg))<|c8 (w8 J J J) (λhg=>U3 (ct hg) J)<|c8 (w8 J J J) (λhg=>om (d:=.bool (!v17)) (ct hg))<|c8 (w8 J J J) (λhg=>oF J a5L J)<|c8 (w8 J J J) (λhg=>oL (ct hg) J J a6A a3p nl J)<|c8 (w8 J J J) (λhg=>mI J)<|u5 h λv18 hv17 h=>c8 (w8 J J J) (λhg=>A0 J b12 (w7 (ct hg) (w7 (ct hg) J)) (B6 hv17 hg))<|c8 (w8 J J J) (λhg=>r8 (ct hg) J J (λq=>a3I hg (K5 q)))<|c8 J (λhg=>n9 (ct hg) J J (λq=>a3I hg (K3 q)))<|y0 J (r8 J J J (λq=>K5 q))<|yN ?_;refine cN h (λhc h=>?_) λhc h=>?_
   ·refine S4 1 J ?_;refine a8 ?_;have h:=xL hx12 h;cases h;exact f1
   ·refine b9 ?_;refine S6 3 J ?_;exact eL h W
  ·refine l6 ?_;refine c4<|c4<|j1 ?_;have h:=xL hx12 h;exact eJ h W

theorem b6o{a0 a1}:PO Tryz.prog 163 [.I a0,.I a1] (b0E a0 a1) λr=>.I r:=by
 refine pO Tryz.func163 λr h _ _=>?_;refine S4 1 J<|S3 2 J<|cA h a5b J J λv1 _ h=>S2 1 J<|a8 ?_;cases h;exact f1

theorem b6q{a0 a1}:PO Tryz.prog 164 [.L l5.Pv a0,.I a1] (a67 a0 a1) λr=>.I r:=by
 refine pO Tryz.func164 λr h _ _=>?_;refine S4 1 J<|S4 1 J ?_;refine jq h (λj11=>St.of [(5,.I j11)] []) (λj11 h=>?_) λκ10 h=>?_
 ·refine S4 2 J ?_;refine a8 ?_;cases h;exact f1
 ·refine S4 1 J ?_;refine g5<|lq h (λq=>St.of [(0,.L l5.Pv a0),(1,.I a1),(5,.I q.1),(6,.I q.2)] []) W λq16 x15 h hx10=>?_;obtain⟨s13,s14⟩:=q16;refine c5<|S3 2 J<|nL J J9<|S2 1 J ?_;refine cN h (λhc h=>?_) λhc h=>?_
  ·refine b9 ?_;refine jq h (λj19=>St.of [(0,.L l5.Pv a0),(1,.I a1),(5,.I j19),(6,.I s14)] []) (λj19 h=>?_) λκ18 h=>?_
   ·refine S6 3 J ?_;exact eL h W
   ·refine g5 ?_;refine S3 2 J<|iL h J J J9 M9 λv20 _ h=>S1 5 J<|c8 J (λhg=>mI J)<|c8 J (λhg=>m8 (ct hg) J J)<|y0 J (n9 J J J (λq=>K3 q))<|yN ?_;refine cN h (λhc h=>?_) λhc h=>?_
    ·refine S6 3 J ?_;exact eJ h W
    ·refine b9 ?_;exact eJ h W
  ·refine l6 ?_;refine c4<|c4<|j1 ?_;have h:=xL hx10 h;exact eJ h W

theorem b8p{a0}:PO Tryz.prog 85 [c7.Pv a0] (a9t a0) λr=>.bool r:=by
 refine pO Tryz.func85 λr h _ _=>?_;refine S4 2 J ?_;refine jq h (λ_=>St.of [] []) (λq13 h=>?_) λκ12 h=>?_
 ·refine S4 1 J ?_;refine a8 ?_;cases h;exact f1
 ·refine S4 1 J ?_;refine g5<|lq h (λs15=>St.of [(1,.ptr 1 0 0),(3,.I s15)] [(1,vR (c7.Pv a0) 8)]) W λs15 x16 h hx14=>c5<|S3 4 J<|nL J E5<|S2 1 J ?_;refine cN h (λhc h=>?_) λhc h=>?_
  ·refine b9 ?_;refine jq h (λ_=>St.of [(1,.ptr 1 0 0),(3,.I s15)] [(1,vR (c7.Pv a0) 8)]) (λq21 h=>?_) λκ20 h=>?_
   ·refine S6 3 J ?_;exact eL h W
   ·refine g5 ?_;refine S3 4 J<|iL h J J E5 E9 λv22 _ h=>S2 3 J<|c5<|S3 4 J<|c8 J (λhg=>oF J b2y J)<|c8 J (λhg=>oS (ct hg) J J p8 J)<|c8 J (λhg=>m8 (ct hg) J J)<|y0 J (n9 J J J (λq=>K3 q))<|yN ?_;refine cN h (λhc h=>?_) λhc h=>?_
    ·refine l6 ?_;refine c4<|j1 ?_;exact eJ h W
    ·refine b9 ?_;refine S3 3 J<|cA h b6o J J λv23 _ h=>S2 1 J<|dr [] p6 (by kernel_rfl) (by kernel_rfl)<|S7 6 J<|u5 h λv24 hv21 h=>d2 J (A0 J b6q J hv21) J<|S7 2 J<|s7 J (λhg _ hN=>oF J b2y J) J<|A5 J (λhg=>oS (ct hg) J J p8 J) J<|s7 J (λhg _ hN=>m8 (ct hg) J J) J<|s7 J (λhg _ hN=>om (d:=.bool (v22.State==2)) (ct hg)) J<|s7 (w8 J J J) (λhg _ hN=>oF J a1s J) J<|s7 (w8 J J J) (λhg _ hN=>oF (ct hg) a5M J) J<|A5 (w8 J J J) (λhg=>oS (ct hg) J J p8 J) J<|s7 (w8 J J J) (λhg _ hN=>m8 (ct hg) J J) J<|s7 (w8 J J J) (λhg _ hN=>om (d:=.bool (decide (v22.Val.Weak<1))) (ct hg)) J<|s7 (w8 J J J) (λhg _ hN=>oF J a1s J) J<|s7 (w8 J J J) (λhg _ hN=>oF (ct hg) a7Z J) J<|A5 (w8 J J J) (λhg=>oS (ct hg) J J a0a J) J<|A5 (w8 J J J) (λhg=>H9 (f:=iF) (ct hg) j5) J<|s7 (w8 J J J) (λhg _ hN=>m8 (ct hg) J J) J<|s7 (w8 J J J) (λhg _ hN=>r8 (ct hg) J J (λq=>a3I hg (K5 q))) J<|s7 (w8 J J J) (λhg _ hN=>om (d:=.bool ((decide (v22.Val.Weak<1))||(decide ((v22.Val.Fields.length:Int) > 0)))) (ct hg)) J<|s7 (w8 J J J) (λhg _ hN=>oF J a1s J) J<|s7 (w8 J J J) (λhg _ hN=>oF (ct hg) a7X J) J<|A5 (w8 J J J) (λhg=>oS (ct hg) J J p8 J) J<|s7 (w8 J J J) (λhg _ hN=>m8 (ct hg) J J) J<|s7 (w8 J J J) (λhg _ hN=>r8 (ct hg) J J (λq=>a3I hg (K5 q))) J<|s7 J (λhg _ hN=>n9 (ct hg) J J (λq=>a3I hg (K3 q))) J<|d7 J (λ_ hN=>r8 J J J (λq=>K5 q)) J<|N2 ?_
     refine cN h (λhc h=>?_) λhc h=>?_
     ·refine S4 1 J ?_;refine a8 ?_;have h:=xL hx14 h;cases h;exact f1
     ·refine b9 ?_;exact eJ h W
  ·refine l6 ?_;refine c4<|c4<|j1 ?_;have h:=xL hx14 h;exact eJ h W

theorem b97{a0}:PO Tryz.prog 167 [u9.Pv a0] (a8u a0) λr=>.L iF r:=by
 refine pO Tryz.func167 λr h _ _=>?_;refine S4 2 J<|sR<|y0 J (B5 J j5 n7)<|S2 1 J ?_;refine jq h (λj13=>St.of [(3,.sl 910003)] [(910003,⟨List.map iF j13,(List.map iF j13).length,true,1,true⟩)]) (λj13 h=>?_) λκ12 h=>?_
 ·refine S4 2 J ?_;refine a8 ?_;cases h;exact f1
 ·refine S4 1 J ?_;refine g5<|lq h (λq=>St.of [(1,.ptr 1 0 0),(3,.sl 910003),(4,.I q.1)] [(1,vR (u9.Pv a0) 2),(910003,⟨List.map iF q.2,(List.map iF q.2).length,true,1,true⟩)]) (Wk.trans (G1 (t:=3) (l:=920003) (z:=1) J J) (WP (λl=>if l=910003 then 920003 else l))) λq18 x17 h hx12=>?_
  obtain⟨s15,s16⟩:=q18;refine c5<|S3 3 J<|nL J I3<|S2 1 J ?_;refine cN h (λhc h=>?_) λhc h=>?_
  ·refine b9 ?_;refine jq h (λj22=>St.of [(1,.ptr 1 0 0),(3,.sl 28),(4,.I s15)] [(28,⟨List.map iF j22,(List.map iF j22).length,true,1,true⟩),(1,vR (u9.Pv a0) 2)]) (λj22 h=>?_) λκ21 h=>?_
   ·refine S6 3 J ?_;exact eL h (Wk.trans (n8 _ [28]) (WP (λl=>if l=910003 then 28 else l)))
   ·refine g5 ?_;refine S3 3 J<|iL h J J I3 H2 λv23 hv16 h=>S2 3 J ?_;refine cN h (λhc h=>?_) λhc h=>?_
    ·refine S5 4 J ?_;refine y0 J (x5 (f:=n0.Pv) (cs:=n0.Pc v23) hv16 J J I3 H2 J J)<|S1 2 J<|y0 J (M3 (f:=iF) (l:=[v23.At]) J j5 n7 B9 J J nl J J)<|u5 h λv24 hv17 h=>J8 J (G8 (f:=iF) hv17 J J J J J J (.inl ⟨_,J,J⟩) j5 n7 J6 B9 J (λ_=>J)) J J J<|S2 1 J ?_;exact eJ h (Wk.trans (n8 _ [28]) W)
    ·refine b9 ?_;exact eJ h (Wk.trans (n8 _ [910003]) (WP (λl=>if l=28 then 910003 else l)))
  ·refine l6 ?_;refine c4<|c4<|j1 ?_;have h:=xL hx12 h;exact eJ h (Wk.trans (n8 _ [910003]) W)

theorem b8k{a0}:PO Tryz.prog 87 [c7.Pv a0] (a9o a0) λr=>.L iF r:=by
 refine pO Tryz.func87 λr h _ _=>?_;refine S4 2 J<|sR<|y0 J (B5 J j5 n7)<|S2 1 J ?_;refine jq h (λj13=>St.of [(1,.ptr 1 0 0),(3,.sl 910003)] [(910003,⟨List.map iF j13,(List.map iF j13).length,true,1,true⟩),(1,vR (c7.Pv a0) 8)]) (λj13 h=>?_) λκ12 h=>?_
 ·refine S3 3 J ?_;refine cF h b97 J J λv14 _ h=>u5 h λv15 hv11 h=>J8 J (G8 (f:=iF) hv11 J J J J J J (.inl ⟨_,J,J⟩) j5 n7 J6 B9 J (λ_=>J)) J J J<|S2 1 J<|a8 ?_;cases h;exact f1
 ·refine S4 1 J ?_;refine g5<|lq h (λq=>St.of [(1,.ptr 1 0 0),(3,.sl 910003),(4,.I q.1)] [(1,vR (c7.Pv a0) 8),(910003,⟨List.map iF q.2,(List.map iF q.2).length,true,1,true⟩)]) (Wk.trans (G1 (t:=3) (l:=920003) (z:=1) J J) (WP (λl=>if l=910003 then 920003 else l))) λq20 x19 h hx14=>?_
  obtain⟨s17,s18⟩:=q20;refine c5<|S3 3 J<|nL J j5<|S2 1 J ?_;refine cN h (λhc h=>?_) λhc h=>?_
  ·refine b9 ?_;refine jq h (λj24=>St.of [(1,.ptr 1 0 0),(3,.sl 26),(4,.I s17)] [(26,⟨List.map iF j24,(List.map iF j24).length,true,1,true⟩),(1,vR (c7.Pv a0) 8)]) (λj24 h=>?_) λκ23 h=>?_
   ·refine S6 3 J ?_;exact eL h (Wk.trans (n8 _ [26]) (WP (λl=>if l=910003 then 26 else l)))
   ·refine g5 ?_;refine S3 3 J<|iL h J J j5 n7 λv25 hv18 h=>S2 2 J ?_;refine cN h (λhc h=>?_) λhc h=>?_
    ·refine S5 4 J ?_;refine y0 J (x5 (f:=iF) (cs:=[.I v25]) hv18 J J j5 n7 J J)<|S1 1 J<|y0 J (M3 (f:=iF) (l:=[v25]) J j5 n7 B9 J J nl J J)<|u5 h λv26 hv19 h=>J8 J (G8 (f:=iF) hv19 J J J J J J (.inl ⟨_,J,J⟩) j5 n7 J6 B9 J (λ_=>J)) J J J<|S2 1 J ?_;exact eJ h (Wk.trans (n8 _ [26]) W)
    ·refine b9 ?_;exact eJ h (Wk.trans (n8 _ [910003]) (WP (λl=>if l=26 then 910003 else l)))
  ·refine l6 ?_;refine c4<|c4<|j1 ?_;have h:=xL hx14 h;exact eJ h (Wk.trans (n8 _ [910003]) W)

theorem a65{a0}:PO Tryz.prog 91 [.I a0] (a0N a0) λr=>.bool r:=by
 refine pO Tryz.func91 λr h _ _=>?_;unfold a0N at h;refine S4 1 J<|S4 3 J<|a8 ?_;cases h;exact f1

theorem b8i{a0 a1}:PO Tryz.prog 165 [k7.Pv a0,.I a1] (a9n a0 a1) λr=>.bool r:=by
 refine pO Tryz.func165 λr h _ _=>?_;refine S4 2 J<|S3 2 J<|cF h E7 J J λv1 _ h=>S2 6 J<|S3 2 J<|cA h a65 J J λv2 _ h=>S2 1 J<|a8 ?_;cases h;exact f1

theorem b1M{a0}:PO Tryz.prog 145 [.L iF a0] (a2x a0) λr=>.L iF r:=by
 refine pO Tryz.func145 λr h _ _=>?_;refine S4 1 J<|sR<|y0 J (B5 J j5 n7)<|S2 1 J ?_;refine jq h (λj13=>St.of [(3,.sl 910003)] [(910003,⟨List.map iF j13,(List.map iF j13).length,true,1,true⟩)]) (λj13 h=>?_) λκ12 h=>?_
 ·refine S4 2 J ?_;refine a8 ?_;cases h;exact f1
 ·refine S4 1 J ?_;refine g5<|lq h (λq=>St.of [(0,.L iF a0),(3,.sl 910003),(4,.I q.1)] [(910003,⟨List.map iF q.2,(List.map iF q.2).length,true,1,true⟩)]) (Wk.trans (G1 (t:=3) (l:=920003) (z:=1) J J) (WP (λl=>if l=910003 then 920003 else l))) λq18 x17 h hx12=>?_
  obtain⟨s15,s16⟩:=q18;refine c5<|S3 2 J<|nL J j5<|S2 1 J ?_;refine cN h (λhc h=>?_) λhc h=>?_
  ·refine b9 ?_;refine jq h (λj22=>St.of [(0,.L iF a0),(3,.sl 23),(4,.I s15)] [(23,⟨List.map iF j22,(List.map iF j22).length,true,1,true⟩)]) (λj22 h=>?_) λκ21 h=>?_
   ·refine S6 3 J ?_;exact eL h (Wk.trans (n8 _ [23]) (WP (λl=>if l=910003 then 23 else l)))
   ·refine g5 ?_;refine S3 2 J<|iL h J J j5 n7 λv23 hv16 h=>S2 2 J ?_;refine cN h (λhc h=>?_) λhc h=>?_
    ·refine S5 3 J ?_;refine y0 J (x5 (f:=iF) (cs:=[.I v23]) hv16 J J j5 n7 J J)<|S1 1 J<|y0 J (M3 (f:=iF) (l:=[v23]) J j5 n7 B9 J J nl J J)<|u5 h λv24 hv17 h=>J8 J (G8 (f:=iF) hv17 J J J J J J (.inl ⟨_,J,J⟩) j5 n7 J6 B9 J (λ_=>J)) J J J<|S2 1 J ?_;exact eJ h (Wk.trans (n8 _ [23]) W)
    ·refine b9 ?_;exact eJ h (Wk.trans (n8 _ [910003]) (WP (λl=>if l=23 then 910003 else l)))
  ·refine l6 ?_;refine c4<|c4<|j1 ?_;have h:=xL hx12 h;exact eJ h (Wk.trans (n8 _ [910003]) W)

theorem c1F{a0 a1}:PO Tryz.prog 239 [k7.Pv a0,.I a1] (b4f a0 a1) λr=>.L iF r:=by
 refine pO Tryz.func239 λr h _ _=>?_;refine S4 2 J<|S3 2 J<|cF h E7 J J λv1 _ h=>S2 6 J<|c5<|S4 2 J ?_;refine cN h (λhc h=>?_) λhc h=>?_
 ·refine S4 1 J ?_;refine a8 ?_;cases h;exact f1
 ·refine b9 ?_;refine S3 2 J<|cF h b1M J J λv2 _ h=>S2 1 J<|a8 ?_;cases h;exact f1

theorem a3M{a0 a1}:PO Tryz.prog 38 [.L iF a0,.I a1] (a1x a0 a1) λr=>.I r:=by
 refine pO Tryz.func38 λr h _ _=>?_;refine S4 1 J<|S4 1 J ?_;refine jq h (λj11=>St.of [(5,.I j11)] []) (λj11 h=>?_) λκ10 h=>?_
 ·refine S4 2 J ?_;refine a8 ?_;cases h;exact f1
 ·refine S4 1 J ?_;refine g5<|lq h (λq=>St.of [(0,.L iF a0),(1,.I a1),(5,.I q.1),(6,.I q.2)] []) W λq16 x15 h hx10=>?_;obtain⟨s13,s14⟩:=q16;refine c5<|S3 2 J<|nL J j5<|S2 1 J ?_;refine cN h (λhc h=>?_) λhc h=>?_
  ·refine b9 ?_;refine jq h (λj19=>St.of [(0,.L iF a0),(1,.I a1),(5,.I j19),(6,.I s14)] []) (λj19 h=>?_) λκ18 h=>?_
   ·refine S6 3 J ?_;exact eL h W
   ·refine g5 ?_;refine S3 2 J<|iL h J J j5 n7 λv20 _ h=>S1 4 J<|c8 J (λhg=>mI J)<|c8 J (λhg=>m8 (ct hg) J J)<|y0 J (n9 J J J (λq=>K3 q))<|yN ?_;refine cN h (λhc h=>?_) λhc h=>?_
    ·refine S6 3 J ?_;exact eJ h W
    ·refine b9 ?_;exact eJ h W
  ·refine l6 ?_;refine c4<|c4<|j1 ?_;have h:=xL hx10 h;exact eJ h W

theorem c4f{a0 a1}:PO Tryz.prog 303 [k7.Pv a0,.I a1] (b8d a0 a1) λr=>.I r:=by
 refine pO Tryz.func303 λr h _ _=>?_;refine S4 2 J<|S4 1 J<|S3 1 J<|cF h a5d J J λv1 _ h=>S2 1 J ?_;refine jq h (λj11=>St.of [(5,.I j11)] []) (λj11 h=>?_) λκ10 h=>?_
 ·refine S4 2 J ?_;refine a8 ?_;cases h;exact f1
 ·refine S4 1 J ?_;refine g5<|lq h (λq=>St.of [(1,.I a1),(2,.ptr 2 0 0),(5,.I q.1),(6,.L iF v1),(7,.I q.2)] [(2,vR (k7.Pv a0) 3)]) W λq16 x15 h hx11=>?_;obtain⟨s13,s14⟩:=q16;refine c5<|S3 2 J<|nL J j5<|S2 1 J ?_;refine cN h (λhc h=>?_) λhc h=>?_
  ·refine b9 ?_;refine c5<|g5<|a2w [] p6 (by kernel_rfl) (by kernel_rfl)<|S7 4 J<|u5 h λv17 hv12 h=>d0 J (x5 (f:=iF) (cs:=[.I v17]) hv12 J J j5 n7 J J) J<|S7 1 J<|u5 h λv18 hv13 h=>d2f J (y8 J c1F J hv13) J<|S7 1 J<|u5 h λv19 hv14 h=>d2 J (A0 J a3M J hv14) J<|S8 2 J<|S6 3 J ?_
   exact eL h W
  ·refine l6 ?_;refine c4<|c4<|j1 ?_;have h:=xL hx11 h;exact eJ h W

theorem b8g{a0 a1}:PO Tryz.prog 304 [.L j8.Pv a0,.I a1] (a9l a0 a1) λr=>.I r:=by
 refine pO Tryz.func304 λr h _ _=>?_;refine S4 1 J<|S4 1 J<|S3 1 J<|cF h b1X J J λv1 _ h=>S2 1 J ?_;refine jq h (λj12=>St.of [(5,.I j12)] []) (λj12 h=>?_) λκ11 h=>?_
 ·refine S4 2 J ?_;refine a8 ?_;cases h;exact f1
 ·refine S4 1 J ?_;refine g5<|lq h (λq=>St.of [(1,.I a1),(5,.I q.1),(6,.L D3.Pv v1),(7,.I q.2)] []) W λq17 x16 h hx11=>?_;obtain⟨s14,s15⟩:=q17;refine c5<|S3 2 J<|nL J a4O<|S2 1 J ?_;refine cN h (λhc h=>?_) λhc h=>?_
  ·refine b9 ?_;refine jq h (λj20=>St.of [(1,.I a1),(5,.I j20),(6,.L D3.Pv v1),(7,.I s15)] []) (λj20 h=>?_) λκ19 h=>?_
   ·refine S6 3 J ?_;exact eL h W
   ·refine g5 ?_;refine S3 2 J<|iL h J J a4O a8V λv21 _ h=>S1 5 J<|c8 J (λhg=>mI J)<|c8 J (λhg=>m8 (ct hg) J J)<|y0 J (n9 J J J (λq=>K3 q))<|yN ?_;refine cN h (λhc h=>?_) λhc h=>?_
    ·refine S6 3 J ?_;exact eJ h W
    ·refine b9 ?_;exact eJ h W
  ·refine l6 ?_;refine c4<|c4<|j1 ?_;have h:=xL hx11 h;exact eJ h W

theorem b8h{a0 a1 a2}:PO Tryz.prog 237 [k7.Pv a0,.L j8.Pv a1,.I a2] (a9m a0 a1 a2) λr=>.I r:=by
 refine pO Tryz.func237 λr h _ _=>?_;refine S4 2 J<|S3 2 J<|cA h c4f J J λv1 _ h=>S1 2 J<|cA h b8g J J λv2 _ h=>S2 2 J<|a8 ?_;cases h;exact f1

theorem b96{a0 a1 a2}:PO Tryz.prog 166 [k7.Pv a0,.L j8.Pv a1,.I a2] (b1Z a0 a1 a2) λr=>.I r:=by
 refine pO Tryz.func166 λr h _ _=>?_;refine S4 2 J<|S3 2 J<|cF h E7 J J λv1 _ h=>S2 6 J<|c5<|S4 2 J ?_;refine cN h (λhc h=>?_) λhc h=>?_
 ·refine S4 1 J ?_;refine a8 ?_;cases h;exact f1
 ·refine b9 ?_;refine dr [] p6 (by kernel_rfl) (by kernel_rfl)<|S7 5 J<|u5 h λv2 hv2 h=>d2 J (A0 J b8h J hv2) J<|S8 2 J<|a8 ?_
  cases h;exact f1

theorem b95{a0 a1 a2}:PO Tryz.prog 86 [k7.Pv a0,.L j8.Pv a1,.L iF a2] (b1Y a0 a1 a2) λr=>.bool r:=by
 refine pO Tryz.func86 λr h _ _=>?_;refine S4 2 J<|S3 1 J<|cF h a5d J J λv1 _ h=>S2 1 J ?_;refine jq h (λ_=>St.of [] []) (λq10 h=>?_) λκ9 h=>?_
 ·refine S4 1 J ?_;refine a8 ?_;cases h;exact f1
 ·refine S4 1 J ?_;refine g5<|lq h (λs12=>St.of [(1,.L j8.Pv a1),(2,.L iF a2),(3,.ptr 3 0 0),(7,.L iF v1),(8,.I s12)] [(3,vR (k7.Pv a0) 3)]) W λs12 x13 h hx12=>c5<|S3 2 J<|nL J j5<|S2 1 J ?_;refine cN h (λhc h=>?_) λhc h=>?_
  ·refine b9 ?_;refine c5<|g5<|dr [] p6 (by kernel_rfl) (by kernel_rfl)<|S7 3 J<|u5 h λv14 hv13 h=>d0 J (x5 (f:=iF) (cs:=[.I v14]) hv13 J J j5 n7 J J) J<|S7 1 J<|u5 h λv15 hv14 h=>d2 J (A0 J b8i J hv14) J<|S7 2 J<|A5 J (λhg=>oL J J J a0b Y4 nl J) J<|s7 J (λhg _ hN=>om (d:=.L j8.Pv a1) J) J<|s7 J (λhg _ hN=>om (d:=.L iF v1) J) J<|s7 J (λhg _ hN=>mI J) J<|A5 J (λhg=>x5 (f:=iF) (cs:=[.I v14]) hv13 (ct hg) (ct hg) j5 n7 J J) J<|A5 J (λhg=>F2 (ct hg) p8 J) J<|u5 h λv16 hv15 h=>a24 J (λhg=>A0 J b96 (w7 (ct hg) (w7 (ct hg) (w7 (ct hg) J))) (B6 hv15 hg)) J<|s7 J (λhg _ hN=>om (d:=.L iF a2) J) J<|s7 J (λhg _ hN=>om (d:=.L iF v1) J) J<|s7 J (λhg _ hN=>mI J) J<|A5 J (λhg=>x5 (f:=iF) (cs:=[.I v14]) hv13 (ct hg) (ct hg) j5 n7 J J) J<|A5 J (λhg=>F2 (ct hg) p8 J) J<|u5 h λv17 hv16 h=>a24 J (λhg=>A0 J a3M (w7 (ct hg) (w7 (ct hg) J)) (B6 hv16 hg)) J<|s7 J (λhg _ hN=>m8 (ct hg) (ct hg) J) J<|d7 J (λ_ hN=>n9 J J J (λq=>K3 q)) J<|N2 ?_
   refine cN h (λhc h=>?_) λhc h=>?_
   ·refine S4 1 J ?_;refine a8 ?_;have h:=xL hx12 h;cases h;exact f1
   ·refine b9 ?_;refine S6 3 J ?_;exact eL h W
  ·refine l6 ?_;refine c4<|c4<|j1 ?_;have h:=xL hx12 h;exact eJ h W

theorem b8l{a0}:PO Tryz.prog 30 [c7.Pv a0] (a9p a0) λr=>.bool r:=by
 refine pO Tryz.func30 λr h _ _=>?_;refine S4 2 J<|c5<|S3 2 J<|cA h b8c J J λv1 _ h=>S1 2 J<|c8 J (λhg=>oF J b0V J)<|c8 J (λhg=>oS (ct hg) J J b7m J)<|u5 h λv2 hv2 h=>c8 J (λhg=>A0 J b8f (w7 (ct hg) J) (B6 hv2 hg))<|c8 J (λhg=>U3 (ct hg) J)<|y0 J (r8 J J J (λq=>K5 q))<|S1 1 J<|c8 J (λhg=>oF J b4A J)<|c8 J (λhg=>oS (ct hg) J J a0a J)<|c8 J (λhg=>H9 (f:=iF) (ct hg) j5)<|c8 J (λhg=>m8 (ct hg) J J)<|y0 J (r8 J J J (λq=>K5 q))<|S1 1 J<|c8 J (λhg=>oF J b4B J)<|c8 J (λhg=>oS (ct hg) J J c0K J)<|c8 J (λhg=>H9 (f:=l5.Pv) (ct hg) J9)<|c8 J (λhg=>m8 (ct hg) J J)<|y0 J (r8 J J J (λq=>K5 q))<|yN ?_;refine cN h (λhc h=>?_) λhc h=>?_
 ·refine S4 1 J ?_;refine a8 ?_;cases h;exact f1
 ·refine b9 ?_;refine dr [] p6 (by kernel_rfl) (by kernel_rfl)<|S7 1 J<|u5 h λv3 hv3 h=>d2 J (A0 J b8o J hv3) J<|S7 1 J<|A5 J (λhg=>oL J J J y7 u6 nl J) J<|u5 h λv4 hv4 h=>a24 J (λhg=>A0 J b8n (w7 (ct hg) J) (B6 hv4 hg)) J<|d7 J (λ_ hN=>n9 J J J (λq=>K3 q)) J<|S7 1 J<|A5 J (λhg=>oL J J J y7 u6 nl J) J<|u5 h λv5 hv5 h=>a24 J (λhg=>A0 J b8m (w7 (ct hg) J) (B6 hv5 hg)) J<|d7 J (λ_ hN=>n9 J J J (λq=>K3 q)) J<|S7 1 J<|A5 J (λhg=>oL J J J y7 u6 nl J) J<|u5 h λv6 hv6 h=>a24 J (λhg=>A0 J b8p (w7 (ct hg) J) (B6 hv6 hg)) J<|d7 J (λ_ hN=>n9 J J J (λq=>K3 q)) J<|S7 1 J<|s7 J (λhg _ hN=>oF J c4K J) J<|A5 J (λhg=>oL (ct hg) J J a0b Y4 nl J) J<|s7 J (λhg _ hN=>oF J b0V J) J<|A5 J (λhg=>oS (ct hg) J J b7m J) J<|A5 J (λhg=>oL J J J y7 u6 nl J) J<|u5 h λv7 hv7 h=>b2G J (λhg=>y8 J b8k (w7 (ct hg) J) (B6 hv7 hg)) J<|u5 h λv8 hv8 h=>a24 J (λhg=>A0 J b95 (w7 (ct hg) (w7 (ct hg) (w7 (ct hg) J))) (B6 hv8 hg)) J<|d7 J (λ_ hN=>n9 J J J (λq=>K3 q)) J<|S8 1 J<|a8 ?_
  cases h;exact f1

theorem b81{a0}:PO Tryz.prog 105 [b7.Pv a0] (a9K a0) λr=>.bool r:=by
 refine pO Tryz.func105 λr h _ _=>?_;refine S4 2 J<|S3 1 J<|cA h b0M J J λv1 _ h=>S1 1 J<|c8 J (λhg=>oF J c4J J)<|c8 J (λhg=>oF (ct hg) b4y J)<|c8 J (λhg=>oS (ct hg) J J p8 J)<|c8 J (λhg=>m8 (ct hg) J J)<|y0 J (n9 J J J (λq=>K3 q))<|S1 1 J<|c8 J (λhg=>oL J J J u4 p5 nl J)<|u5 h λv2 hv2 h=>c62 J (λhg=>y8 J a0D (w7 (ct hg) J) (B6 hv2 hg))<|u5 h λv3 hv3 h=>c8 J (λhg=>A0 J b8l (w7 (ct hg) J) (B6 hv3 hg))<|y0 J (n9 J J J (λq=>K3 q))<|S2 1 J<|a8 ?_;cases h;exact f1

theorem b3x{a0}:PO Tryz.prog 88 [c7.Pv a0] (a6g a0) λr=>.L iF r:=by
 refine pO Tryz.func88 λr h _ _=>?_;refine S4 2 J<|sR<|y0 J (B5 J j5 n7)<|S2 1 J<|S3 2 J<|cF h a5d J J λv1 _ h=>S2 1 J ?_;refine jq h (λj16=>St.of [(3,.sl 910003)] [(910003,⟨List.map iF j16,(List.map iF j16).length,true,1,true⟩)]) (λj16 h=>?_) λκ15 h=>?_
 ·refine S4 2 J ?_;refine a8 ?_;cases h;exact f1
 ·refine S4 1 J ?_;refine g5<|lq h (λq=>St.of [(1,.ptr 1 0 0),(3,.sl 910003),(4,.L iF v1),(5,.I q.1)] [(1,vR (c7.Pv a0) 8),(910003,⟨List.map iF q.2,(List.map iF q.2).length,true,1,true⟩)]) (Wk.trans (G1 (t:=3) (l:=920003) (z:=1) J J) (WP (λl=>if l=910003 then 920003 else l))) λq21 x20 h hx15=>?_
  obtain⟨s18,s19⟩:=q21;refine c5<|S3 2 J<|nL J j5<|S2 1 J ?_;refine cN h (λhc h=>?_) λhc h=>?_
  ·refine b9 ?_;refine jq h (λj26=>St.of [(1,.ptr 1 0 0),(3,.sl 37),(4,.L iF v1),(5,.I s18)] [(37,⟨List.map iF j26,(List.map iF j26).length,true,1,true⟩),(1,vR (c7.Pv a0) 8)]) (λj26 h=>?_) λκ25 h=>?_
   ·refine S6 3 J ?_;exact eL h (Wk.trans (n8 _ [37]) (WP (λl=>if l=910003 then 37 else l)))
   ·refine g5 ?_;refine dr [] p6 (by kernel_rfl) (by kernel_rfl)<|S7 4 J<|u5 h λv27 hv20 h=>d0 J (x5 (f:=iF) (cs:=[.I v27]) hv20 J J j5 n7 J J) J<|S7 1 J<|u5 h λv28 hv21 h=>d2f J (y8 J E7 J hv21) J<|S7 4 J<|C9 (x':=B0.Pv v28.1) (cl':=true) J J (.inr J) a5u<|S8 1 J<|S4 3 J ?_
    refine cN h (λhc h=>?_) λhc h=>?_
    ·refine S5 3 J ?_;refine y0 J (x5 (f:=iF) (cs:=[.I v27]) hv20 J J j5 n7 J J)<|S1 1 J<|y0 J (M3 (f:=iF) (l:=[v27]) J j5 n7 B9 J J nl J J)<|u5 h λv29 hv22 h=>J8 J (G8 (f:=iF) hv22 J J J J J J (.inl ⟨_,J,J⟩) j5 n7 J6 B9 J (λ_=>J)) J J J<|S2 1 J ?_;exact eJ h (Wk.trans (n8 _ [37]) W)
    ·refine b9 ?_;exact eJ h (Wk.trans (n8 _ [910003]) (WP (λl=>if l=37 then 910003 else l)))
  ·refine l6 ?_;refine c4<|c4<|j1 ?_;have h:=xL hx15 h;exact eJ h (Wk.trans (n8 _ [910003]) W)

theorem b5v{a0}:PO Tryz.prog 31 [c7.Pv a0] (a5h a0) λr=>.bool r:=by
 refine pO Tryz.func31 λr h _ _=>?_;refine S4 2 J<|S3 1 J<|cF h b3x J J λv1 _ h=>nL J j5<|S2 2 J<|a8 ?_;cases h;exact f1

theorem b3G{a0}:PO Tryz.prog 42 [b7.Pv a0] (a6s a0) λr=>.bool r:=by
 refine pO Tryz.func42 λr h _ _=>?_;refine S4 2 J<|S3 1 J<|cA h b81 J J λv1 _ h=>S1 1 J<|c8 J (λhg=>oL J J J u4 p5 nl J)<|u5 h λv2 hv2 h=>c62 J (λhg=>y8 J a0D (w7 (ct hg) J) (B6 hv2 hg))<|u5 h λv3 hv3 h=>c8 J (λhg=>A0 J b5v (w7 (ct hg) J) (B6 hv3 hg))<|y0 J (n9 J J J (λq=>K3 q))<|S2 1 J<|a8 ?_;cases h;exact f1

theorem a7s{a0}:PO Tryz.prog 45 [.L (Ls j2.Pv) a0] (a34 a0) λr=>.L (Ls p9.Pv) r:=by
 refine pO Tryz.func45 λr h _ _=>?_;refine S4 1 J<|sR<|y0 J (B5 J a35 a72)<|S2 1 J ?_;refine jq h (λj47=>St.of [(3,.sl 910003)] [(910003,⟨List.map (Ls p9.Pv) j47,(List.map (Ls p9.Pv) j47).length,true,1,true⟩)]) (λj47 h=>?_) λκ46 h=>?_
 ·refine S4 2 J ?_;refine a8 ?_;cases h;exact f1
 ·refine S4 1 J ?_;refine g5<|lq h (λq=>St.of [(0,.L (Ls j2.Pv) a0),(3,.sl 910003),(4,.I q.1)] [(910003,⟨List.map (Ls p9.Pv) q.2,(List.map (Ls p9.Pv) q.2).length,true,1,true⟩)]) (Wk.trans (G1 (t:=3) (l:=920003) (z:=1) J J) (WP (λl=>if l=910003 then 920003 else l))) λq52 x51 h hx36=>?_
  obtain⟨s49,s50⟩:=q52;refine c5<|S3 2 J<|nL J a6D<|S2 1 J ?_;refine cN h (λhc h=>?_) λhc h=>?_
  ·refine b9 ?_;refine jq h (λj73=>St.of [(0,.L (Ls j2.Pv) a0),(3,.sl 37),(4,.I s49)] [(37,⟨List.map (Ls p9.Pv) j73,s50.length,true,1,true⟩)]) (λj73 h=>?_) λκ72 h=>?_
   ·refine S6 3 J ?_;exact eL h (Wk.trans (n8 _ [37]) (WP (λl=>if l=910003 then 37 else l)))
   ·refine g5 ?_;refine sR<|y0 J (B5 J a36 a6E)<|S2 1 J ?_;refine jq h (λj83=>St.of [(0,.L (Ls j2.Pv) a0),(3,.sl 910003),(4,.I s49),(5,.sl 910005)] [(910005,⟨List.map p9.Pv j83,(List.map p9.Pv j83).length,true,4,true⟩),(910003,⟨List.map (Ls p9.Pv) s50,(List.map (Ls p9.Pv) s50).length,true,1,true⟩)]) (λj83 h=>?_) λκ82 h=>?_
    ·refine S5 2 J ?_;refine L8 (d2L 35 J)<|y0 J (M3 (f:=(Ls p9.Pv)) (l:=[j83]) J a35 a72 c4X J J nl J J)<|u5 h λv84 hv59 h=>J8 J (G8 (f:=(Ls p9.Pv)) hv59 J J J J J J (.inl ⟨_,J,J⟩) a35 a72 c9Q c4X J (λ_=>J)) J J J<|S2 1 J ?_;exact eJ h W
    ·refine S4 1 J ?_;refine g5<|lq h (λq=>St.of [(0,.L (Ls j2.Pv) a0),(3,.sl 910003),(4,.I s49),(5,.sl 910005),(6,.I q.1)] [(910003,⟨List.map (Ls p9.Pv) s50,(List.map (Ls p9.Pv) s50).length,true,1,true⟩),(910005,⟨List.map p9.Pv q.2,(List.map p9.Pv q.2).length,true,4,true⟩)]) (Wk.trans (G1 (t:=5) (l:=920005) (z:=4) J J) (Wk.trans (n8 _ [910003]) (WP (λl=>if l=910005 then 920005 else l)))) λq89 x88 h hx62=>?_
     obtain⟨s86,s87⟩:=q89;refine c5<|S3 3 J<|iL h J J a6D b4G λv90 hv63 h=>S1 1 J<|nL J a5s<|S2 1 J ?_;refine cN h (λhc h=>?_) λhc h=>?_
     ·refine b9 ?_;refine c5<|g5<|S5 3 J<|y0 J (x5 (f:=(Ls j2.Pv)) (cs:=[.L j2.Pv v90]) hv63 J J a6D b4G J J)<|S1 2 J<|iL h J J a5s b4F λv91 _ h=>S1 1 J<|y0 J (M3 (f:=p9.Pv) (l:=[(⟨v91.Kind,v91.A,v91.B,v91.C⟩:p9)]) J a36 a6E c2t J J nl J J)<|u5 h λv92 hv65 h=>J8 J (G8 (f:=p9.Pv) hv65 J J J J J J (.inl ⟨_,J,J⟩) a36 a6E c7k c2t J (λ_=>J)) J J J<|S2 1 J<|S6 3 J ?_;exact eL h (Wk.trans (n8 _ [910003,33]) (WP (λl=>if l=910005 then 33 else l)))
     ·refine l6 ?_;refine c4<|c4<|j1 ?_;have h:=xL hx62 h;exact eJ h (Wk.trans (n8 _ [910003,910005]) W)
  ·refine l6 ?_;refine c4<|c4<|j1 ?_;have h:=xL hx36 h;exact eJ h (Wk.trans (n8 _ [910003]) W)

theorem b14{a0}:PO Tryz.prog 178 [p9.Pv a0] (Q6 a0) λr=>.bool r:=by
 refine pO Tryz.func178 λr h _ _=>?_;unfold Q6 at h;refine S4 2 J<|S3 4 J<|c8 J (λhg=>oF J c3A J)<|c8 J (λhg=>oS (ct hg) J J p8 J)<|c8 J (λhg=>m8 (ct hg) J J)<|y0 J (n9 J J J (λq=>K3 q))<|S2 1 J<|a8 ?_;cases h;exact f1

theorem P2{a0 a1 a2 a3}:PO Tryz.prog 262 [.I a0,.I a1,.I a2,.I a3] (a01 a0 a1 a2 a3) λr=>.I r:=by
 refine pO Tryz.func262 λr h _ _=>?_;refine S4 1 J<|c5<|S3 4 J<|c8 J (λhg=>mI J)<|c8 J (λhg=>mI J)<|c8 J (λhg=>m8 (ct hg) (ct hg) J)<|y0 J (r8 J J J (λq=>K5 q))<|yN ?_;refine cN h (λhc h=>?_) λhc h=>?_
 ·refine S4 2 J ?_;refine a8 ?_;cases h;exact f1
 ·refine b9 ?_;refine S4 1 J<|a8 ?_;cases h;exact f1

theorem W5{a0 a1 a2}:PO Tryz.prog 263 [.I a0,.I a1,.I a2] (Y1 a0 a1 a2) λr=>.I r:=by
 refine pO Tryz.func263 λr h _ _=>?_;refine S4 1 J<|c5<|S4 2 J ?_;refine cN h (λhc h=>?_) λhc h=>?_
 ·refine S4 2 J ?_;refine a8 ?_;cases h;exact f1
 ·refine b9 ?_;refine c5<|S4 2 J ?_;refine cN h (λhc h=>?_) λhc h=>?_
  ·refine S4 2 J ?_;refine a8 ?_;cases h;exact f1
  ·refine b9 ?_;refine S4 2 J<|a8 ?_;cases h;exact f1

theorem b13{a0}:PO Tryz.prog 179 [p9.Pv a0] (a2B a0) λr=>.I r:=by
 refine pO Tryz.func179 λr h _ _=>?_;refine S4 2 J<|S3 2 J<|cA h P2 J J λv1 _ h=>S2 1 J<|S3 2 J<|cA h P2 J J λv2 _ h=>S2 1 J<|c5<|S4 2 J<|g5<|S4 2 J ?_;refine cN h (λhc h=>?_) λhc h=>?_
 ·refine dr [] p6 (by kernel_rfl) (by kernel_rfl) ?_
  refine S7 3 J<|u5 h λv3 hv3 h=>d2 J (A0 J P2 J hv3) J<|S7 2 J<|u5 h λv4 hv4 h=>d2 J (A0 J P2 J hv4) J<|u5 h λv5 hv5 h=>d2 J (A0 J W5 J hv5) J<|S8 1 J<|a8 ?_;cases h;exact f1
 ·refine jq h (λj7=>St.of [(1,.ptr 1 0 0),(3,.I v1),(4,.I v2),(12,.I a0.Kind),(23,.bool j7)] [(1,vR (p9.Pv a0) 4)]) (λj7 h=>?_) λκ6 h=>?_
  ·refine cN h (λhc h=>?_) λhc h=>?_
   ·refine S3 2 J ?_;refine cA h W5 J J λv8 _ h=>S2 1 J<|a8 ?_;cases h;exact f1
   ·refine S4 2 J ?_;refine cN h (λhc h=>?_) λhc h=>?_
    ·refine S4 2 J ?_;refine a8 ?_;cases h;exact f1
    ·refine S4 2 J ?_;refine cN h (λhc h=>?_) λhc h=>?_
     ·refine S3 4 J ?_;refine cA h P2 J J λv9 _ h=>cA h W5 J J λv10 _ h=>S2 1 J<|a8 ?_;cases h;exact f1
     ·refine S4 2 J ?_;refine cN h (λhc h=>?_) λhc h=>?_
      ·refine dr [] p6 (by kernel_rfl) (by kernel_rfl) ?_
       refine S7 3 J<|u5 h λv11 hv10 h=>d2 J (A0 J P2 J hv10) J<|S7 2 J<|u5 h λv12 hv11 h=>d2 J (A0 J P2 J hv11) J<|u5 h λv13 hv12 h=>d2 J (A0 J W5 J hv12) J<|S8 1 J<|a8 ?_;cases h;exact f1
      ·refine S4 2 J ?_;refine cN h (λhc h=>?_) λhc h=>?_
       ·refine dr [] p6 (by kernel_rfl) (by kernel_rfl) ?_
        refine S7 2 J<|u5 h λv14 hv13 h=>d2 J (A0 J P2 J hv13) J<|S7 2 J<|u5 h λv15 hv14 h=>d2 J (A0 J P2 J hv14) J<|S7 2 J<|u5 h λv16 hv15 h=>d2 J (A0 J P2 J hv15) J<|u5 h λv17 hv16 h=>d2 J (A0 J W5 J hv16) J<|S8 1 J<|a8 ?_;cases h;exact f1
       ·refine S4 2 J ?_;refine cN h (λhc h=>?_) λhc h=>?_
        ·refine S3 3 J ?_;refine cA h P2 J J λv18 _ h=>cA h W5 J J λv19 _ h=>S2 1 J<|a8 ?_;cases h;exact f1
        ·refine S4 2 J ?_;refine cN h (λhc h=>?_) λhc h=>?_
         ·refine S3 3 J ?_;refine cA h P2 J J λv20 _ h=>cA h W5 J J λv21 _ h=>S2 1 J<|a8 ?_;cases h;exact f1
         ·refine S4 2 J ?_;refine cN h (λhc h=>?_) λhc h=>?_
          ·refine S4 1 J ?_;refine a8 ?_;cases h;exact f1
          ·refine S4 2 J ?_;refine cN h (λhc h=>?_) λhc h=>?_
           ·refine S3 2 J ?_;refine cA h P2 J J λv22 _ h=>S2 1 J<|a8 ?_;cases h;exact f1
           ·refine b9 ?_;refine S4 1 J<|a8 ?_;cases h;exact f1
  ·refine S4 2 J ?_;refine cN h (λhc h=>?_) λhc h=>?_
   ·refine b9 ?_;exact eJ h W
   ·refine S4 2 J ?_;refine cN h (λhc h=>?_) λhc h=>?_
    ·refine b9 ?_;exact eJ h W
    ·refine S6 2 J ?_;exact eJ h W

theorem b8q{a0}:PO Tryz.prog 106 [.L (Ls p9.Pv) a0] (a9v a0) λr=>.bool r:=by
 refine pO Tryz.func106 λr h _ _=>?_;refine S4 1 J<|c5<|S3 1 J<|nL J a35<|S2 1 J ?_;refine cN h (λhc h=>?_) λhc h=>?_
 ·refine S4 1 J ?_;refine a8 ?_;cases h;exact f1
 ·refine b9 ?_;refine jq h (λ_=>St.of [] []) (λq21 h=>?_) λκ20 h=>?_
  ·refine S4 1 J ?_;refine a8 ?_;cases h;exact f1
  ·refine S4 1 J ?_;refine g5<|lq h (λs23=>St.of [(0,.L (Ls p9.Pv) a0),(3,.I s23)] []) W λs23 x24 h hx22=>c5<|S3 2 J<|nL J a35<|S2 1 J ?_;refine cN h (λhc h=>?_) λhc h=>?_
   ·refine b9 ?_;refine jq h (λ_=>St.of [(0,.L (Ls p9.Pv) a0),(3,.I s23)] []) (λq33 h=>?_) λκ32 h=>?_
    ·refine S6 3 J ?_;exact eL h W
    ·refine g5 ?_;refine c5<|S3 2 J<|iL h J J a35 a72 λv34 hv31 h=>S1 1 J<|nL J a36<|S2 1 J ?_;refine cN h (λhc h=>?_) λhc h=>?_
     ·refine S4 1 J ?_;refine a8 ?_;have h:=xL hx22 h;cases h;exact f1
     ·refine b9 ?_;refine S4 1 J<|g5<|lq h (λs36=>St.of [(0,.L (Ls p9.Pv) a0),(3,.I s23),(4,.I s36)] []) W λs36 x37 h hx34=>c5<|S3 3 J<|y0 J (x5 (f:=(Ls p9.Pv)) (cs:=[.L p9.Pv v34]) hv31 J J a35 a72 J J)<|S1 1 J<|nL J a36<|S2 1 J ?_;refine cN h (λhc h=>?_) λhc h=>?_
      ·refine b9 ?_;refine c5<|g5<|S3 2 J<|y0 J (x5 (f:=(Ls p9.Pv)) (cs:=[.L p9.Pv v34]) hv31 J J a35 a72 J J)<|S1 2 J<|iL h J J a36 a6E λv38 hv35 h=>S1 1 J<|cA h b14 J J λv39 _ h=>S1 2 J<|c8 J (λhg=>om (d:=.L (Ls p9.Pv) a0) J)<|c8 J (λhg=>mI J)<|c8 J (λhg=>x5 (f:=(Ls p9.Pv)) (cs:=[.L p9.Pv v34]) hv31 (ct hg) (ct hg) a35 a72 J J)<|c8 J (λhg=>F2 (ct hg) c9O J)<|c8 J (λhg=>mI J)<|c8 J (λhg=>x5 (f:=p9.Pv) (cs:=p9.Pc v38) hv35 (ct hg) (ct hg) a36 a6E J J)<|c8 J (λhg=>a4l (ct hg) c7i a6E nl J)<|u5 h λv40 hv37 h=>c8 J (λhg=>A0 J b13 (w7 (ct hg) J) (B6 hv37 hg))<|c8 J (λhg=>m8 (ct hg) J J)<|y0 J (r8 J J J (λq=>K5 q))<|yN ?_;refine cN h (λhc h=>?_) λhc h=>?_
       ·refine S4 1 J ?_;refine a8 ?_;have h:=xL hx34 h;have h:=xL hx22 h;cases h;exact f1
       ·refine b9 ?_;refine S6 3 J ?_;exact eL h W
      ·refine l6 ?_;refine c4<|c4<|j1 ?_;have h:=xL hx34 h;exact eJ h W
   ·refine l6 ?_;refine c4<|c4<|j1 ?_;have h:=xL hx22 h;exact eJ h W

theorem b5Y{a0}:PO Tryz.prog 43 [.L (Ls j2.Pv) a0] (a3Q a0) λr=>.bool r:=by
 refine pO Tryz.func43 λr h _ _=>?_;refine S4 1 J ?_;refine jq h (λ_=>St.of [(0,.L (Ls j2.Pv) a0)] []) (λq6 h=>?_) λκ5 h=>?_
 ·refine S3 1 J ?_;refine nL J a6D<|S1 2 J<|c8 J (λhg=>om (d:=.L (Ls j2.Pv) a0) J)<|u5 h λv7 hv6 h=>c62 J (λhg=>y8 J a7s (w7 (ct hg) J) (B6 hv6 hg))<|u5 h λv8 hv7 h=>c8 J (λhg=>A0 J b8q (w7 (ct hg) J) (B6 hv7 hg))<|y0 J (n9 J J J (λq=>K3 q))<|S2 1 J<|a8 ?_;cases h;exact f1
 ·refine S4 1 J ?_;refine g5<|lq h (λs10=>St.of [(0,.L (Ls j2.Pv) a0),(3,.I s10)] []) W λs10 x11 h hx10=>c5<|S3 2 J<|nL J a6D<|S1 2 J<|c8 J (λhg=>mI J)<|c8 J (λhg=>m8 (ct hg) J J)<|y0 J (n9 J J J (λq=>K3 q))<|yN ?_;refine cN h (λhc h=>?_) λhc h=>?_
  ·refine b9 ?_;refine c5<|g5<|S3 2 J<|iL h J J a6D b4G λv12 _ h=>S1 1 J<|nL J a5s<|S2 1 J ?_;refine cN h (λhc h=>?_) λhc h=>?_
   ·refine S4 1 J ?_;refine a8 ?_;have h:=xL hx10 h;cases h;exact f1
   ·refine b9 ?_;refine S6 3 J ?_;exact eL h W
  ·refine l6 ?_;refine c4<|c4<|j1 ?_;have h:=xL hx10 h;exact eJ h W

theorem a7M{a0 a1}:PO Tryz.prog 173 [.I a0,.I a1] (a1q a0 a1) λr=>g9.Pv r:=by
 refine pO Tryz.func173 λr h _ _=>?_;refine S4 1 J<|c5<|S3 3 J<|c8 J (λhg=>mI J)<|c8 J (λhg=>m8 (ct hg) J J)<|y0 J (r8 J J J (λq=>K5 q))<|S1 1 J<|c8 J (λhg=>mI J)<|c8 J (λhg=>m8 (ct hg) J J)<|y0 J (r8 J J J (λq=>K5 q))<|S1 1 J<|c8 J (λhg=>mI J)<|c8 J (λhg=>m8 (ct hg) J J)<|y0 J (r8 J J J (λq=>K5 q))<|yN ?_;refine cN h (λhc h=>?_) λhc h=>?_
 ·refine sR ?_;refine y0 J (o9 (cs:=[.nl,.I 0]) J c4M c4T J J J)<|a8S (x':=.agg [.nl,.I 0]) (cl':=true) J J (.inl J) a1H<|yN<|a8 ?_;cases h;exact⟨J,[_],⟨oL J J J a3o a1H nl J,tr⟩,J,io⟩
 ·refine b9 ?_;refine S3 1 J<|u5 h λv1 hv1 h=>y1 J (b9O (f:=b8.Pv) hv1 J J J H7 M8 a8W c2c J J J) J<|S1 1 J<|y0 J (o9 (cs:=[.sl 21,.I a1]) J c4M c4T J J J)<|S2 1 J<|a8 ?_;cases h;exact⟨J,[_],⟨oL J J J a3o a1H nl J,tr⟩,J,io⟩

theorem b8Q{a0 a1}:PO Tryz.prog 97 [.I a0,.I a1] (a9A a0 a1) λr=>a7.Pv r:=by
 refine pO Tryz.func97 λr h _ _=>?_;refine S4 1 J<|S3 2 J<|cF h a7M J J λv1 _ h=>y0 J (o9 (cs:=[.L b8.Pv v1.Cells,.I v1.Last,.I 0]) J c4N c4U J J J)<|S2 1 J<|a8 ?_;cases h;exact⟨J,[_],⟨oL J J J a5q a5t nl J,tr⟩,J,io⟩

theorem c0B{a0}:PO Tryz.prog 98 [.I a0] (c0A a0) λr=>.L g7.Pv r:=by
 refine pO Tryz.func98 λr h _ _=>?_;refine S4 1 J<|c5<|S3 3 J<|c8 J (λhg=>mI J)<|c8 J (λhg=>m8 (ct hg) J J)<|y0 J (r8 J J J (λq=>K5 q))<|yN ?_;refine cN h (λhc h=>?_) λhc h=>?_
 ·refine S4 1 J ?_;refine a8 ?_;cases h;exact f1
 ·refine b9 ?_;refine S3 1 J<|u5 h λv1 hv1 h=>y1 J (b9O (f:=g7.Pv) hv1 J J J G4 T7 c0R c4G J J J) J<|S2 1 J ?_;refine jq h (λj9=>St.of [(3,.sl 12)] [(12,⟨List.map g7.Pv j9,0,true,3,true⟩)]) (λj9 h=>?_) λκ8 h=>?_
  ·refine S4 2 J ?_;refine a8 ?_;cases h;exact f1
  ·refine S3 1 J ?_;refine y0 J (b9N (f:=g7.Pv) J J J G4)<|S2 1 J<|g5<|lq h (λq=>St.of [(3,.sl 12),(14,.I (v1.length:Int)),(15,.I q.1)] [(12,⟨List.map g7.Pv q.2,0,true,3,true⟩)]) W λq14 x13 h hx9=>?_;obtain⟨s11,s12⟩:=q14;refine S4 1 J<|c5 ?_;refine cN h (λhc h=>?_) λhc h=>?_
   ·refine b9 ?_;refine c5<|g5<|S4 2 J<|S5 2 J<|u5 h λv15 hv10 h=>y0 J (a0W (f:=g7.Pv) hv10 J J J J G4 T7 J)<|S1 1 J<|a4G (f:=g7.Pv) (v:=(⟨v15.Target,v15.Intact,(-1)⟩:g7)) hv10 J J (.inl J) n7<|yN<|S6 2 J ?_;exact eL h W
   ·refine l6 ?_;refine c4<|c4<|j1 ?_;have h:=xL hx9 h;exact eJ h W

theorem b9v{a0}:PO Tryz.prog 99 [.I a0] (b1k a0) λr=>.L c9.Pv r:=by
 refine pO Tryz.func99 λr h _ _=>?_;refine S4 1 J<|c5<|S3 3 J<|c8 J (λhg=>mI J)<|c8 J (λhg=>m8 (ct hg) J J)<|y0 J (r8 J J J (λq=>K5 q))<|yN ?_;refine cN h (λhc h=>?_) λhc h=>?_
 ·refine S4 1 J ?_;refine a8 ?_;cases h;exact f1
 ·refine b9 ?_;refine S3 1 J<|u5 h λv1 hv1 h=>y1 J (b9O (f:=c9.Pv) hv1 J J J Q5 V6 a8Y c2e J J J) J<|S2 1 J<|a8 ?_;cases h;exact f1

theorem a63{a0}:PO Tryz.prog 174 [.I a0] (a0Z a0) λr=>g6.Pv r:=by
 refine pO Tryz.func174 λr h _ _=>?_;unfold a0Z at h;refine S4 1 J<|S3 1 J<|y0 J (o9 (cs:=[.nl,.I a0]) J c9R c9U J J J)<|a8S (x':=.agg [.nl,.I a0]) (cl':=true) J J (.inl J) a1I<|yN<|a8 ?_;cases h;exact⟨J,[_],⟨oL J J J a5r a1I nl J,tr⟩,J,io⟩

theorem b3F:PO Tryz.prog 100 [] (b2h) λr=>g6.Pv r:=by
 refine pO Tryz.func100 λr h _ _=>?_;refine S4 1 J<|sR<|cF h a63 J J λv1 _ h=>S2 1 J<|a8 ?_;cases h;exact⟨J,[_],⟨oL J J J a5r a1I nl J,tr⟩,J,io⟩

theorem b9z{a0 a1 a2}:PO Tryz.prog 40 [.I a0,.I a1,.I a2] (a8h a0 a1 a2) λr=>b7.Pv r:=by
 refine pO Tryz.func40 λr h _ _=>?_;refine S4 1 J<|c5<|S3 3 J<|c8 J (λhg=>mI J)<|c8 J (λhg=>m8 (ct hg) J J)<|y0 J (r8 J J J (λq=>K5 q))<|S1 1 J<|c8 J (λhg=>mI J)<|c8 J (λhg=>m8 (ct hg) J J)<|y0 J (r8 J J J (λq=>K5 q))<|S1 1 J<|c8 J (λhg=>mI J)<|c8 J (λhg=>m8 (ct hg) J J)<|y0 J (r8 J J J (λq=>K5 q))<|S1 1 J<|c8 J (λhg=>mI J)<|c8 J (λhg=>m8 (ct hg) J J)<|y0 J (r8 J J J (λq=>K5 q))<|S1 1 J<|c8 J (λhg=>mI J)<|c8 J (λhg=>m8 (ct hg) J J)<|y0 J (r8 J J J (λq=>K5 q))<|yN ?_;refine cN h (λhc h=>?_) λhc h=>?_
 ·refine sR ?_;refine y0 J (o9 (cs:=[.nl,.I 0,.I 0,.nl,.nl,.nl,.nl,.I 0]) J c4O c4V J J J)<|a8S (x':=.agg [.nl,.I 0,.I 0,.nl,.nl,.nl,.nl,.I 0]) (cl':=true) J J (.inl J) p5<|yN<|a8 ?_;cases h;exact⟨J,[_],⟨oL J J J u4 p5 nl J,tr⟩,J,io⟩
 ·refine b9 ?_;refine dr [] p6 (by kernel_rfl) (by kernel_rfl)<|S7 2 J<|u5 h λv1 hv1 h=>d2f J (y8 J b8Q J hv1) J<|u5 h λv2 hv2 h=>d1 J (b9O (f:=iF) hv2 J J J j5 n7 B9 J6 J J J) J J J<|u5 h λv3 hv3 h=>d2f J (y8 J c0B J hv3) J<|S7 1 J<|u5 h λv4 hv4 h=>d2f J (y8 J b9v J hv4) J<|u5 h λv5 hv5 h=>d2f J (y8 J b3F J hv5) J<|d7 J (λ_ hN=>o9 (cs:=[.L b8.Pv v1.S.Cells,.I v1.S.Last,.I v1.Serial,.sl 33,.L g7.Pv v3,.L c9.Pv v4,.L g8.Pv v5.L,.I v5.Cap]) J c4O c4V J J J) J<|C9 (x':=.agg [.L b8.Pv v1.S.Cells,.I v1.S.Last,.I v1.Serial,.sl 33,.L g7.Pv v3,.L c9.Pv v4,.L g8.Pv v5.L,.I v5.Cap]) (cl':=false) J J (.inr J) p5<|N2<|a8 ?_
  cases h;exact⟨J,[_],⟨oL J J J u4 p5 nl J,tr⟩,J,io⟩

theorem A3:PO Tryz.prog 306 [.fn (.func 307) []] (Y8) λr=>j4.Pv r:=by
 refine pO Tryz.func306 λr h _ _=>?_;unfold Y8 at h;refine S4 1 J<|S3 1 J<|y0 J (o9 (cs:=[.fn (.func 307) [],.I 0,.I 5,.I 6]) J a1F K2 J J J)<|L8 (a3F 4 (d':=.agg [fvE (some 307),.I 0,.I 5,.I 6]) J)<|S2 1 J<|a8 ?_;cases h;exact⟨J,[_],⟨oL J J J a3H L2 nl J,tr⟩,J,io⟩

theorem Z3:PO Tryz.prog 309 [.fn (.func 310) []] (R5) λr=>j4.Pv r:=by
 refine pO Tryz.func309 λr h _ _=>?_;unfold R5 at h;refine S4 1 J<|S3 1 J<|y0 J (o9 (cs:=[.fn (.func 310) [],.I (-1),.I 5,.I 13]) J a1F K2 J J J)<|L8 (a3F 4 (d':=.agg [fvE (some 310),.I (-1),.I 5,.I 13]) J)<|S2 1 J<|a8 ?_;cases h;exact⟨J,[_],⟨oL J J J a3H L2 nl J,tr⟩,J,io⟩

theorem E2{a0}:PO Tryz.prog 305 [.L j4.Pv a0] (J7 a0) λr=>.L j4.Pv r:=by
 refine pO Tryz.func305 λr h _ _=>?_;unfold J7 at h;refine S4 1 J<|S4 2 J<|a8 ?_;cases h;exact f1

theorem L4:PO Tryz.prog 306 [.fn (.func 308) []] (Y9) λr=>j4.Pv r:=by
 refine pO Tryz.func306 λr h _ _=>?_;unfold Y9 at h;refine S4 1 J<|S3 1 J<|y0 J (o9 (cs:=[.fn (.func 308) [],.I 0,.I 5,.I 6]) J a1F K2 J J J)<|L8 (a3F 4 (d':=.agg [fvE (some 308),.I 0,.I 5,.I 6]) J)<|S2 1 J<|a8 ?_;cases h;exact⟨J,[_],⟨oL J J J a3H L2 nl J,tr⟩,J,io⟩

theorem a4K:PO Tryz.prog 311 [.fn (.func 310) []] (V8) λr=>j4.Pv r:=by
 refine pO Tryz.func311 λr h _ _=>?_;unfold V8 at h;refine S4 1 J<|S3 1 J<|y0 J (o9 (cs:=[.fn (.func 310) [],.I 0,.I 3,.I 5]) J a1F K2 J J J)<|L8 (a3F 4 (d':=.agg [fvE (some 310),.I 0,.I 3,.I 5]) J)<|S2 1 J<|a8 ?_;cases h;exact⟨J,[_],⟨oL J J J a3H L2 nl J,tr⟩,J,io⟩

theorem a4J:PO Tryz.prog 311 [.fn (.func 308) []] (V7) λr=>j4.Pv r:=by
 refine pO Tryz.func311 λr h _ _=>?_;unfold V7 at h;refine S4 1 J<|S3 1 J<|y0 J (o9 (cs:=[.fn (.func 308) [],.I 0,.I 3,.I 5]) J a1F K2 J J J)<|L8 (a3F 4 (d':=.agg [fvE (some 308),.I 0,.I 3,.I 5]) J)<|S2 1 J<|a8 ?_;cases h;exact⟨J,[_],⟨oL J J J a3H L2 nl J,tr⟩,J,io⟩

theorem a2m:PO Tryz.prog 312 [.fn (.func 310) []] (O8) λr=>j4.Pv r:=by
 refine pO Tryz.func312 λr h _ _=>?_;unfold O8 at h;refine S4 1 J<|S3 1 J<|y0 J (o9 (cs:=[.fn (.func 310) [],.I (-1),.I 5,.I 6]) J a1F K2 J J J)<|L8 (a3F 4 (d':=.agg [fvE (some 310),.I (-1),.I 5,.I 6]) J)<|S2 1 J<|a8 ?_;cases h;exact⟨J,[_],⟨oL J J J a3H L2 nl J,tr⟩,J,io⟩

theorem a5v:PO Tryz.prog 313 [.fn (.func 307) []] (Y6) λr=>j4.Pv r:=by
 refine pO Tryz.func313 λr h _ _=>?_;unfold Y6 at h;refine S4 1 J<|S3 1 J<|y0 J (o9 (cs:=[.fn (.func 307) [],.I 0,.I 5,.I 7]) J a1F K2 J J J)<|L8 (a3F 4 (d':=.agg [fvE (some 307),.I 0,.I 5,.I 7]) J)<|S2 1 J<|a8 ?_;cases h;exact⟨J,[_],⟨oL J J J a3H L2 nl J,tr⟩,J,io⟩

theorem T8:PO Tryz.prog 312 [.fn (.func 308) []] (O7) λr=>j4.Pv r:=by
 refine pO Tryz.func312 λr h _ _=>?_;unfold O7 at h;refine S4 1 J<|S3 1 J<|y0 J (o9 (cs:=[.fn (.func 308) [],.I (-1),.I 5,.I 6]) J a1F K2 J J J)<|L8 (a3F 4 (d':=.agg [fvE (some 308),.I (-1),.I 5,.I 6]) J)<|S2 1 J<|a8 ?_;cases h;exact⟨J,[_],⟨oL J J J a3H L2 nl J,tr⟩,J,io⟩

theorem a5w:PO Tryz.prog 313 [.fn (.func 308) []] (Y7) λr=>j4.Pv r:=by
 refine pO Tryz.func313 λr h _ _=>?_;unfold Y7 at h;refine S4 1 J<|S3 1 J<|y0 J (o9 (cs:=[.fn (.func 308) [],.I 0,.I 5,.I 7]) J a1F K2 J J J)<|L8 (a3F 4 (d':=.agg [fvE (some 308),.I 0,.I 5,.I 7]) J)<|S2 1 J<|a8 ?_;cases h;exact⟨J,[_],⟨oL J J J a3H L2 nl J,tr⟩,J,io⟩

theorem b3O:PO Tryz.prog 241 [] (a6K) λr=>.abs (a3B (List.map (ent iF (Ls j4.Pv)) r)):=by
 refine pO Tryz.func241 λr h _ _=>?_;refine S4 1 J<|sR<|b7j (KT:=Int) (VT:=List j4) (EK:=iF) (E:=(Ls j4.Pv)) 5000001 J J<|cF h A3 J J λv1 hv1 h=>y0 J (o9 (cs:=[.fn (.func 308) [],.I 0,.I 4,.I 1]) J a1F K2 J J J)<|L8 (a3F 3 (d':=.agg [fvE (some 308),.I 0,.I 4,.I 1]) J)<|cF h Z3 J J λv2 hv2 h=>y0 J (M3 (f:=j4.Pv) (l:=[v1,(⟨(some 308),0,4,1⟩:j4),v2]) J a0F L2 K2 J J nl J J)<|cF h E2 J J λv3 _ h=>a02 (es:=[]) (k:=1) (v:=v3) (E:=(Ls j4.Pv)) (EK:=iF) (.inr J) J J J J J J T6 (C0 P4)<|yc J (y8 J A3 J hv1)<|cF h L4 J J λv4 hv4 h=>y0 J (M3 (f:=j4.Pv) (l:=[v1,v4]) J a0F L2 K2 J J nl J J)<|cF h E2 J J λv5 hv5 h=>a02 (es:=(r7 [] 1 v3)) (k:=2) (v:=v5) (E:=(Ls j4.Pv)) (EK:=iF) (.inr J) J J J J J J T6 (C0 P4)<|yc J (y8 J A3 J hv1)<|y0 J (M3 (f:=j4.Pv) (l:=[v1]) J a0F L2 K2 J J nl J J)<|cF h E2 J J λv6 _ h=>a02 (es:=(r7 (r7 [] 1 v3) 2 v5)) (k:=3) (v:=v6) (E:=(Ls j4.Pv)) (EK:=iF) (.inr J) J J J J J J T6 (C0 P4)<|yc J (y8 J A3 J hv1)<|yc J (y8 J L4 J hv4)<|cF h a4K J J λv7 _ h=>y0 J (M3 (f:=j4.Pv) (l:=[v1,v4,v7]) J a0F L2 K2 J J nl J J)<|cF h E2 J J λv8 _ h=>a02 (es:=(r7 (r7 (r7 [] 1 v3) 2 v5) 3 v6)) (k:=4) (v:=v8) (E:=(Ls j4.Pv)) (EK:=iF) (.inr J) J J J J J J T6 (C0 P4)<|yc J (y8 J A3 J hv1)<|cF h a4J J J λv9 _ h=>cF h a2m J J λv10 _ h=>y0 J (M3 (f:=j4.Pv) (l:=[v1,v9,v10]) J a0F L2 K2 J J nl J J)<|cF h E2 J J λv11 _ h=>?_;refine a02 (es:=(r7 (r7 (r7 (r7 [] 1 v3) 2 v5) 3 v6) 4 v8)) (k:=5) (v:=v11) (E:=(Ls j4.Pv)) (EK:=iF) (.inr J) J J J J J J T6 (C0 P4)<|cF h a5v J J λv12 _ h=>cF h T8 J J λv13 hv13 h=>yc J (y8 J Z3 J hv2)<|y0 J (M3 (f:=j4.Pv) (l:=[v12,v13,v2]) J a0F L2 K2 J J nl J J)<|cF h E2 J J λv14 _ h=>a02 (es:=(r7 (r7 (r7 (r7 (r7 [] 1 v3) 2 v5) 3 v6) 4 v8) 5 v11)) (k:=6) (v:=v14) (E:=(Ls j4.Pv)) (EK:=iF) (.inr J) J J J J J J T6 (C0 P4)<|yc J (y8 J A3 J hv1)<|cF h a5w J J λv15 _ h=>y0 J (M3 (f:=j4.Pv) (l:=[v1,v15]) J a0F L2 K2 J J nl J J)<|cF h E2 J J λv16 _ h=>a02 (es:=(r7 (r7 (r7 (r7 (r7 (r7 [] 1 v3) 2 v5) 3 v6) 4 v8) 5 v11) 6 v14)) (k:=7) (v:=v16) (E:=(Ls j4.Pv)) (EK:=iF) (.inr J) J J J J J J T6 (C0 P4)<|yc J (y8 J A3 J hv1)<|yc J (y8 J T8 J hv13)<|y0 J (M3 (f:=j4.Pv) (l:=[v1,v13]) J a0F L2 K2 J J nl J J)<|cF h E2 J J λv17 _ h=>a02 (es:=(r7 (r7 (r7 (r7 (r7 (r7 (r7 [] 1 v3) 2 v5) 3 v6) 4 v8) 5 v11) 6 v14) 7 v16)) (k:=8) (v:=v17) (E:=(Ls j4.Pv)) (EK:=iF) (.inr J) J J J J J J T6 (C0 P4)<|yc J (y8 J A3 J hv1)<|yc J (y8 J L4 J hv4)<|y0 J (M3 (f:=j4.Pv) (l:=[v1,v4]) J a0F L2 K2 J J nl J J)<|yc J (y8 J E2 J hv5)<|a02 (es:=(r7 (r7 (r7 (r7 (r7 (r7 (r7 (r7 [] 1 v3) 2 v5) 3 v6) 4 v8) 5 v11) 6 v14) 7 v16) 8 v17)) (k:=9) (v:=v5) (E:=(Ls j4.Pv)) (EK:=iF) (.inr J) J J J J J J T6 (C0 P4)<|yc J (y8 J A3 J hv1)<|yc J (y8 J L4 J hv4)<|y0 J (M3 (f:=j4.Pv) (l:=[v1,v4]) J a0F L2 K2 J J nl J J)<|yc J (y8 J E2 J hv5)<|a02 (es:=(r7 (r7 (r7 (r7 (r7 (r7 (r7 (r7 (r7 [] 1 v3) 2 v5) 3 v6) 4 v8) 5 v11) 6 v14) 7 v16) 8 v17) 9 v5)) (k:=10) (v:=v5) (E:=(Ls j4.Pv)) (EK:=iF) (.inr J) J J J J J J T6 (C0 P4)<|cF h E2 J J λv18 _ h=>a02 (es:=(r7 (r7 (r7 (r7 (r7 (r7 (r7 (r7 (r7 (r7 [] 1 v3) 2 v5) 3 v6) 4 v8) 5 v11) 6 v14) 7 v16) 8 v17) 9 v5) 10 v5)) (k:=11) (v:=v18) (E:=(Ls j4.Pv)) (EK:=iF) (.inr J) J J J J J J T6 (C0 P4)<|y0 J (o9 (cs:=[.fn (.func 307) [],.I 0,.I 200,.I 12]) J a1F K2 J J J) ?_;refine L8 (a3F 46 (d':=.agg [fvE (some 307),.I 0,.I 200,.I 12]) J)<|y0 J (M3 (f:=j4.Pv) (l:=[(⟨(some 307),0,200,12⟩:j4)]) J a0F L2 K2 J J nl J J)<|cF h E2 J J λv19 _ h=>a02 (es:=(r7 (r7 (r7 (r7 (r7 (r7 (r7 (r7 (r7 (r7 (r7 [] 1 v3) 2 v5) 3 v6) 4 v8) 5 v11) 6 v14) 7 v16) 8 v17) 9 v5) 10 v5) 11 v18)) (k:=12) (v:=v19) (E:=(Ls j4.Pv)) (EK:=iF) (.inr J) J J J J J J T6 (C0 P4)<|S2 2 J<|a3d (c6Y 0 5000001 J J)<|a8 ?_;cases h;exact f1

theorem a9Y{a0}:PO Tryz.prog 307 [j2.Pv a0] (b0o a0) λr=>.I r:=by
 refine pO Tryz.func307 λr h _ _=>?_;unfold b0o at h;refine S4 2 J<|S4 3 J<|a8 ?_;cases h;exact f1

theorem a9Z{a0}:PO Tryz.prog 308 [j2.Pv a0] (b0p a0) λr=>.I r:=by
 refine pO Tryz.func308 λr h _ _=>?_;unfold b0p at h;refine S4 2 J<|S4 3 J<|a8 ?_;cases h;exact f1

theorem a90{a0}:PO Tryz.prog 310 [j2.Pv a0] (b0q a0) λr=>.I r:=by
 refine pO Tryz.func310 λr h _ _=>?_;unfold b0q at h;refine S4 2 J<|S4 3 J<|a8 ?_;cases h;exact f1

theorem c06{f:Fv}{a0:j2}{r:Int}(h:b1f f a0=some r):∃n,f=some n∧B1 Tryz.prog n∧T5 Tryz.prog n [j2.Pv a0] (.I r):=by
 unfold b1f at h;by_cases e307:f=some 307
 ·rw[if_pos e307] at h;exact⟨307,e307,(@a9Y a0).1,(@a9Y a0).2 _ h⟩
 rw[if_neg e307] at h;by_cases e308:f=some 308
 ·rw[if_pos e308] at h;exact⟨308,e308,(@a9Z a0).1,(@a9Z a0).2 _ h⟩
 rw[if_neg e308] at h;by_cases e310:f=some 310
 ·rw[if_pos e310] at h;exact⟨310,e310,(@a90 a0).1,(@a90 a0).2 _ h⟩
 rw[if_neg e310] at h;cases h

theorem b6f{a0}:PO Tryz.prog 170 [j2.Pv a0] (a38 a0) λr=>.I r:=by
 refine pO Tryz.func170 λr h _ _=>?_;unfold a38 at h;refine S4 2 J<|dr [] p6 (by kernel_rfl) (by kernel_rfl)<|u5 h λv1 hv1 h=>d2f J (y8 J b3O J hv1) J<|S7 2 J<|d4 J (c5V (es:=v1) (k:=a0.Kind) (E:=(Ls j4.Pv)) (EK:=iF) (d:=.tup [.L j4.Pv ((B4 v1 a0.Kind).getD ([]:List j4)),.bool ((B4 v1 a0.Kind).isSome)]) J J T6 (C0 P4) c7Q J (lk2 _ _ ([]:List j4))) J<|S8 5 J<|c5<|S4 2 J ?_
 refine cN h (λhc h=>?_) λhc h=>?_
 ·refine S4 1 J ?_;refine a8 ?_;cases h;exact f1
 ·refine b9 ?_;refine jq h (λ_=>St.of [] []) (λq9 h=>?_) λκ8 h=>?_
  ·refine S4 1 J ?_;refine a8 ?_;cases h;exact f1
  ·refine S3 1 J ?_;refine nL J a0F<|S2 1 J<|g5<|lq h (λs11=>St.of [(1,.ptr 1 0 0),(17,.L j4.Pv ((B4 v1 a0.Kind).getD ([]:List j4))),(18,.I (((B4 v1 a0.Kind).getD ([]:List j4)).length:Int)),(19,.I s11)] [(1,vR (j2.Pv a0) 4)]) W λs11 x12 h hx13=>S4 1 J<|c5 ?_;refine cN h (λhc h=>?_) λhc h=>?_
   ·refine b9 ?_;refine c5<|g5<|sR<|iL h J J a0F L2 λv13 _ h=>S2 3 J<|S3 3 J ?_;obtain⟨v14,hv15,h⟩:=a74 h;obtain⟨n15,he16,hk17,hp18⟩:=c06 hv15;refine L8 (c3r 24 J he16)<|y0 J (b5c J hk17 J hp18)<|S2 1 J<|S3 5 J<|c8 J (λhg=>mI J)<|c8 J (λhg=>oF J c3E J)<|c8 J (λhg=>oS (ct hg) J J p8 J)<|c8 J (λhg=>m8 (ct hg) (ct hg) J)<|y0 J (r8 J J J (λq=>K5 q))<|yN ?_;refine cN h (λhc h=>?_) λhc h=>?_
    ·refine S4 3 J ?_;refine a8 ?_;have h:=xL hx13 h;cases h;exact f1
    ·refine b9 ?_;refine S6 2 J ?_;exact eL h W
   ·refine l6 ?_;refine c4<|c4<|j1 ?_;have h:=xL hx13 h;exact eJ h W

theorem b2V:PO Tryz.prog 171 [] (a2U) λr=>.abs (a3B (List.map (ent iF fvE) r)):=by
 refine pO Tryz.func171 λr h _ _=>?_;unfold a2U at h;refine S4 1 J<|sR<|b7j (KT:=Int) (VT:=Fv) (EK:=iF) (E:=fvE) 5000001 J J<|a5H (es:=[]) (k:=1) (v:=(some 242)) (E:=fvE) (EK:=iF) (.inr J) J J J J J J a0e (C0 P4)<|a5H (es:=(r7 [] 1 (some 242))) (k:=2) (v:=(some 243)) (E:=fvE) (EK:=iF) (.inr J) J J J J J J a0e (C0 P4)<|a5H (es:=(r7 (r7 [] 1 (some 242)) 2 (some 243))) (k:=3) (v:=(some 244)) (E:=fvE) (EK:=iF) (.inr J) J J J J J J a0e (C0 P4)<|a5H (es:=(r7 (r7 (r7 [] 1 (some 242)) 2 (some 243)) 3 (some 244))) (k:=4) (v:=(some 245)) (E:=fvE) (EK:=iF) (.inr J) J J J J J J a0e (C0 P4)<|a5H (es:=(r7 (r7 (r7 (r7 [] 1 (some 242)) 2 (some 243)) 3 (some 244)) 4 (some 245))) (k:=5) (v:=(some 246)) (E:=fvE) (EK:=iF) (.inr J) J J J J J J a0e (C0 P4)<|a5H (es:=(r7 (r7 (r7 (r7 (r7 [] 1 (some 242)) 2 (some 243)) 3 (some 244)) 4 (some 245)) 5 (some 246))) (k:=6) (v:=(some 247)) (E:=fvE) (EK:=iF) (.inr J) J J J J J J a0e (C0 P4)<|a5H (es:=(r7 (r7 (r7 (r7 (r7 (r7 [] 1 (some 242)) 2 (some 243)) 3 (some 244)) 4 (some 245)) 5 (some 246)) 6 (some 247))) (k:=7) (v:=(some 248)) (E:=fvE) (EK:=iF) (.inr J) J J J J J J a0e (C0 P4)<|a5H (es:=(r7 (r7 (r7 (r7 (r7 (r7 (r7 [] 1 (some 242)) 2 (some 243)) 3 (some 244)) 4 (some 245)) 5 (some 246)) 6 (some 247)) 7 (some 248))) (k:=8) (v:=(some 249)) (E:=fvE) (EK:=iF) (.inr J) J J J J J J a0e (C0 P4)<|a5H (es:=(r7 (r7 (r7 (r7 (r7 (r7 (r7 (r7 [] 1 (some 242)) 2 (some 243)) 3 (some 244)) 4 (some 245)) 5 (some 246)) 6 (some 247)) 7 (some 248)) 8 (some 249))) (k:=9) (v:=(some 250)) (E:=fvE) (EK:=iF) (.inr J) J J J J J J a0e (C0 P4)<|a5H (es:=(r7 (r7 (r7 (r7 (r7 (r7 (r7 (r7 (r7 [] 1 (some 242)) 2 (some 243)) 3 (some 244)) 4 (some 245)) 5 (some 246)) 6 (some 247)) 7 (some 248)) 8 (some 249)) 9 (some 250))) (k:=10) (v:=(some 251)) (E:=fvE) (EK:=iF) (.inr J) J J J J J J a0e (C0 P4)<|S2 2 J<|a3d (c6Y 0 5000001 J J)<|a8 ?_;cases h;exact f1

theorem c12{a0}:PO Tryz.prog 364 [.I a0] (b8Y a0) λr=>.tup [.L iF r.1,.I r.2]:=by
 refine pO Tryz.func364 λr h _ _=>?_;refine S4 2 J<|c5<|S3 3 J<|c8 J (λhg=>mI J)<|c8 J (λhg=>m8 (ct hg) J J)<|y0 J (r8 J J J (λq=>K5 q))<|yN ?_;refine cN h (λhc h=>?_) λhc h=>?_
 ·refine S4 2 J ?_;refine a8 ?_;cases h;exact f2
 ·refine b9 ?_;refine S3 1 J<|u5 h λv1 hv1 h=>y1 J (b9O (f:=iF) hv1 J J J j5 n7 B9 J6 J J J) J<|S2 2 J<|a8 ?_;cases h;exact f2

theorem a3j{a0}:PO Tryz.prog 365 [.I a0] (J3 a0) λr=>.bool r:=by
 refine pO Tryz.func365 λr h _ _=>?_;unfold J3 at h;refine S4 1 J<|S3 3 J<|c8 J (λhg=>mI J)<|c8 J (λhg=>m8 (ct hg) J J)<|y0 J (n9 J J J (λq=>K3 q))<|S2 1 J<|a8 ?_;cases h;exact f1

theorem a7h{a0}:PO Tryz.prog 390 [g9.Pv a0] (O4 a0) λr=>.fn (.func 397) [.rptr (g9.Pc r)]:=by
 refine pO Tryz.func390 λr h _ _=>?_;unfold O4 at h;refine S4 2 J<|S4 2 J<|a8 ?_;cases h;exact f1

theorem M5{a0}:PON Tryz.prog 351 [.L b8.Pv a0] (y6 a0) λr=>⟨List.map b8.Pv r,0,true,8,true⟩:=by
 refine pON Tryz.func351 λr h _ _=>?_;unfold y6 at h;refine S4 1 J<|c5<|S3 1 J<|b86 J H7 λb hb=>yN ?_;refine H6 b J (λhc=>?_) (λhc=>?_)
 ·obtain rfl:a0 = []:=by simpa using hb hc
  refine S4 1 J<|a3d (G1 (t:=2) (l:=920000) (z:=8) J J)<|a8 ?_;cases h;exact⟨J,_,_,J,J,J,J⟩
 ·refine b9 ?_;refine sR<|y0 J (B5 J H7 M8)<|S1 1 J<|y1 J (a7C (f:=b8.Pv) h J J (.inl ⟨_,J,J⟩) H7 M8 c2c a8W J (λ_=>J)) J<|S2 1 J<|a8 ?_;exact⟨J,_,_,J,J,J,J⟩

end Go.Proofs.YtlkcpapbolbjnaaGreat.Ok
