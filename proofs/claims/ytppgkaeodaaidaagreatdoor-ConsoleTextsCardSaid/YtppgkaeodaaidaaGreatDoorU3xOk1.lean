/-
 The functions of the program do as the plain functions do.
-/
import Derived.Test.YtppgkaeodaaidaaGreatDoorU3xPwC
import Derived.Test.YtppgkaeodaaidaaGreatDoorU3xPwD
import Derived.Test.YtppgkaeodaaidaaGreatDoorSrt
import Derived.Test.YtppgkaeodaaidaaGreatDoorSrtI
import Derived.Test.YtppgkaeodaaidaaGreatDoorU3xPwE
import Derived.Test.YtppgkaeodaaidaaGreatDoorStr
import Derived.Test.YtppgkaeodaaidaaGreatDoorU3xSh
import Derived.Test.YtppgkaeodaaidaaGreatDoorProg
set_option linter.unusedVariables false
set_option linter.unusedSimpArgs false
set_option linter.unusedSectionVars false
namespace Go.Proofs.YtppgkaeodaaidaaGreatDoor.Ok
open Go Go.Pw Go.Sh Go.Proofs
set_option maxRecDepth 100000
set_option maxHeartbeats 4000000
abbrev _root_.Go.Sh.r6.Pc(x:r6):List PV:=[.I x.V,.I x.E]
abbrev _root_.Go.Sh.r6.Pv(x:r6):PV:=.agg x.Pc
abbrev _root_.Go.Sh.r4.Pc(x:r4):List PV:=[.I x.Serial,.I x.Strong,.I x.Weak,.I x.Prog,.bool x.Started,.L iF x.Fields]
abbrev _root_.Go.Sh.r4.Pv(x:r4):PV:=.agg x.Pc
abbrev _root_.Go.Sh.b4.Pc(x:b4):List PV:=[.I x.State,.I x.Gen,.I x.Val.Serial,.I x.Val.Strong,.I x.Val.Weak,.I x.Val.Prog,.bool x.Val.Started,.L iF x.Val.Fields]
abbrev _root_.Go.Sh.b4.Pv(x:b4):PV:=.agg x.Pc
abbrev _root_.Go.Sh.c8.Pc(x:c8):List PV:=[.I x.Target,.bool x.Intact,.I x.Call]
abbrev _root_.Go.Sh.c8.Pv(x:c8):PV:=.agg x.Pc
abbrev _root_.Go.Sh.a8.Pc(x:a8):List PV:=[.I x.State,.I x.Key,.I x.Val]
abbrev _root_.Go.Sh.a8.Pv(x:a8):PV:=.agg x.Pc
abbrev _root_.Go.Sh.l5.Pc(x:l5):List PV:=[.I x.Kind,.I x.At,.I x.Prog]
abbrev _root_.Go.Sh.l5.Pv(x:l5):PV:=.agg x.Pc
abbrev _root_.Go.Sh.j8.Pc(x:j8):List PV:=[.I x.Kind,.I x.A,.I x.B,.I x.C]
abbrev _root_.Go.Sh.j8.Pv(x:j8):PV:=.agg x.Pc
abbrev _root_.Go.Sh.o5.Pc(x:o5):List PV:=[.I x.start,.I x.end_]
abbrev _root_.Go.Sh.o5.Pv(x:o5):PV:=.agg x.Pc
abbrev _root_.Go.Sh.b7.Pc(x:b7):List PV:=[.L b4.Pv x.p7,.I x.Last]
abbrev _root_.Go.Sh.b7.Pv(x:b7):PV:=.agg x.Pc
abbrev _root_.Go.Sh.b6.Pc(x:b6):List PV:=[.L b4.Pv x.S.p7,.I x.S.Last,.I x.Serial]
abbrev _root_.Go.Sh.b6.Pv(x:b6):PV:=.agg x.Pc
abbrev _root_.Go.Sh.b5.Pc(x:b5):List PV:=[.L l5.Pv x.L,.I x.Cap]
abbrev _root_.Go.Sh.b5.Pv(x:b5):PV:=.agg x.Pc
abbrev _root_.Go.Sh.a6.Pc(x:a6):List PV:=[.L b4.Pv x.S.S.p7,.I x.S.S.Last,.I x.S.Serial,.L iF x.Roots,.L c8.Pv x.p7,.L a8.Pv x.T,.L l5.Pv x.Q.L,.I x.Q.Cap]
abbrev _root_.Go.Sh.a6.Pv(x:a6):PV:=.agg x.Pc
abbrev _root_.Go.Sh.o8.Pc(x:o8):List PV:=[.L b4.Pv x.X.S.S.p7,.I x.X.S.S.Last,.I x.X.S.Serial,.L iF x.X.Roots,.L c8.Pv x.X.p7,.L a8.Pv x.X.T,.L l5.Pv x.X.Q.L,.I x.X.Q.Cap,.L (Ls j8.Pv) x.Progs]
abbrev _root_.Go.Sh.o8.Pv(x:o8):PV:=.agg x.Pc
abbrev _root_.Go.Sh.b9.Pc(x:b9):List PV:=[.L b4.Pv x.g.X.S.S.p7,.I x.g.X.S.S.Last,.I x.g.X.S.Serial,.L iF x.g.X.Roots,.L c8.Pv x.g.X.p7,.L a8.Pv x.g.X.T,.L l5.Pv x.g.X.Q.L,.I x.g.X.Q.Cap,.L (Ls j8.Pv) x.g.Progs,.bool x.begun,.L (Ls j8.Pv) x.progs]
abbrev _root_.Go.Sh.b9.Pv(x:b9):PV:=.agg x.Pc
abbrev _root_.Go.Sh.b1.Pc(x:b1):List PV:=[fwE x.takes,fwE x.run,.bool x.early]
abbrev _root_.Go.Sh.b1.Pv(x:b1):PV:=.agg x.Pc
abbrev _root_.Go.Sh.c6.Pc(x:c6):List PV:=[fvE x.part,.I x.least,.I x.most,.I x.e]
abbrev _root_.Go.Sh.c6.Pv(x:c6):PV:=.agg x.Pc
abbrev _root_.Go.Sh.o0.Pc(x:o0):List PV:=[.L b4.Pv x.x.S.S.p7,.I x.x.S.S.Last,.I x.x.S.Serial,.L iF x.x.Roots,.L c8.Pv x.x.p7,.L a8.Pv x.x.T,.L l5.Pv x.x.Q.L,.I x.x.Q.Cap,.I x.o.Kind,.I x.o.A,.I x.o.B,.I x.o.C]
abbrev _root_.Go.Sh.o0.Pv(x:o0):PV:=.agg x.Pc
abbrev _root_.Go.Sh.B4.Pc(x:B4):List PV:=[.I x.r,.I x.h]
abbrev _root_.Go.Sh.B4.Pv(x:B4):PV:=.agg x.Pc
abbrev _root_.Go.Sh.A5.Pc(x:A5):List PV:=[.I x.h,.I x.k,.I x.v]
abbrev _root_.Go.Sh.A5.Pv(x:A5):PV:=.agg x.Pc
abbrev _root_.Go.Sh.B3.Pc(x:B3):List PV:=[.L a8.Pv x.t]
abbrev _root_.Go.Sh.B3.Pv(x:B3):PV:=.agg x.Pc
abbrev _root_.Go.Sh.l4.Pc(x:l4):List PV:=[.I x.Key,.I x.Val]
abbrev _root_.Go.Sh.l4.Pv(x:l4):PV:=.agg x.Pc
abbrev _root_.Go.Sh.e6.Pc(x:e6):List PV:=[.L iF x.L,.I x.Cap]
abbrev _root_.Go.Sh.e6.Pv(x:e6):PV:=.agg x.Pc
abbrev _root_.Go.Sh.Q8.Pc(x:Q8):List PV:=[.I x.V,.I x.E]
abbrev _root_.Go.Sh.Q8.Pv(x:Q8):PV:=.agg x.Pc
def a4r(t:Nat):Nat:=if t=99 then 4 else if t=103 then 0 else if t=107 then 1 else 0
theorem I1:C4 Tryz.prog 3=some false:=by kernel_rfl
theorem a8v:C4 Tryz.prog 4=some false:=by kernel_rfl
theorem T0:C4 Tryz.prog 9=some false:=by kernel_rfl
theorem a5y:C4 Tryz.prog 27=some false:=by kernel_rfl
theorem a0o:C4 Tryz.prog 29=some true:=by kernel_rfl
theorem b5C:C4 Tryz.prog 38=some false:=by kernel_rfl
theorem Y4:C4 Tryz.prog 40=some true:=by kernel_rfl
theorem a1M:C4 Tryz.prog 42=some true:=by kernel_rfl
theorem b0H:C4 Tryz.prog 43=some false:=by kernel_rfl
theorem b5D:C4 Tryz.prog 44=some false:=by kernel_rfl
theorem a88:C4 Tryz.prog 45=some false:=by kernel_rfl
theorem a08:C4 Tryz.prog 48=some true:=by kernel_rfl
theorem o7:C4 Tryz.prog 50=some true:=by kernel_rfl
theorem a2S:C4 Tryz.prog 53=some true:=by kernel_rfl
theorem S9:C4 Tryz.prog 63=some true:=by kernel_rfl
theorem a89:C4 Tryz.prog 92=some true:=by kernel_rfl
theorem b1h:C4 Tryz.prog 115=some true:=by kernel_rfl
theorem b3T:C4 Tryz.prog 120=some true:=by kernel_rfl
theorem b3U:C4 Tryz.prog 121=some false:=by kernel_rfl
theorem b3V:C4 Tryz.prog 124=some true:=by kernel_rfl
theorem b3W:C4 Tryz.prog 142=some false:=by kernel_rfl
theorem a4T:C4 Tryz.prog 168=some true:=by kernel_rfl
theorem a0e:C4 Tryz.prog 199=some true:=by kernel_rfl
theorem S0:C4 Tryz.prog 205=some true:=by kernel_rfl
theorem b1i:C4 Tryz.prog 290=some false:=by kernel_rfl
theorem a3C:C4 Tryz.prog 450=some true:=by kernel_rfl
theorem J2:D2 Tryz.prog 3=some 8:=by kernel_rfl
theorem b5f:D2 Tryz.prog 9=some 16:=by kernel_rfl
theorem b5E:D2 Tryz.prog 92=some 32:=by kernel_rfl
theorem a9a:D2 Tryz.prog 120=some 16:=by kernel_rfl
theorem b3X:D2 Tryz.prog 142=some 24:=by kernel_rfl
theorem b1j:D2 Tryz.prog 202=some 24:=by kernel_rfl
theorem b3Y:D2 Tryz.prog 205=some 24:=by kernel_rfl
theorem b1k:D2 Tryz.prog 224=some 80:=by kernel_rfl
theorem b1l:D2 Tryz.prog 371=some 24:=by kernel_rfl
theorem b1m:D2 Tryz.prog 471=some 16:=by kernel_rfl
theorem A8:u0 Tryz.prog 24=some 9:=by kernel_rfl
theorem I2:u0 Tryz.prog 38=some 224:=by kernel_rfl
theorem j1:u0 Tryz.prog 43=some 3:=by kernel_rfl
theorem K5:u0 Tryz.prog 44=some 202:=by kernel_rfl
theorem P8:u0 Tryz.prog 45=some 371:=by kernel_rfl
theorem a2T:u0 Tryz.prog 46=some 205:=by kernel_rfl
theorem a0p:u0 Tryz.prog 51=some 142:=by kernel_rfl
theorem a0M:u0 Tryz.prog 118=some 120:=by kernel_rfl
theorem a0N:u0 Tryz.prog 142=some 92:=by kernel_rfl
theorem M8:u0 Tryz.prog 193=some 199:=by kernel_rfl
theorem a1N:u0 Tryz.prog 468=some 471:=by kernel_rfl
theorem b2y:O6 Tryz.prog 29 1=some (1,27):=by kernel_rfl
theorem b2z:O6 Tryz.prog 40 0=some (0,38):=by kernel_rfl
theorem a9X:O6 Tryz.prog 50 1=some (3,43):=by kernel_rfl
theorem b2A:O6 Tryz.prog 50 2=some (4,44):=by kernel_rfl
theorem b2B:O6 Tryz.prog 50 4=some (6,48):=by kernel_rfl
theorem b2C:O6 Tryz.prog 92 0=some (0,3):=by kernel_rfl
theorem b10:O6 Tryz.prog 124 0=some (0,121):=by kernel_rfl
theorem b11:O6 Tryz.prog 124 2=some (2,4):=by kernel_rfl
theorem b12:O6 Tryz.prog 168 1=some (1,3):=by kernel_rfl
theorem b13:O6 Tryz.prog 168 2=some (2,3):=by kernel_rfl
theorem a8w:O6 Tryz.prog 168 4=some (4,4):=by kernel_rfl
theorem b14:O6 Tryz.prog 199 2=some (2,3):=by kernel_rfl
theorem a8x:O6 Tryz.prog 202 0=some (0,3):=by kernel_rfl
theorem b15:O6 Tryz.prog 202 1=some (1,4):=by kernel_rfl
theorem a8y:O6 Tryz.prog 224 0=some (0,3):=by kernel_rfl
theorem b16:O6 Tryz.prog 224 2=some (2,168):=by kernel_rfl
theorem b17:O6 Tryz.prog 371 1=some (1,3):=by kernel_rfl
theorem b18:O6 Tryz.prog 471 0=some (0,3):=by kernel_rfl
theorem a8z:O6 Tryz.prog 471 1=some (1,3):=by kernel_rfl
theorem b5g:b3C Tryz.prog 3=some .i64:=by kernel_rfl
theorem b5F:p6 Tryz.prog 21:=kC Tryz.func21 J
theorem b0I:p6 Tryz.prog 28:=kC Tryz.func28 J
theorem b5G:p6 Tryz.prog 69:=kC Tryz.func69 J
theorem b5H:p6 Tryz.prog 75:=kC Tryz.func75 J
theorem b5I:p6 Tryz.prog 76:=kC Tryz.func76 J
theorem b5J:p6 Tryz.prog 78:=kC Tryz.func78 J
theorem b5K:p6 Tryz.prog 80:=kC Tryz.func80 J
theorem b5L:p6 Tryz.prog 81:=kC Tryz.func81 J
theorem b5M:p6 Tryz.prog 82:=kC Tryz.func82 J
theorem b1n:p6 Tryz.prog 119:=kC Tryz.func119 J
theorem b3Z:p6 Tryz.prog 126:=kC Tryz.func126 J
theorem b30:p6 Tryz.prog 127:=kC Tryz.func127 J
theorem b31:p6 Tryz.prog 129:=kC Tryz.func129 J
theorem b32:p6 Tryz.prog 137:=kC Tryz.func137 J
theorem b33:p6 Tryz.prog 138:=kC Tryz.func138 J
theorem b34:p6 Tryz.prog 212:=kC Tryz.func212 J
theorem b35:p6 Tryz.prog 258:=kC Tryz.func258 J
theorem b36:p6 Tryz.prog 265:=kC Tryz.func265 J
theorem b37:p6 Tryz.prog 276:=kC Tryz.func276 J
theorem b38:p6 Tryz.prog 287:=kC Tryz.func287 J
theorem b39:p6 Tryz.prog 298:=kC Tryz.func298 J
theorem b4a:p6 Tryz.prog 367:=kC Tryz.func367 J
theorem b4b:p6 Tryz.prog 369:=kC Tryz.func369 J
theorem b1o:p6 Tryz.prog 370:=kC Tryz.func370 J
theorem b1p:p6 Tryz.prog 373:=kC Tryz.func373 J
theorem b4c:p6 Tryz.prog 406:=kC Tryz.func406 J
theorem b1q:p6 Tryz.prog 407:=kC Tryz.func407 J
theorem C7:a3W Tryz.prog 126=some (9,124):=by kernel_rfl
theorem L4:a3W Tryz.prog 151=some (3,149):=by kernel_rfl
theorem I3:a3W Tryz.prog 195=some (3,193):=by kernel_rfl
theorem a7b:a3W Tryz.prog 222=some (3,3):=by kernel_rfl
theorem W9:a3W Tryz.prog 290=some (3,4):=by kernel_rfl
theorem b5N:y4 Tryz.prog 29=some (λi=>(#[(0,1),(1,1)]:Array (Nat × Nat))[i]?):=by kernel_rfl
theorem b2D:y4 Tryz.prog 40=some (λi=>(#[(0,1),(1,1)]:Array (Nat × Nat))[i]?):=by kernel_rfl
theorem b2E:y4 Tryz.prog 42=some (λi=>(#[(0,2),(2,1)]:Array (Nat × Nat))[i]?):=by kernel_rfl
theorem b5O:y4 Tryz.prog 48=some (λi=>(#[(0,1),(1,1)]:Array (Nat × Nat))[i]?):=by kernel_rfl
theorem b2F:y4 Tryz.prog 50=some (λi=>(#[(0,3),(3,1),(4,1),(5,1),(6,2)]:Array (Nat × Nat))[i]?):=by kernel_rfl
theorem b0J:y4 Tryz.prog 53=some (λi=>(#[(0,8),(8,1)]:Array (Nat × Nat))[i]?):=by kernel_rfl
theorem a9c:y4 Tryz.prog 92=some (λi=>(#[(0,1),(1,1),(2,1),(3,1)]:Array (Nat × Nat))[i]?):=by kernel_rfl
theorem b5P:y4 Tryz.prog 99=some (λi=>(#[(0,4)]:Array (Nat × Nat))[i]?):=by kernel_rfl
theorem b4d:y4 Tryz.prog 103=some (λi=>(#[]:Array (Nat × Nat))[i]?):=by kernel_rfl
theorem b4e:y4 Tryz.prog 107=some (λi=>(#[(0,1)]:Array (Nat × Nat))[i]?):=by kernel_rfl
theorem b1r:y4 Tryz.prog 120=some (λi=>(#[(0,1),(1,1)]:Array (Nat × Nat))[i]?):=by kernel_rfl
theorem a3D:y4 Tryz.prog 124=some (λi=>(#[(0,1),(1,1),(2,1)]:Array (Nat × Nat))[i]?):=by kernel_rfl
theorem b4f:y4 Tryz.prog 155=some (λi=>(#[(0,8),(8,4)]:Array (Nat × Nat))[i]?):=by kernel_rfl
theorem b4g:y4 Tryz.prog 168=some (λi=>(#[(0,1),(1,1),(2,1),(3,1),(4,1),(5,1)]:Array (Nat × Nat))[i]?):=by kernel_rfl
theorem T3:y4 Tryz.prog 199=some (λi=>(#[(0,1),(1,1),(2,1),(3,1)]:Array (Nat × Nat))[i]?):=by kernel_rfl
theorem b4h:y4 Tryz.prog 202=some (λi=>(#[(0,1),(1,1),(2,1)]:Array (Nat × Nat))[i]?):=by kernel_rfl
theorem a9b:y4 Tryz.prog 205=some (λi=>(#[(0,1),(1,1),(2,1)]:Array (Nat × Nat))[i]?):=by kernel_rfl
theorem a6P:y4 Tryz.prog 224=some (λi=>(#[(0,1),(1,1),(2,6)]:Array (Nat × Nat))[i]?):=by kernel_rfl
theorem b4i:y4 Tryz.prog 348=some (λi=>(#[(0,1),(1,1),(2,1)]:Array (Nat × Nat))[i]?):=by kernel_rfl
theorem b4j:y4 Tryz.prog 356=some (λi=>(#[(0,1)]:Array (Nat × Nat))[i]?):=by kernel_rfl
theorem b1s:y4 Tryz.prog 371=some (λi=>(#[(0,1),(1,1),(2,1)]:Array (Nat × Nat))[i]?):=by kernel_rfl
theorem b4k:y4 Tryz.prog 376=some (λi=>(#[(0,1)]:Array (Nat × Nat))[i]?):=by kernel_rfl
theorem b4l:y4 Tryz.prog 388=some (λi=>(#[(0,1),(1,1)]:Array (Nat × Nat))[i]?):=by kernel_rfl
theorem b4m:y4 Tryz.prog 450=some (λi=>(#[(0,1),(1,1)]:Array (Nat × Nat))[i]?):=by kernel_rfl
theorem b1t:y4 Tryz.prog 471=some (λi=>(#[(0,1),(1,1)]:Array (Nat × Nat))[i]?):=by kernel_rfl
theorem b2G:a4F Tryz.prog 99=true:=by kernel_rfl
theorem b1u:a4F Tryz.prog 103=true:=by kernel_rfl
theorem b1v:a4F Tryz.prog 107=true:=by kernel_rfl
theorem a9d:a9J Tryz.prog 115=some (4,3):=by kernel_rfl
theorem n0:l8 Tryz.prog 3=some 1:=by kernel_rfl
theorem b6L:l8 Tryz.prog 4=some 1:=by kernel_rfl
theorem H4:l8 Tryz.prog 9=some 1:=by kernel_rfl
theorem P9:l8 Tryz.prog 29=some 2:=by kernel_rfl
theorem T4:l8 Tryz.prog 40=some 2:=by kernel_rfl
theorem a1P:l8 Tryz.prog 42=some 3:=by kernel_rfl
theorem b0K:l8 Tryz.prog 43=some 1:=by kernel_rfl
theorem b2H:l8 Tryz.prog 46=some 1:=by kernel_rfl
theorem T5:l8 Tryz.prog 48=some 2:=by kernel_rfl
theorem l7:l8 Tryz.prog 50=some 8:=by kernel_rfl
theorem Q0:l8 Tryz.prog 53=some 9:=by kernel_rfl
theorem F6:l8 Tryz.prog 63=some 11:=by kernel_rfl
theorem a1Q:l8 Tryz.prog 92=some 4:=by kernel_rfl
theorem b4n:l8 Tryz.prog 103=some 0:=by kernel_rfl
theorem b1w:l8 Tryz.prog 115=some 4:=by kernel_rfl
theorem a1O:l8 Tryz.prog 120=some 2:=by kernel_rfl
theorem b1x:l8 Tryz.prog 124=some 3:=by kernel_rfl
theorem a0f:l8 Tryz.prog 142=some 1:=by kernel_rfl
theorem a0O:l8 Tryz.prog 168=some 6:=by kernel_rfl
theorem D5:l8 Tryz.prog 199=some 4:=by kernel_rfl
theorem L2:l8 Tryz.prog 202=some 3:=by kernel_rfl
theorem E3:l8 Tryz.prog 205=some 3:=by kernel_rfl
theorem H7:l8 Tryz.prog 224=some 8:=by kernel_rfl
theorem P5:l8 Tryz.prog 371=some 3:=by kernel_rfl
theorem a0P:l8 Tryz.prog 450=some 2:=by kernel_rfl
theorem a4U:l8 Tryz.prog 471=some 2:=by kernel_rfl
theorem D9:Tryz.prog.underlying 3=some (.int .i64):=by kernel_rfl
theorem b6M:Tryz.prog.underlying 4=some (.bool):=by kernel_rfl
theorem b6N:Tryz.prog.underlying 5=some (.int .u8):=by kernel_rfl
theorem C2:Tryz.prog.underlying 9=some (.string):=by kernel_rfl
theorem b5Q:Tryz.prog.underlying 21=some (.int .i32):=by kernel_rfl
theorem z7:r7 Tryz.prog 3=some ((.I 0)):=by kernel_rfl
theorem a9Y:r7 Tryz.prog 4=some ((.bool false)):=by kernel_rfl
theorem b2L:r7 Tryz.prog 9=some ((.string ByteArray.empty)):=by kernel_rfl
theorem b5R:r7 Tryz.prog 29=some ((.agg #[(.I 0),(.I 0)])):=by kernel_rfl
theorem b2I:r7 Tryz.prog 40=some ((.agg #[(.slice none 0 0),(.I 0)])):=by kernel_rfl
theorem b2J:r7 Tryz.prog 42=some ((.agg #[(.slice none 0 0),(.I 0),(.I 0)])):=by kernel_rfl
theorem b5S:r7 Tryz.prog 48=some ((.agg #[(.slice none 0 0),(.I 0)])):=by kernel_rfl
theorem b2K:r7 Tryz.prog 50=some ((.agg #[(.slice none 0 0),(.I 0),(.I 0),(.slice none 0 0),(.slice none 0 0),(.slice none 0 0),(.slice none 0 0),(.I 0)])):=by kernel_rfl
theorem b0L:r7 Tryz.prog 53=some ((.agg #[(.slice none 0 0),(.I 0),(.I 0),(.slice none 0 0),(.slice none 0 0),(.slice none 0 0),(.slice none 0 0),(.I 0),(.slice none 0 0)])):=by kernel_rfl
theorem a5z:r7 Tryz.prog 92=some ((.agg #[(.I 0),(.I 0),(.I 0),(.I 0)])):=by kernel_rfl
theorem b2M:r7 Tryz.prog 99=some ((.agg #[(.I 0),(.I 0),(.I 0),(.I 0)])):=by kernel_rfl
theorem b1y:r7 Tryz.prog 103=some ((.agg #[])):=by kernel_rfl
theorem b1z:r7 Tryz.prog 107=some ((.agg #[(.I 0)])):=by kernel_rfl
theorem a1R:r7 Tryz.prog 120=some ((.agg #[(.I 0),(.I 0)])):=by kernel_rfl
theorem a1S:r7 Tryz.prog 124=some ((.agg #[.nilFunc,.nilFunc,(.bool false)])):=by kernel_rfl
theorem b4o:r7 Tryz.prog 142=some ((.slice none 0 0)):=by kernel_rfl
theorem b4p:r7 Tryz.prog 149=some (.nilFunc):=by kernel_rfl
theorem b4q:r7 Tryz.prog 155=some ((.agg #[(.slice none 0 0),(.I 0),(.I 0),(.slice none 0 0),(.slice none 0 0),(.slice none 0 0),(.slice none 0 0),(.I 0),(.I 0),(.I 0),(.I 0),(.I 0)])):=by kernel_rfl
theorem b4r:r7 Tryz.prog 168=some ((.agg #[(.I 0),(.I 0),(.I 0),(.I 0),(.bool false),(.slice none 0 0)])):=by kernel_rfl
theorem b4s:r7 Tryz.prog 193=some ((.slice none 0 0)):=by kernel_rfl
theorem C5:r7 Tryz.prog 199=some ((.agg #[.nilFunc,(.I 0),(.I 0),(.I 0)])):=by kernel_rfl
theorem a9e:r7 Tryz.prog 202=some ((.agg #[(.I 0),(.bool false),(.I 0)])):=by kernel_rfl
theorem a4V:r7 Tryz.prog 205=some ((.agg #[(.I 0),(.I 0),(.I 0)])):=by kernel_rfl
theorem a3E:r7 Tryz.prog 224=some ((.agg #[(.I 0),(.I 0),(.I 0),(.I 0),(.I 0),(.I 0),(.bool false),(.slice none 0 0)])):=by kernel_rfl
theorem b4t:r7 Tryz.prog 348=some ((.agg #[(.I 0),(.I 0),(.I 0)])):=by kernel_rfl
theorem b4u:r7 Tryz.prog 356=some ((.agg #[(.slice none 0 0)])):=by kernel_rfl
theorem a6Q:r7 Tryz.prog 371=some ((.agg #[(.I 0),(.I 0),(.I 0)])):=by kernel_rfl
theorem b4v:r7 Tryz.prog 376=some ((.agg #[.nilFunc])):=by kernel_rfl
theorem b4w:r7 Tryz.prog 388=some ((.agg #[(.I 0),(.I 0)])):=by kernel_rfl
theorem b4x:r7 Tryz.prog 450=some ((.agg #[(.slice none 0 0),(.I 0)])):=by kernel_rfl
theorem a3F:r7 Tryz.prog 471=some ((.agg #[(.I 0),(.I 0)])):=by kernel_rfl
theorem p8:Tryz.prog.follows .mixedOrders=true:=by kernel_rfl
def tb:TB:=⟨[((29,0),(0,3)),((29,1),(1,27)),((34,0),(0,3)),((34,1),(1,27)),((40,0),(0,38)),((40,1),(1,3)),((42,0),(0,40)),((42,1),(2,3)),((48,0),(0,46)),((48,1),(1,3)),((50,0),(0,42)),((50,1),(3,43)),((50,2),(4,44)),((50,3),(5,45)),((50,4),(6,48)),((53,0),(0,50)),((53,1),(8,51)),((63,0),(0,53)),((63,1),(9,4)),((63,2),(10,51)),((92,0),(0,3)),((92,1),(1,3)),((92,2),(2,3)),((92,3),(3,3)),((99,0),(0,92)),((107,0),(0,3)),((120,0),(0,3)),((120,1),(1,3)),((124,1),(1,122)),((155,0),(0,50)),((155,1),(8,92)),((168,0),(0,3)),((168,1),(1,3)),((168,2),(2,3)),((168,3),(3,3)),((168,4),(4,4)),((168,5),(5,43)),((199,0),(0,197)),((199,1),(1,3)),((199,3),(3,27)),((202,0),(0,3)),((202,1),(1,4)),((202,2),(2,3)),((205,0),(0,3)),((205,1),(1,3)),((205,2),(2,3)),((224,0),(0,3)),((224,1),(1,3)),((224,2),(2,168)),((348,0),(0,3)),((348,1),(1,3)),((348,2),(2,3)),((356,0),(0,45)),((371,0),(0,3)),((371,1),(1,3)),((371,2),(2,3)),((376,0),(0,374)),((388,0),(0,3)),((388,1),(1,3)),((450,0),(0,43)),((450,1),(1,3)),((471,0),(0,3)),((471,1),(1,3))],[(3,false),(4,false),(9,false),(27,false),(29,true),(38,false),(40,true),(42,true),(43,false),(44,false),(45,false),(46,false),(48,true),(50,true),(51,false),(53,true),(63,true),(92,true),(115,true),(122,false),(142,false),(155,true),(168,true),(197,false),(199,true),(202,true),(205,true),(222,false),(224,true),(290,false),(371,true),(374,false),(376,true),(450,true),(468,false),(471,true),(479,false)],[(3,1),(4,1),(27,1),(29,2),(38,1),(40,2),(42,3),(43,1),(44,1),(45,1),(48,2),(50,8),(51,1),(53,9),(63,11),(92,4),(99,4),(107,1),(115,4),(120,2),(124,3),(155,12),(168,6),(199,4),(202,3),(205,3),(222,1),(224,8),(290,1),(371,3),(376,1),(450,2),(468,1),(471,2)],[(3,.I 0),(4,.bool false),(27,.I 0),(29,.agg [.I 0,.I 0]),(40,.agg [.lst true (List.map b4.Pv []),.I 0]),(42,.agg [.lst true (List.map b4.Pv []),.I 0,.I 0]),(43,.lst true (List.map iF [])),(45,.lst true (List.map a8.Pv [])),(48,.agg [.lst true (List.map l5.Pv []),.I 0]),(50,.agg [.lst true (List.map b4.Pv []),.I 0,.I 0,.lst true (List.map iF []),.lst true (List.map c8.Pv []),.lst true (List.map a8.Pv []),.lst true (List.map l5.Pv []),.I 0]),(53,.agg [.lst true (List.map b4.Pv []),.I 0,.I 0,.lst true (List.map iF []),.lst true (List.map c8.Pv []),.lst true (List.map a8.Pv []),.lst true (List.map l5.Pv []),.I 0,.lst true (List.map (Ls j8.Pv) [])]),(63,.agg [.lst true (List.map b4.Pv []),.I 0,.I 0,.lst true (List.map iF []),.lst true (List.map c8.Pv []),.lst true (List.map a8.Pv []),.lst true (List.map l5.Pv []),.I 0,.lst true (List.map (Ls j8.Pv) []),.bool false,.lst true (List.map (Ls j8.Pv) [])]),(92,.agg [.I 0,.I 0,.I 0,.I 0]),(99,.agg [.I 0,.I 0,.I 0,.I 0]),(103,.agg []),(107,.agg [.I 0]),(115,.agg [.I 0,.I 0,.I 0,.I 0]),(120,.agg [.I 0,.I 0]),(124,.agg [.nilfn,.nilfn,.bool false]),(168,.agg [.I 0,.I 0,.I 0,.I 0,.bool false,.lst true (List.map iF [])]),(199,.agg [.nilfn,.I 0,.I 0,.I 0]),(202,.agg [.I 0,.bool false,.I 0]),(205,.agg [.I 0,.I 0,.I 0]),(222,.abs b0G),(224,.agg [.I 0,.I 0,.I 0,.I 0,.I 0,.I 0,.bool false,.lst true (List.map iF [])]),(290,.abs b0G),(371,.agg [.I 0,.I 0,.I 0]),(376,.agg [.nilfn]),(450,.agg [.lst true (List.map iF []),.I 0]),(468,.lst true (List.map l4.Pv [])),(471,.agg [.I 0,.I 0])]⟩
theorem Tb:TB.Ok Tryz.prog tb:=⟨by kernel_rfl,by kernel_rfl,by kernel_rfl,by kernel_rfl⟩
section
variable{X:Ctx}{ops:Array Oper}{K:Ctx→St→Prop}{i n:Nat}{l l':List Oper}{env env':Nat→PV}{σ σ':Nat→Option Row}{Q:PX→Ctx→St→Prop}{y:Code}{KD:St→Prop}{bar:List Nat}
theorem S1(n:Nat)(h:run tb n l env σ=some (l',env',σ'))(k:Sq X ops (i+n) l' K ⟨env',σ'⟩)(hb:TB.Ok X.P tb:=by exact Tb):Sq X ops i l K ⟨env,σ⟩:=seg hb n h k
theorem S2(n:Nat)(h:run tb n l env σ=some ([],env',σ'))(k:K X ⟨env',σ'⟩)(hb:TB.Ok X.P tb:=by exact Tb):Sq X ops i l K ⟨env,σ⟩:=seg hb n h (yN k)
theorem S3{id:Nat}(n:Nat)(h:run tb n l env σ=some (l',env',σ'))(k:Sq X l.toArray (0+n) l' (λX' s=>J1 X' y Q s) ⟨env',σ'⟩)(hd:X5 X.N l.toArray=true:=by kernel_rfl)(hb:TB.Ok X.P tb:=by exact Tb):J1 X (.seq (.region id l.toArray false) y) Q ⟨env,σ⟩:=sr hd (seg hb n h k)
theorem S4{id:Nat}(n:Nat)(h:run tb n l env σ=some ([],env',σ'))(k:J1 X y Q ⟨env',σ'⟩)(hd:X5 X.N l.toArray=true:=by kernel_rfl)(hb:TB.Ok X.P tb:=by exact Tb):J1 X (.seq (.region id l.toArray false) y) Q ⟨env,σ⟩:=sr hd (seg hb n h (yN k))
theorem S5{id:Nat}(n:Nat)(h:run tb n l env σ=some (l',env',σ'))(k:Sq X l.toArray (0+n) l' (Q .normal) ⟨env',σ'⟩)(hd:X5 X.N l.toArray=true:=by kernel_rfl)(hb:TB.Ok X.P tb:=by exact Tb):J1 X (.region id l.toArray false) Q ⟨env,σ⟩:=sr1 hd (seg hb n h k)
theorem S6{id:Nat}(n:Nat)(h:run tb n l env σ=some ([],env',σ'))(k:Q .normal X ⟨env',σ'⟩)(hd:X5 X.N l.toArray=true:=by kernel_rfl)(hb:TB.Ok X.P tb:=by exact Tb):J1 X (.region id l.toArray false) Q ⟨env,σ⟩:=sr1 hd (seg hb n h (yN k))
theorem S7(n:Nat)(h:b4X tb bar n i l env σ=some (l',env',σ'))(k:Ex X.P ops bar true (i+n) l' ⟨env',σ'⟩ KD)(hb:TB.Ok X.P tb:=by exact Tb):Ex X.P ops bar true i l ⟨env,σ⟩ KD:=dG hb n h k
theorem S8(n:Nat)(h:b4X tb bar n i l env σ=some ([],env',σ'))(k:KD ⟨env',σ'⟩)(hb:TB.Ok X.P tb:=by exact Tb):Ex X.P ops bar true i l ⟨env,σ⟩ KD:=dG hb n h k
end
theorem b6t:a86 Tryz.prog (Tryz.sortF_ren.f 6):=b2q Tryz.sortF
theorem b45:a6O Tryz.prog (Tryz.sortI_ren.f 5):=b1a Tryz.sortI
theorem b26{n:Int}{r:ByteArray}(h:a4o n=some r):E6 Tryz.prog 28 [.I n] (.str r):=
 b4T (P:=Tryz.prog) (ρ:=Tryz.itoaL_ren) Tryz.itoaL (by rw[show Tryz.prog.globalNamed (b0u Tryz.prog)=some b7a by kernel_rfl];exact nofun) (λw hT n h0 h1=>Any.strconv_Itoa Tryz.itoaL n h0 h1 w (cast (by kernel_rfl) hT)) h
theorem b6u{s sep:ByteArray}{xs:List ByteArray}(h:a9G s sep=some xs):E6 Tryz.prog 21 [.str s,.str sep] (.lst false (xs.map PV.str)):=
 b3s (P:=Tryz.prog) (ρ:=Tryz.splitL_ren) Tryz.splitL (by kernel_rfl) (by kernel_rfl) h
theorem a4B{a0}:PO Tryz.prog 23 [.int .i32 a0] (Y7 a0) λr=>.bool r:=by
 refine pO Tryz.func23 λr h _ _=>?_;unfold Y7 at h;refine S4 1 J<|S3 3 J<|l3 J (λhg=>om (d:=.int .i32 a0) J)<|l3 J (λhg=>A6 (ct hg) J J)<|y0 J (B7 J J J (λq=>eqF q))<|S1 1 J<|l3 J (λhg=>om (d:=.int .i32 a0) J)<|l3 J (λhg=>A6 (ct hg) J J)<|y0 J (B7 J J J (λq=>eqF q))<|S2 1 J<|a7 ?_;cases h;exact f1

theorem M6{a0}:PO Tryz.prog 22 [.str a0,.fn (.func 23) []] (F4 a0) λr=>.L PV.str r:=by
 refine pO Tryz.func22 λr h _ _=>?_;refine S4 1 J<|sR<|b7g (m:=32) J J nl J J a0M a1O a1R a9a nl nl<|S2 1 J<|S4 1 J ?_;refine jq h (λq=>St.of [(0,.str a0),(5,.sl 12),(6,.I q.1)] [(12,⟨List.map o5.Pv q.2,(List.map o5.Pv q.2).length,true,2,true⟩)]) (λq12 h=>?_) λκ9 h=>?_
 ·obtain⟨j10,j11⟩:=q12;refine jq h (λj15=>St.of [(0,.str a0),(5,.sl 43)] [(43,⟨List.map o5.Pv j15,(List.map o5.Pv j15).length,true,2,true⟩)]) (λj15 h=>?_) λκ14 h=>?_
  ·refine S3 1 J ?_;refine y0 J (a8S (f:=o5.Pv) J J J a0M)<|s6 h λv16 hv10 h=>y1 J (a7H (f:=PV.str) hv10 J J J A8 H4 b2L b5f J J J) J<|S2 1 J ?_;refine jq h (λj26=>St.of [(9,.sl 46)] [(46,⟨List.map PV.str j26,0,true,1,true⟩)]) (λj26 h=>?_) λκ25 h=>?_
   ·refine S4 2 J ?_;refine a7 ?_;cases h;exact f1
   ·refine S3 1 J ?_;refine y0 J (a8S (f:=o5.Pv) J J J a0M)<|S2 1 J<|c5<|lq h (λq=>St.of [(0,.str a0),(9,.sl 46),(47,.sl 43),(48,.I (j15.length:Int)),(49,.I q.1)] [(43,⟨List.map o5.Pv j15,(List.map o5.Pv j15).length,true,2,true⟩),(46,⟨List.map PV.str q.2,0,true,1,true⟩)]) (Wk.trans (l9 _ [43]) W) λq31 x30 h hx20=>?_;obtain⟨s28,s29⟩:=q31;refine S4 1 J<|c4 ?_;refine cN h (λhc h=>?_) λhc h=>?_
    ·refine b3 ?_;refine c4<|c5<|S3 1 J<|s6 h λv32 hv21 h=>y0 J (a0A (f:=o5.Pv) hv21 J J J J a0M a1O J)<|y0 J (b6X (f:=o5.Pv) (cs:=o5.Pc v32) hv21 J J J b3T a1O nl J)<|S2 3 J<|S5 7 J<|s6 h λv33 hv22 h=>y0 J (b0Z hv22 J ⟨_,J⟩ ⟨_,J⟩ C2)<|s6 h λv34 hv23 h=>y0 J (a0A (f:=PV.str) hv23 J J J J A8 H4 J)<|a4q (f:=PV.str) (v:=v33) hv23 J J (.inl J) H4<|yN<|S6 2 J ?_;exact eL h (Wk.trans (l9 _ [43]) W)
    ·refine p5 ?_;refine b8<|b8<|k8 ?_;have h:=xL hx20 h;exact eJ h W
  ·refine S4 2 J ?_;refine cN h (λhc h=>?_) λhc h=>?_
   ·refine S5 3 J ?_;refine y0 J (a7G J C2 J)<|y0 J (o9 (cs:=[.I j10,.I (a0.size:Int)]) J b1r a1R J J J)<|y0 J (L9 (f:=o5.Pv) (l:=[(⟨j10,(a0.size:Int)⟩:o5)]) J a0M a1O a1R J J nl J J)<|s6 h λv35 hv24 h=>P4 J (L8 (f:=o5.Pv) hv24 J J J J J J (.inl ⟨_,J,J⟩) a0M a1O a9a a1R J (λ_=>J)) J J J<|S2 1 J ?_;exact eJ h (Wk.trans (l9 _ [43]) W)
   ·refine b3 ?_;exact eJ h (Wk.trans (l9 _ [12]) (WP (λl=>if l=43 then 12 else l)))
 ·refine S3 1 J ?_;refine b3K 5000014 J J C2 J<|yN<|c5<|lq h (λq=>St.of [(0,.str a0),(1,.fn (.func 23) []),(5,.sl 12),(6,.I q.1),(14,.ptr 5000014 0 0)] [(5000014,itR a0 q.2.1),(12,⟨List.map o5.Pv q.2.2,(List.map o5.Pv q.2.2).length,true,2,true⟩)]) (Wk.trans (l9 _ [12]) W) λq41 x40 h hx27=>?_;obtain⟨s37,s38,s39⟩:=q41;refine sR ?_;refine b5z J J J (λhc28=>?_) (λhc28=>?_)
  ·have h:=ifT h (decide_eq_true hc28);refine S2 1 J<|c4 ?_;refine y9 true J (λ_=>?_) (λq=>nomatch q);refine b3<|c5<|S4 4 J<|S3 2 J<|cA h a4B J J λv42 _ h=>yN ?_;refine cN h (λhc h=>?_) λhc h=>?_
   ·refine S4 2 J ?_;refine cN h (λhc h=>?_) λhc h=>?_
    ·refine S3 3 J ?_;refine y0 J (o9 (cs:=[.I s37,.I ((s38:Nat):Int)]) J b1r a1R J J J)<|y0 J (L9 (f:=o5.Pv) (l:=[(⟨s37,((s38:Nat):Int)⟩:o5)]) J a0M a1O a1R J J nl J J)<|s6 h λv43 hv30 h=>P4 J (L8 (f:=o5.Pv) hv30 J J J J J J (.inl ⟨_,J,J⟩) a0M a1O a9a a1R J (λ_=>J)) J J J<|S2 1 J<|S5 1 J<|y0 J (b6c J J J)<|S2 1 J ?_;exact eL h (Wk.trans (l9 _ [29]) (WP (λl=>if l=12 then 29 else l)))
    ·refine b3 ?_;exact eL h (Wk.trans (l9 _ [12]) W)
   ·refine S4 2 J ?_;refine cN h (λhc h=>?_) λhc h=>?_
    ·refine S6 2 J ?_;exact eL h (Wk.trans (l9 _ [12]) W)
    ·refine b3 ?_;exact eL h (Wk.trans (l9 _ [12]) W)
  ·have h:=ifF h (decide_eq_false hc28);refine S2 1 J<|c4 ?_;refine y9 false J (λq=>nomatch q) (λ_=>?_);refine p5<|b8<|b8<|k8 ?_;have h:=xL hx27 h;exact eJ h (Wk.trans (l9 _ [12]) W)

theorem F7{a0}:PO Tryz.prog 77 [.I a0] (K2 a0) λr=>.fn (.func 137) [.rptr [.I r]]:=by
 refine pO Tryz.func77 λr h _ _=>?_;unfold K2 at h;refine S4 2 J<|S4 2 J<|a7 ?_;cases h;exact f1

theorem r5{a0 a1}:PO Tryz.prog 79 [.I a0,.I a1] (u3 a0 a1) λr=>b1.Pv r:=by
 refine pO Tryz.func79 λr h _ _=>?_;refine S4 2 J<|S3 1 J<|cF h F7 J J λv1 _ h=>S1 1 J<|E2 (b5w 7 J)<|y0 J (o9 (cs:=[.fn (.func 137) [.rptr [.I v1]],.fn (.func 138) [.rptr [.I a0]],.bool false]) J a3D a1S J J J)<|E2 (a81 8 (d':=.agg [fwE (some (137,some v1)),fwE (some (138,some a0)),.bool false]) J J)<|S2 1 J<|a7 ?_;cases h;exact⟨J,[_],⟨oL J J J b3V b1x nl J,tr⟩,J,io⟩

theorem a3R:PO Tryz.prog 42 [] (a1t) λr=>.abs (I0 (List.map (ent PV.str b1.Pv) r)):=by
 refine pO Tryz.func42 λr h _ _=>?_;refine S4 1 J<|sR<|a84 (KT:=ByteArray) (VT:=b1) (EK:=PV.str) (E:=b1.Pv) 5000001 J J<|y0 J (o9 (cs:=[.fn (.func 75) [],.fn (.func 76) [],.bool true]) J a3D a1S J J J)<|E2 (a81 2 (d':=.agg [fwE (some (75,none)),fwE (some (76,none)),.bool true]) J J)<|A2 (es:=[]) (k:=(l6 [112,114,111,103])) (v:=(⟨(some (75,none)),(some (76,none)),true⟩:b1)) (E:=b1.Pv) (EK:=PV.str) (.inr J) J J J J J J C7 (C8 C2)<|cF h F7 J J λv1 _ h=>y0 J (o9 (cs:=[.fn (.func 137) [.rptr [.I v1]],.fn (.func 78) [],.bool true]) J a3D a1S J J J)<|E2 (a81 4 (d':=.agg [fwE (some (137,some v1)),fwE (some (78,none)),.bool true]) J J)<|A2 (es:=(e8 [] (l6 [112,114,111,103]) (⟨(some (75,none)),(some (76,none)),true⟩:b1))) (k:=(l6 [104,101,97,112])) (v:=(⟨(some (137,some v1)),(some (78,none)),true⟩:b1)) (E:=b1.Pv) (EK:=PV.str) (.inr J) J J J J J J C7 (C8 C2)<|cF h r5 J J λv2 _ h=>A2 (es:=(e8 (e8 [] (l6 [112,114,111,103]) (⟨(some (75,none)),(some (76,none)),true⟩:b1)) (l6 [104,101,97,112]) (⟨(some (137,some v1)),(some (78,none)),true⟩:b1))) (k:=(l6 [110,101,119])) (v:=v2) (E:=b1.Pv) (EK:=PV.str) (.inr J) J J J J J J C7 (C8 C2)<|cF h r5 J J λv3 _ h=>A2 (es:=(e8 (e8 (e8 [] (l6 [112,114,111,103]) (⟨(some (75,none)),(some (76,none)),true⟩:b1)) (l6 [104,101,97,112]) (⟨(some (137,some v1)),(some (78,none)),true⟩:b1)) (l6 [110,101,119]) v2)) (k:=(l6 [99,111,112,121])) (v:=v3) (E:=b1.Pv) (EK:=PV.str) (.inr J) J J J J J J C7 (C8 C2)<|cF h r5 J J λv4 _ h=>A2 (es:=(e8 (e8 (e8 (e8 [] (l6 [112,114,111,103]) (⟨(some (75,none)),(some (76,none)),true⟩:b1)) (l6 [104,101,97,112]) (⟨(some (137,some v1)),(some (78,none)),true⟩:b1)) (l6 [110,101,119]) v2) (l6 [99,111,112,121]) v3)) (k:=(l6 [100,114,111,112])) (v:=v4) (E:=b1.Pv) (EK:=PV.str) (.inr J) J J J J J J C7 (C8 C2)<|cF h r5 J J λv5 _ h=>A2 (es:=(e8 (e8 (e8 (e8 (e8 [] (l6 [112,114,111,103]) (⟨(some (75,none)),(some (76,none)),true⟩:b1)) (l6 [104,101,97,112]) (⟨(some (137,some v1)),(some (78,none)),true⟩:b1)) (l6 [110,101,119]) v2) (l6 [99,111,112,121]) v3) (l6 [100,114,111,112]) v4)) (k:=(l6 [108,111,97,100])) (v:=v5) (E:=b1.Pv) (EK:=PV.str) (.inr J) J J J J J J C7 (C8 C2)<|cF h r5 J J λv6 _ h=>A2 (es:=(e8 (e8 (e8 (e8 (e8 (e8 [] (l6 [112,114,111,103]) (⟨(some (75,none)),(some (76,none)),true⟩:b1)) (l6 [104,101,97,112]) (⟨(some (137,some v1)),(some (78,none)),true⟩:b1)) (l6 [110,101,119]) v2) (l6 [99,111,112,121]) v3) (l6 [100,114,111,112]) v4) (l6 [108,111,97,100]) v5)) (k:=(l6 [115,116,111,114,101])) (v:=v6) (E:=b1.Pv) (EK:=PV.str) (.inr J) J J J J J J C7 (C8 C2)<|cF h r5 J J λv7 _ h=>A2 (es:=(e8 (e8 (e8 (e8 (e8 (e8 (e8 [] (l6 [112,114,111,103]) (⟨(some (75,none)),(some (76,none)),true⟩:b1)) (l6 [104,101,97,112]) (⟨(some (137,some v1)),(some (78,none)),true⟩:b1)) (l6 [110,101,119]) v2) (l6 [99,111,112,121]) v3) (l6 [100,114,111,112]) v4) (l6 [108,111,97,100]) v5) (l6 [115,116,111,114,101]) v6)) (k:=(l6 [119,101,97,107])) (v:=v7) (E:=b1.Pv) (EK:=PV.str) (.inr J) J J J J J J C7 (C8 C2)<|cF h r5 J J λv8 _ h=>A2 (es:=(e8 (e8 (e8 (e8 (e8 (e8 (e8 (e8 [] (l6 [112,114,111,103]) (⟨(some (75,none)),(some (76,none)),true⟩:b1)) (l6 [104,101,97,112]) (⟨(some (137,some v1)),(some (78,none)),true⟩:b1)) (l6 [110,101,119]) v2) (l6 [99,111,112,121]) v3) (l6 [100,114,111,112]) v4) (l6 [108,111,97,100]) v5) (l6 [115,116,111,114,101]) v6) (l6 [119,101,97,107]) v7)) (k:=(l6 [117,112])) (v:=v8) (E:=b1.Pv) (EK:=PV.str) (.inr J) J J J J J J C7 (C8 C2)<|cF h r5 J J λv9 _ h=>A2 (es:=(e8 (e8 (e8 (e8 (e8 (e8 (e8 (e8 (e8 [] (l6 [112,114,111,103]) (⟨(some (75,none)),(some (76,none)),true⟩:b1)) (l6 [104,101,97,112]) (⟨(some (137,some v1)),(some (78,none)),true⟩:b1)) (l6 [110,101,119]) v2) (l6 [99,111,112,121]) v3) (l6 [100,114,111,112]) v4) (l6 [108,111,97,100]) v5) (l6 [115,116,111,114,101]) v6) (l6 [119,101,97,107]) v7) (l6 [117,112]) v8)) (k:=(l6 [112,97,105,114])) (v:=v9) (E:=b1.Pv) (EK:=PV.str) (.inr J) J J J J J J C7 (C8 C2)<|cF h r5 J J λv10 _ h=>A2 (es:=(e8 (e8 (e8 (e8 (e8 (e8 (e8 (e8 (e8 (e8 [] (l6 [112,114,111,103]) (⟨(some (75,none)),(some (76,none)),true⟩:b1)) (l6 [104,101,97,112]) (⟨(some (137,some v1)),(some (78,none)),true⟩:b1)) (l6 [110,101,119]) v2) (l6 [99,111,112,121]) v3) (l6 [100,114,111,112]) v4) (l6 [108,111,97,100]) v5) (l6 [115,116,111,114,101]) v6) (l6 [119,101,97,107]) v7) (l6 [117,112]) v8) (l6 [112,97,105,114]) v9)) (k:=(l6 [103,101,116])) (v:=v10) (E:=b1.Pv) (EK:=PV.str) (.inr J) J J J J J J C7 (C8 C2)<|cF h r5 J J λv11 _ h=>A2 (es:=(e8 (e8 (e8 (e8 (e8 (e8 (e8 (e8 (e8 (e8 (e8 [] (l6 [112,114,111,103]) (⟨(some (75,none)),(some (76,none)),true⟩:b1)) (l6 [104,101,97,112]) (⟨(some (137,some v1)),(some (78,none)),true⟩:b1)) (l6 [110,101,119]) v2) (l6 [99,111,112,121]) v3) (l6 [100,114,111,112]) v4) (l6 [108,111,97,100]) v5) (l6 [115,116,111,114,101]) v6) (l6 [119,101,97,107]) v7) (l6 [117,112]) v8) (l6 [112,97,105,114]) v9) (l6 [103,101,116]) v10)) (k:=(l6 [115,97,109,101])) (v:=v11) (E:=b1.Pv) (EK:=PV.str) (.inr J) J J J J J J C7 (C8 C2) ?_;refine cF h r5 J J λv12 _ h=>A2 (es:=(e8 (e8 (e8 (e8 (e8 (e8 (e8 (e8 (e8 (e8 (e8 (e8 [] (l6 [112,114,111,103]) (⟨(some (75,none)),(some (76,none)),true⟩:b1)) (l6 [104,101,97,112]) (⟨(some (137,some v1)),(some (78,none)),true⟩:b1)) (l6 [110,101,119]) v2) (l6 [99,111,112,121]) v3) (l6 [100,114,111,112]) v4) (l6 [108,111,97,100]) v5) (l6 [115,116,111,114,101]) v6) (l6 [119,101,97,107]) v7) (l6 [117,112]) v8) (l6 [112,97,105,114]) v9) (l6 [103,101,116]) v10) (l6 [115,97,109,101]) v11)) (k:=(l6 [99,111,108,108,101,99,116])) (v:=v12) (E:=b1.Pv) (EK:=PV.str) (.inr J) J J J J J J C7 (C8 C2)<|cF h r5 J J λv13 _ h=>A2 (es:=(e8 (e8 (e8 (e8 (e8 (e8 (e8 (e8 (e8 (e8 (e8 (e8 (e8 [] (l6 [112,114,111,103]) (⟨(some (75,none)),(some (76,none)),true⟩:b1)) (l6 [104,101,97,112]) (⟨(some (137,some v1)),(some (78,none)),true⟩:b1)) (l6 [110,101,119]) v2) (l6 [99,111,112,121]) v3) (l6 [100,114,111,112]) v4) (l6 [108,111,97,100]) v5) (l6 [115,116,111,114,101]) v6) (l6 [119,101,97,107]) v7) (l6 [117,112]) v8) (l6 [112,97,105,114]) v9) (l6 [103,101,116]) v10) (l6 [115,97,109,101]) v11) (l6 [99,111,108,108,101,99,116]) v12)) (k:=(l6 [100,114,97,105,110])) (v:=v13) (E:=b1.Pv) (EK:=PV.str) (.inr J) J J J J J J C7 (C8 C2)<|cF h F7 J J λv14 hv14 h=>y0 J (o9 (cs:=[.fn (.func 137) [.rptr [.I v14]],.fn (.func 80) [],.bool false]) J a3D a1S J J J)<|E2 (a81 18 (d':=.agg [fwE (some (137,some v14)),fwE (some (80,none)),.bool false]) J J)<|A2 (es:=(e8 (e8 (e8 (e8 (e8 (e8 (e8 (e8 (e8 (e8 (e8 (e8 (e8 (e8 [] (l6 [112,114,111,103]) (⟨(some (75,none)),(some (76,none)),true⟩:b1)) (l6 [104,101,97,112]) (⟨(some (137,some v1)),(some (78,none)),true⟩:b1)) (l6 [110,101,119]) v2) (l6 [99,111,112,121]) v3) (l6 [100,114,111,112]) v4) (l6 [108,111,97,100]) v5) (l6 [115,116,111,114,101]) v6) (l6 [119,101,97,107]) v7) (l6 [117,112]) v8) (l6 [112,97,105,114]) v9) (l6 [103,101,116]) v10) (l6 [115,97,109,101]) v11) (l6 [99,111,108,108,101,99,116]) v12) (l6 [100,114,97,105,110]) v13)) (k:=(l6 [108,105,118,101,115])) (v:=(⟨(some (137,some v14)),(some (80,none)),false⟩:b1)) (E:=b1.Pv) (EK:=PV.str) (.inr J) J J J J J J C7 (C8 C2)<|yc J (w4 J F7 J hv14)<|y0 J (o9 (cs:=[.fn (.func 137) [.rptr [.I v14]],.fn (.func 81) [],.bool false]) J a3D a1S J J J)<|E2 (a81 20 (d':=.agg [fwE (some (137,some v14)),fwE (some (81,none)),.bool false]) J J)<|A2 (es:=(e8 (e8 (e8 (e8 (e8 (e8 (e8 (e8 (e8 (e8 (e8 (e8 (e8 (e8 (e8 [] (l6 [112,114,111,103]) (⟨(some (75,none)),(some (76,none)),true⟩:b1)) (l6 [104,101,97,112]) (⟨(some (137,some v1)),(some (78,none)),true⟩:b1)) (l6 [110,101,119]) v2) (l6 [99,111,112,121]) v3) (l6 [100,114,111,112]) v4) (l6 [108,111,97,100]) v5) (l6 [115,116,111,114,101]) v6) (l6 [119,101,97,107]) v7) (l6 [117,112]) v8) (l6 [112,97,105,114]) v9) (l6 [103,101,116]) v10) (l6 [115,97,109,101]) v11) (l6 [99,111,108,108,101,99,116]) v12) (l6 [100,114,97,105,110]) v13) (l6 [108,105,118,101,115]) (⟨(some (137,some v14)),(some (80,none)),false⟩:b1))) (k:=(l6 [114,111,111,116,115])) (v:=(⟨(some (137,some v14)),(some (81,none)),false⟩:b1)) (E:=b1.Pv) (EK:=PV.str) (.inr J) J J J J J J C7 (C8 C2)<|yc J (w4 J F7 J hv14)<|y0 J (o9 (cs:=[.fn (.func 137) [.rptr [.I v14]],.fn (.func 82) [],.bool false]) J a3D a1S J J J)<|E2 (a81 22 (d':=.agg [fwE (some (137,some v14)),fwE (some (82,none)),.bool false]) J J)<|A2 (es:=(e8 (e8 (e8 (e8 (e8 (e8 (e8 (e8 (e8 (e8 (e8 (e8 (e8 (e8 (e8 (e8 [] (l6 [112,114,111,103]) (⟨(some (75,none)),(some (76,none)),true⟩:b1)) (l6 [104,101,97,112]) (⟨(some (137,some v1)),(some (78,none)),true⟩:b1)) (l6 [110,101,119]) v2) (l6 [99,111,112,121]) v3) (l6 [100,114,111,112]) v4) (l6 [108,111,97,100]) v5) (l6 [115,116,111,114,101]) v6) (l6 [119,101,97,107]) v7) (l6 [117,112]) v8) (l6 [112,97,105,114]) v9) (l6 [103,101,116]) v10) (l6 [115,97,109,101]) v11) (l6 [99,111,108,108,101,99,116]) v12) (l6 [100,114,97,105,110]) v13) (l6 [108,105,118,101,115]) (⟨(some (137,some v14)),(some (80,none)),false⟩:b1)) (l6 [114,111,111,116,115]) (⟨(some (137,some v14)),(some (81,none)),false⟩:b1))) (k:=(l6 [116,97,108,108,121])) (v:=(⟨(some (137,some v14)),(some (82,none)),false⟩:b1)) (E:=b1.Pv) (EK:=PV.str) (.inr J) J J J J J J C7 (C8 C2)<|S2 2 J<|R7 (a9P 0 5000001 J J)<|a7 ?_;cases h;exact f1

theorem a0R{a0}:PO Tryz.prog 13 [.str a0] (L5 a0) λr=>.tup [.I r.1,.bool r.2]:=by
 refine pO Tryz.func13 λr h _ _=>?_;refine S4 2 J<|a7L<|S4 3 J<|c4<|a7K ?_;refine jq h (λq=>St.of [(4,.I q.1),(5,.I q.2.1),(6,.I q.2.2)] []) (λq12 h=>?_) λκ8 h=>?_
 ·obtain⟨j9,j10,j11⟩:=q12;refine c4<|S4 2 J ?_;refine cN h (λhc h=>?_) λhc h=>?_
  ·refine S4 2 J ?_;refine a7 ?_;cases h;exact f2
  ·refine b3 ?_;refine S4 5 J<|a7 ?_;cases h;exact f2
 ·refine S3 1 J ?_;refine b3K 5000010 J J C2 J<|yN<|c5<|lq h (λq=>St.of [(4,.I q.1),(5,.I q.2.1),(6,.I q.2.2.1),(10,.ptr 5000010 0 0)] [(5000010,itR a0 q.2.2.2)]) W λq19 x18 h hx8=>?_;obtain⟨s14,s15,s16,s17⟩:=q19;refine sR ?_;refine b5z J J J (λhc9=>?_) (λhc9=>?_)
  ·have h:=ifT h (decide_eq_true hc9);refine S2 1 J<|c4 ?_;refine y9 true J (λ_=>?_) (λq=>nomatch q);refine b3<|c5<|S4 4 J<|c4<|c5<|S3 3 J<|l3 J (λhg=>om (d:=.int .i32 ((dec a0 s17).1:Int)) J)<|l3 J (λhg=>A6 (ct hg) J J)<|y0 J (y3 J J J (λq=>eqT q))<|S2 1 J ?_;refine cN h (λhc h=>?_) λhc h=>?_
   ·refine S4 1 J ?_;refine p5<|J3 (by decide)<|b8<|k8 ?_;exact eL h W
   ·refine S3 3 J ?_;refine l3 J (λhg=>om (d:=.int .i32 ((dec a0 s17).1:Int)) J)<|l3 J (λhg=>A6 (ct hg) J J)<|y0 J (B7 J J J (λq=>eqF q))<|S1 1 J<|l3 J (λhg=>mI J)<|l3 J (λhg=>A6 (ct hg) J J)<|y0 J (B7 J J J (λq=>eqF q))<|S2 1 J ?_;refine cN h (λhc h=>?_) λhc h=>?_
    ·refine S4 1 J ?_;refine p5<|J3 (by decide)<|b8<|J3 (by decide)<|b8<|k8 ?_;have h:=xL hx8 h;exact eJ h W
    ·refine b3 ?_;refine S3 4 J<|y0 J (b3a J b5Q b5g J)<|S2 2 J<|S6 3 J ?_;exact eL h W
  ·have h:=ifF h (decide_eq_false hc9);refine S2 1 J<|c4 ?_;refine y9 false J (λq=>nomatch q) (λ_=>?_);refine p5<|b8<|b8<|k8 ?_;have h:=xL hx8 h;exact eJ h W

theorem a2V{a0}:PO Tryz.prog 43 [.L PV.str a0] (a0S a0) λr=>.tup [.L iF r.1,.bool r.2]:=by
 refine pO Tryz.func43 λr h _ _=>?_;refine S4 2 J<|S4 1 J ?_;refine jq h (λj10=>St.of [(4,.sl 910004)] [(910004,⟨List.map iF j10,(List.map iF j10).length,true,1,true⟩)]) (λj10 h=>?_) λκ9 h=>?_
 ·refine S4 3 J ?_;refine a7 ?_;cases h;exact f2
 ·refine S3 1 J ?_;refine nL J A8<|S2 1 J<|c5<|lq h (λq=>St.of [(4,.sl 910004),(9,.L PV.str a0),(10,.I (a0.length:Int)),(11,.I q.1)] [(910004,⟨List.map iF q.2,(List.map iF q.2).length,true,1,true⟩)]) (Wk.trans (K0 (t:=4) (l:=920004) (z:=1) J J) (WP (λl=>if l=910004 then 920004 else l))) λq15 x14 h hx10=>?_;obtain⟨s12,s13⟩:=q15;refine S4 1 J<|c4 ?_;refine cN h (λhc h=>?_) λhc h=>?_
  ·refine b3 ?_;refine c4<|c5<|sR<|iL h J J A8 H4 λv16 _ h=>S2 2 J<|S3 1 J<|cA h a0R J J λv17 _ h=>S2 5 J<|c4<|S4 2 J ?_;refine cN h (λhc h=>?_) λhc h=>?_
   ·refine S4 2 J ?_;refine a7 ?_;have h:=xL hx10 h;cases h;exact f2
   ·refine b3 ?_;refine S5 2 J<|y0 J (L9 (f:=iF) (l:=[v17.1]) J j1 n0 z7 J J nl J J)<|s6 h λv18 hv13 h=>P4 J (L8 (f:=iF) hv13 J J J J J J (.inl ⟨_,J,J⟩) j1 n0 J2 z7 J (λ_=>J)) J J J<|S2 1 J<|S6 2 J ?_;exact eL h (Wk.trans (l9 _ [25]) (WP (λl=>if l=910004 then 25 else l)))
  ·refine p5 ?_;refine b8<|b8<|k8 ?_;have h:=xL hx10 h;exact eJ h (Wk.trans (l9 _ [910004]) W)

theorem a2K{a0}:PO Tryz.prog 75 [.I a0] (Q1 a0) λr=>.bool r:=by
 refine pO Tryz.func75 λr h _ _=>?_;unfold Q1 at h;refine S4 1 J<|S3 1 J<|s6 h λv1 hv1 h=>y0 J (a5j J J hv1)<|S2 2 J<|a7 ?_;cases h;exact f1

theorem a2U{a0 a1}:PO Tryz.prog 137 [.I a0,.rptr [.I a1]] (T8 a0 a1) λr=>.bool r:=by
 refine pO Tryz.func137 λr h _ _=>?_;unfold T8 at h;refine S4 1 J<|S4 4 J<|a7 ?_;cases h;exact f1

theorem b0V{f:Fw}{a0:Int}{r:Bool}(h:a9s f a0=some r):∃n cap,fwP f = .fn (.func n) cap∧FwC cap∧p6 Tryz.prog n∧E6 Tryz.prog n ([.I a0]++cap) (.bool r):=by
 unfold a9s at h;match f,h with
 | none,h=>cases h
 | some (n,none),h=>
  dsimp only at h;by_cases e75:n=75
  ·rw[if_pos e75] at h;subst e75;exact⟨75,_,J,.inl J,b5H,a2K.2 _ h⟩
  rw[if_neg e75] at h;cases h
 | some (n,some c),h=>
  dsimp only at h;by_cases e137:n=137
  ·rw[if_pos e137] at h;subst e137;exact⟨137,_,J,.inr ⟨c,J⟩,b32,a2U.2 _ h⟩
  rw[if_neg e137] at h;cases h

theorem E4{a0}:PO Tryz.prog 27 [.I a0] (A3 a0) λr=>.str r:=by
 refine pO Tryz.func27 λr h _ _=>?_;unfold A3 at h;refine S4 1 J<|S3 1 J<|s6 h λv1 hv1 h=>y0 J (a5Q J b0I J (b26 hv1))<|s6 h λv2 hv2 h=>y0 J (a5P hv2 J J C2)<|S2 1 J<|a7 ?_;cases h;exact f1

theorem a8g{a0}:PO Tryz.prog 55 [j8.Pv a0] (a4u a0) λr=>.bool r:=by
 refine pO Tryz.func55 λr h _ _=>?_;unfold a4u at h;refine S4 2 J<|S3 4 J<|l3 J (λhg=>oF J b2C J)<|l3 J (λhg=>oS (ct hg) J J I1 J)<|l3 J (λhg=>A6 (ct hg) J J)<|y0 J (y3 J J J (λq=>eqT q))<|S2 1 J<|a7 ?_;cases h;exact f1

theorem r9:PO Tryz.prog 168 [.fn (.func 169) []] (K8) λr=>c6.Pv r:=by
 refine pO Tryz.func168 λr h _ _=>?_;unfold K8 at h;refine S4 1 J<|S3 1 J<|y0 J (o9 (cs:=[.fn (.func 169) [],.I 0,.I 5,.I 6]) J T3 C5 J J J)<|E2 (a2I 4 (d':=.agg [fvE (some 169),.I 0,.I 5,.I 6]) J)<|S2 1 J<|a7 ?_;cases h;exact⟨J,[_],⟨oL J J J a0e D5 nl J,tr⟩,J,io⟩

theorem L3:PO Tryz.prog 171 [.fn (.func 172) []] (H0) λr=>c6.Pv r:=by
 refine pO Tryz.func171 λr h _ _=>?_;unfold H0 at h;refine S4 1 J<|S3 1 J<|y0 J (o9 (cs:=[.fn (.func 172) [],.I (-1),.I 5,.I 13]) J T3 C5 J J J)<|E2 (a2I 4 (d':=.agg [fvE (some 172),.I (-1),.I 5,.I 13]) J)<|S2 1 J<|a7 ?_;cases h;exact⟨J,[_],⟨oL J J J a0e D5 nl J,tr⟩,J,io⟩

theorem y2{a0}:PO Tryz.prog 167 [.L c6.Pv a0] (C3 a0) λr=>.L c6.Pv r:=by
 refine pO Tryz.func167 λr h _ _=>?_;unfold C3 at h;refine S4 1 J<|S4 2 J<|a7 ?_;cases h;exact f1

theorem D6:PO Tryz.prog 168 [.fn (.func 170) []] (K9) λr=>c6.Pv r:=by
 refine pO Tryz.func168 λr h _ _=>?_;unfold K9 at h;refine S4 1 J<|S3 1 J<|y0 J (o9 (cs:=[.fn (.func 170) [],.I 0,.I 5,.I 6]) J T3 C5 J J J)<|E2 (a2I 4 (d':=.agg [fvE (some 170),.I 0,.I 5,.I 6]) J)<|S2 1 J<|a7 ?_;cases h;exact⟨J,[_],⟨oL J J J a0e D5 nl J,tr⟩,J,io⟩

theorem a0I:PO Tryz.prog 173 [.fn (.func 172) []] (J5) λr=>c6.Pv r:=by
 refine pO Tryz.func173 λr h _ _=>?_;unfold J5 at h;refine S4 1 J<|S3 1 J<|y0 J (o9 (cs:=[.fn (.func 172) [],.I 0,.I 3,.I 5]) J T3 C5 J J J)<|E2 (a2I 4 (d':=.agg [fvE (some 172),.I 0,.I 3,.I 5]) J)<|S2 1 J<|a7 ?_;cases h;exact⟨J,[_],⟨oL J J J a0e D5 nl J,tr⟩,J,io⟩

theorem a0H:PO Tryz.prog 173 [.fn (.func 170) []] (J4) λr=>c6.Pv r:=by
 refine pO Tryz.func173 λr h _ _=>?_;unfold J4 at h;refine S4 1 J<|S3 1 J<|y0 J (o9 (cs:=[.fn (.func 170) [],.I 0,.I 3,.I 5]) J T3 C5 J J J)<|E2 (a2I 4 (d':=.agg [fvE (some 170),.I 0,.I 3,.I 5]) J)<|S2 1 J<|a7 ?_;cases h;exact⟨J,[_],⟨oL J J J a0e D5 nl J,tr⟩,J,io⟩

theorem W2:PO Tryz.prog 174 [.fn (.func 172) []] (F0) λr=>c6.Pv r:=by
 refine pO Tryz.func174 λr h _ _=>?_;unfold F0 at h;refine S4 1 J<|S3 1 J<|y0 J (o9 (cs:=[.fn (.func 172) [],.I (-1),.I 5,.I 6]) J T3 C5 J J J)<|E2 (a2I 4 (d':=.agg [fvE (some 172),.I (-1),.I 5,.I 6]) J)<|S2 1 J<|a7 ?_;cases h;exact⟨J,[_],⟨oL J J J a0e D5 nl J,tr⟩,J,io⟩

theorem a1a:PO Tryz.prog 175 [.fn (.func 169) []] (K6) λr=>c6.Pv r:=by
 refine pO Tryz.func175 λr h _ _=>?_;unfold K6 at h;refine S4 1 J<|S3 1 J<|y0 J (o9 (cs:=[.fn (.func 169) [],.I 0,.I 5,.I 7]) J T3 C5 J J J)<|E2 (a2I 4 (d':=.agg [fvE (some 169),.I 0,.I 5,.I 7]) J)<|S2 1 J<|a7 ?_;cases h;exact⟨J,[_],⟨oL J J J a0e D5 nl J,tr⟩,J,io⟩

theorem I4:PO Tryz.prog 174 [.fn (.func 170) []] (E9) λr=>c6.Pv r:=by
 refine pO Tryz.func174 λr h _ _=>?_;unfold E9 at h;refine S4 1 J<|S3 1 J<|y0 J (o9 (cs:=[.fn (.func 170) [],.I (-1),.I 5,.I 6]) J T3 C5 J J J)<|E2 (a2I 4 (d':=.agg [fvE (some 170),.I (-1),.I 5,.I 6]) J)<|S2 1 J<|a7 ?_;cases h;exact⟨J,[_],⟨oL J J J a0e D5 nl J,tr⟩,J,io⟩

theorem a1b:PO Tryz.prog 175 [.fn (.func 170) []] (K7) λr=>c6.Pv r:=by
 refine pO Tryz.func175 λr h _ _=>?_;unfold K7 at h;refine S4 1 J<|S3 1 J<|y0 J (o9 (cs:=[.fn (.func 170) [],.I 0,.I 5,.I 7]) J T3 C5 J J J)<|E2 (a2I 4 (d':=.agg [fvE (some 170),.I 0,.I 5,.I 7]) J)<|S2 1 J<|a7 ?_;cases h;exact⟨J,[_],⟨oL J J J a0e D5 nl J,tr⟩,J,io⟩

theorem a6C:PO Tryz.prog 94 [] (a4Y) λr=>.abs (I0 (List.map (ent iF (Ls c6.Pv)) r)):=by
 refine pO Tryz.func94 λr h _ _=>?_;refine S4 1 J<|sR<|a84 (KT:=Int) (VT:=List c6) (EK:=iF) (E:=(Ls c6.Pv)) 5000001 J J<|cF h r9 J J λv1 hv1 h=>y0 J (o9 (cs:=[.fn (.func 170) [],.I 0,.I 4,.I 1]) J T3 C5 J J J)<|E2 (a2I 3 (d':=.agg [fvE (some 170),.I 0,.I 4,.I 1]) J)<|cF h L3 J J λv2 hv2 h=>y0 J (L9 (f:=c6.Pv) (l:=[v1,(⟨(some 170),0,4,1⟩:c6),v2]) J M8 D5 C5 J J nl J J)<|cF h y2 J J λv3 _ h=>A2 (es:=[]) (k:=1) (v:=v3) (E:=(Ls c6.Pv)) (EK:=iF) (.inr J) J J J J J J I3 (s9 D9)<|yc J (w4 J r9 J hv1)<|cF h D6 J J λv4 hv4 h=>y0 J (L9 (f:=c6.Pv) (l:=[v1,v4]) J M8 D5 C5 J J nl J J)<|cF h y2 J J λv5 hv5 h=>A2 (es:=(e8 [] 1 v3)) (k:=2) (v:=v5) (E:=(Ls c6.Pv)) (EK:=iF) (.inr J) J J J J J J I3 (s9 D9)<|yc J (w4 J r9 J hv1)<|y0 J (L9 (f:=c6.Pv) (l:=[v1]) J M8 D5 C5 J J nl J J)<|cF h y2 J J λv6 _ h=>A2 (es:=(e8 (e8 [] 1 v3) 2 v5)) (k:=3) (v:=v6) (E:=(Ls c6.Pv)) (EK:=iF) (.inr J) J J J J J J I3 (s9 D9)<|yc J (w4 J r9 J hv1)<|yc J (w4 J D6 J hv4)<|cF h a0I J J λv7 _ h=>y0 J (L9 (f:=c6.Pv) (l:=[v1,v4,v7]) J M8 D5 C5 J J nl J J)<|cF h y2 J J λv8 _ h=>A2 (es:=(e8 (e8 (e8 [] 1 v3) 2 v5) 3 v6)) (k:=4) (v:=v8) (E:=(Ls c6.Pv)) (EK:=iF) (.inr J) J J J J J J I3 (s9 D9)<|yc J (w4 J r9 J hv1)<|cF h a0H J J λv9 _ h=>cF h W2 J J λv10 _ h=>y0 J (L9 (f:=c6.Pv) (l:=[v1,v9,v10]) J M8 D5 C5 J J nl J J)<|cF h y2 J J λv11 _ h=>?_;refine A2 (es:=(e8 (e8 (e8 (e8 [] 1 v3) 2 v5) 3 v6) 4 v8)) (k:=5) (v:=v11) (E:=(Ls c6.Pv)) (EK:=iF) (.inr J) J J J J J J I3 (s9 D9)<|cF h a1a J J λv12 _ h=>cF h I4 J J λv13 hv13 h=>yc J (w4 J L3 J hv2)<|y0 J (L9 (f:=c6.Pv) (l:=[v12,v13,v2]) J M8 D5 C5 J J nl J J)<|cF h y2 J J λv14 _ h=>A2 (es:=(e8 (e8 (e8 (e8 (e8 [] 1 v3) 2 v5) 3 v6) 4 v8) 5 v11)) (k:=6) (v:=v14) (E:=(Ls c6.Pv)) (EK:=iF) (.inr J) J J J J J J I3 (s9 D9)<|yc J (w4 J r9 J hv1)<|cF h a1b J J λv15 _ h=>y0 J (L9 (f:=c6.Pv) (l:=[v1,v15]) J M8 D5 C5 J J nl J J)<|cF h y2 J J λv16 _ h=>A2 (es:=(e8 (e8 (e8 (e8 (e8 (e8 [] 1 v3) 2 v5) 3 v6) 4 v8) 5 v11) 6 v14)) (k:=7) (v:=v16) (E:=(Ls c6.Pv)) (EK:=iF) (.inr J) J J J J J J I3 (s9 D9)<|yc J (w4 J r9 J hv1)<|yc J (w4 J I4 J hv13)<|y0 J (L9 (f:=c6.Pv) (l:=[v1,v13]) J M8 D5 C5 J J nl J J)<|cF h y2 J J λv17 _ h=>A2 (es:=(e8 (e8 (e8 (e8 (e8 (e8 (e8 [] 1 v3) 2 v5) 3 v6) 4 v8) 5 v11) 6 v14) 7 v16)) (k:=8) (v:=v17) (E:=(Ls c6.Pv)) (EK:=iF) (.inr J) J J J J J J I3 (s9 D9)<|yc J (w4 J r9 J hv1)<|yc J (w4 J D6 J hv4)<|y0 J (L9 (f:=c6.Pv) (l:=[v1,v4]) J M8 D5 C5 J J nl J J)<|yc J (w4 J y2 J hv5)<|A2 (es:=(e8 (e8 (e8 (e8 (e8 (e8 (e8 (e8 [] 1 v3) 2 v5) 3 v6) 4 v8) 5 v11) 6 v14) 7 v16) 8 v17)) (k:=9) (v:=v5) (E:=(Ls c6.Pv)) (EK:=iF) (.inr J) J J J J J J I3 (s9 D9)<|yc J (w4 J r9 J hv1)<|yc J (w4 J D6 J hv4)<|y0 J (L9 (f:=c6.Pv) (l:=[v1,v4]) J M8 D5 C5 J J nl J J)<|yc J (w4 J y2 J hv5)<|A2 (es:=(e8 (e8 (e8 (e8 (e8 (e8 (e8 (e8 (e8 [] 1 v3) 2 v5) 3 v6) 4 v8) 5 v11) 6 v14) 7 v16) 8 v17) 9 v5)) (k:=10) (v:=v5) (E:=(Ls c6.Pv)) (EK:=iF) (.inr J) J J J J J J I3 (s9 D9)<|cF h y2 J J λv18 _ h=>A2 (es:=(e8 (e8 (e8 (e8 (e8 (e8 (e8 (e8 (e8 (e8 [] 1 v3) 2 v5) 3 v6) 4 v8) 5 v11) 6 v14) 7 v16) 8 v17) 9 v5) 10 v5)) (k:=11) (v:=v18) (E:=(Ls c6.Pv)) (EK:=iF) (.inr J) J J J J J J I3 (s9 D9)<|y0 J (o9 (cs:=[.fn (.func 169) [],.I 0,.I 200,.I 12]) J T3 C5 J J J) ?_;refine E2 (a2I 46 (d':=.agg [fvE (some 169),.I 0,.I 200,.I 12]) J)<|y0 J (L9 (f:=c6.Pv) (l:=[(⟨(some 169),0,200,12⟩:c6)]) J M8 D5 C5 J J nl J J)<|cF h y2 J J λv19 _ h=>A2 (es:=(e8 (e8 (e8 (e8 (e8 (e8 (e8 (e8 (e8 (e8 (e8 [] 1 v3) 2 v5) 3 v6) 4 v8) 5 v11) 6 v14) 7 v16) 8 v17) 9 v5) 10 v5) 11 v18)) (k:=12) (v:=v19) (E:=(Ls c6.Pv)) (EK:=iF) (.inr J) J J J J J J I3 (s9 D9)<|S2 2 J<|R7 (a9P 0 5000001 J J)<|a7 ?_;cases h;exact f1

theorem a3Y{a0}:PO Tryz.prog 169 [j8.Pv a0] (a4w a0) λr=>.I r:=by
 refine pO Tryz.func169 λr h _ _=>?_;unfold a4w at h;refine S4 2 J<|S4 3 J<|a7 ?_;cases h;exact f1

theorem a3Z{a0}:PO Tryz.prog 170 [j8.Pv a0] (a4x a0) λr=>.I r:=by
 refine pO Tryz.func170 λr h _ _=>?_;unfold a4x at h;refine S4 2 J<|S4 3 J<|a7 ?_;cases h;exact f1

theorem a30{a0}:PO Tryz.prog 172 [j8.Pv a0] (a4y a0) λr=>.I r:=by
 refine pO Tryz.func172 λr h _ _=>?_;unfold a4y at h;refine S4 2 J<|S4 3 J<|a7 ?_;cases h;exact f1

theorem b0T{f:Fv}{a0:j8}{r:Int}(h:a9p f a0=some r):∃n,f=some n∧p6 Tryz.prog n∧E6 Tryz.prog n [j8.Pv a0] (.I r):=by
 unfold a9p at h;by_cases e169:f=some 169
 ·rw[if_pos e169] at h;exact⟨169,e169,(@a3Y a0).1,(@a3Y a0).2 _ h⟩
 rw[if_neg e169] at h;by_cases e170:f=some 170
 ·rw[if_pos e170] at h;exact⟨170,e170,(@a3Z a0).1,(@a3Z a0).2 _ h⟩
 rw[if_neg e170] at h;by_cases e172:f=some 172
 ·rw[if_pos e172] at h;exact⟨172,e172,(@a30 a0).1,(@a30 a0).2 _ h⟩
 rw[if_neg e172] at h;cases h

theorem a09{a0}:PO Tryz.prog 56 [j8.Pv a0] (a0r a0) λr=>.I r:=by
 refine pO Tryz.func56 λr h _ _=>?_;unfold a0r at h;refine S4 2 J<|dr [] p8 (by kernel_rfl) (by kernel_rfl)<|s6 h λv1 hv1 h=>d2f J (w4 J a6C J hv1) J<|S7 2 J<|d4 J (b0m (es:=v1) (k:=a0.Kind) (E:=(Ls c6.Pv)) (EK:=iF) (d:=.tup [.L c6.Pv ((F9 v1 a0.Kind).getD ([]:List c6)),.bool ((F9 v1 a0.Kind).isSome)]) J J I3 (s9 D9) b4s J (lk2 _ _ ([]:List c6))) J<|S8 5 J<|c4<|S4 2 J ?_;refine cN h (λhc h=>?_) λhc h=>?_
 ·refine S4 1 J ?_;refine a7 ?_;cases h;exact f1
 ·refine b3 ?_;refine jq h (λ_=>St.of [] []) (λq9 h=>?_) λκ8 h=>?_
  ·refine S4 1 J ?_;refine a7 ?_;cases h;exact f1
  ·refine S3 1 J ?_;refine nL J M8<|S2 1 J<|c5<|lq h (λs11=>St.of [(1,.ptr 1 0 0),(17,.L c6.Pv ((F9 v1 a0.Kind).getD ([]:List c6))),(18,.I (((F9 v1 a0.Kind).getD ([]:List c6)).length:Int)),(19,.I s11)] [(1,vR (j8.Pv a0) 4)]) W λs11 x12 h hx13=>S4 1 J<|c4 ?_;refine cN h (λhc h=>?_) λhc h=>?_
   ·refine b3 ?_;refine c4<|c5<|sR<|iL h J J M8 D5 λv13 _ h=>S2 3 J<|S3 3 J ?_;obtain⟨v14,hv15,h⟩:=a0Q h;obtain⟨n15,he16,hk17,hp18⟩:=b0T hv15;refine E2 (b5v 24 J he16)<|y0 J (a5Q J hk17 J hp18)<|S2 1 J<|S3 5 J<|l3 J (λhg=>mI J)<|l3 J (λhg=>oF J b14 J)<|l3 J (λhg=>oS (ct hg) J J I1 J)<|l3 J (λhg=>A6 (ct hg) (ct hg) J)<|y0 J (B7 J J J (λq=>eqF q))<|yN ?_;refine cN h (λhc h=>?_) λhc h=>?_
    ·refine S4 3 J ?_;refine a7 ?_;have h:=xL hx13 h;cases h;exact f1
    ·refine b3 ?_;refine S6 2 J ?_;exact eL h W
   ·refine p5 ?_;refine b8<|b8<|k8 ?_;have h:=xL hx13 h;exact eJ h W

theorem a3X{a0}:PO Tryz.prog 30 [.L (Ls j8.Pv) a0] (a4v a0) λr=>.bool r:=by
 refine pO Tryz.func30 λr h _ _=>?_;refine S4 1 J<|c4<|S3 1 J<|nL J a0p<|S2 1 J ?_;refine cN h (λhc h=>?_) λhc h=>?_
 ·refine S4 1 J ?_;refine a7 ?_;cases h;exact f1
 ·refine b3 ?_;refine jq h (λ_=>St.of [] []) (λq21 h=>?_) λκ20 h=>?_
  ·refine S4 1 J ?_;refine a7 ?_;cases h;exact f1
  ·refine S3 1 J ?_;refine nL J a0p<|S2 1 J<|c5<|lq h (λs23=>St.of [(10,.L (Ls j8.Pv) a0),(11,.I (a0.length:Int)),(12,.I s23)] []) W λs23 x24 h hx22=>S4 1 J<|c4 ?_;refine cN h (λhc h=>?_) λhc h=>?_
   ·refine b3 ?_;refine jq h (λ_=>St.of [(10,.L (Ls j8.Pv) a0),(11,.I (a0.length:Int)),(12,.I s23)] []) (λq33 h=>?_) λκ32 h=>?_
    ·refine S6 2 J ?_;exact eL h W
    ·refine c5 ?_;refine sR<|iL h J J a0p a0f λv34 _ h=>S2 2 J<|c4<|S3 1 J<|nL J a0N<|S2 1 J ?_;refine cN h (λhc h=>?_) λhc h=>?_
     ·refine S4 1 J ?_;refine a7 ?_;have h:=xL hx22 h;cases h;exact f1
     ·refine b3 ?_;refine S3 1 J<|nL J a0N<|S2 1 J<|c5<|lq h (λs36=>St.of [(10,.L (Ls j8.Pv) a0),(11,.I (a0.length:Int)),(12,.I s23),(19,.L j8.Pv v34),(20,.I (v34.length:Int)),(21,.I s36)] []) W λs36 x37 h hx34=>S4 1 J<|c4 ?_;refine cN h (λhc h=>?_) λhc h=>?_
      ·refine b3 ?_;refine c4<|c5<|sR<|iL h J J a0N a1Q λv38 _ h=>S2 3 J<|S3 1 J<|cA h a8g J J λv39 _ h=>S1 2 J<|l3 J (λhg=>oL J J J a89 a1Q nl J)<|s6 h λv40 hv37 h=>l3 J (λhg=>G7 J a09 (Z3 (ct hg) J) (F3 hv37 hg))<|l3 J (λhg=>A6 (ct hg) J J)<|y0 J (B7 J J J (λq=>eqF q))<|yN ?_;refine cN h (λhc h=>?_) λhc h=>?_
       ·refine S4 1 J ?_;refine a7 ?_;have h:=xL hx34 h;have h:=xL hx22 h;cases h;exact f1
       ·refine b3 ?_;refine S6 2 J ?_;exact eL h W
      ·refine p5 ?_;refine b8<|b8<|k8 ?_;have h:=xL hx34 h;exact eJ h W
   ·refine p5 ?_;refine b8<|b8<|k8 ?_;have h:=xL hx22 h;exact eJ h W

theorem a0t{a0 a1}:PO Tryz.prog 76 [b9.Pv a0,.L iF a1] (R2 a0 a1) λr=>.tup [b9.Pv r.1,.str r.2]:=by
 refine pO Tryz.func76 λr h _ _=>?_;refine S4 3 J<|S3 1 J<|iL h J J j1 n0 λv1 _ h=>S2 2 J<|c4<|S3 3 J<|l3 J (λhg=>mI J)<|l3 J (λhg=>A6 (ct hg) J J)<|y0 J (B7 J J J (λq=>eqF q))<|yN ?_;refine cN h (λhc h=>?_) λhc h=>?_
 ·refine dr [] p8 (by kernel_rfl) (by kernel_rfl) ?_;refine S7 1 J<|s6 h λv2 hv2 h=>d2 J (G7 J E4 J hv2) J<|x4 (x':=b9.Pv a0) (cl':=true) J J (.inr J) F6<|S8 1 J<|a7 ?_;cases h;exact⟨J,[_,_],⟨oL J J J S9 F6 nl J,⟨J,tr⟩⟩,J,io⟩
 ·refine b3 ?_;refine S3 4 J<|nL J a0p<|y0 J (b1I J J J)<|s6 h λv3 hv3 h=>y1 J (a7H (f:=(Ls j8.Pv)) hv3 J J J a0p a0f b4o b3X J J J) J<|S2 1 J<|S3 3 J<|s6 h λv4 hv4 h=>b6z (f:=(Ls j8.Pv)) hv4 J J J (.inl ⟨_,J,J⟩) a0p a0f (λ_=>J) (by decide)<|yN<|S3 2 J<|s6 h λv5 hv5 h=>y0 J (a0A (f:=(Ls j8.Pv)) hv5 J J J J a0p a0f J)<|b5d (f:=(Ls j8.Pv)) 930026 4 hv5 J J J a0f J J J J<|yN ?_;refine jq h (λj19=>St.of [(2,.ptr 2 0 0),(4,.ptr 4 0 0),(7,.sl 26)] [(26,⟨a4H (Ls j8.Pv) v4 ((v1).toNat) 930026,0,true,1,false⟩),(930026,⟨List.map j8.Pv j19,(List.map j8.Pv j19).length,true,4,true⟩),(4,vR (.agg [.nl,.I 0,.I 0,.nl,.nl,.nl,.nl,.I 0,.nl,.bool false,.nl]) 11),(2,vR (b9.Pv a0) 11)]) (λj19 h=>?_) λκ18 h=>?_
  ·refine c4 ?_;refine R7 (b6v (l:=26) (r:=930026) (f:=(Ls j8.Pv)) (gE:=j8.Pv) (v:=j19) J (b6S hv5) J J J J (λ_=>J) J)<|S3 1 J<|cA h a3X J J λv20 _ h=>S2 1 J ?_;refine cN h (λhc h=>?_) λhc h=>?_
   ·refine dr [] p8 (by kernel_rfl) (by kernel_rfl) ?_;refine S7 1 J<|s6 h λv21 hv18 h=>d2 J (G7 J E4 J hv18) J<|x4 (x':=b9.Pv a0) (cl':=true) J J (.inr J) F6<|S8 1 J<|a7 ?_;cases h;exact⟨J,[_,_],⟨oL J J J S9 F6 nl J,⟨J,tr⟩⟩,J,io⟩
   ·refine b3 ?_;refine S4 3 J<|S4 3 J<|a7 ?_;cases h;exact⟨J,[_,_],⟨oL J J J S9 F6 nl J,⟨J,tr⟩⟩,J,io⟩
  ·refine S3 1 J ?_;obtain⟨v22,hv19,h⟩:=a0Q h;refine y0 J (a9x (f:=iF) hv19 J ⟨_,J⟩ J j1 n0 (λ_=>J))<|S2 1 J<|c5<|lq h (λq=>St.of [(2,.ptr 2 0 0),(4,.ptr 4 0 0),(6,.I v1),(7,.sl 26),(8,.L iF q.1)] [(26,⟨a4H (Ls j8.Pv) v4 ((v1).toNat) 930026,0,true,1,false⟩),(930026,⟨List.map j8.Pv q.2,(List.map j8.Pv q.2).length,true,4,true⟩),(4,vR (.agg [.nl,.I 0,.I 0,.nl,.nl,.nl,.nl,.I 0,.nl,.bool false,.nl]) 11),(2,vR (b9.Pv a0) 11)]) (Wk.trans (l9 _ [930026]) (a5x _ _ ⟨J,J,J,J,J,J,J,J,J,J,J,J,J,J,J,tr⟩ ⟨a5X J J J (λ_=>J) J J J J (λ_=>J) (λ_=>J) (λ_=>J),rS,rS,rS,tr⟩)) λq27 x26 h hx22=>?_;obtain⟨s24,s25⟩:=q27;refine c4<|S3 1 J<|nL J j1<|S2 1 J ?_;refine cN h (λhc h=>?_) λhc h=>?_
   ·refine b3 ?_;refine c4<|c5<|a7J [] p8 (by kernel_rfl) (by kernel_rfl)<|S7 4 J<|d0 J (b5p (f:=(Ls j8.Pv)) hv5 J J J J a0p a0f J) J<|d0 J (b6Y (f:=(Ls j8.Pv)) hv5 J J J b3W) J<|S7 1 J<|s6 h λv28 hv23 h=>d0 J (z8 (f:=iF) (cs:=[.I v28]) hv23 J J j1 n0 J J) J<|S7 2 J<|s6 h λv29 hv24 h=>d0 J (z8 (f:=iF) (cs:=[.I v29]) hv24 J J j1 n0 J J) J<|S7 2 J<|s6 h λv30 hv25 h=>d0 J (z8 (f:=iF) (cs:=[.I v30]) hv25 J J j1 n0 J J) J<|S7 2 J<|s6 h λv31 hv26 h=>d0 J (z8 (f:=iF) (cs:=[.I v31]) hv26 J J j1 n0 J J) J<|S7 1 J<|d7 J (λ_ hN=>o9 (cs:=[.I v28,.I v29,.I v30,.I v31]) J a9c a5z J J J) J<|d1n J (L9 (f:=j8.Pv) (l:=[(⟨v28,v29,v30,v31⟩:j8)]) J a0N a1Q a5z J J nl J J) J<|s6 h λv32 hv27 h=>d3a J (L8 (f:=j8.Pv) hv27 J J J J J J (.inl ⟨_,J,J⟩) a0N a1Q b5E a5z J (λ_=>J)) J J J J J<|d0 J (b5p (f:=(Ls j8.Pv)) hv5 J J J J a0p a0f J) J<|b6O (f:=(Ls j8.Pv)) hv5 J J J a0f J<|R3<|S5 1 J<|s6 h λv33 hv28 h=>y0 J (a9x (f:=iF) hv28 J ⟨_,J⟩ J j1 n0 (λ_=>J))<|S2 1 J ?_;exact eL h (Wk.trans (l9 _ [61]) (b1d (λl=>if l=930026 then 61 else l) _ _ ⟨J,J,J,J,J,J,J,J,J,J,J,J,J,J,J,tr⟩ ⟨a5X J J J (λ_=>J) J J J J (λ_=>J) (λ_=>J) (λ_=>J),rN,rN,rN,tr⟩ J))
   ·refine p5 ?_;refine b8<|b8<|k8 ?_;have h:=xL hx22 h;exact eJ h (Wk.trans (l9 _ [930026]) (a5x _ _ ⟨J,J,J,J,J,J,J,J,J,tr⟩ ⟨a5X J J J (λ_=>J) J J J J (λ_=>J) (λ_=>J) (λ_=>J),rS,rS,rS,tr⟩))

theorem a2O{a0 a1}:PO Tryz.prog 95 [.I a0,.I a1] (a0E a0 a1) λr=>b7.Pv r:=by
 refine pO Tryz.func95 λr h _ _=>?_;refine S4 1 J<|c4<|S3 3 J<|l3 J (λhg=>mI J)<|l3 J (λhg=>A6 (ct hg) J J)<|y0 J (B7 J J J (λq=>eqF q))<|S1 1 J<|l3 J (λhg=>mI J)<|l3 J (λhg=>A6 (ct hg) J J)<|y0 J (B7 J J J (λq=>eqF q))<|S1 1 J<|l3 J (λhg=>mI J)<|l3 J (λhg=>A6 (ct hg) J J)<|y0 J (B7 J J J (λq=>eqF q))<|yN ?_;refine cN h (λhc h=>?_) λhc h=>?_
 ·refine sR ?_;refine y0 J (o9 (cs:=[.nl,.I 0]) J b2D b2I J J J)<|a3B (x':=.agg [.nl,.I 0]) (cl':=true) J J (.inl J) T4<|yN<|a7 ?_;cases h;exact⟨J,[_],⟨oL J J J Y4 T4 nl J,tr⟩,J,io⟩
 ·refine b3 ?_;refine S3 1 J<|s6 h λv1 hv1 h=>y1 J (a7H (f:=b4.Pv) hv1 J J J I2 H7 a3E b1k J J J) J<|S1 1 J<|y0 J (o9 (cs:=[.sl 21,.I a1]) J b2D b2I J J J)<|S2 1 J<|a7 ?_;cases h;exact⟨J,[_],⟨oL J J J Y4 T4 nl J,tr⟩,J,io⟩

theorem a9H{a0 a1}:PO Tryz.prog 57 [.I a0,.I a1] (a8X a0 a1) λr=>b6.Pv r:=by
 refine pO Tryz.func57 λr h _ _=>?_;refine S4 1 J<|S3 2 J<|cF h a2O J J λv1 _ h=>y0 J (o9 (cs:=[.L b4.Pv v1.p7,.I v1.Last,.I 0]) J b2E b2J J J J)<|S2 1 J<|a7 ?_;cases h;exact⟨J,[_],⟨oL J J J a1M a1P nl J,tr⟩,J,io⟩

theorem b0B{a0}:PO Tryz.prog 58 [.I a0] (b0A a0) λr=>.L c8.Pv r:=by
 refine pO Tryz.func58 λr h _ _=>?_;refine S4 1 J<|c4<|S3 3 J<|l3 J (λhg=>mI J)<|l3 J (λhg=>A6 (ct hg) J J)<|y0 J (B7 J J J (λq=>eqF q))<|yN ?_;refine cN h (λhc h=>?_) λhc h=>?_
 ·refine S4 1 J ?_;refine a7 ?_;cases h;exact f1
 ·refine b3 ?_;refine S3 1 J<|s6 h λv1 hv1 h=>y1 J (a7H (f:=c8.Pv) hv1 J J J K5 L2 a9e b1j J J J) J<|S2 1 J ?_;refine jq h (λj9=>St.of [(3,.sl 12)] [(12,⟨List.map c8.Pv j9,0,true,3,true⟩)]) (λj9 h=>?_) λκ8 h=>?_
  ·refine S4 2 J ?_;refine a7 ?_;cases h;exact f1
  ·refine S3 1 J ?_;refine y0 J (a8S (f:=c8.Pv) J J J K5)<|S2 1 J<|c5<|lq h (λq=>St.of [(3,.sl 12),(14,.I (v1.length:Int)),(15,.I q.1)] [(12,⟨List.map c8.Pv q.2,0,true,3,true⟩)]) W λq14 x13 h hx9=>?_;obtain⟨s11,s12⟩:=q14;refine S4 1 J<|c4 ?_;refine cN h (λhc h=>?_) λhc h=>?_
   ·refine b3 ?_;refine c4<|c5<|S4 2 J<|S5 2 J<|s6 h λv15 hv10 h=>y0 J (a0A (f:=c8.Pv) hv10 J J J J K5 L2 J)<|S1 1 J<|a4q (f:=c8.Pv) (v:=(⟨v15.Target,v15.Intact,(-1)⟩:c8)) hv10 J J (.inl J) n0<|yN<|S6 2 J ?_;exact eL h W
   ·refine p5 ?_;refine b8<|b8<|k8 ?_;have h:=xL hx9 h;exact eJ h W

theorem b0a{a0}:PO Tryz.prog 59 [.I a0] (a99 a0) λr=>.L a8.Pv r:=by
 refine pO Tryz.func59 λr h _ _=>?_;refine S4 1 J<|c4<|S3 3 J<|l3 J (λhg=>mI J)<|l3 J (λhg=>A6 (ct hg) J J)<|y0 J (B7 J J J (λq=>eqF q))<|yN ?_;refine cN h (λhc h=>?_) λhc h=>?_
 ·refine S4 1 J ?_;refine a7 ?_;cases h;exact f1
 ·refine b3 ?_;refine S3 1 J<|s6 h λv1 hv1 h=>y1 J (a7H (f:=a8.Pv) hv1 J J J P8 P5 a6Q b1l J J J) J<|S2 1 J<|a7 ?_;cases h;exact f1

theorem a2c{a0}:PO Tryz.prog 96 [.I a0] (O1 a0) λr=>b5.Pv r:=by
 refine pO Tryz.func96 λr h _ _=>?_;unfold O1 at h;refine S4 1 J<|S3 1 J<|y0 J (o9 (cs:=[.nl,.I a0]) J b5O b5S J J J)<|a3B (x':=.agg [.nl,.I a0]) (cl':=true) J J (.inl J) T5<|yN<|a7 ?_;cases h;exact⟨J,[_],⟨oL J J J a08 T5 nl J,tr⟩,J,io⟩

theorem b0w:PO Tryz.prog 60 [] (b0v) λr=>b5.Pv r:=by
 refine pO Tryz.func60 λr h _ _=>?_;refine S4 1 J<|sR<|cF h a2c J J λv1 _ h=>S2 1 J<|a7 ?_;cases h;exact⟨J,[_],⟨oL J J J a08 T5 nl J,tr⟩,J,io⟩

theorem b0e{a0 a1 a2}:PO Tryz.prog 31 [.I a0,.I a1,.I a2] (b0d a0 a1 a2) λr=>a6.Pv r:=by
 refine pO Tryz.func31 λr h _ _=>?_;refine S4 1 J<|c4<|S3 3 J<|l3 J (λhg=>mI J)<|l3 J (λhg=>A6 (ct hg) J J)<|y0 J (B7 J J J (λq=>eqF q))<|S1 1 J<|l3 J (λhg=>mI J)<|l3 J (λhg=>A6 (ct hg) J J)<|y0 J (B7 J J J (λq=>eqF q))<|S1 1 J<|l3 J (λhg=>mI J)<|l3 J (λhg=>A6 (ct hg) J J)<|y0 J (B7 J J J (λq=>eqF q))<|S1 1 J<|l3 J (λhg=>mI J)<|l3 J (λhg=>A6 (ct hg) J J)<|y0 J (B7 J J J (λq=>eqF q))<|S1 1 J<|l3 J (λhg=>mI J)<|l3 J (λhg=>A6 (ct hg) J J)<|y0 J (B7 J J J (λq=>eqF q))<|yN ?_;refine cN h (λhc h=>?_) λhc h=>?_
 ·refine sR ?_;refine y0 J (o9 (cs:=[.nl,.I 0,.I 0,.nl,.nl,.nl,.nl,.I 0]) J b2F b2K J J J)<|a3B (x':=.agg [.nl,.I 0,.I 0,.nl,.nl,.nl,.nl,.I 0]) (cl':=true) J J (.inl J) l7<|yN<|a7 ?_;cases h;exact⟨J,[_],⟨oL J J J o7 l7 nl J,tr⟩,J,io⟩
 ·refine b3 ?_;refine dr [] p8 (by kernel_rfl) (by kernel_rfl)<|S7 2 J<|s6 h λv1 hv1 h=>d2f J (w4 J a9H J hv1) J<|s6 h λv2 hv2 h=>d1 J (a7H (f:=iF) hv2 J J J j1 n0 z7 J2 J J J) J J J<|s6 h λv3 hv3 h=>d2f J (w4 J b0B J hv3) J<|S7 1 J<|s6 h λv4 hv4 h=>d2f J (w4 J b0a J hv4) J<|s6 h λv5 hv5 h=>d2f J (w4 J b0w J hv5) J<|d7 J (λ_ hN=>o9 (cs:=[.L b4.Pv v1.S.p7,.I v1.S.Last,.I v1.Serial,.sl 33,.L c8.Pv v3,.L a8.Pv v4,.L l5.Pv v5.L,.I v5.Cap]) J b2F b2K J J J) J<|x4 (x':=.agg [.L b4.Pv v1.S.p7,.I v1.S.Last,.I v1.Serial,.sl 33,.L c8.Pv v3,.L a8.Pv v4,.L l5.Pv v5.L,.I v5.Cap]) (cl':=false) J J (.inr J) l7<|R3<|a7 ?_;cases h;exact⟨J,[_],⟨oL J J J o7 l7 nl J,tr⟩,J,io⟩

theorem a8j{a0 a1 a2 a3}:PO Tryz.prog 17 [.I a0,.I a1,.I a2,.L (Ls j8.Pv) a3] (a7l a0 a1 a2 a3) λr=>.tup [o8.Pv r.1,.I r.2]:=by
 refine pO Tryz.func17 λr h _ _=>?_;refine S4 2 J<|c4<|S3 1 J<|cA h a3X J J λv1 _ h=>S2 1 J ?_;refine cN h (λhc h=>?_) λhc h=>?_
 ·refine sR ?_;refine y0 J (o9 (cs:=[.nl,.I 0,.I 0,.nl,.nl,.nl,.nl,.I 0,.nl]) J b0J b0L J J J)<|a3B (x':=.agg [.nl,.I 0,.I 0,.nl,.nl,.nl,.nl,.I 0,.nl]) (cl':=true) J J (.inl J) Q0<|S2 1 J<|a7 ?_;cases h;exact⟨J,[_,_],⟨oL J J J a2S Q0 nl J,⟨J,tr⟩⟩,J,io⟩
 ·refine b3 ?_;refine S3 3 J<|cF h b0e J J λv2 _ h=>S2 2 J<|c4<|S3 2 J<|nL J j1<|S2 1 J ?_;refine cN h (λhc h=>?_) λhc h=>?_
  ·refine sR ?_;refine y0 J (o9 (cs:=[.nl,.I 0,.I 0,.nl,.nl,.nl,.nl,.I 0,.nl]) J b0J b0L J J J)<|a3B (x':=.agg [.nl,.I 0,.I 0,.nl,.nl,.nl,.nl,.I 0,.nl]) (cl':=true) J J (.inl J) Q0<|S2 1 J<|a7 ?_;cases h;exact⟨J,[_,_],⟨oL J J J a2S Q0 nl J,⟨J,tr⟩⟩,J,io⟩
  ·refine b3 ?_;refine S3 2 J<|y0 J (o9 (cs:=[.L b4.Pv v2.S.S.p7,.I v2.S.S.Last,.I v2.S.Serial,.L iF v2.Roots,.L c8.Pv v2.p7,.L a8.Pv v2.T,.L l5.Pv v2.Q.L,.I v2.Q.Cap,.L (Ls j8.Pv) a3]) J b0J b0L J J J)<|S2 2 J<|a7 ?_;cases h;exact⟨J,[_,_],⟨oL J J J a2S Q0 nl J,⟨J,tr⟩⟩,J,io⟩

theorem a1u{a0 a1}:PO Tryz.prog 78 [b9.Pv a0,.L iF a1] (L6 a0 a1) λr=>.tup [b9.Pv r.1,.str r.2]:=by
 refine pO Tryz.func78 λr h _ _=>?_;unfold L6 at h;refine S4 3 J<|dr [] p8 (by kernel_rfl) (by kernel_rfl)<|S7 1 J<|s6 h λv1 hv1 h=>d0 J (z8 (f:=iF) (cs:=[.I v1]) hv1 J J j1 n0 J J) J<|S7 2 J<|s6 h λv2 hv2 h=>d0 J (z8 (f:=iF) (cs:=[.I v2]) hv2 J J j1 n0 J J) J<|S7 2 J<|s6 h λv3 hv3 h=>d0 J (z8 (f:=iF) (cs:=[.I v3]) hv3 J J j1 n0 J J) J<|S7 3 J<|s6 h λv4 hv4 h=>d2f J (w4 J a8j J hv4) J<|S7 4 J<|x4 (x':=o8.Pv v4.1) (cl':=true) J J (.inr J) Q0<|S8 1 J<|c4<|S4 2 J ?_;refine cN h (λhc h=>?_) λhc h=>?_
 ·refine dr [] p8 (by kernel_rfl) (by kernel_rfl) ?_;refine S7 2 J<|s6 h λv5 hv5 h=>d2 J (G7 J E4 J hv5) J<|x4 (x':=b9.Pv a0) (cl':=true) J J (.inr J) F6<|S8 1 J<|a7 ?_;cases h;exact⟨J,[_,_],⟨oL J J J S9 F6 nl J,⟨J,tr⟩⟩,J,io⟩
 ·refine b3 ?_;refine S4 5 J<|S4 3 J<|a7 ?_;cases h;exact⟨J,[_,_],⟨oL J J J S9 F6 nl J,⟨J,tr⟩⟩,J,io⟩

theorem a3d{a0 a1}:PO Tryz.prog 125 [.I a0,.I a1] (a3c a0 a1) λr=>.I r:=by
 refine pO Tryz.func125 λr h _ _=>?_;refine S4 1 J<|c4<|S3 3 J<|l3 J (λhg=>mI J)<|l3 J (λhg=>A6 (ct hg) J J)<|y0 J (B7 J J J (λq=>eqF q))<|S1 1 J<|l3 J (λhg=>mI J)<|l3 J (λhg=>A6 (ct hg) J J)<|y0 J (B7 J J J (λq=>eqF q))<|S1 1 J<|l3 J (λhg=>mI J)<|l3 J (λhg=>A6 (ct hg) J J)<|y0 J (B7 J J J (λq=>eqF q))<|yN ?_;refine cN h (λhc h=>?_) λhc h=>?_
 ·refine S4 1 J ?_;refine a7 ?_;cases h;exact f1
 ·refine b3 ?_;refine S4 7 J<|a7 ?_;cases h;exact f1

theorem a1s{a0}:PO Tryz.prog 202 [.I a0] (cmp_isNaN_int a0) λr=>.bool r:=by
 refine pO Tryz.func202 λr h _ _=>?_;unfold cmp_isNaN_int at h;refine S4 1 J<|S4 4 J<|a7 ?_;cases h;exact f1

theorem a4t{a0 a1}:PO Tryz.prog 128 [.I a0,.I a1] (Y5 a0 a1) λr=>.I r:=by
 refine pO Tryz.func128 λr h _ _=>?_;refine S4 1 J<|S3 1 J<|cA h a1s J J λv1 _ h=>S2 1 J<|S3 1 J<|cA h a1s J J λv2 _ h=>S2 1 J<|c4<|S4 1 J ?_;refine cN h (λhc h=>?_) λhc h=>?_
 ·refine c4 ?_;refine S4 1 J ?_;refine cN h (λhc h=>?_) λhc h=>?_
  ·refine S4 1 J ?_;refine a7 ?_;cases h;exact f1
  ·refine b3 ?_;refine S4 1 J<|a7 ?_;cases h;exact f1
 ·refine b3 ?_;refine c4<|S4 1 J ?_;refine cN h (λhc h=>?_) λhc h=>?_
  ·refine S4 1 J ?_;refine a7 ?_;cases h;exact f1
  ·refine b3 ?_;refine c4<|S4 3 J ?_;refine cN h (λhc h=>?_) λhc h=>?_
   ·refine S4 1 J ?_;refine a7 ?_;cases h;exact f1
   ·refine b3 ?_;refine c4<|S4 3 J ?_;refine cN h (λhc h=>?_) λhc h=>?_
    ·refine S4 1 J ?_;refine a7 ?_;cases h;exact f1
    ·refine b3 ?_;refine S4 1 J<|a7 ?_;cases h;exact f1

theorem a6L{a0 a1 a2}:PO Tryz.prog 127 [.I a0,.I a1,.rptr [.abs (I0 (List.map (ent iF iF) a2))]] (a2q a0 a1 a2) λr=>.I r:=by
 refine pO Tryz.func127 λr h _ _=>?_;refine S4 1 J<|S3 2 J<|y0 J (b0m (es:=a2) (k:=a0) (E:=iF) (EK:=iF) (d:=.I ((F9 a2 a0).getD (0:Int))) J J a7b (s9 D9) z7 J (lk1 _ _ _))<|S1 2 J<|y0 J (b0m (es:=a2) (k:=a1) (E:=iF) (EK:=iF) (d:=.I ((F9 a2 a1).getD (0:Int))) J J a7b (s9 D9) z7 J (lk1 _ _ _))<|cA h a4t J J λv1 _ h=>S2 1 J<|a7 ?_;cases h;exact f1

theorem D8{a0}:PO Tryz.prog 68 [b6.Pv a0] (H3 a0) λr=>.L iF r:=by
 refine pO Tryz.func68 λr h _ _=>?_;refine S4 2 J<|S4 1 J<|sR<|a84 (KT:=Int) (VT:=Int) (EK:=iF) (E:=iF) 5000008 J J<|S2 2 J ?_;refine jq h (λq=>St.of [(3,.sl 910003),(4,.ptr 4 0 0)] [(4,vS (.mp 5000008) 1),(5000008,⟨[.mapc (List.map (ent iF iF) q.1)],0,false,0,false⟩),(910003,⟨List.map iF q.2,0,true,1,true⟩)]) (λq20 h=>?_) λκ17 h=>?_
 ·obtain⟨j18,j19⟩:=q20;refine S3 2 J<|E2 (Wk.trans (b5b 5000008 nl J) (b6x 4 0 5000008 J J J J))<|s6 h λv21 hv12 h=>b6C hv12 (b3z (λh=>(F9 j18 h).getD 0) (λx y=>by unfold a2q Y5 cmp_isNaN_int;simp only[b7R,bne_self_eq_false,Bool.false_eq_true,if_false];exact b7r _ _)) J J b3Z b6t J J J b30 J J J J J (λp q r h=>a6L.2 r h)<|yN<|S4 2 J<|a7 ?_;cases h;exact f1
 ·refine S3 3 J ?_;refine nL J I2<|S2 1 J<|c5<|lq h (λq=>St.of [(3,.sl 910003),(4,.ptr 4 0 0),(11,.L b4.Pv a0.S.p7),(12,.I (a0.S.p7.length:Int)),(13,.I q.1)] [(4,vS (.mp 5000008) 1),(5000008,⟨[.mapc (List.map (ent iF iF) q.2.1)],0,false,0,false⟩),(910003,⟨List.map iF q.2.2,0,true,1,true⟩)]) (Wk.trans (K0 (t:=3) (l:=920003) (z:=1) J J) (WP (λl=>if l=910003 then 920003 else l))) λq27 x26 h hx15=>?_;obtain⟨s23,s24,s25⟩:=q27;refine S4 1 J<|c4 ?_;refine cN h (λhc h=>?_) λhc h=>?_
  ·refine b3 ?_;refine jq h (λq=>St.of [(3,.sl 33),(4,.ptr 4 0 0),(11,.L b4.Pv a0.S.p7),(12,.I (a0.S.p7.length:Int)),(13,.I s23)] [(4,vS (.mp 5000008) 1),(5000008,⟨[.mapc (List.map (ent iF iF) q.1)],0,false,0,false⟩),(33,⟨List.map iF q.2,0,true,1,true⟩)]) (λq34 h=>?_) λκ31 h=>?_
   ·obtain⟨j32,j33⟩:=q34;refine S6 2 J ?_;exact eL h (WP (λl=>if l=910003 then 33 else l))
   ·refine c5 ?_;refine S3 1 J<|iL h J J I2 H7 λv35 _ h=>S2 4 J<|S4 3 J ?_;refine cN h (λhc h=>?_) λhc h=>?_
    ·refine S3 3 J ?_;refine cA h a3d J J λv36 _ h=>S2 1 J<|S3 5 J<|A2 (es:=s24) (k:=v36) (v:=v35.Val.Serial) (E:=iF) (EK:=iF) (.inl J) J J J J J J a7b (s9 D9)<|yN<|S5 2 J<|y0 J (L9 (f:=iF) (l:=[v36]) J j1 n0 z7 J J nl J J)<|s6 h λv37 hv22 h=>b5y (f:=iF) (b:=8) [(4,.ptr 4 0 0),(11,.L b4.Pv a0.S.p7),(12,.I (a0.S.p7.length:Int)),(13,.I s23),(14,.bool (decide (s23<(a0.S.p7.length:Int)))),(15,.I s23),(16,.rptr (b4.Pc v35)),(17,b4.Pv v35),(6,.ptr 6 0 0),(5,.I s23),(18,.ptr 6 0 0),(19,.I v35.State),(20,.bool (v35.State==1)),(21,.I s23),(22,.ptr 6 0 1),(23,.I v35.Gen),(24,.I v36),(7,.I v36),(25,.mp 5000008),(26,.I v36),(27,.ptr 6 0 2),(28,.ptr 6 0 2),(29,.I v35.Val.Serial),(31,.I v36),(32,.lst true (List.map iF [v36]))] [(6,vR (b4.Pv v35) 8),(5000008,⟨[.mapc (List.map (ent iF iF) (e8 s24 v36 v35.Val.Serial))],0,false,0,false⟩),(4,vS (.mp 5000008) 1)] J hv22 ⟨J,J,J,J,J,J,J,J,J,J,J,J,J,J,J,J,J,J,J,J,J,J,J,J,J,J,J,J,J,J,J,J,J,J,J,J,J,J,J,J,J,J,J,J,J,J,J,J,J,J,J,J,J,J,J,J,J,J,J,J,J,J,J,J,J,J,J,J,J,J,J,J,J,J,J,tr⟩ ⟨rS,W5 J J J (λq=>nomatch q) J J J J,W5 J J J (λq=>nomatch q) J J J J,tr⟩ J J J J (.inl ⟨_,J,J⟩) j1 n0 J2 z7 J (λ_=>J)<|S2 1 J ?_;exact eJ h W
    ·refine b3 ?_;exact eJ h (WP (λl=>if l=33 then 910003 else l))
  ·refine p5 ?_;refine b8<|b8<|k8 ?_;have h:=xL hx15 h;exact eJ h W

theorem a2B{a0}:PO Tryz.prog 336 [.I a0] (a10 a0) λr=>.tup [.I r.1,.I r.2.1,.bool r.2.2]:=by
 refine pO Tryz.func336 λr h _ _=>?_;refine S4 3 J<|c4<|S4 2 J ?_;refine cN h (λhc h=>?_) λhc h=>?_
 ·refine S4 3 J ?_;refine a7 ?_;cases h;exact f3
 ·refine b3 ?_;refine S3 2 J<|s6 h λv1 hv1 h=>y0 J (a5j J J hv1)<|s6 h λv2 hv2 h=>y0 J (a5j J J hv2)<|S1 2 J<|s6 h λv3 hv3 h=>y0 J (a5j J J hv3)<|S2 2 J<|c4<|S3 3 J<|l3 J (λhg=>mI J)<|l3 J (λhg=>A6 (ct hg) J J)<|y0 J (B7 J J J (λq=>eqF q))<|yN ?_;refine cN h (λhc h=>?_) λhc h=>?_
  ·refine S4 3 J ?_;refine a7 ?_;cases h;exact f3
  ·refine b3 ?_;refine S4 5 J<|a7 ?_;cases h;exact f3

theorem a3f{a0}:PO Tryz.prog 279 [.I a0] (a3e a0) λr=>.I r:=by
 refine pO Tryz.func279 λr h _ _=>?_;refine S4 1 J<|S3 1 J<|cA h a2B J J λv1 _ h=>S2 7 J<|S4 2 J<|a7 ?_;cases h;exact f1

theorem a4d{a0}:PO Tryz.prog 280 [.I a0] (a4E a0) λr=>.I r:=by
 refine pO Tryz.func280 λr h _ _=>?_;refine S4 1 J<|S3 1 J<|cA h a2B J J λv1 _ h=>S2 7 J<|S4 2 J<|a7 ?_;cases h;exact f1

theorem B8{a0 a1}:PO Tryz.prog 267 [b7.Pv a0,.I a1] (C1 a0 a1) λr=>.tup [.I r.1,.I r.2]:=by
 refine pO Tryz.func267 λr h _ _=>?_;refine S4 3 J<|c4<|S4 2 J ?_;refine cN h (λhc h=>?_) λhc h=>?_
 ·refine S4 2 J ?_;refine a7 ?_;cases h;exact f2
 ·refine b3 ?_;refine S3 1 J<|cA h a3f J J λv1 _ h=>S2 1 J<|c4<|S3 3 J<|l3 J (λhg=>mI J)<|l3 J (λhg=>oF J b2z J)<|l3 J (λhg=>oS (ct hg) J J b5C J)<|l3 J (λhg=>a3n (f:=b4.Pv) (ct hg) I2)<|l3 J (λhg=>A6 (ct hg) (ct hg) J)<|y0 J (B7 J J J (λq=>eqF q))<|yN ?_;refine cN h (λhc h=>?_) λhc h=>?_
  ·refine S4 2 J ?_;refine a7 ?_;cases h;exact f2
  ·refine b3 ?_;refine S3 3 J<|iL h J J I2 H7 λv2 _ h=>S2 3 J<|c4<|dr [] p8 (by kernel_rfl) (by kernel_rfl)<|S7 3 J<|s6 h λv3 hv3 h=>d2 J (G7 J a4d J hv3) J<|S7 2 J<|a1w J (λhg _ hN=>oF J a8y J) J ?_;refine a6i J (λhg=>oS (ct hg) J J I1 J) J<|a1w J (λhg _ hN=>A6 (ct hg) J J) J<|a1w J (λhg _ hN=>om (d:=.bool (v2.State != 1)) (ct hg)) J<|a1w (b3G J J J) (λhg _ hN=>oF J a8y J) J ?_;refine a6i (b3G J J J) (λhg=>oS (ct hg) J J I1 J) J<|a1w (b3G J J J) (λhg _ hN=>A6 (ct hg) J J) J<|a1w J (λhg _ hN=>y3 (ct hg) J J (λq=>b7p hg (eqT q))) J<|d7 J (λ_ hN=>B7 J J J (λq=>eqF q)) J<|R3 ?_;refine cN h (λhc h=>?_) λhc h=>?_
   ·refine S4 2 J ?_;refine a7 ?_;cases h;exact f2
   ·refine b3 ?_;refine S4 3 J<|a7 ?_;cases h;exact f2

theorem W1{a0 a1}:PO Tryz.prog 185 [b7.Pv a0,.I a1] (Q9 a0 a1) λr=>.tup [r4.Pv r.1,.I r.2]:=by
 refine pO Tryz.func185 λr h _ _=>?_;refine S4 3 J<|S4 1 J<|S3 2 J<|cA h B8 J J λv1 _ h=>S2 5 J<|c4<|S4 2 J ?_;refine cN h (λhc h=>?_) λhc h=>?_
 ·refine S3 2 J ?_;refine a3B (x':=.agg [.I 0,.I 0,.I 0,.I 0,.bool false,.nl]) (cl':=true) J J (.inl J) a0O<|S2 1 J<|a7 ?_;cases h;exact⟨J,[_,_],⟨oL J J J a4T a0O nl J,⟨J,tr⟩⟩,J,io⟩
 ·refine b3 ?_;refine c4<|S3 3 J<|iL h J J I2 H7 λv2 hv2 h=>S2 3 J ?_;refine cN h (λhc h=>?_) λhc h=>?_
  ·refine S3 1 J ?_;refine a3B (x':=.agg [.I 0,.I 0,.I 0,.I 0,.bool false,.nl]) (cl':=true) J J (.inl J) a0O<|S2 1 J<|a7 ?_;cases h;exact⟨J,[_,_],⟨oL J J J a4T a0O nl J,⟨J,tr⟩⟩,J,io⟩
  ·refine b3 ?_;refine S3 3 J<|y0 J (z8 (f:=b4.Pv) (cs:=b4.Pc v2) hv2 J J I2 H7 J J)<|S2 4 J<|a7 ?_;cases h;exact⟨J,[_,_],⟨oL J J J a4T a0O nl J,⟨J,tr⟩⟩,J,io⟩

theorem u7{a0 a1}:PO Tryz.prog 108 [b6.Pv a0,.I a1] (z6 a0 a1) λr=>.tup [r4.Pv r.1,.I r.2]:=by
 refine pO Tryz.func108 λr h _ _=>?_;refine S4 3 J<|S3 3 J<|cF h W1 J J λv1 _ h=>S2 4 J<|a7 ?_;cases h;exact⟨J,[_,_],⟨oL J J J a4T a0O nl J,⟨J,tr⟩⟩,J,io⟩

theorem a0W{a0 a1}:PO Tryz.prog 186 [a6.Pv a0,.I a1] (a0x a0 a1) λr=>.I r:=by
 refine pO Tryz.func186 λr h _ _=>?_;refine S4 2 J<|S3 3 J<|cF h u7 J J λv1 _ h=>S2 6 J<|S4 3 J<|a7 ?_;cases h;exact f1

theorem a6D{a0}:PO Tryz.prog 141 [o8.Pv a0] (a43 a0) λr=>.L iF r:=by
 refine pO Tryz.func141 λr h _ _=>?_;refine S4 2 J<|S4 1 J ?_;refine jq h (λj11=>St.of [(3,.sl 910003)] [(910003,⟨List.map iF j11,0,true,1,true⟩)]) (λj11 h=>?_) λκ10 h=>?_
 ·refine S3 1 J ?_;obtain⟨v12,hv9,h⟩:=a0Q h;refine b5c hv9 J J b34 b45 J J<|yN<|S4 2 J<|a7 ?_;cases h;exact f1
 ·refine S3 3 J ?_;refine cF h D8 J J λv13 _ h=>nL J j1<|S2 1 J<|c5<|lq h (λq=>St.of [(1,.ptr 1 0 0),(3,.sl 910003),(9,.L iF v13),(10,.I (v13.length:Int)),(11,.I q.1)] [(1,vR (o8.Pv a0) 9),(910003,⟨List.map iF q.2,0,true,1,true⟩)]) (Wk.trans (K0 (t:=3) (l:=920003) (z:=1) J J) (WP (λl=>if l=910003 then 920003 else l))) λq18 x17 h hx13=>?_;obtain⟨s15,s16⟩:=q18;refine S4 1 J<|c4 ?_;refine cN h (λhc h=>?_) λhc h=>?_
  ·refine b3 ?_;refine c4<|c5<|sR<|iL h J J j1 n0 λv19 _ h=>S2 2 J<|S5 4 J<|cA h a0W J J λv20 _ h=>y0 J (L9 (f:=iF) (l:=[v20]) J j1 n0 z7 J J nl J J)<|s6 h λv21 hv16 h=>b5y (f:=iF) (b:=8) [(1,.ptr 1 0 0),(9,.L iF v13),(10,.I (v13.length:Int)),(11,.I s15),(12,.bool (decide (s15<(v13.length:Int)))),(13,.rptr [.I v19]),(14,.I v19),(5,.I v19),(16,.ptr 1 0 0),(17,a6.Pv a0.X),(18,.I v19),(19,.I v20),(20,.lst true (List.map iF [v20]))] [(1,vR (o8.Pv a0) 9)] J hv16 ⟨J,J,J,J,J,J,J,J,J,J,J,J,J,J,J,J,J,J,J,J,J,J,J,J,J,J,J,J,J,J,J,J,J,J,J,J,J,J,J,tr⟩ ⟨rS,tr⟩ J J J J (.inl ⟨_,J,J⟩) j1 n0 J2 z7 J (λ_=>J)<|S2 1 J<|S6 2 J ?_;exact eL h (WP (λl=>if l=910003 then 21 else l))
  ·refine p5 ?_;refine b8<|b8<|k8 ?_;have h:=xL hx13 h;exact eJ h W

theorem U0{a0 a1}:PO Tryz.prog 140 [.str a0,.L iF a1] (T9 a0 a1) λr=>.str r:=by
 refine pO Tryz.func140 λr h _ _=>?_;refine S4 1 J ?_;refine jq h (λj11=>St.of [(0,.str j11)] []) (λj11 h=>?_) λκ10 h=>?_
 ·refine S4 2 J ?_;refine a7 ?_;cases h;exact f1
 ·refine S3 1 J ?_;refine nL J j1<|S2 1 J<|c5<|lq h (λq=>St.of [(0,.str q.1),(7,.L iF a1),(8,.I (a1.length:Int)),(9,.I q.2)] []) W λq16 x15 h hx11=>?_;obtain⟨s13,s14⟩:=q16;refine S4 1 J<|c4 ?_;refine cN h (λhc h=>?_) λhc h=>?_
  ·refine b3 ?_;refine c4<|c5<|sR<|iL h J J j1 n0 λv17 _ h=>S2 2 J<|S5 2 J<|s6 h λv18 hv13 h=>y0 J (a5Q J b0I J (b26 hv13))<|s6 h λv19 hv14 h=>y0 J (a5P hv14 J J C2)<|s6 h λv20 hv15 h=>y0 J (a5P hv15 J J C2)<|S2 1 J<|S6 2 J ?_;exact eL h W
  ·refine p5 ?_;refine b8<|b8<|k8 ?_;have h:=xL hx11 h;exact eJ h W

theorem a1c{a0 a1}:PO Tryz.prog 80 [b9.Pv a0,.L iF a1] (L0 a0 a1) λr=>.tup [b9.Pv r.1,.str r.2]:=by
 refine pO Tryz.func80 λr h _ _=>?_;unfold L0 at h;refine S4 3 J<|dr [] p8 (by kernel_rfl) (by kernel_rfl)<|S7 3 J<|s6 h λv1 hv1 h=>d2f J (w4 J a6D J hv1) J<|s6 h λv2 hv2 h=>d2 J (G7 J U0 J hv2) J<|x4 (x':=b9.Pv a0) (cl':=true) J J (.inr J) F6<|S8 1 J<|a7 ?_;cases h;exact⟨J,[_,_],⟨oL J J J S9 F6 nl J,⟨J,tr⟩⟩,J,io⟩

theorem E7{a0 a1}:PO Tryz.prog 111 [a6.Pv a0,.I a1] (G6 a0 a1) λr=>.I r:=by
 refine pO Tryz.func111 λr h _ _=>?_;refine S4 2 J<|c4<|S3 3 J<|l3 J (λhg=>mI J)<|l3 J (λhg=>oF J a9X J)<|l3 J (λhg=>oS (ct hg) J J b0H J)<|l3 J (λhg=>a3n (f:=iF) (ct hg) j1)<|l3 J (λhg=>A6 (ct hg) (ct hg) J)<|y0 J (B7 J J J (λq=>eqF q))<|yN ?_;refine cN h (λhc h=>?_) λhc h=>?_
 ·refine S4 1 J ?_;refine a7 ?_;cases h;exact f1
 ·refine b3 ?_;refine S3 3 J<|iL h J J j1 n0 λv1 _ h=>S2 2 J<|a7 ?_;cases h;exact f1

theorem W7{a0 a1}:PO Tryz.prog 110 [a6.Pv a0,.I a1] (W3 a0 a1) λr=>.I r:=by
 refine pO Tryz.func110 λr h _ _=>?_;unfold W3 at h;refine S4 2 J<|dr [] p8 (by kernel_rfl) (by kernel_rfl)<|S7 3 J<|s6 h λv1 hv1 h=>d2 J (G7 J E7 J hv1) J<|s6 h λv2 hv2 h=>d2 J (G7 J a0W J hv2) J<|S8 1 J<|a7 ?_;cases h;exact f1

theorem a1d{a0 a1}:PO Tryz.prog 81 [b9.Pv a0,.L iF a1] (L1 a0 a1) λr=>.tup [b9.Pv r.1,.str r.2]:=by
 refine pO Tryz.func81 λr h _ _=>?_;unfold L1 at h;refine S4 3 J<|sR<|s6 h λv1 hv1 h=>y1 J (a7H (f:=iF) hv1 J J J j1 n0 z7 J2 J J J) J<|S2 1 J ?_;refine jq h (λj10=>St.of [(2,.ptr 2 0 0),(4,.ptr 4 0 0),(6,.sl 8)] [(8,⟨List.map iF j10,0,true,1,true⟩),(4,vR (.agg [.nl,.I 0,.I 0,.nl,.nl,.nl,.nl,.I 0,.nl,.bool false,.nl]) 11),(2,vR (b9.Pv a0) 11)]) (λj10 h=>?_) λκ9 h=>?_
 ·refine dr [] p8 (by kernel_rfl) (by kernel_rfl) ?_;refine S7 2 J<|s6 h λv11 hv8 h=>d2 J (G7 J U0 J hv8) J<|x4 (x':=b9.Pv a0) (cl':=true) J J (.inr J) F6<|S8 1 J<|a7 ?_;cases h;exact⟨J,[_,_],⟨oL J J J S9 F6 nl J,⟨J,tr⟩⟩,J,io⟩
 ·refine S3 1 J ?_;refine y0 J (a8S (f:=iF) J J J j1)<|S2 1 J<|c5<|lq h (λq=>St.of [(2,.ptr 2 0 0),(4,.ptr 4 0 0),(6,.sl 8),(10,.I (v1.length:Int)),(11,.I q.1)] [(8,⟨List.map iF q.2,0,true,1,true⟩),(4,vR (.agg [.nl,.I 0,.I 0,.nl,.nl,.nl,.nl,.I 0,.nl,.bool false,.nl]) 11),(2,vR (b9.Pv a0) 11)]) W λq16 x15 h hx11=>?_;obtain⟨s13,s14⟩:=q16;refine S4 1 J<|c4 ?_;refine cN h (λhc h=>?_) λhc h=>?_
  ·refine b3 ?_;refine c4<|c5<|S4 2 J<|S5 6 J<|cA h W7 J J λv17 _ h=>s6 h λv18 hv13 h=>y0 J (a0A (f:=iF) hv13 J J J J j1 n0 J)<|a4q (f:=iF) (v:=v17) hv13 J J (.inl J) n0<|yN<|S6 2 J ?_;exact eL h W
  ·refine p5 ?_;refine b8<|b8<|k8 ?_;have h:=xL hx11 h;exact eJ h W

theorem a1F{a0}:PO Tryz.prog 71 [b7.Pv a0] (Y1 a0) λr=>A4.Pv r:=by
 refine pO Tryz.func71 λr h _ _=>?_;refine S4 2 J<|S4 1 J ?_;refine jq h (λj9=>St.of [(2,.ptr 2 0 0),(3,.ptr 3 0 0)] [(3,vR (A4.Pv j9) 4),(2,vR (.agg [.I 0,.I 0,.I 0,.I 0]) 4)]) (λj9 h=>?_) λκ8 h=>?_
 ·refine S4 2 J ?_;refine a7 ?_;cases h;exact⟨J,[_],⟨oL J J J b1h b1w nl J,tr⟩,J,io⟩
 ·refine S3 2 J ?_;refine nL J I2<|S2 1 J<|c5<|lq h (λq=>St.of [(2,.ptr 2 0 0),(3,.ptr 3 0 0),(7,.L b4.Pv a0.p7),(8,.I (a0.p7.length:Int)),(9,.I q.1)] [(3,vR (A4.Pv q.2) 4),(2,vR (.agg [.I 0,.I 0,.I 0,.I 0]) 4)]) W λq14 x13 h hx9=>?_;obtain⟨s11,s12⟩:=q14;refine S4 1 J<|c4 ?_;refine cN h (λhc h=>?_) λhc h=>?_
  ·refine b3 ?_;refine c4<|c5<|sR<|iL h J J I2 H7 λv15 _ h=>S2 3 J<|S5 2 J<|s6 h λv16 hv11 h=>y0 J (b5o hv11 J J a9d n0)<|y0 J (oS J J J I1 (A4.get hv11))<|S1 1 J<|y0 J (b5o hv11 J J a9d n0)<|b7i hv11 J J (.inl J) J n0<|yN<|S6 2 J ?_;exact eL h W
  ·refine p5 ?_;refine b8<|b8<|k8 ?_;have h:=xL hx9 h;exact eJ h W

theorem a6E{a0}:PO Tryz.prog 40 [o8.Pv a0] (a47 a0) λr=>A4.Pv r:=by
 refine pO Tryz.func40 λr h _ _=>?_;refine S4 2 J<|S3 4 J<|cA h a1F J J λv1 _ h=>S2 1 J<|a7 ?_;cases h;exact⟨J,[_],⟨oL J J J b1h b1w nl J,tr⟩,J,io⟩

theorem a1e{a0 a1}:PO Tryz.prog 82 [b9.Pv a0,.L iF a1] (V7 a0 a1) λr=>.tup [b9.Pv r.1,.str r.2]:=by
 refine pO Tryz.func82 λr h _ _=>?_;refine S4 3 J<|S3 2 J<|cA h a6E J J λv1 _ h=>S2 2 J<|R7 (b5w 6 J)<|dr [] p8 (by kernel_rfl) (by kernel_rfl)<|S7 1 J<|d0 J (b62 (xs:=[v1.a,v1.b,v1.c,v1.d]) J J a9d J n0) J<|s6 h λv2 hv2 h=>d2 J (G7 J U0 J hv2) J<|x4 (x':=b9.Pv a0) (cl':=true) J J (.inr J) F6<|S8 1 J<|a7 ?_;cases h;exact⟨J,[_,_],⟨oL J J J S9 F6 nl J,⟨J,tr⟩⟩,J,io⟩

theorem a7e{a0}:PO Tryz.prog 32 [.L iF a0] (a6f a0) λr=>.tup [j8.Pv r.1,.I r.2]:=by
 refine pO Tryz.func32 λr h _ _=>?_;refine S4 2 J<|c4<|S3 1 J<|nL J j1<|S2 1 J ?_;refine cN h (λhc h=>?_) λhc h=>?_
 ·refine sR ?_;refine y0 J (o9 (cs:=[.I 0,.I 0,.I 0,.I 0]) J a9c a5z J J J)<|S2 2 J<|a7 ?_;cases h;exact⟨J,[_,_],⟨oL J J J a89 a1Q nl J,⟨J,tr⟩⟩,J,io⟩
 ·refine b3 ?_;refine dr [] p8 (by kernel_rfl) (by kernel_rfl)<|S7 1 J<|s6 h λv1 hv1 h=>d0 J (z8 (f:=iF) (cs:=[.I v1]) hv1 J J j1 n0 J J) J<|S7 2 J<|s6 h λv2 hv2 h=>d0 J (z8 (f:=iF) (cs:=[.I v2]) hv2 J J j1 n0 J J) J<|S7 2 J<|s6 h λv3 hv3 h=>d0 J (z8 (f:=iF) (cs:=[.I v3]) hv3 J J j1 n0 J J) J<|S7 2 J<|s6 h λv4 hv4 h=>d0 J (z8 (f:=iF) (cs:=[.I v4]) hv4 J J j1 n0 J J) J<|S7 1 J<|d7 J (λ_ hN=>o9 (cs:=[.I v1,.I v2,.I v3,.I v4]) J a9c a5z J J J) J<|S7 1 J<|x4 (x':=.agg [.I v1,.I v2,.I v3,.I v4]) (cl':=true) J J (.inl J) a1Q<|R3<|c4<|S3 1 J<|cA h a09 J J λv5 _ h=>S2 1 J<|S4 2 J ?_;refine cN h (λhc h=>?_) λhc h=>?_
  ·refine sR ?_;refine y0 J (o9 (cs:=[.I 0,.I 0,.I 0,.I 0]) J a9c a5z J J J)<|S2 3 J<|a7 ?_;cases h;exact⟨J,[_,_],⟨oL J J J a89 a1Q nl J,⟨J,tr⟩⟩,J,io⟩
  ·refine b3 ?_;refine S4 3 J<|a7 ?_;cases h;exact⟨J,[_,_],⟨oL J J J a89 a1Q nl J,⟨J,tr⟩⟩,J,io⟩

theorem a6F{a0}:PO Tryz.prog 33 [j8.Pv a0] (a48 a0) λr=>ifE a4r r:=by
 refine pO Tryz.func33 λr h _ _=>?_;refine S4 2 J<|c4<|S4 2 J<|c5<|S4 2 J ?_;refine cN h (λhc h=>?_) λhc h=>?_
 ·refine sR ?_;refine y0 J (o9 (cs:=[]) J b4d b1y J J J)<|y0 J (b00 (n:=a4r) (T:=103) (xs:=[]) J b1u J)<|S2 1 J<|a7 ?_;cases h;exact f1
 ·refine S4 2 J ?_;refine cN h (λhc h=>?_) λhc h=>?_
  ·refine S3 2 J ?_;refine y0 J (o9 (cs:=[.I a0.A]) J b4e b1z J J J)<|y0 J (b00 (n:=a4r) (T:=107) (xs:=[a0.A]) J b1v J)<|S2 1 J<|a7 ?_;cases h;exact f1
  ·refine b3 ?_;refine S3 1 J<|y0 J (o9 (cs:=[.I a0.Kind,.I a0.A,.I a0.B,.I a0.C]) J b5P b2M J J J)<|y0 J (b00 (n:=a4r) (T:=99) (xs:=[a0.Kind,a0.A,a0.B,a0.C]) J b2G J)<|S2 1 J<|a7 ?_;cases h;exact f1

theorem a5M:PO Tryz.prog 61 [] (a1j) λr=>.abs (I0 (List.map (ent iF fvE) r)):=by
 refine pO Tryz.func61 λr h _ _=>?_;unfold a1j at h;refine S4 1 J<|sR<|a84 (KT:=Int) (VT:=Fv) (EK:=iF) (E:=fvE) 5000001 J J<|a1r (es:=[]) (k:=1) (v:=(some 97)) (E:=fvE) (EK:=iF) (.inr J) J J J J J J L4 (s9 D9)<|a1r (es:=(e8 [] 1 (some 97))) (k:=2) (v:=(some 98)) (E:=fvE) (EK:=iF) (.inr J) J J J J J J L4 (s9 D9)<|a1r (es:=(e8 (e8 [] 1 (some 97)) 2 (some 98))) (k:=3) (v:=(some 99)) (E:=fvE) (EK:=iF) (.inr J) J J J J J J L4 (s9 D9)<|a1r (es:=(e8 (e8 (e8 [] 1 (some 97)) 2 (some 98)) 3 (some 99))) (k:=4) (v:=(some 100)) (E:=fvE) (EK:=iF) (.inr J) J J J J J J L4 (s9 D9)<|a1r (es:=(e8 (e8 (e8 (e8 [] 1 (some 97)) 2 (some 98)) 3 (some 99)) 4 (some 100))) (k:=5) (v:=(some 101)) (E:=fvE) (EK:=iF) (.inr J) J J J J J J L4 (s9 D9)<|a1r (es:=(e8 (e8 (e8 (e8 (e8 [] 1 (some 97)) 2 (some 98)) 3 (some 99)) 4 (some 100)) 5 (some 101))) (k:=6) (v:=(some 102)) (E:=fvE) (EK:=iF) (.inr J) J J J J J J L4 (s9 D9)<|a1r (es:=(e8 (e8 (e8 (e8 (e8 (e8 [] 1 (some 97)) 2 (some 98)) 3 (some 99)) 4 (some 100)) 5 (some 101)) 6 (some 102))) (k:=7) (v:=(some 103)) (E:=fvE) (EK:=iF) (.inr J) J J J J J J L4 (s9 D9)<|a1r (es:=(e8 (e8 (e8 (e8 (e8 (e8 (e8 [] 1 (some 97)) 2 (some 98)) 3 (some 99)) 4 (some 100)) 5 (some 101)) 6 (some 102)) 7 (some 103))) (k:=8) (v:=(some 104)) (E:=fvE) (EK:=iF) (.inr J) J J J J J J L4 (s9 D9)<|a1r (es:=(e8 (e8 (e8 (e8 (e8 (e8 (e8 (e8 [] 1 (some 97)) 2 (some 98)) 3 (some 99)) 4 (some 100)) 5 (some 101)) 6 (some 102)) 7 (some 103)) 8 (some 104))) (k:=9) (v:=(some 105)) (E:=fvE) (EK:=iF) (.inr J) J J J J J J L4 (s9 D9)<|a1r (es:=(e8 (e8 (e8 (e8 (e8 (e8 (e8 (e8 (e8 [] 1 (some 97)) 2 (some 98)) 3 (some 99)) 4 (some 100)) 5 (some 101)) 6 (some 102)) 7 (some 103)) 8 (some 104)) 9 (some 105))) (k:=10) (v:=(some 106)) (E:=fvE) (EK:=iF) (.inr J) J J J J J J L4 (s9 D9)<|S2 2 J<|R7 (a9P 0 5000001 J J)<|a7 ?_;cases h;exact f1

theorem b1c{a0}:PO Tryz.prog 252 [.I a0] (b1W a0) λr=>.tup [.L iF r.1,.I r.2]:=by
 refine pO Tryz.func252 λr h _ _=>?_;refine S4 2 J<|c4<|S3 3 J<|l3 J (λhg=>mI J)<|l3 J (λhg=>A6 (ct hg) J J)<|y0 J (B7 J J J (λq=>eqF q))<|yN ?_;refine cN h (λhc h=>?_) λhc h=>?_
 ·refine S4 2 J ?_;refine a7 ?_;cases h;exact f2
 ·refine b3 ?_;refine S3 1 J<|s6 h λv1 hv1 h=>y1 J (a7H (f:=iF) hv1 J J J j1 n0 z7 J2 J J J) J<|S2 2 J<|a7 ?_;cases h;exact f2

theorem a3A{a0}:PO Tryz.prog 253 [.I a0] (V2 a0) λr=>.bool r:=by
 refine pO Tryz.func253 λr h _ _=>?_;unfold V2 at h;refine S4 1 J<|S3 3 J<|l3 J (λhg=>mI J)<|l3 J (λhg=>A6 (ct hg) J J)<|y0 J (y3 J J J (λq=>eqT q))<|S2 1 J<|a7 ?_;cases h;exact f1

theorem a2p{a0}:PO Tryz.prog 325 [b7.Pv a0] (O4 a0) λr=>.fn (.func 367) [.rptr (b7.Pc r)]:=by
 refine pO Tryz.func325 λr h _ _=>?_;unfold O4 at h;refine S4 2 J<|S4 2 J<|a7 ?_;cases h;exact f1

theorem E1{a0}:PON Tryz.prog 331 [.L b4.Pv a0] (u5 a0) λr=>⟨List.map b4.Pv r,0,true,8,true⟩:=by
 refine pON Tryz.func331 λr h _ _=>?_;unfold u5 at h;refine S4 1 J<|c4<|S3 1 J<|a9S J I2 λb hb=>yN ?_;refine y9 b J (λhc=>?_) (λhc=>?_)
 ·obtain rfl:a0 = []:=by simpa using hb hc
  refine S4 1 J<|R7 (K0 (t:=2) (l:=920000) (z:=8) J J)<|a7 ?_;cases h;exact⟨J,_,_,J,J,J,J⟩
 ·refine b3 ?_;refine sR<|y0 J (a7I J I2 H7)<|S1 1 J<|y1 J (b0l (f:=b4.Pv) h J J (.inl ⟨_,J,J⟩) I2 H7 b1k a3E J (λ_=>J)) J<|S2 1 J<|a7 ?_;exact⟨J,_,_,J,J,J,J⟩

theorem B9{a0 a1 a2}:PO Tryz.prog 268 [b7.Pv a0,.I a1,b4.Pv a2] (A0 a0 a1 a2) λr=>b7.Pv r:=by
 refine pO Tryz.func268 λr h _ _=>?_;unfold A0 at h;refine S4 3 J<|S3 2 J<|s6 h λv1 hv1 h=>ycN J (a8R J E1 J hv1) J J<|S2 2 J<|S3 4 J<|s6 h λv2 hv2 h=>y0 J (a0A (f:=b4.Pv) hv2 J J J J I2 H7 J)<|a4q (f:=b4.Pv) (v:=a2) hv2 J J (.inr J) H7<|yN<|S4 2 J<|a7 ?_;cases h;exact⟨J,[_],⟨oL J J J Y4 T4 nl J,tr⟩,J,io⟩

theorem a2o{a0 a1}:PO Tryz.prog 254 [b7.Pv a0,r4.Pv a1] (a0c a0 a1) λr=>.tup [b7.Pv r.1,.I r.2.1,.I r.2.2]:=by
 refine pO Tryz.func254 λr h _ _=>?_;refine S4 5 J ?_;refine jq h (λ_=>St.of [(2,.ptr 2005 0 0),(4,.ptr 2003 0 0),(5,.ptr 2002 0 0),(6,.ptr 2001 0 0)] [(2001,vR (.I 0) 1),(2002,vR (.I 0) 1),(2003,vR (.agg [.nl,.I 0]) 2),(2005,vR (b7.Pv a0) 2)]) (λq10 h=>?_) λκ9 h=>?_
 ·refine S4 4 J ?_;refine a7 ?_;cases h;exact⟨J,[_,_,_],⟨oL J J J Y4 T4 nl J,⟨oS J J J I1 J,⟨oS J J J a5y J,tr⟩⟩⟩,J,io⟩
 ·refine S3 1 J ?_;refine cF h a2p J J λv11 _ h=>yN<|c5<|R7 (WPE (λl=>if l=2006 then 6 else if l=2007 then 5 else if l=2008 then 4 else if l=2009 then 3 else if l=2010 then 2 else l) [(2,.ptr 2010 0 0),(3,.ptr 2009 0 0),(4,.ptr 2008 0 0),(5,.ptr 2007 0 0),(6,.ptr 2006 0 0),(10,.fn (.func 367) [.rptr (b7.Pc v11)])] [(2006,vR (.I 0) 1),(2007,vR (.I 0) 1),(2008,vR (.agg [.nl,.I 0]) 2),(2009,vR (r4.Pv a1) 6),(2010,vR (b7.Pv a0) 2)]) ?_;refine U6 (fn:=Tryz.f367) (N1:=23) J Tryz.func367 J J nl J b4a J J (λl19 e20 o21 hR22=>?_);refine S3 2 J<|nL J I2<|S2 1 J<|c5<|lq h (λs13=>St.of [(1000002,.ptr 2010 0 0),(1000003,.ptr 2009 0 0),(1000004,.ptr 2008 0 0),(1000005,.ptr 2007 0 0),(1000006,.ptr 2006 0 0),(1000010,.fn (.func 367) [.rptr (b7.Pc v11)]),(0,.fn (.yield l19) []),(6,.L b4.Pv v11.p7),(7,.I (v11.p7.length:Int)),(8,.I s13)] [(2006,vR (.I 0) 1),(2007,vR (.I 0) 1),(2008,vR (.agg [.nl,.I 0]) 2),(2009,vR (r4.Pv a1) 6),(2010,vR (b7.Pv a0) 2)]) W λs13 x14 h hx25=>S4 1 J<|c4 ?_;refine cN h (λhc h=>?_) λhc h=>?_
  ·refine b3 ?_;refine c4<|c5<|S3 1 J<|iL h J J I2 H7 λv15 _ h=>S2 4 J<|S3 4 J<|l3 J (λhg=>om (d:=.fn (.yield l19) []) J)<|l3 J (λhg=>mI J) ?_;rcases Bool.eq_false_or_eq_true ((v15.State==0)==true) with hg27 | hg27
   ·have h:=ifT h hg27;refine E2 (WE [(1000002,.ptr 2010 0 0),(1000003,.ptr 2009 0 0),(1000004,.ptr 2008 0 0),(1000005,.ptr 2007 0 0),(1000006,.ptr 2006 0 0),(1000010,.fn (.func 367) [.rptr (b7.Pc v11)]),(0,.fn (.yield l19) []),(6,.L b4.Pv v11.p7),(7,.I (v11.p7.length:Int)),(8,.I s13),(16,.bool (v15.State==0)),(17,.fn (.yield l19) []),(18,.I s13)] [(2006,vR (.I 0) 1),(2007,vR (.I 0) 1),(2008,vR (.agg [.nl,.I 0]) 2),(2009,vR (r4.Pv a1) 6),(2010,vR (b7.Pv a0) 2)]) ?_;refine a2u hR22 (congrArg some hg27) J J J J J (λe28 o29 o30=>?_);refine S6 1 J ?_;refine⟨J,?_⟩;refine c5<|S3 3 J<|iL h J J I2 H7 λv16 _ h=>S2 3 J<|S3 4 J<|y0 J (o9 (cs:=[.I 1,.I v16.Gen,.I a1.Serial,.I a1.Strong,.I a1.Weak,.I a1.Prog,.bool a1.Started,.L iF a1.Fields]) J a6P a3E J J J)<|cF h B9 J J λv17 _ h=>S1 2 J<|cA h a3d J J λv18 _ h=>S2 3 J<|a7 ?_;refine⟨J,?_⟩;refine E2 (WE [(1000002,.ptr 2010 0 0),(1000003,.ptr 2009 0 0),(1000004,.ptr 2008 0 0),(1000005,.ptr 2007 0 0),(1000006,.ptr 2006 0 0),(1000010,.fn (.func 367) [.rptr (b7.Pc v11)]),(0,.fn (.yield l19) []),(6,.L b4.Pv v11.p7),(7,.I (v11.p7.length:Int)),(8,.I s13),(16,.bool (v15.State==0)),(19,.bool false)] [(2006,vR (.I 0) 1),(2007,vR (.I v18) 1),(2008,vR (b7.Pv v17) 2),(2009,vR (r4.Pv a1) 6),(2010,vR (b7.Pv a0) 2)])<|y0 (congrArg some hg27) (Z9 J J)<|y0 J (a2a J J hg27)<|yN ?_;refine y9 true J (λ_=>?_) (λq=>nomatch q);refine a7 ?_;refine .inr ⟨.ret,J,b4C ?_⟩;have h:=xL hx25 h;cases h;exact⟨J,[_,_,_],⟨oL J J J Y4 T4 nl J,⟨oS J J J I1 J,⟨oS J J J a5y J,tr⟩⟩⟩,J,io⟩
   ·have h:=ifF h hg27;refine R1 (congrArg some hg27)<|R1 (congrArg some hg27)<|y0 J (a3L J J hg27)<|yN ?_;refine y9 false J (λq=>nomatch q) (λ_=>?_);refine b3<|S6 2 J ?_;exact eL h W
  ·refine p5 ?_;refine b8<|b8<|k8 ?_;refine .inl ⟨J,?_⟩;have h:=xL hx25 h;exact eJ h (WP (λl=>if l=2005 then 2010 else if l=2003 then 2008 else if l=2002 then 2007 else if l=2001 then 2006 else l))

theorem a8q{a0 a1 a2}:PO Tryz.prog 176 [b6.Pv a0,.I a1,.I a2] (a7V a0 a1 a2) λr=>.tup [b6.Pv r.1,.I r.2.1,.I r.2.2]:=by
 refine pO Tryz.func176 λr h _ _=>?_;refine S4 4 J<|S3 1 J<|cF h b1c J J λv1 _ h=>S2 5 J<|c4<|S4 2 J ?_;refine cN h (λhc h=>?_) λhc h=>?_
 ·refine S4 5 J ?_;refine a7 ?_;cases h;exact⟨J,[_,_,_],⟨oL J J J a1M a1P nl J,⟨J,⟨J,tr⟩⟩⟩,J,io⟩
 ·refine b3 ?_;refine c4<|S3 1 J<|cA h a3A J J λv2 _ h=>S2 1 J ?_;refine cN h (λhc h=>?_) λhc h=>?_
  ·refine S4 4 J ?_;refine a7 ?_;cases h;exact⟨J,[_,_,_],⟨oL J J J a1M a1P nl J,⟨J,⟨J,tr⟩⟩⟩,J,io⟩
  ·refine b3 ?_;refine S3 7 J<|y0 J (o9 (cs:=[.I (C6 (a0.Serial+1)),.I 0,.I 0,.I a2,.bool false,.L iF v1.1]) J b4g b4r J J J)<|cF h a2o J J λv3 _ h=>S2 8 J<|c4<|S4 2 J ?_;refine cN h (λhc h=>?_) λhc h=>?_
   ·refine S4 5 J ?_;refine a7 ?_;cases h;exact⟨J,[_,_,_],⟨oL J J J a1M a1P nl J,⟨J,⟨J,tr⟩⟩⟩,J,io⟩
   ·refine b3 ?_;refine S3 4 J<|y0 J (o9 (cs:=[.L b4.Pv v3.1.p7,.I v3.1.Last,.I (C6 (a0.Serial+1))]) J b2E b2J J J J)<|S2 4 J<|a7 ?_;cases h;exact⟨J,[_,_,_],⟨oL J J J a1M a1P nl J,⟨J,⟨J,tr⟩⟩⟩,J,io⟩

theorem a7x{a0 a1}:PO Tryz.prog 327 [a6.Pv a0,.I a1] (a6p a0 a1) λr=>.bool r:=by
 refine pO Tryz.func327 λr h _ _=>?_;refine S4 2 J<|S3 3 J<|cF h u7 J J λv1 _ h=>S2 6 J<|S4 3 J<|a7 ?_;cases h;exact f1

theorem I7{a0 a1}:PO Tryz.prog 256 [a6.Pv a0,.I a1] (H2 a0 a1) λr=>.bool r:=by
 refine pO Tryz.func256 λr h _ _=>?_;unfold H2 at h;refine S4 2 J<|S3 3 J<|l3 J (λhg=>oL J J J o7 l7 nl J)<|l3 J (λhg=>mI J)<|s6 h λv1 hv1 h=>l3 J (λhg=>G7 J a7x (Z3 (ct hg) (Z3 (ct hg) J)) (F3 hv1 hg))<|y0 J (B7 J J J (λq=>eqF q))<|S2 1 J<|a7 ?_;cases h;exact f1

theorem L7{a0}:PO Tryz.prog 332 [.I a0] (G3 a0) λr=>.bool r:=by
 refine pO Tryz.func332 λr h _ _=>?_;unfold G3 at h;refine S4 1 J<|S4 3 J<|a7 ?_;cases h;exact f1

theorem a4Z{a0}:PO Tryz.prog 271 [.I a0] (a2W a0) λr=>.tup [.I r.1,.I r.2]:=by
 refine pO Tryz.func271 λr h _ _=>?_;refine S4 2 J<|c4<|S3 1 J<|cA h L7 J J λv1 _ h=>yN ?_;refine cN h (λhc h=>?_) λhc h=>?_
 ·refine S4 2 J ?_;refine a7 ?_;cases h;exact f2
 ·refine b3 ?_;refine S3 1 J<|y0 J (b1I J J J)<|S2 3 J<|a7 ?_;cases h;exact f2

theorem a9i{a0}:PO Tryz.prog 190 [.I a0] (a8D a0) λr=>.I r:=by
 refine pO Tryz.func190 λr h _ _=>?_;refine S4 1 J<|S3 1 J<|cA h a4Z J J λv1 _ h=>S2 5 J<|S4 2 J<|a7 ?_;cases h;exact f1

theorem a2P{a0 a1 a2}:PO Tryz.prog 187 [b7.Pv a0,.I a1,r4.Pv a2] (a0F a0 a1 a2) λr=>.tup [b7.Pv r.1,.I r.2]:=by
 refine pO Tryz.func187 λr h _ _=>?_;refine S4 4 J<|S3 2 J<|cA h B8 J J λv1 _ h=>S2 5 J<|c4<|S4 2 J ?_;refine cN h (λhc h=>?_) λhc h=>?_
 ·refine S4 4 J ?_;refine a7 ?_;cases h;exact⟨J,[_,_],⟨oL J J J Y4 T4 nl J,⟨J,tr⟩⟩,J,io⟩
 ·refine b3 ?_;refine S3 3 J<|iL h J J I2 H7 λv2 _ h=>S2 3 J<|S4 3 J<|S3 3 J<|cF h B9 J J λv3 _ h=>S2 2 J<|a7 ?_;cases h;exact⟨J,[_,_],⟨oL J J J Y4 T4 nl J,⟨J,tr⟩⟩,J,io⟩

theorem N3{a0 a1 a2}:PO Tryz.prog 114 [b6.Pv a0,.I a1,r4.Pv a2] (W6 a0 a1 a2) λr=>.tup [b6.Pv r.1,.I r.2]:=by
 refine pO Tryz.func114 λr h _ _=>?_;refine S4 4 J<|S4 1 J<|S3 4 J<|cF h a2P J J λv1 _ h=>S2 6 J<|S4 4 J<|a7 ?_;cases h;exact⟨J,[_,_],⟨oL J J J a1M a1P nl J,⟨J,tr⟩⟩,J,io⟩

theorem a0w{a0 a1}:PO Tryz.prog 189 [a6.Pv a0,.I a1,.fn (.func 190) []] (R5 a0 a1) λr=>a6.Pv r:=by
 refine pO Tryz.func189 λr h _ _=>?_;refine S4 2 J<|S3 3 J<|cF h u7 J J λv1 _ h=>S2 6 J<|c4<|S4 2 J ?_;refine cN h (λhc h=>?_) λhc h=>?_
 ·refine S3 3 J ?_;refine cA h a9i J J λv2 _ h=>S2 2 J<|S5 4 J<|cF h N3 J J λv3 _ h=>S2 5 J<|S4 2 J<|a7 ?_;cases h;exact⟨J,[_],⟨oL J J J o7 l7 nl J,tr⟩,J,io⟩
 ·refine b3 ?_;refine S4 2 J<|a7 ?_;cases h;exact⟨J,[_],⟨oL J J J o7 l7 nl J,tr⟩,J,io⟩

theorem U2{a0 a1}:PO Tryz.prog 116 [a6.Pv a0,.I a1] (X6 a0 a1) λr=>a6.Pv r:=by
 refine pO Tryz.func116 λr h _ _=>?_;refine S4 2 J<|S3 2 J<|cF h a0w J J λv1 _ h=>S2 1 J<|a7 ?_;cases h;exact⟨J,[_],⟨oL J J J o7 l7 nl J,tr⟩,J,io⟩

theorem a1n{a0}:PON Tryz.prog 347 [.L iF a0] (M4 a0) λr=>⟨List.map iF r,0,true,1,true⟩:=by
 refine pON Tryz.func347 λr h _ _=>?_;unfold M4 at h;refine S4 1 J<|c4<|S3 1 J<|a9S J j1 λb hb=>yN ?_;refine y9 b J (λhc=>?_) (λhc=>?_)
 ·obtain rfl:a0 = []:=by simpa using hb hc
  refine S4 1 J<|R7 (K0 (t:=2) (l:=920000) (z:=1) J J)<|a7 ?_;cases h;exact⟨J,_,_,J,J,J,J⟩
 ·refine b3 ?_;refine sR<|y0 J (a7I J j1 n0)<|S1 1 J<|y1 J (b0l (f:=iF) h J J (.inl ⟨_,J,J⟩) j1 n0 J2 z7 J (λ_=>J)) J<|S2 1 J<|a7 ?_;exact⟨J,_,_,J,J,J,J⟩

theorem a2N{a0 a1}:PO Tryz.prog 298 [B4.Pv a0,a6.Pv a1] (Q3 a0 a1) λr=>a6.Pv r:=by
 refine pO Tryz.func298 λr h _ _=>?_;unfold Q3 at h;refine S4 3 J<|S3 2 J<|s6 h λv1 hv1 h=>ycN J (a8R J a1n J hv1) J J<|S2 2 J<|S3 6 J<|s6 h λv2 hv2 h=>y0 J (a0A (f:=iF) hv2 J J J J j1 n0 J)<|a4q (f:=iF) (v:=a0.h) hv2 J J (.inl J) n0<|yN<|S4 2 J<|a7 ?_;cases h;exact⟨J,[_],⟨oL J J J o7 l7 nl J,tr⟩,J,io⟩

theorem a3S{a0}:PO Tryz.prog 281 [.I a0] (a1v a0) λr=>.tup [.I r.1,.I r.2]:=by
 refine pO Tryz.func281 λr h _ _=>?_;refine S4 2 J<|c4<|S3 1 J<|cA h L7 J J λv1 _ h=>yN ?_;refine cN h (λhc h=>?_) λhc h=>?_
 ·refine S4 2 J ?_;refine a7 ?_;cases h;exact f2
 ·refine b3 ?_;refine c4<|S4 2 J ?_;refine cN h (λhc h=>?_) λhc h=>?_
  ·refine S4 2 J ?_;refine a7 ?_;cases h;exact f2
  ·refine b3 ?_;refine S4 4 J<|a7 ?_;cases h;exact f2

theorem a9h{a0}:PO Tryz.prog 197 [.I a0] (a8C a0) λr=>.tup [.I r.1,.I r.2]:=by
 refine pO Tryz.func197 λr h _ _=>?_;refine S4 2 J<|S3 1 J<|cA h a3S J J λv1 _ h=>S2 5 J<|S4 4 J<|a7 ?_;cases h;exact f2

theorem a5f{a0}:PO Tryz.prog 196 [.I a0] (a3h a0) λr=>.I r:=by
 refine pO Tryz.func196 λr h _ _=>?_;refine S4 1 J<|S3 1 J<|cA h a9h J J λv1 _ h=>S2 5 J<|c4<|S4 2 J ?_;refine cN h (λhc h=>?_) λhc h=>?_
 ·refine S4 2 J ?_;refine a7 ?_;cases h;exact f1
 ·refine b3 ?_;refine S4 2 J<|a7 ?_;cases h;exact f1

theorem V4{a0 a1}:PO Tryz.prog 189 [a6.Pv a0,.I a1,.fn (.func 196) []] (K4 a0 a1) λr=>a6.Pv r:=by
 refine pO Tryz.func189 λr h _ _=>?_;refine S4 2 J<|S3 3 J<|cF h u7 J J λv1 _ h=>S2 6 J<|c4<|S4 2 J ?_;refine cN h (λhc h=>?_) λhc h=>?_
 ·refine S3 3 J ?_;refine cA h a5f J J λv2 _ h=>S2 2 J<|S5 4 J<|cF h N3 J J λv3 _ h=>S2 5 J<|S4 2 J<|a7 ?_;cases h;exact⟨J,[_],⟨oL J J J o7 l7 nl J,tr⟩,J,io⟩
 ·refine b3 ?_;refine S4 2 J<|a7 ?_;cases h;exact⟨J,[_],⟨oL J J J o7 l7 nl J,tr⟩,J,io⟩

theorem K3{a0 a1}:PO Tryz.prog 123 [a6.Pv a0,.I a1] (M9 a0 a1) λr=>a6.Pv r:=by
 refine pO Tryz.func123 λr h _ _=>?_;refine S4 2 J<|S3 2 J<|cF h V4 J J λv1 _ h=>S2 1 J<|a7 ?_;cases h;exact⟨J,[_],⟨oL J J J o7 l7 nl J,tr⟩,J,io⟩

theorem Q5{a0 a1 a2 a3}:PO Tryz.prog 257 [a6.Pv a0,.I a1,.I a2,.abs (BFn 298 [B4.Pv a3])] (H6 a0 a1 a2 a3) λr=>a6.Pv r:=by
 refine pO Tryz.func257 λr h _ _=>?_;refine S4 2 J<|S3 3 J<|cF h U2 J J λv1 _ h=>s6 h λv2 hv2 h=>a9R (xs:=[a6.Pv v1]) J J b39 J (a2N.2 _ hv2)<|S1 1 J<|cF h K3 J J λv3 _ h=>S2 1 J<|a7 ?_;cases h;exact⟨J,[_],⟨oL J J J o7 l7 nl J,tr⟩,J,io⟩

theorem a14{a0 a1 a2}:PO Tryz.prog 205 [a6.Pv a0,.I a1,.I a2] (a3I a0 a1 a2) λr=>.tup [a6.Pv r.1,.I r.2]:=by
 refine pO Tryz.func205 λr h _ _=>?_;refine S4 3 J<|c4<|S3 3 J<|l3 J (λhg=>mI J)<|l3 J (λhg=>oF J a9X J)<|l3 J (λhg=>oS (ct hg) J J b0H J)<|l3 J (λhg=>a3n (f:=iF) (ct hg) j1)<|l3 J (λhg=>A6 (ct hg) (ct hg) J)<|y0 J (B7 J J J (λq=>eqF q))<|yN ?_;refine cN h (λhc h=>?_) λhc h=>?_
 ·refine S4 3 J ?_;refine a7 ?_;cases h;exact⟨J,[_,_],⟨oL J J J o7 l7 nl J,⟨J,tr⟩⟩,J,io⟩
 ·refine b3 ?_;refine c4<|S3 2 J<|cA h I7 J J λv1 _ h=>S2 1 J ?_;refine cN h (λhc h=>?_) λhc h=>?_
  ·refine S4 3 J ?_;refine a7 ?_;cases h;exact⟨J,[_,_],⟨oL J J J o7 l7 nl J,⟨J,tr⟩⟩,J,io⟩
  ·refine b3 ?_;refine dr [] p8 (by kernel_rfl) (by kernel_rfl)<|S7 4 J<|s6 h λv2 hv2 h=>d0 J (z8 (f:=iF) (cs:=[.I v2]) hv2 J J j1 n0 J J) J<|S7 4 J<|d7 J (λ_ hN=>o9 (cs:=[.I a1,.I a2]) J b4l b4w J J J) J<|d7 J (λ_ hN=>a5R (d:=.agg [.I a1,.I a2]) J) J<|s6 h λv3 hv3 h=>d2f J (w4 J Q5 J hv3) J<|x4 (x':=a6.Pv v3) (cl':=true) J J (.inr J) l7<|S8 1 J<|a7 ?_;cases h;exact⟨J,[_,_],⟨oL J J J o7 l7 nl J,⟨J,tr⟩⟩,J,io⟩

theorem B0{a0 a1 a2}:PO Tryz.prog 177 [o0.Pv a0,.I a1,.I a2] (B6 a0 a1 a2) λr=>.tup [a6.Pv r.1,.I r.2]:=by
 refine pO Tryz.func177 λr h _ _=>?_;refine S4 3 J<|c4<|S4 2 J ?_;refine cN h (λhc h=>?_) λhc h=>?_
 ·refine S4 5 J ?_;refine a7 ?_;cases h;exact⟨J,[_,_],⟨oL J J J o7 l7 nl J,⟨J,tr⟩⟩,J,io⟩
 ·refine b3 ?_;refine S3 6 J<|cF h a14 J J λv1 _ h=>S2 4 J<|a7 ?_;cases h;exact⟨J,[_,_],⟨oL J J J o7 l7 nl J,⟨J,tr⟩⟩,J,io⟩

theorem U3{a0}:PO Tryz.prog 97 [o0.Pv a0] (Z6 a0) λr=>.tup [a6.Pv r.1,.I r.2]:=by
 refine pO Tryz.func97 λr h _ _=>?_;refine S4 3 J<|S3 9 J<|cF h a8q J J λv1 _ h=>S2 8 J<|c4<|S4 2 J ?_;refine cN h (λhc h=>?_) λhc h=>?_
 ·refine S4 5 J ?_;refine a7 ?_;cases h;exact⟨J,[_,_],⟨oL J J J o7 l7 nl J,⟨J,tr⟩⟩,J,io⟩
 ·refine b3 ?_;refine S4 4 J<|S3 2 J<|cF h B0 J J λv2 _ h=>S2 4 J<|a7 ?_;cases h;exact⟨J,[_,_],⟨oL J J J o7 l7 nl J,⟨J,tr⟩⟩,J,io⟩

theorem N5{a0}:PO Tryz.prog 98 [o0.Pv a0] (J7 a0) λr=>.tup [a6.Pv r.1,.I r.2]:=by
 refine pO Tryz.func98 λr h _ _=>?_;unfold J7 at h;refine S4 3 J<|dr [] p8 (by kernel_rfl) (by kernel_rfl)<|S7 6 J<|s6 h λv1 hv1 h=>d2 J (G7 J E7 J hv1) J<|s6 h λv2 hv2 h=>d2f J (w4 J B0 J hv2) J<|S7 2 J<|x4 (x':=a6.Pv v2.1) (cl':=true) J J (.inr J) l7<|S8 1 J<|a7 ?_;cases h;exact⟨J,[_,_],⟨oL J J J o7 l7 nl J,⟨J,tr⟩⟩,J,io⟩

theorem X7{a0}:PO Tryz.prog 99 [o0.Pv a0] (a0X a0) λr=>.tup [a6.Pv r.1,.I r.2]:=by
 refine pO Tryz.func99 λr h _ _=>?_;refine S4 3 J<|S3 1 J<|cF h B0 J J λv1 _ h=>S2 4 J<|a7 ?_;cases h;exact⟨J,[_,_],⟨oL J J J o7 l7 nl J,⟨J,tr⟩⟩,J,io⟩

theorem G5{a0 a1}:PO Tryz.prog 178 [a6.Pv a0,.I a1] (I8 a0 a1) λr=>.tup [.I r.1,.I r.2]:=by
 refine pO Tryz.func178 λr h _ _=>?_;refine S4 3 J<|S3 2 J<|cA h E7 J J λv1 _ h=>S2 1 J<|c4<|S4 2 J ?_;refine cN h (λhc h=>?_) λhc h=>?_
 ·refine S4 2 J ?_;refine a7 ?_;cases h;exact f2
 ·refine b3 ?_;refine S4 3 J<|a7 ?_;cases h;exact f2

theorem a8a{a0 a1}:PO Tryz.prog 326 [.L iF a0,.I a1] (a68 a0 a1) λr=>.bool r:=by
 refine pO Tryz.func326 λr h _ _=>?_;unfold a68 at h;refine S4 1 J<|S3 3 J<|l3 J (λhg=>mI J)<|l3 J (λhg=>om (d:=.L iF a0) J)<|l3 J (λhg=>a3n (f:=iF) (ct hg) j1)<|l3 J (λhg=>A6 (ct hg) (ct hg) J)<|y0 J (y3 J J J (λq=>eqT q))<|S2 1 J<|a7 ?_;cases h;exact f1

theorem b2u{a0 a1}:PO Tryz.prog 255 [.L iF a0,.I a1] (b3F a0 a1) λr=>.tup [.I r.1,.I r.2]:=by
 refine pO Tryz.func255 λr h _ _=>?_;refine S4 2 J<|c4<|S3 2 J<|cA h a8a J J λv1 _ h=>S2 1 J ?_;refine cN h (λhc h=>?_) λhc h=>?_
 ·refine S4 2 J ?_;refine a7 ?_;cases h;exact f2
 ·refine b3 ?_;refine S3 2 J<|iL h J J j1 n0 λv2 _ h=>S2 3 J<|a7 ?_;cases h;exact f2

theorem a3z{a0 a1 a2}:PO Tryz.prog 179 [b6.Pv a0,.I a1,.I a2] (a3y a0 a1 a2) λr=>.tup [.I r.1,.I r.2]:=by
 refine pO Tryz.func179 λr h _ _=>?_;refine S4 3 J<|S3 2 J<|cF h u7 J J λv1 _ h=>S2 6 J<|c4<|S4 2 J ?_;refine cN h (λhc h=>?_) λhc h=>?_
 ·refine S4 3 J ?_;refine a7 ?_;cases h;exact f2
 ·refine b3 ?_;refine S3 3 J<|cA h b2u J J λv2 _ h=>S2 4 J<|a7 ?_;cases h;exact f2

theorem X8{a0}:PO Tryz.prog 100 [o0.Pv a0] (a0Y a0) λr=>.tup [a6.Pv r.1,.I r.2]:=by
 refine pO Tryz.func100 λr h _ _=>?_;refine S4 3 J<|S3 5 J<|cA h G5 J J λv1 _ h=>S2 5 J<|c4<|S4 2 J ?_;refine cN h (λhc h=>?_) λhc h=>?_
 ·refine S4 5 J ?_;refine a7 ?_;cases h;exact⟨J,[_,_],⟨oL J J J o7 l7 nl J,⟨J,tr⟩⟩,J,io⟩
 ·refine b3 ?_;refine dr [] p8 (by kernel_rfl) (by kernel_rfl)<|S7 8 J<|s6 h λv2 hv2 h=>d2 J (G7 J a3z J hv2) J<|S7 2 J<|s6 h λv3 hv3 h=>d2f J (w4 J B0 J hv3) J<|S7 2 J<|x4 (x':=a6.Pv v3.1) (cl':=true) J J (.inr J) l7<|S8 1 J<|a7 ?_;cases h;exact⟨J,[_,_],⟨oL J J J o7 l7 nl J,⟨J,tr⟩⟩,J,io⟩

theorem b0z{a0 a1 a2}:PO Tryz.prog 368 [.L iF a0,.I a1,.I a2] (b0y a0 a1 a2) λr=>.tup [.L iF r.1,.I r.2]:=by
 refine pO Tryz.func368 λr h _ _=>?_;refine S4 2 J<|c4<|S3 2 J<|cA h a8a J J λv1 _ h=>S2 1 J ?_;refine cN h (λhc h=>?_) λhc h=>?_
 ·refine S4 3 J ?_;refine a7 ?_;cases h;exact f2
 ·refine b3 ?_;refine S3 1 J<|nL J j1<|s6 h λv2 hv2 h=>y1 J (a7H (f:=iF) hv2 J J J j1 n0 z7 J2 J J J) J<|S2 1 J<|S3 2 J<|s6 h λv3 hv3 h=>b6z (f:=iF) hv3 J J J (.inl ⟨_,J,J⟩) j1 n0 (λ_=>J) (by decide)<|yN<|S3 3 J<|s6 h λv4 hv4 h=>y0 J (a0A (f:=iF) hv4 J J J J j1 n0 J)<|a4q (f:=iF) (v:=a2) hv4 J J (.inl J) n0<|yN<|S4 3 J<|a7 ?_;cases h;exact f2

theorem a9I{a0 a1 a2 a3}:PO Tryz.prog 328 [b6.Pv a0,.I a1,.I a2,.I a3] (a8Y a0 a1 a2 a3) λr=>.tup [b6.Pv r.1,.I r.2]:=by
 refine pO Tryz.func328 λr h _ _=>?_;refine S4 3 J<|S3 2 J<|cF h u7 J J λv1 _ h=>S2 6 J<|c4<|S4 2 J ?_;refine cN h (λhc h=>?_) λhc h=>?_
 ·refine S4 4 J ?_;refine a7 ?_;cases h;exact⟨J,[_,_],⟨oL J J J a1M a1P nl J,⟨J,tr⟩⟩,J,io⟩
 ·refine b3 ?_;refine c4<|S3 4 J<|cF h b0z J J λv2 _ h=>S2 6 J<|S4 2 J ?_;refine cN h (λhc h=>?_) λhc h=>?_
  ·refine S4 4 J ?_;refine a7 ?_;cases h;exact⟨J,[_,_],⟨oL J J J a1M a1P nl J,⟨J,tr⟩⟩,J,io⟩
  ·refine b3 ?_;refine S3 3 J<|cF h N3 J J λv3 _ h=>S2 4 J<|a7 ?_;cases h;exact⟨J,[_,_],⟨oL J J J a1M a1P nl J,⟨J,tr⟩⟩,J,io⟩

theorem a15{a0 a1}:PO Tryz.prog 258 [A5.Pv a0,a6.Pv a1] (Z5 a0 a1) λr=>a6.Pv r:=by
 refine pO Tryz.func258 λr h _ _=>?_;refine S4 3 J<|S3 8 J<|cF h a9I J J λv1 _ h=>S2 5 J<|S4 2 J<|a7 ?_;cases h;exact⟨J,[_],⟨oL J J J o7 l7 nl J,tr⟩,J,io⟩

theorem O7{a0 a1 a2 a3}:PO Tryz.prog 257 [a6.Pv a0,.I a1,.I a2,.abs (BFn 258 [A5.Pv a3])] (G4 a0 a1 a2 a3) λr=>a6.Pv r:=by
 refine pO Tryz.func257 λr h _ _=>?_;refine S4 2 J<|S3 3 J<|cF h U2 J J λv1 _ h=>s6 h λv2 hv2 h=>a9R (xs:=[a6.Pv v1]) J J b35 J (a15.2 _ hv2)<|S1 1 J<|cF h K3 J J λv3 _ h=>S2 1 J<|a7 ?_;cases h;exact⟨J,[_],⟨oL J J J o7 l7 nl J,tr⟩,J,io⟩

theorem a8k{a0 a1 a2 a3}:PO Tryz.prog 180 [a6.Pv a0,.I a1,.I a2,.I a3] (a7w a0 a1 a2 a3) λr=>.tup [a6.Pv r.1,.I r.2]:=by
 refine pO Tryz.func180 λr h _ _=>?_;refine S4 3 J<|S3 4 J<|cA h a3z J J λv1 _ h=>S2 5 J<|c4<|S4 2 J ?_;refine cN h (λhc h=>?_) λhc h=>?_
 ·refine S4 4 J ?_;refine a7 ?_;cases h;exact⟨J,[_,_],⟨oL J J J o7 l7 nl J,⟨J,tr⟩⟩,J,io⟩
 ·refine b3 ?_;refine c4<|S3 2 J<|cA h I7 J J λv2 _ h=>S2 1 J ?_;refine cN h (λhc h=>?_) λhc h=>?_
  ·refine S4 3 J ?_;refine a7 ?_;cases h;exact⟨J,[_,_],⟨oL J J J o7 l7 nl J,⟨J,tr⟩⟩,J,io⟩
  ·refine b3 ?_;refine S3 6 J<|y0 J (o9 (cs:=[.I a1,.I a2,.I a3]) J b4i b4t J J J)<|y0 J (a5R (d:=.agg [.I a1,.I a2,.I a3]) J)<|cF h O7 J J λv3 _ h=>S2 2 J<|a7 ?_;cases h;exact⟨J,[_,_],⟨oL J J J o7 l7 nl J,⟨J,tr⟩⟩,J,io⟩

theorem V9{a0}:PO Tryz.prog 101 [o0.Pv a0] (a0y a0) λr=>.tup [a6.Pv r.1,.I r.2]:=by
 refine pO Tryz.func101 λr h _ _=>?_;refine S4 3 J<|S3 5 J<|cA h G5 J J λv1 _ h=>S2 5 J<|c4<|S4 2 J ?_;refine cN h (λhc h=>?_) λhc h=>?_
 ·refine S4 5 J ?_;refine a7 ?_;cases h;exact⟨J,[_,_],⟨oL J J J o7 l7 nl J,⟨J,tr⟩⟩,J,io⟩
 ·refine b3 ?_;refine dr [] p8 (by kernel_rfl) (by kernel_rfl)<|S7 11 J<|s6 h λv2 hv2 h=>d2 J (G7 J E7 J hv2) J<|s6 h λv3 hv3 h=>d2f J (w4 J a8k J hv3) J<|S7 2 J<|x4 (x':=a6.Pv v3.1) (cl':=true) J J (.inr J) l7<|S8 1 J<|a7 ?_;cases h;exact⟨J,[_,_],⟨oL J J J o7 l7 nl J,⟨J,tr⟩⟩,J,io⟩

theorem b1b{a0 a1}:PO Tryz.prog 329 [b5.Pv a0,.I a1] (a9K a0 a1) λr=>.fn (.func 369) [.rptr (b5.Pc r.1),.rptr [.I r.2]]:=by
 refine pO Tryz.func329 λr h _ _=>?_;unfold a9K at h;refine S4 3 J<|S4 2 J<|a7 ?_;cases h;exact f1

theorem a8r{a0 a1}:PO Tryz.prog 259 [b5.Pv a0,.I a1] (a7X a0 a1) λr=>.bool r:=by
 refine pO Tryz.func259 λr h _ _=>?_;refine S4 3 J ?_;refine jq h (λ_=>St.of [(4,.ptr 2001 0 0)] [(2001,vR (.bool false) 1)]) (λq7 h=>?_) λκ6 h=>?_
 ·refine S4 1 J ?_;refine a7 ?_;cases h;exact⟨J,[_],⟨oS J J J a8v J,tr⟩,J,io⟩
 ·refine S3 1 J ?_;refine cF h b1b J J λv8 _ h=>yN<|c5<|R7 (WPE (λl=>if l=2003 then 4 else if l=2004 then 3 else l) [(3,.ptr 2004 0 0),(4,.ptr 2003 0 0),(7,.fn (.func 369) [.rptr (b5.Pc v8.1),.rptr [.I v8.2]])] [(2003,vR (.bool false) 1),(2004,vR (.I a1) 1)]) ?_;refine U6 (fn:=Tryz.f369) (N1:=24) J Tryz.func369 J J nl J b4b J J (λl16 e17 o18 hR19=>?_);refine S3 2 J<|nL J a2T<|S2 1 J<|c5<|lq h (λs10=>St.of [(1000003,.ptr 2004 0 0),(1000004,.ptr 2003 0 0),(1000007,.fn (.func 369) [.rptr (b5.Pc v8.1),.rptr [.I v8.2]]),(0,.fn (.yield l16) []),(2,.rptr [.I v8.2]),(7,.L l5.Pv v8.1.L),(8,.I (v8.1.L.length:Int)),(9,.I s10)] [(2003,vR (.bool false) 1),(2004,vR (.I a1) 1)]) W λs10 x11 h hx22=>S4 1 J<|c4 ?_;refine cN h (λhc h=>?_) λhc h=>?_
  ·refine b3 ?_;refine c4<|c5<|sR<|iL h J J a2T E3 λv12 _ h=>S2 3 J<|S3 5 J<|l3 J (λhg=>om (d:=.fn (.yield l16) []) J)<|l3 J (λhg=>oL J J J S0 E3 nl J) ?_;rcases Bool.eq_false_or_eq_true ((v12.Kind==v8.2)==true) with hg24 | hg24
   ·have h:=ifT h hg24;refine E2 (WE [(1000003,.ptr 2004 0 0),(1000004,.ptr 2003 0 0),(1000007,.fn (.func 369) [.rptr (b5.Pc v8.1),.rptr [.I v8.2]]),(0,.fn (.yield l16) []),(2,.rptr [.I v8.2]),(7,.L l5.Pv v8.1.L),(8,.I (v8.1.L.length:Int)),(9,.I s10),(17,.bool (v12.Kind==v8.2)),(18,.fn (.yield l16) []),(19,l5.Pv v12)] [(2003,vR (.bool false) 1),(2004,vR (.I a1) 1)]) ?_;refine a2u hR19 (congrArg some hg24) J J J J J (λe25 o26 o27=>?_);refine S6 2 J ?_;refine⟨J,?_⟩;refine c5<|S4 4 J ?_;refine cN h (λhc h=>?_) λhc h=>?_
    ·refine S4 1 J ?_;refine a7 ?_;refine⟨J,?_⟩;refine E2 (WE [(1000003,.ptr 2004 0 0),(1000004,.ptr 2003 0 0),(1000007,.fn (.func 369) [.rptr (b5.Pc v8.1),.rptr [.I v8.2]]),(0,.fn (.yield l16) []),(2,.rptr [.I v8.2]),(7,.L l5.Pv v8.1.L),(8,.I (v8.1.L.length:Int)),(9,.I s10),(17,.bool (v12.Kind==v8.2)),(20,.bool false)] [(2003,vR (.bool true) 1),(2004,vR (.I a1) 1)])<|y0 (congrArg some hg24) (Z9 J J)<|y0 J (a2a J J hg24)<|yN ?_;refine y9 true J (λ_=>?_) (λq=>nomatch q);refine a7 ?_;refine .inr ⟨.ret,J,b4C ?_⟩;have h:=xL hx22 h;cases h;exact⟨J,[_],⟨oS J J J a8v J,tr⟩,J,io⟩
    ·refine b3 ?_;refine⟨J,?_⟩;refine E2 (WE [(1000003,.ptr 2004 0 0),(1000004,.ptr 2003 0 0),(1000007,.fn (.func 369) [.rptr (b5.Pc v8.1),.rptr [.I v8.2]]),(0,.fn (.yield l16) []),(2,.rptr [.I v8.2]),(7,.L l5.Pv v8.1.L),(8,.I (v8.1.L.length:Int)),(9,.I s10),(17,.bool (v12.Kind==v8.2)),(20,.bool true)] [(2003,vR (.bool false) 1),(2004,vR (.I a1) 1)])<|y0 (congrArg some hg24) (Z9 J J)<|y0 J (a2a J J hg24)<|yN ?_;refine y9 false J (λq=>nomatch q) (λ_=>?_);refine b3<|S6 2 J ?_;exact eL h W
   ·have h:=ifF h hg24;refine R1 (congrArg some hg24)<|R1 (congrArg some hg24)<|y0 J (a3L J J hg24)<|yN ?_;refine y9 false J (λq=>nomatch q) (λ_=>?_);refine b3<|S6 2 J ?_;exact eL h W
  ·refine p5 ?_;refine b8<|b8<|k8 ?_;refine .inl ⟨J,?_⟩;have h:=xL hx22 h;exact eJ h (WP (λl=>if l=2001 then 2003 else l))

theorem a6A{a0 a1}:PO Tryz.prog 263 [.L c8.Pv a0,.I a1] (a5w a0 a1) λr=>.bool r:=by
 refine pO Tryz.func263 λr h _ _=>?_;unfold a5w at h;refine S4 1 J<|S3 3 J<|l3 J (λhg=>mI J)<|l3 J (λhg=>om (d:=.L c8.Pv a0) J)<|l3 J (λhg=>a3n (f:=c8.Pv) (ct hg) K5)<|l3 J (λhg=>A6 (ct hg) (ct hg) J)<|y0 J (y3 J J J (λq=>eqT q))<|S2 1 J<|a7 ?_;cases h;exact f1

theorem a2H{a0}:PON Tryz.prog 275 [.L c8.Pv a0] (a05 a0) λr=>⟨List.map c8.Pv r,0,true,3,true⟩:=by
 refine pON Tryz.func275 λr h _ _=>?_;unfold a05 at h;refine S4 1 J<|S3 1 J<|nL J K5<|s6 h λv1 hv1 h=>y1 J (a7H (f:=c8.Pv) hv1 J J J K5 L2 a9e b1j J J J) J<|S2 1 J<|S3 2 J<|s6 h λv2 hv2 h=>b6z (f:=c8.Pv) hv2 J J J (.inl ⟨_,J,J⟩) K5 L2 (λ_=>J) (by decide)<|yN<|S4 2 J<|a7 ?_;cases h;exact⟨J,_,_,J,J,J,J⟩

theorem b0D{a0 a1 a2 a3}:PO Tryz.prog 260 [.L c8.Pv a0,.I a1,.I a2,.I a3] (b0C a0 a1 a2 a3) λr=>.tup [.L c8.Pv r.1,.I r.2.1,.I r.2.2]:=by
 refine pO Tryz.func260 λr h _ _=>?_;refine S4 3 J<|c4<|S3 2 J<|cA h a6A J J λv1 _ h=>S2 1 J ?_;refine cN h (λhc h=>?_) λhc h=>?_
 ·refine S4 4 J ?_;refine a7 ?_;cases h;exact f3
 ·refine b3 ?_;refine S3 1 J<|s6 h λv2 hv2 h=>ycN J (a8R J a2H J hv2) J J<|S2 1 J<|S3 6 J<|y0 J (o9 (cs:=[.I a2,.bool (a2 != 0),.I a3]) J b4h a9e J J J)<|s6 h λv3 hv3 h=>y0 J (a0A (f:=c8.Pv) hv3 J J J J K5 L2 J)<|a4q (f:=c8.Pv) (v:=(⟨a2,(a2 != 0),a3⟩:c8)) hv3 J J (.inl J) L2<|yN<|dr [] p8 (by kernel_rfl) (by kernel_rfl)<|S7 3 J<|s6 h λv4 hv4 h=>d0 J (z8 (f:=c8.Pv) (cs:=c8.Pc v4) hv4 J J K5 L2 J J) J<|S8 5 J<|a7 ?_;cases h;exact f3

theorem a3j{a0 a1 a2}:PO Tryz.prog 262 [a6.Pv a0,.I a1,.I a2] (a3i a0 a1 a2) λr=>a6.Pv r:=by
 refine pO Tryz.func262 λr h _ _=>?_;refine S4 2 J<|S3 4 J<|cA h B8 J J λv1 _ h=>S2 5 J<|c4<|S4 2 J ?_;refine cN h (λhc h=>?_) λhc h=>?_
 ·refine S3 5 J ?_;refine iL h J J I2 H7 λv2 _ h=>S2 4 J<|S4 6 J<|S5 4 J<|cF h N3 J J λv3 _ h=>S2 5 J<|S4 2 J<|a7 ?_;cases h;exact⟨J,[_],⟨oL J J J o7 l7 nl J,tr⟩,J,io⟩
 ·refine b3 ?_;refine S4 2 J<|a7 ?_;cases h;exact⟨J,[_],⟨oL J J J o7 l7 nl J,tr⟩,J,io⟩

theorem V1{a0 a1}:PO Tryz.prog 195 [b7.Pv a0,.I a1] (O3 a0 a1) λr=>.tup [b7.Pv r.1,.I r.2]:=by
 refine pO Tryz.func195 λr h _ _=>?_;refine S4 3 J<|S3 2 J<|cA h B8 J J λv1 _ h=>S2 5 J<|c4<|S4 2 J ?_;refine cN h (λhc h=>?_) λhc h=>?_
 ·refine S4 4 J ?_;refine a7 ?_;cases h;exact⟨J,[_,_],⟨oL J J J Y4 T4 nl J,⟨J,tr⟩⟩,J,io⟩
 ·refine b3 ?_;refine S3 3 J<|iL h J J I2 H7 λv2 _ h=>S2 3 J<|c4<|S4 4 J ?_;refine cN h (λhc h=>?_) λhc h=>?_
  ·refine S3 3 J ?_;refine y0 J (o9 (cs:=[.I 3,.I v2.Gen,.I 0,.I 0,.I 0,.I 0,.bool false,.nl]) J a6P a3E J J J)<|cF h B9 J J λv3 _ h=>S2 2 J<|a7 ?_;cases h;exact⟨J,[_,_],⟨oL J J J Y4 T4 nl J,⟨J,tr⟩⟩,J,io⟩
  ·refine b3 ?_;refine S3 4 J<|y0 J (o9 (cs:=[.I 0,.I (C6 (v2.Gen+1)),.I 0,.I 0,.I 0,.I 0,.bool false,.nl]) J a6P a3E J J J)<|cF h B9 J J λv4 _ h=>S2 2 J<|a7 ?_;cases h;exact⟨J,[_,_],⟨oL J J J Y4 T4 nl J,⟨J,tr⟩⟩,J,io⟩

theorem a5K{a0 a1}:PO Tryz.prog 261 [a6.Pv a0,.I a1] (a4e a0 a1) λr=>a6.Pv r:=by
 refine pO Tryz.func261 λr h _ _=>?_;refine S4 2 J<|S3 2 J<|cF h a3j J J λv1 _ h=>S2 1 J<|S3 4 J<|cA h B8 J J λv2 _ h=>S2 5 J<|c4<|S4 2 J ?_;refine cN h (λhc h=>?_) λhc h=>?_
 ·refine S4 2 J ?_;refine a7 ?_;cases h;exact⟨J,[_],⟨oL J J J o7 l7 nl J,tr⟩,J,io⟩
 ·refine b3 ?_;refine c4<|S3 5 J<|iL h J J I2 H7 λv3 _ h=>S2 3 J<|S3 4 J<|l3 J (λhg=>oF J b16 J)<|l3 J (λhg=>oF (ct hg) b13 J)<|l3 J (λhg=>oS (ct hg) J J I1 J)<|l3 J (λhg=>A6 (ct hg) J J)<|y0 J (y3 J J J (λq=>eqT q))<|yN ?_;refine cN h (λhc h=>?_) λhc h=>?_
  ·refine S5 4 J ?_;refine cF h V1 J J λv4 _ h=>S2 6 J<|S4 2 J<|a7 ?_;cases h;exact⟨J,[_],⟨oL J J J o7 l7 nl J,tr⟩,J,io⟩
  ·refine b3 ?_;refine S4 2 J<|a7 ?_;cases h;exact⟨J,[_],⟨oL J J J o7 l7 nl J,tr⟩,J,io⟩

theorem a5g{a0 a1 a2 a3}:PO Tryz.prog 181 [a6.Pv a0,.I a1,.I a2,.I a3] (a3J a0 a1 a2 a3) λr=>.tup [a6.Pv r.1,.I r.2]:=by
 refine pO Tryz.func181 λr h _ _=>?_;unfold a3J at h;refine S4 3 J<|c4<|S3 3 J<|l3 J (λhg=>mI J)<|l3 J (λhg=>oF J b2A J)<|l3 J (λhg=>oS (ct hg) J J b5D J)<|l3 J (λhg=>a3n (f:=c8.Pv) (ct hg) K5)<|l3 J (λhg=>A6 (ct hg) (ct hg) J)<|y0 J (B7 J J J (λq=>eqF q))<|S1 1 J<|l3 J (λhg=>oF J b2B J)<|l3 J (λhg=>oL (ct hg) J J a08 T5 nl J)<|l3 J (λhg=>mI J)<|s6 h λv1 hv1 h=>l3 J (λhg=>G7 J a8r (Z3 (ct hg) (Z3 (ct hg) J)) (F3 hv1 hg))<|y0 J (B7 J J J (λq=>eqF q))<|yN ?_;refine cN h (λhc h=>?_) λhc h=>?_
 ·refine S4 3 J ?_;refine a7 ?_;cases h;exact⟨J,[_,_],⟨oL J J J o7 l7 nl J,⟨J,tr⟩⟩,J,io⟩
 ·refine b3 ?_;refine c4<|S3 2 J<|cA h I7 J J λv2 _ h=>S2 1 J ?_;refine cN h (λhc h=>?_) λhc h=>?_
  ·refine S4 3 J ?_;refine a7 ?_;cases h;exact⟨J,[_,_],⟨oL J J J o7 l7 nl J,⟨J,tr⟩⟩,J,io⟩
  ·refine b3 ?_;refine S3 5 J<|cF h b0D J J λv3 _ h=>S2 7 J<|S4 3 J<|S3 2 J<|cF h a3j J J λv4 _ h=>S1 1 J<|cF h a5K J J λv5 _ h=>S2 2 J<|a7 ?_;cases h;exact⟨J,[_,_],⟨oL J J J o7 l7 nl J,⟨J,tr⟩⟩,J,io⟩

theorem U4{a0}:PO Tryz.prog 102 [o0.Pv a0] (Z8 a0) λr=>.tup [a6.Pv r.1,.I r.2]:=by
 refine pO Tryz.func102 λr h _ _=>?_;refine S4 3 J<|c4<|S4 4 J ?_;refine cN h (λhc h=>?_) λhc h=>?_
 ·refine S3 8 J ?_;refine cF h a5g J J λv1 _ h=>S2 4 J<|a7 ?_;cases h;exact⟨J,[_,_],⟨oL J J J o7 l7 nl J,⟨J,tr⟩⟩,J,io⟩
 ·refine b3 ?_;refine S3 5 J<|cA h G5 J J λv2 _ h=>S2 5 J<|c4<|S4 2 J ?_;refine cN h (λhc h=>?_) λhc h=>?_
  ·refine S4 5 J ?_;refine a7 ?_;cases h;exact⟨J,[_,_],⟨oL J J J o7 l7 nl J,⟨J,tr⟩⟩,J,io⟩
  ·refine b3 ?_;refine S3 9 J<|cF h a5g J J λv3 _ h=>S2 4 J<|a7 ?_;cases h;exact⟨J,[_,_],⟨oL J J J o7 l7 nl J,⟨J,tr⟩⟩,J,io⟩

theorem a9O{a0 a1}:PO Tryz.prog 182 [.L c8.Pv a0,.I a1] (a8Z a0 a1) λr=>.tup [.I r.1,.I r.2]:=by
 refine pO Tryz.func182 λr h _ _=>?_;refine S4 2 J<|c4<|S3 2 J<|cA h a6A J J λv1 _ h=>S2 1 J ?_;refine cN h (λhc h=>?_) λhc h=>?_
 ·refine S4 2 J ?_;refine a7 ?_;cases h;exact f2
 ·refine b3 ?_;refine c4<|S3 2 J<|iL h J J K5 L2 λv2 hv2 h=>S1 4 J<|l3 J (λhg=>om (d:=.L c8.Pv a0) J)<|l3 J (λhg=>mI J)<|l3 J (λhg=>z8 (f:=c8.Pv) (cs:=c8.Pc v2) hv2 (ct hg) (ct hg) K5 L2 J J)<|l3 J (λhg=>a5k (ct hg) b15 J)<|l3 J (λhg=>y6 (ct hg) a8v J)<|l3 J (λhg=>Z9 (ct hg) J)<|y0 J (B7 J J J (λq=>eqF q))<|yN ?_;refine cN h (λhc h=>?_) λhc h=>?_
  ·refine S4 2 J ?_;refine a7 ?_;cases h;exact f2
  ·refine b3 ?_;refine S3 2 J<|y0 J (z8 (f:=c8.Pv) (cs:=c8.Pc v2) hv2 J J K5 L2 J J)<|S2 4 J<|a7 ?_;cases h;exact f2

theorem a0z{a0}:PO Tryz.prog 103 [o0.Pv a0] (Z0 a0) λr=>.tup [a6.Pv r.1,.I r.2]:=by
 refine pO Tryz.func103 λr h _ _=>?_;unfold Z0 at h;refine S4 3 J<|dr [] p8 (by kernel_rfl) (by kernel_rfl)<|S7 7 J<|s6 h λv1 hv1 h=>d2 J (G7 J a9O J hv1) J<|S7 2 J<|s6 h λv2 hv2 h=>d2f J (w4 J B0 J hv2) J<|S7 2 J<|x4 (x':=a6.Pv v2.1) (cl':=true) J J (.inr J) l7<|S8 1 J<|a7 ?_;cases h;exact⟨J,[_,_],⟨oL J J J o7 l7 nl J,⟨J,tr⟩⟩,J,io⟩

theorem a5e{a0 a1}:PO Tryz.prog 334 [.I a0,.I a1] (a3H a0 a1) λr=>.fn (.func 370) [.rptr [.I r.1],.rptr [.I r.2]]:=by
 refine pO Tryz.func334 λr h _ _=>?_;unfold a3H at h;refine S4 3 J<|S4 2 J<|a7 ?_;cases h;exact f1

theorem a5c{a0 a1}:PO Tryz.prog 371 [.I a0,.I a1] (a5I a0 a1) λr=>.I r:=by
 refine pO Tryz.func371 λr h _ _=>?_;refine S4 1 J<|c4<|S4 2 J ?_;refine cN h (λhc h=>?_) λhc h=>?_
 ·refine S4 1 J ?_;refine a7 ?_;cases h;exact f1
 ·refine b3 ?_;refine S3 4 J<|s6 h λv1 hv1 h=>y0 J (a5j J J hv1)<|S2 1 J<|c4<|S4 2 J ?_;refine cN h (λhc h=>?_) λhc h=>?_
  ·refine S6 4 J ?_;refine S4 2 J<|a7 ?_;cases h;exact f1
  ·refine b3 ?_;refine S4 2 J<|a7 ?_;cases h;exact f1

theorem a11{a0 a1}:PO Tryz.prog 277 [.L a8.Pv a0,.I a1] (a3G a0 a1) λr=>.I r:=by
 refine pO Tryz.func277 λr h _ _=>?_;refine S4 3 J ?_;refine jq h (λ_=>St.of [(4,.ptr 2001 0 0)] [(2001,vR (.I 0) 1)]) (λq9 h=>?_) λκ8 h=>?_
 ·refine S4 1 J ?_;refine a7 ?_;cases h;exact⟨J,[_],⟨oS J J J I1 J,tr⟩,J,io⟩
 ·refine S3 1 J ?_;refine nL J P8<|S1 1 J<|cF h a5e J J λv10 _ h=>yN<|c5<|R7 (WPE (λl=>if l=2004 then 4 else if l=2005 then 3 else if l=2006 then 2 else l) [(2,.ptr 2006 0 0),(3,.ptr 2005 0 0),(4,.ptr 2004 0 0),(9,.fn (.func 370) [.rptr [.I v10.1],.rptr [.I v10.2]])] [(2004,vR (.I 0) 1),(2005,vR (.I a1) 1),(2006,vR (.L a8.Pv a0) 1)]) ?_;refine U6 (fn:=Tryz.f370) (N1:=20) J Tryz.func370 J J nl J b1o J J (λl17 e18 o19 hR20=>?_);refine S4 2 J<|c5<|lq h (λs12=>St.of [(1000002,.ptr 2006 0 0),(1000003,.ptr 2005 0 0),(1000004,.ptr 2004 0 0),(1000009,.fn (.func 370) [.rptr [.I v10.1],.rptr [.I v10.2]]),(0,.fn (.yield l17) []),(1,.rptr [.I v10.1]),(2,.rptr [.I v10.2]),(5,.I v10.1),(6,.I s12)] [(2004,vR (.I 0) 1),(2005,vR (.I a1) 1),(2006,vR (.L a8.Pv a0) 1)]) W λs12 x13 h hx23=>S4 1 J<|c4 ?_;refine cN h (λhc h=>?_) λhc h=>?_
  ·refine b3 ?_;refine c4<|c5<|S4 2 J<|drY [] 8 p8 (by kernel_rfl) (by kernel_rfl) (by kernel_rfl) (by kernel_rfl) nl<|S7 3 J<|s6 h λv14 hv24 h=>d2 J (G7 J a5c J hv24) J<|S7 3 J<|s6 h λv15 hv25 h=>d7 J (λ_ hN=>a5j J J hv25) J<|R3<|b3q (WE [(1000002,.ptr 2006 0 0),(1000003,.ptr 2005 0 0),(1000004,.ptr 2004 0 0),(1000009,.fn (.func 370) [.rptr [.I v10.1],.rptr [.I v10.2]]),(0,.fn (.yield l17) []),(1,.rptr [.I v10.1]),(2,.rptr [.I v10.2]),(5,.I v10.1),(6,.I s12),(9,.fn (.yield l17) []),(16,.I v15)] [(2004,vR (.I 0) 1),(2005,vR (.I a1) 1),(2006,vR (.L a8.Pv a0) 1)]) ?_;refine a8d J hR20 J J J J J J (λe26 o27 o28=>?_);refine S6 1 J ?_;refine⟨J,?_⟩;refine c5<|c4<|S3 2 J<|iL h J J P8 P5 λv16 hv29 h=>S2 3 J ?_;refine cN h (λhc h=>?_) λhc h=>?_
   ·refine p5 ?_;refine b8<|J3 (by decide) ?_;refine⟨J,?_⟩;refine⟨_,a5x [(1000002,.ptr 2006 0 0),(1000003,.ptr 2005 0 0),(1000004,.ptr 2004 0 0),(1000009,.fn (.func 370) [.rptr [.I v10.1],.rptr [.I v10.2]]),(0,.fn (.yield l17) []),(1,.rptr [.I v10.1]),(2,.rptr [.I v10.2]),(5,.I v10.1),(6,.I s12),(17,.bool false)] [(2004,vR (.I 0) 1),(2005,vR (.I a1) 1),(2006,vR (.L a8.Pv a0) 1)] ⟨J,J,J,J,J,J,J,J,J,J,J,J,J,J,J,J,J,J,J,J,J,J,J,J,J,J,J,J,J,J,tr⟩ ⟨rS,rS,rS,tr⟩,?_⟩;refine S8 1 J ?_;refine y9 true J (λ_=>?_) (λq=>nomatch q);refine a7 ?_;refine .inr ⟨.exit 0,J,b7x ?_⟩;refine k8 ?_;have h:=xL hx23 h;exact eJ h (WP (λl=>if l=2001 then 2004 else l))
   ·refine b3 ?_;refine dr [] p8 (by kernel_rfl) (by kernel_rfl)<|S7 2 J<|d0 J (z8 (f:=a8.Pv) (cs:=a8.Pc v16) hv29 J J P8 P5 J J) J<|S7 4 J<|a6i J (λhg=>oS J J J a88 J) J<|a1w J (λhg _ hN=>mI J) J ?_;refine a6i J (λhg=>z8 (f:=a8.Pv) (cs:=a8.Pc v16) hv29 (ct hg) (ct hg) P8 P5 J J) J<|a1w J (λhg _ hN=>a5k (ct hg) b17 J) J ?_;refine a6i J (λhg=>y6 (ct hg) I1 J) J<|a6i J (λhg=>oS J J J I1 J) J<|a1w J (λhg _ hN=>A6 (ct hg) (ct hg) J) J<|d7 J (λ_ hN=>y3 J J J (λq=>eqT q)) J<|R3 ?_;refine cN h (λhc h=>?_) λhc h=>?_
    ·refine S4 2 J ?_;refine a7 ?_;refine⟨J,?_⟩;refine⟨_,a5x [(1000002,.ptr 2006 0 0),(1000003,.ptr 2005 0 0),(1000004,.ptr 2004 0 0),(1000009,.fn (.func 370) [.rptr [.I v10.1],.rptr [.I v10.2]]),(0,.fn (.yield l17) []),(1,.rptr [.I v10.1]),(2,.rptr [.I v10.2]),(5,.I v10.1),(6,.I s12),(17,.bool false)] [(2004,vR (.I v15) 1),(2005,vR (.I a1) 1),(2006,vR (.L a8.Pv a0) 1)] ⟨J,J,J,J,J,J,J,J,J,J,J,J,J,J,J,J,J,J,J,J,J,J,J,J,J,J,J,J,J,J,tr⟩ ⟨rS,rS,rS,tr⟩,?_⟩;refine S8 1 J ?_;refine y9 true J (λ_=>?_) (λq=>nomatch q);refine a7 ?_;refine .inr ⟨.ret,J,b4C ?_⟩;have h:=xL hx23 h;cases h;exact⟨J,[_],⟨oS J J J I1 J,tr⟩,J,io⟩
    ·refine b3 ?_;refine⟨J,?_⟩;refine⟨_,a5x [(1000002,.ptr 2006 0 0),(1000003,.ptr 2005 0 0),(1000004,.ptr 2004 0 0),(1000009,.fn (.func 370) [.rptr [.I v10.1],.rptr [.I v10.2]]),(0,.fn (.yield l17) []),(1,.rptr [.I v10.1]),(2,.rptr [.I v10.2]),(5,.I v10.1),(6,.I s12),(17,.bool true)] [(2004,vR (.I 0) 1),(2005,vR (.I a1) 1),(2006,vR (.L a8.Pv a0) 1)] ⟨J,J,J,J,J,J,J,J,J,J,J,J,J,J,J,J,J,J,J,J,J,J,J,J,J,J,J,J,J,J,tr⟩ ⟨rS,rS,rS,tr⟩,?_⟩;refine S8 1 J ?_;refine y9 false J (λq=>nomatch q) (λ_=>?_);refine b3<|S6 2 J ?_;exact eL h W
  ·refine p5 ?_;refine b8<|b8<|k8 ?_;refine .inl ⟨J,?_⟩;have h:=xL hx23 h;exact eJ h (WP (λl=>if l=2001 then 2004 else l))

theorem a0U{a0 a1}:PO Tryz.prog 266 [.L a8.Pv a0,.I a1] (a3g a0 a1) λr=>.tup [.I r.1,.I r.2]:=by
 refine pO Tryz.func266 λr h _ _=>?_;refine S4 2 J<|S3 2 J<|cA h a11 J J λv1 _ h=>S2 1 J<|c4<|S4 2 J ?_;refine cN h (λhc h=>?_) λhc h=>?_
 ·refine S4 2 J ?_;refine a7 ?_;cases h;exact f2
 ·refine b3 ?_;refine S3 2 J<|iL h J J P8 P5 λv2 _ h=>S2 4 J<|a7 ?_;cases h;exact f2

theorem M3{a0}:PON Tryz.prog 335 [.L a8.Pv a0] (A9 a0) λr=>⟨List.map a8.Pv r,0,true,3,true⟩:=by
 refine pON Tryz.func335 λr h _ _=>?_;unfold A9 at h;refine S4 1 J<|c4<|S3 1 J<|a9S J P8 λb hb=>yN ?_;refine y9 b J (λhc=>?_) (λhc=>?_)
 ·obtain rfl:a0 = []:=by simpa using hb hc
  refine S4 1 J<|R7 (K0 (t:=2) (l:=920000) (z:=3) J J)<|a7 ?_;cases h;exact⟨J,_,_,J,J,J,J⟩
 ·refine b3 ?_;refine sR<|y0 J (a7I J P8 P5)<|S1 1 J<|y1 J (b0l (f:=a8.Pv) h J J (.inl ⟨_,J,J⟩) P8 P5 b1l a6Q J (λ_=>J)) J<|S2 1 J<|a7 ?_;exact⟨J,_,_,J,J,J,J⟩

theorem a13{a0 a1 a2}:PO Tryz.prog 278 [.L a8.Pv a0,.I a1,a8.Pv a2] (a1x a0 a1 a2) λr=>.L a8.Pv r:=by
 refine pO Tryz.func278 λr h _ _=>?_;unfold a1x at h;refine S4 2 J<|S3 1 J<|s6 h λv1 hv1 h=>ycN J (a8R J M3 J hv1) J J<|S2 1 J<|S3 3 J<|s6 h λv2 hv2 h=>y0 J (a0A (f:=a8.Pv) hv2 J J J J P8 P5 J)<|a4q (f:=a8.Pv) (v:=a2) hv2 J J (.inl J) P5<|yN<|S4 2 J<|a7 ?_;cases h;exact f1

theorem a5b{a0 a1}:PO Tryz.prog 193 [.L a8.Pv a0,.I a1] (a5H a0 a1) λr=>.tup [.L a8.Pv r.1,.I r.2.1,.I r.2.2]:=by
 refine pO Tryz.func193 λr h _ _=>?_;refine S4 3 J<|S3 2 J<|cA h a11 J J λv1 _ h=>S2 1 J<|c4<|S4 2 J ?_;refine cN h (λhc h=>?_) λhc h=>?_
 ·refine S4 4 J ?_;refine a7 ?_;cases h;exact f3
 ·refine b3 ?_;refine dr [] p8 (by kernel_rfl) (by kernel_rfl)<|S7 2 J<|d7 J (λ_ hN=>o9 (cs:=[.I 2,.I 0,.I 0]) J b1s a6Q J J J) J<|s6 h λv2 hv2 h=>d2f J (w4 J a13 J hv2) J<|S7 2 J<|s6 h λv3 hv3 h=>d0 J (z8 (f:=a8.Pv) (cs:=a8.Pc v3) hv3 J J P8 P5 J J) J<|S8 5 J<|a7 ?_;cases h;exact f3

theorem b0c{a0 a1 a2}:PO Tryz.prog 330 [.L a8.Pv a0,.I a1,.I a2] (b0b a0 a1 a2) λr=>.tup [.L a8.Pv r.1,.I r.2]:=by
 refine pO Tryz.func330 λr h _ _=>?_;refine S4 3 J<|S3 2 J<|y0 J (o9 (cs:=[.I 1,.I a1,.I a2]) J b1s a6Q J J J)<|S2 2 J<|c4<|S3 2 J<|cA h a11 J J λv1 _ h=>S2 1 J<|S4 2 J ?_;refine cN h (λhc h=>?_) λhc h=>?_
 ·refine S3 3 J ?_;refine cF h a13 J J λv2 _ h=>S2 2 J<|a7 ?_;cases h;exact⟨J,[_,_],⟨oS J J J a88 J,⟨oS J J J a5y J,tr⟩⟩,J,io⟩
 ·refine b3 ?_;refine jq h (λ_=>St.of [(3,.ptr 2004 0 0),(6,.ptr 2003 0 0),(7,.ptr 2002 0 0)] [(2002,vR (.I 0) 1),(2003,vR (.nl) 1),(2004,vR (.L a8.Pv a0) 1)]) (λq12 h=>?_) λκ11 h=>?_
  ·refine S4 3 J ?_;refine a7 ?_;cases h;exact⟨J,[_,_],⟨oS J J J a88 J,⟨oS J J J a5y J,tr⟩⟩,J,io⟩
  ·refine S3 1 J ?_;refine nL J P8<|S1 1 J<|cF h a5e J J λv13 _ h=>yN<|c5<|R7 (WPE (λl=>if l=2005 then 8 else if l=2006 then 7 else if l=2007 then 6 else if l=2008 then 3 else l) [(3,.ptr 2008 0 0),(6,.ptr 2007 0 0),(7,.ptr 2006 0 0),(8,.ptr 2005 0 0),(26,.fn (.func 370) [.rptr [.I v13.1],.rptr [.I v13.2]])] [(2005,vR (.agg [.I 1,.I a1,.I a2]) 3),(2006,vR (.I 0) 1),(2007,vR (.nl) 1),(2008,vR (.L a8.Pv a0) 1)]) ?_;refine U6 (fn:=Tryz.f370) (N1:=20) J Tryz.func370 J J nl J b1o J J (λl20 e21 o22 hR23=>?_);refine S4 2 J<|c5<|lq h (λs15=>St.of [(1000003,.ptr 2008 0 0),(1000006,.ptr 2007 0 0),(1000007,.ptr 2006 0 0),(1000008,.ptr 2005 0 0),(1000026,.fn (.func 370) [.rptr [.I v13.1],.rptr [.I v13.2]]),(0,.fn (.yield l20) []),(1,.rptr [.I v13.1]),(2,.rptr [.I v13.2]),(5,.I v13.1),(6,.I s15)] [(2005,vR (.agg [.I 1,.I a1,.I a2]) 3),(2006,vR (.I 0) 1),(2007,vR (.nl) 1),(2008,vR (.L a8.Pv a0) 1)]) W λs15 x16 h hx26=>S4 1 J<|c4 ?_;refine cN h (λhc h=>?_) λhc h=>?_
   ·refine b3 ?_;refine c4<|c5<|S4 2 J<|drY [] 8 p8 (by kernel_rfl) (by kernel_rfl) (by kernel_rfl) (by kernel_rfl) nl<|S7 3 J<|s6 h λv17 hv27 h=>d2 J (G7 J a5c J hv27) J<|S7 3 J<|s6 h λv18 hv28 h=>d7 J (λ_ hN=>a5j J J hv28) J<|R3<|b3q (WE [(1000003,.ptr 2008 0 0),(1000006,.ptr 2007 0 0),(1000007,.ptr 2006 0 0),(1000008,.ptr 2005 0 0),(1000026,.fn (.func 370) [.rptr [.I v13.1],.rptr [.I v13.2]]),(0,.fn (.yield l20) []),(1,.rptr [.I v13.1]),(2,.rptr [.I v13.2]),(5,.I v13.1),(6,.I s15),(9,.fn (.yield l20) []),(16,.I v18)] [(2005,vR (.agg [.I 1,.I a1,.I a2]) 3),(2006,vR (.I 0) 1),(2007,vR (.nl) 1),(2008,vR (.L a8.Pv a0) 1)]) ?_;refine a8d J hR23 J J J J J J (λe29 o30 o31=>?_);refine S6 1 J ?_;refine⟨J,?_⟩;refine c5<|S3 2 J<|iL h J J P8 P5 λv19 _ h=>S2 3 J ?_;refine cN h (λhc h=>?_) λhc h=>?_
    ·refine S3 3 J ?_;refine cF h a13 J J λv20 _ h=>S2 2 J<|a7 ?_;refine⟨J,?_⟩;refine⟨_,a5x [(1000003,.ptr 2008 0 0),(1000006,.ptr 2007 0 0),(1000007,.ptr 2006 0 0),(1000008,.ptr 2005 0 0),(1000026,.fn (.func 370) [.rptr [.I v13.1],.rptr [.I v13.2]]),(0,.fn (.yield l20) []),(1,.rptr [.I v13.1]),(2,.rptr [.I v13.2]),(5,.I v13.1),(6,.I s15),(17,.bool false)] [(2005,vR (.agg [.I 1,.I a1,.I a2]) 3),(2006,vR (.I 0) 1),(2007,vR (.L a8.Pv v20) 1),(2008,vR (.L a8.Pv a0) 1)] ⟨J,J,J,J,J,J,J,J,J,J,J,J,J,J,J,J,J,J,J,J,J,J,J,J,J,J,J,J,J,J,J,J,J,tr⟩ ⟨rS,rS,rS,rS,tr⟩,?_⟩;refine S8 1 J ?_;refine y9 true J (λ_=>?_) (λq=>nomatch q);refine a7 ?_;refine .inr ⟨.ret,J,b4C ?_⟩;have h:=xL hx26 h;cases h;exact⟨J,[_,_],⟨oS J J J a88 J,⟨oS J J J a5y J,tr⟩⟩,J,io⟩
    ·refine b3 ?_;refine⟨J,?_⟩;refine⟨_,a5x [(1000003,.ptr 2008 0 0),(1000006,.ptr 2007 0 0),(1000007,.ptr 2006 0 0),(1000008,.ptr 2005 0 0),(1000026,.fn (.func 370) [.rptr [.I v13.1],.rptr [.I v13.2]]),(0,.fn (.yield l20) []),(1,.rptr [.I v13.1]),(2,.rptr [.I v13.2]),(5,.I v13.1),(6,.I s15),(17,.bool true)] [(2005,vR (.agg [.I 1,.I a1,.I a2]) 3),(2006,vR (.I 0) 1),(2007,vR (.nl) 1),(2008,vR (.L a8.Pv a0) 1)] ⟨J,J,J,J,J,J,J,J,J,J,J,J,J,J,J,J,J,J,J,J,J,J,J,J,J,J,J,J,J,J,J,J,J,tr⟩ ⟨rS,rS,rS,rS,tr⟩,?_⟩;refine S8 1 J ?_;refine y9 false J (λq=>nomatch q) (λ_=>?_);refine b3<|S6 2 J ?_;exact eL h W
   ·refine p5 ?_;refine b8<|b8<|k8 ?_;refine .inl ⟨J,?_⟩;have h:=xL hx26 h;exact eJ h (WP (λl=>if l=2004 then 2008 else if l=2003 then 2007 else if l=2002 then 2006 else l))

theorem a9m{a0 a1 a2}:PO Tryz.prog 264 [.L a8.Pv a0,.I a1,.I a2] (a8G a0 a1 a2) λr=>.tup [.L a8.Pv r.1,.I r.2.1,.I r.2.2]:=by
 refine pO Tryz.func264 λr h _ _=>?_;refine S4 3 J<|c4<|S4 2 J ?_;refine cN h (λhc h=>?_) λhc h=>?_
 ·refine S4 4 J ?_;refine a7 ?_;cases h;exact f3
 ·refine b3 ?_;refine S3 2 J<|cA h a0U J J λv1 _ h=>S2 5 J<|c4<|S4 2 J ?_;refine cN h (λhc h=>?_) λhc h=>?_
  ·refine S3 2 J ?_;refine cF h a5b J J λv2 _ h=>S2 7 J<|S4 5 J<|a7 ?_;cases h;exact f3
  ·refine b3 ?_;refine S3 3 J<|cF h b0c J J λv3 _ h=>S2 5 J<|c4<|S4 2 J ?_;refine cN h (λhc h=>?_) λhc h=>?_
   ·refine S4 5 J ?_;refine a7 ?_;cases h;exact f3
   ·refine b3 ?_;refine S4 5 J<|a7 ?_;cases h;exact f3

theorem a2M{a0 a1}:PO Tryz.prog 265 [B3.Pv a0,a6.Pv a1] (Q2 a0 a1) λr=>a6.Pv r:=by
 refine pO Tryz.func265 λr h _ _=>?_;unfold Q2 at h;refine S4 3 J<|S4 4 J<|S4 2 J<|a7 ?_;cases h;exact⟨J,[_],⟨oL J J J o7 l7 nl J,tr⟩,J,io⟩

theorem Q4{a0 a1 a2 a3}:PO Tryz.prog 257 [a6.Pv a0,.I a1,.I a2,.abs (BFn 265 [B3.Pv a3])] (H5 a0 a1 a2 a3) λr=>a6.Pv r:=by
 refine pO Tryz.func257 λr h _ _=>?_;refine S4 2 J<|S3 3 J<|cF h U2 J J λv1 _ h=>s6 h λv2 hv2 h=>a9R (xs:=[a6.Pv v1]) J J b36 J (a2M.2 _ hv2)<|S1 1 J<|cF h K3 J J λv3 _ h=>S2 1 J<|a7 ?_;cases h;exact⟨J,[_],⟨oL J J J o7 l7 nl J,tr⟩,J,io⟩

end Go.Proofs.YtppgkaeodaaidaaGreatDoor.Ok
