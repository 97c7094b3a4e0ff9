/-
 The functions of the program do as the plain functions do.
-/
import Derived.Test.YtppgkaeodaaidaaGreatDoorU3tPwC
import Derived.Test.YtppgkaeodaaidaaGreatDoorU3tPwD
import Derived.Test.YtppgkaeodaaidaaGreatDoorSrt
import Derived.Test.YtppgkaeodaaidaaGreatDoorSrtI
import Derived.Test.YtppgkaeodaaidaaGreatDoorU3tPwE
import Derived.Test.YtppgkaeodaaidaaGreatDoorStr
import Derived.Test.YtppgkaeodaaidaaGreatDoorU3tSh
import Derived.Test.YtppgkaeodaaidaaGreatDoorProg
set_option linter.unusedVariables false
set_option linter.unusedSimpArgs false
set_option linter.unusedSectionVars false
namespace Go.Proofs.YtppgkaeodaaidaaGreatDoor.Ok
open Go Go.Pw Go.Sh Go.Proofs
set_option maxRecDepth 100000
set_option maxHeartbeats 4000000
abbrev _root_.Go.Sh.p8.Pc(x:p8):List PV:=[.I x.Serial,.I x.Strong,.I x.Weak,.I x.Prog,.bool x.Started,.L iF x.Fields]
abbrev _root_.Go.Sh.p8.Pv(x:p8):PV:=.agg x.Pc
abbrev _root_.Go.Sh.b6.Pc(x:b6):List PV:=[.I x.State,.I x.Gen,.I x.Val.Serial,.I x.Val.Strong,.I x.Val.Weak,.I x.Val.Prog,.bool x.Val.Started,.L iF x.Val.Fields]
abbrev _root_.Go.Sh.b6.Pv(x:b6):PV:=.agg x.Pc
abbrev _root_.Go.Sh.c9.Pc(x:c9):List PV:=[.I x.Target,.bool x.Intact,.I x.Call]
abbrev _root_.Go.Sh.c9.Pv(x:c9):PV:=.agg x.Pc
abbrev _root_.Go.Sh.a8.Pc(x:a8):List PV:=[.I x.State,.I x.Key,.I x.Val]
abbrev _root_.Go.Sh.a8.Pv(x:a8):PV:=.agg x.Pc
abbrev _root_.Go.Sh.k8.Pc(x:k8):List PV:=[.I x.Kind,.I x.At,.I x.Prog]
abbrev _root_.Go.Sh.k8.Pv(x:k8):PV:=.agg x.Pc
abbrev _root_.Go.Sh.j5.Pc(x:j5):List PV:=[.I x.Kind,.I x.A,.I x.B,.I x.C]
abbrev _root_.Go.Sh.j5.Pv(x:j5):PV:=.agg x.Pc
abbrev _root_.Go.Sh.l9.Pc(x:l9):List PV:=[.I x.start,.I x.end_]
abbrev _root_.Go.Sh.l9.Pv(x:l9):PV:=.agg x.Pc
abbrev _root_.Go.Sh.b9.Pc(x:b9):List PV:=[.L b6.Pv x.o8,.I x.Last]
abbrev _root_.Go.Sh.b9.Pv(x:b9):PV:=.agg x.Pc
abbrev _root_.Go.Sh.b8.Pc(x:b8):List PV:=[.L b6.Pv x.S.o8,.I x.S.Last,.I x.Serial]
abbrev _root_.Go.Sh.b8.Pv(x:b8):PV:=.agg x.Pc
abbrev _root_.Go.Sh.b7.Pc(x:b7):List PV:=[.L k8.Pv x.L,.I x.Cap]
abbrev _root_.Go.Sh.b7.Pv(x:b7):PV:=.agg x.Pc
abbrev _root_.Go.Sh.a6.Pc(x:a6):List PV:=[.L b6.Pv x.S.S.o8,.I x.S.S.Last,.I x.S.Serial,.L iF x.Roots,.L c9.Pv x.o8,.L a8.Pv x.T,.L k8.Pv x.Q.L,.I x.Q.Cap]
abbrev _root_.Go.Sh.a6.Pv(x:a6):PV:=.agg x.Pc
abbrev _root_.Go.Sh.l3.Pc(x:l3):List PV:=[.L b6.Pv x.X.S.S.o8,.I x.X.S.S.Last,.I x.X.S.Serial,.L iF x.X.Roots,.L c9.Pv x.X.o8,.L a8.Pv x.X.T,.L k8.Pv x.X.Q.L,.I x.X.Q.Cap,.L (Ls j5.Pv) x.Progs]
abbrev _root_.Go.Sh.l3.Pv(x:l3):PV:=.agg x.Pc
abbrev _root_.Go.Sh.c3.Pc(x:c3):List PV:=[.L b6.Pv x.g.X.S.S.o8,.I x.g.X.S.S.Last,.I x.g.X.S.Serial,.L iF x.g.X.Roots,.L c9.Pv x.g.X.o8,.L a8.Pv x.g.X.T,.L k8.Pv x.g.X.Q.L,.I x.g.X.Q.Cap,.L (Ls j5.Pv) x.g.Progs,.bool x.begun,.L (Ls j5.Pv) x.progs]
abbrev _root_.Go.Sh.c3.Pv(x:c3):PV:=.agg x.Pc
abbrev _root_.Go.Sh.b4.Pc(x:b4):List PV:=[fwE x.takes,fwE x.run,.bool x.early]
abbrev _root_.Go.Sh.b4.Pv(x:b4):PV:=.agg x.Pc
abbrev _root_.Go.Sh.c8.Pc(x:c8):List PV:=[fvE x.part,.I x.least,.I x.most,.I x.e]
abbrev _root_.Go.Sh.c8.Pv(x:c8):PV:=.agg x.Pc
abbrev _root_.Go.Sh.l8.Pc(x:l8):List PV:=[.L b6.Pv x.x.S.S.o8,.I x.x.S.S.Last,.I x.x.S.Serial,.L iF x.x.Roots,.L c9.Pv x.x.o8,.L a8.Pv x.x.T,.L k8.Pv x.x.Q.L,.I x.x.Q.Cap,.I x.o.Kind,.I x.o.A,.I x.o.B,.I x.o.C]
abbrev _root_.Go.Sh.l8.Pv(x:l8):PV:=.agg x.Pc
abbrev _root_.Go.Sh.B2.Pc(x:B2):List PV:=[.I x.r,.I x.h]
abbrev _root_.Go.Sh.B2.Pv(x:B2):PV:=.agg x.Pc
abbrev _root_.Go.Sh.z8.Pc(x:z8):List PV:=[.I x.h,.I x.k,.I x.v]
abbrev _root_.Go.Sh.z8.Pv(x:z8):PV:=.agg x.Pc
abbrev _root_.Go.Sh.B1.Pc(x:B1):List PV:=[.L a8.Pv x.t]
abbrev _root_.Go.Sh.B1.Pv(x:B1):PV:=.agg x.Pc
abbrev _root_.Go.Sh.j8.Pc(x:j8):List PV:=[.I x.Key,.I x.Val]
abbrev _root_.Go.Sh.j8.Pv(x:j8):PV:=.agg x.Pc
abbrev _root_.Go.Sh.e8.Pc(x:e8):List PV:=[.L iF x.L,.I x.Cap]
abbrev _root_.Go.Sh.e8.Pv(x:e8):PV:=.agg x.Pc
abbrev _root_.Go.Sh.k7.Pc(x:k7):List PV:=[.I x.V,.I x.E]
abbrev _root_.Go.Sh.k7.Pv(x:k7):PV:=.agg x.Pc
def a4i(t:Nat):Nat:=if t=99 then 4 else if t=103 then 0 else if t=107 then 1 else 0
theorem G0:B8 Tryz.prog 3=some false:=by kernel_rfl
theorem a8j:B8 Tryz.prog 4=some false:=by kernel_rfl
theorem a4N:B8 Tryz.prog 9=some false:=by kernel_rfl
theorem a5s:B8 Tryz.prog 27=some false:=by kernel_rfl
theorem a1F:B8 Tryz.prog 29=some true:=by kernel_rfl
theorem b49:B8 Tryz.prog 38=some false:=by kernel_rfl
theorem Y4:B8 Tryz.prog 40=some true:=by kernel_rfl
theorem a1G:B8 Tryz.prog 42=some true:=by kernel_rfl
theorem b0A:B8 Tryz.prog 43=some false:=by kernel_rfl
theorem b5a:B8 Tryz.prog 44=some false:=by kernel_rfl
theorem a8T:B8 Tryz.prog 45=some false:=by kernel_rfl
theorem a02:B8 Tryz.prog 48=some true:=by kernel_rfl
theorem o5:B8 Tryz.prog 50=some true:=by kernel_rfl
theorem a0k:B8 Tryz.prog 53=some true:=by kernel_rfl
theorem S0:B8 Tryz.prog 63=some true:=by kernel_rfl
theorem a8U:B8 Tryz.prog 92=some true:=by kernel_rfl
theorem b07:B8 Tryz.prog 115=some true:=by kernel_rfl
theorem b3r:B8 Tryz.prog 120=some true:=by kernel_rfl
theorem b3s:B8 Tryz.prog 121=some false:=by kernel_rfl
theorem b3t:B8 Tryz.prog 124=some true:=by kernel_rfl
theorem b3u:B8 Tryz.prog 142=some false:=by kernel_rfl
theorem a4M:B8 Tryz.prog 168=some true:=by kernel_rfl
theorem a0c:B8 Tryz.prog 199=some true:=by kernel_rfl
theorem R9:B8 Tryz.prog 205=some true:=by kernel_rfl
theorem b08:B8 Tryz.prog 290=some false:=by kernel_rfl
theorem a3v:B8 Tryz.prog 450=some true:=by kernel_rfl
theorem J3:C2 Tryz.prog 3=some 8:=by kernel_rfl
theorem b4H:C2 Tryz.prog 9=some 16:=by kernel_rfl
theorem b5b:C2 Tryz.prog 29=some 16:=by kernel_rfl
theorem b5c:C2 Tryz.prog 92=some 32:=by kernel_rfl
theorem a8V:C2 Tryz.prog 120=some 16:=by kernel_rfl
theorem b3v:C2 Tryz.prog 142=some 24:=by kernel_rfl
theorem b09:C2 Tryz.prog 202=some 24:=by kernel_rfl
theorem b3w:C2 Tryz.prog 205=some 24:=by kernel_rfl
theorem b1a:C2 Tryz.prog 224=some 80:=by kernel_rfl
theorem b1b:C2 Tryz.prog 371=some 24:=by kernel_rfl
theorem b1c:C2 Tryz.prog 471=some 16:=by kernel_rfl
theorem G9:r5 Tryz.prog 24=some 9:=by kernel_rfl
theorem b0B:r5 Tryz.prog 37=some 43:=by kernel_rfl
theorem I1:r5 Tryz.prog 38=some 224:=by kernel_rfl
theorem j1:r5 Tryz.prog 43=some 3:=by kernel_rfl
theorem K5:r5 Tryz.prog 44=some 202:=by kernel_rfl
theorem Q1:r5 Tryz.prog 45=some 371:=by kernel_rfl
theorem a2L:r5 Tryz.prog 46=some 205:=by kernel_rfl
theorem a0l:r5 Tryz.prog 51=some 142:=by kernel_rfl
theorem a8W:r5 Tryz.prog 60=some 5:=by kernel_rfl
theorem a1H:r5 Tryz.prog 110=some 29:=by kernel_rfl
theorem a0I:r5 Tryz.prog 118=some 120:=by kernel_rfl
theorem a0J:r5 Tryz.prog 142=some 92:=by kernel_rfl
theorem M9:r5 Tryz.prog 193=some 199:=by kernel_rfl
theorem a1I:r5 Tryz.prog 468=some 471:=by kernel_rfl
theorem a6U:O2 Tryz.prog 29 0=some (0,3):=by kernel_rfl
theorem b2f:O2 Tryz.prog 29 1=some (1,27):=by kernel_rfl
theorem b2g:O2 Tryz.prog 40 0=some (0,38):=by kernel_rfl
theorem a9L:O2 Tryz.prog 50 1=some (3,43):=by kernel_rfl
theorem b2h:O2 Tryz.prog 50 2=some (4,44):=by kernel_rfl
theorem b2i:O2 Tryz.prog 50 4=some (6,48):=by kernel_rfl
theorem b2j:O2 Tryz.prog 92 0=some (0,3):=by kernel_rfl
theorem b1I:O2 Tryz.prog 124 0=some (0,121):=by kernel_rfl
theorem b1J:O2 Tryz.prog 124 2=some (2,4):=by kernel_rfl
theorem b1K:O2 Tryz.prog 168 1=some (1,3):=by kernel_rfl
theorem b1L:O2 Tryz.prog 168 2=some (2,3):=by kernel_rfl
theorem a8k:O2 Tryz.prog 168 4=some (4,4):=by kernel_rfl
theorem b1M:O2 Tryz.prog 199 2=some (2,3):=by kernel_rfl
theorem a8l:O2 Tryz.prog 202 0=some (0,3):=by kernel_rfl
theorem b1N:O2 Tryz.prog 202 1=some (1,4):=by kernel_rfl
theorem a8m:O2 Tryz.prog 224 0=some (0,3):=by kernel_rfl
theorem b1O:O2 Tryz.prog 224 2=some (2,168):=by kernel_rfl
theorem b1P:O2 Tryz.prog 371 1=some (1,3):=by kernel_rfl
theorem b1Q:O2 Tryz.prog 471 0=some (0,3):=by kernel_rfl
theorem a8n:O2 Tryz.prog 471 1=some (1,3):=by kernel_rfl
theorem b6k:b3b Tryz.prog 3=some .i64:=by kernel_rfl
theorem b5d:o7 Tryz.prog 21:=kC Tryz.func21 J
theorem b0C:o7 Tryz.prog 28:=kC Tryz.func28 J
theorem b5e:o7 Tryz.prog 69:=kC Tryz.func69 J
theorem b5f:o7 Tryz.prog 75:=kC Tryz.func75 J
theorem b5g:o7 Tryz.prog 76:=kC Tryz.func76 J
theorem b5h:o7 Tryz.prog 78:=kC Tryz.func78 J
theorem b5i:o7 Tryz.prog 80:=kC Tryz.func80 J
theorem b5j:o7 Tryz.prog 81:=kC Tryz.func81 J
theorem b5k:o7 Tryz.prog 82:=kC Tryz.func82 J
theorem b1d:o7 Tryz.prog 119:=kC Tryz.func119 J
theorem b3x:o7 Tryz.prog 126:=kC Tryz.func126 J
theorem b3y:o7 Tryz.prog 127:=kC Tryz.func127 J
theorem b3z:o7 Tryz.prog 129:=kC Tryz.func129 J
theorem b3A:o7 Tryz.prog 137:=kC Tryz.func137 J
theorem b3B:o7 Tryz.prog 138:=kC Tryz.func138 J
theorem b3C:o7 Tryz.prog 212:=kC Tryz.func212 J
theorem b3D:o7 Tryz.prog 258:=kC Tryz.func258 J
theorem b3E:o7 Tryz.prog 265:=kC Tryz.func265 J
theorem b3F:o7 Tryz.prog 276:=kC Tryz.func276 J
theorem b3G:o7 Tryz.prog 287:=kC Tryz.func287 J
theorem b3H:o7 Tryz.prog 298:=kC Tryz.func298 J
theorem b3I:o7 Tryz.prog 367:=kC Tryz.func367 J
theorem b3J:o7 Tryz.prog 369:=kC Tryz.func369 J
theorem b1e:o7 Tryz.prog 370:=kC Tryz.func370 J
theorem b1f:o7 Tryz.prog 373:=kC Tryz.func373 J
theorem b3K:o7 Tryz.prog 406:=kC Tryz.func406 J
theorem b1g:o7 Tryz.prog 407:=kC Tryz.func407 J
theorem C4:a3O Tryz.prog 126=some (9,124):=by kernel_rfl
theorem L7:a3O Tryz.prog 151=some (3,149):=by kernel_rfl
theorem I2:a3O Tryz.prog 195=some (3,193):=by kernel_rfl
theorem a6V:a3O Tryz.prog 222=some (3,3):=by kernel_rfl
theorem X0:a3O Tryz.prog 290=some (3,4):=by kernel_rfl
theorem b5l:w6 Tryz.prog 29=some (λi=>(#[(0,1),(1,1)]:Array (Nat × Nat))[i]?):=by kernel_rfl
theorem b2k:w6 Tryz.prog 40=some (λi=>(#[(0,1),(1,1)]:Array (Nat × Nat))[i]?):=by kernel_rfl
theorem b2l:w6 Tryz.prog 42=some (λi=>(#[(0,2),(2,1)]:Array (Nat × Nat))[i]?):=by kernel_rfl
theorem b5m:w6 Tryz.prog 48=some (λi=>(#[(0,1),(1,1)]:Array (Nat × Nat))[i]?):=by kernel_rfl
theorem b2m:w6 Tryz.prog 50=some (λi=>(#[(0,3),(3,1),(4,1),(5,1),(6,2)]:Array (Nat × Nat))[i]?):=by kernel_rfl
theorem b0D:w6 Tryz.prog 53=some (λi=>(#[(0,8),(8,1)]:Array (Nat × Nat))[i]?):=by kernel_rfl
theorem a8Y:w6 Tryz.prog 92=some (λi=>(#[(0,1),(1,1),(2,1),(3,1)]:Array (Nat × Nat))[i]?):=by kernel_rfl
theorem b5n:w6 Tryz.prog 99=some (λi=>(#[(0,4)]:Array (Nat × Nat))[i]?):=by kernel_rfl
theorem b3L:w6 Tryz.prog 103=some (λi=>(#[]:Array (Nat × Nat))[i]?):=by kernel_rfl
theorem b3M:w6 Tryz.prog 107=some (λi=>(#[(0,1)]:Array (Nat × Nat))[i]?):=by kernel_rfl
theorem b3N:w6 Tryz.prog 115=some (λi=>some (i*1,1)):=by kernel_rfl
theorem b1h:w6 Tryz.prog 120=some (λi=>(#[(0,1),(1,1)]:Array (Nat × Nat))[i]?):=by kernel_rfl
theorem a3w:w6 Tryz.prog 124=some (λi=>(#[(0,1),(1,1),(2,1)]:Array (Nat × Nat))[i]?):=by kernel_rfl
theorem b3O:w6 Tryz.prog 155=some (λi=>(#[(0,8),(8,4)]:Array (Nat × Nat))[i]?):=by kernel_rfl
theorem b3P:w6 Tryz.prog 168=some (λi=>(#[(0,1),(1,1),(2,1),(3,1),(4,1),(5,1)]:Array (Nat × Nat))[i]?):=by kernel_rfl
theorem S9:w6 Tryz.prog 199=some (λi=>(#[(0,1),(1,1),(2,1),(3,1)]:Array (Nat × Nat))[i]?):=by kernel_rfl
theorem b3Q:w6 Tryz.prog 202=some (λi=>(#[(0,1),(1,1),(2,1)]:Array (Nat × Nat))[i]?):=by kernel_rfl
theorem a8X:w6 Tryz.prog 205=some (λi=>(#[(0,1),(1,1),(2,1)]:Array (Nat × Nat))[i]?):=by kernel_rfl
theorem a6F:w6 Tryz.prog 224=some (λi=>(#[(0,1),(1,1),(2,6)]:Array (Nat × Nat))[i]?):=by kernel_rfl
theorem b3R:w6 Tryz.prog 348=some (λi=>(#[(0,1),(1,1),(2,1)]:Array (Nat × Nat))[i]?):=by kernel_rfl
theorem b3S:w6 Tryz.prog 356=some (λi=>(#[(0,1)]:Array (Nat × Nat))[i]?):=by kernel_rfl
theorem b1i:w6 Tryz.prog 371=some (λi=>(#[(0,1),(1,1),(2,1)]:Array (Nat × Nat))[i]?):=by kernel_rfl
theorem b3T:w6 Tryz.prog 376=some (λi=>(#[(0,1)]:Array (Nat × Nat))[i]?):=by kernel_rfl
theorem b3U:w6 Tryz.prog 388=some (λi=>(#[(0,1),(1,1)]:Array (Nat × Nat))[i]?):=by kernel_rfl
theorem b3V:w6 Tryz.prog 450=some (λi=>(#[(0,1),(1,1)]:Array (Nat × Nat))[i]?):=by kernel_rfl
theorem b1j:w6 Tryz.prog 471=some (λi=>(#[(0,1),(1,1)]:Array (Nat × Nat))[i]?):=by kernel_rfl
theorem b2n:a4y Tryz.prog 99=true:=by kernel_rfl
theorem b1k:a4y Tryz.prog 103=true:=by kernel_rfl
theorem b1l:a4y Tryz.prog 107=true:=by kernel_rfl
theorem b3W:a5B Tryz.prog 115=some [1,1,1,1]:=by kernel_rfl
theorem a8Z:a9x Tryz.prog 115=some (4,3):=by kernel_rfl
theorem l7:l5 Tryz.prog 3=some 1:=by kernel_rfl
theorem b6l:l5 Tryz.prog 4=some 1:=by kernel_rfl
theorem b4I:l5 Tryz.prog 5=some 1:=by kernel_rfl
theorem V5:l5 Tryz.prog 9=some 1:=by kernel_rfl
theorem J4:l5 Tryz.prog 29=some 2:=by kernel_rfl
theorem T0:l5 Tryz.prog 40=some 2:=by kernel_rfl
theorem a1K:l5 Tryz.prog 42=some 3:=by kernel_rfl
theorem a6W:l5 Tryz.prog 43=some 1:=by kernel_rfl
theorem b2o:l5 Tryz.prog 46=some 1:=by kernel_rfl
theorem T3:l5 Tryz.prog 48=some 2:=by kernel_rfl
theorem l4:l5 Tryz.prog 50=some 8:=by kernel_rfl
theorem K6:l5 Tryz.prog 53=some 9:=by kernel_rfl
theorem F4:l5 Tryz.prog 63=some 11:=by kernel_rfl
theorem a1L:l5 Tryz.prog 92=some 4:=by kernel_rfl
theorem b3X:l5 Tryz.prog 103=some 0:=by kernel_rfl
theorem b1m:l5 Tryz.prog 115=some 4:=by kernel_rfl
theorem a1J:l5 Tryz.prog 120=some 2:=by kernel_rfl
theorem b1n:l5 Tryz.prog 124=some 3:=by kernel_rfl
theorem a0d:l5 Tryz.prog 142=some 1:=by kernel_rfl
theorem a0K:l5 Tryz.prog 168=some 6:=by kernel_rfl
theorem D1:l5 Tryz.prog 199=some 4:=by kernel_rfl
theorem L3:l5 Tryz.prog 202=some 3:=by kernel_rfl
theorem E2:l5 Tryz.prog 205=some 3:=by kernel_rfl
theorem H7:l5 Tryz.prog 224=some 8:=by kernel_rfl
theorem P8:l5 Tryz.prog 371=some 3:=by kernel_rfl
theorem a0L:l5 Tryz.prog 450=some 2:=by kernel_rfl
theorem a4O:l5 Tryz.prog 471=some 2:=by kernel_rfl
theorem D5:Tryz.prog.underlying 3=some (.int .i64):=by kernel_rfl
theorem b4J:Tryz.prog.underlying 5=some (.int .u8):=by kernel_rfl
theorem A7:Tryz.prog.underlying 9=some (.string):=by kernel_rfl
theorem b5o:Tryz.prog.underlying 21=some (.int .i32):=by kernel_rfl
theorem y9:r4 Tryz.prog 3=some ((.I 0)):=by kernel_rfl
theorem a9M:r4 Tryz.prog 4=some ((.bool false)):=by kernel_rfl
theorem b4K:r4 Tryz.prog 5=some ((.int .u8 0)):=by kernel_rfl
theorem b2s:r4 Tryz.prog 9=some ((.string ByteArray.empty)):=by kernel_rfl
theorem b0E:r4 Tryz.prog 29=some ((.agg #[(.I 0),(.I 0)])):=by kernel_rfl
theorem b2p:r4 Tryz.prog 40=some ((.agg #[(.slice none 0 0),(.I 0)])):=by kernel_rfl
theorem b2q:r4 Tryz.prog 42=some ((.agg #[(.slice none 0 0),(.I 0),(.I 0)])):=by kernel_rfl
theorem b5p:r4 Tryz.prog 43=some ((.slice none 0 0)):=by kernel_rfl
theorem b5q:r4 Tryz.prog 48=some ((.agg #[(.slice none 0 0),(.I 0)])):=by kernel_rfl
theorem b2r:r4 Tryz.prog 50=some ((.agg #[(.slice none 0 0),(.I 0),(.I 0),(.slice none 0 0),(.slice none 0 0),(.slice none 0 0),(.slice none 0 0),(.I 0)])):=by kernel_rfl
theorem b0F:r4 Tryz.prog 53=some ((.agg #[(.slice none 0 0),(.I 0),(.I 0),(.slice none 0 0),(.slice none 0 0),(.slice none 0 0),(.slice none 0 0),(.I 0),(.slice none 0 0)])):=by kernel_rfl
theorem a5t:r4 Tryz.prog 92=some ((.agg #[(.I 0),(.I 0),(.I 0),(.I 0)])):=by kernel_rfl
theorem b2t:r4 Tryz.prog 99=some ((.agg #[(.I 0),(.I 0),(.I 0),(.I 0)])):=by kernel_rfl
theorem b1o:r4 Tryz.prog 103=some ((.agg #[])):=by kernel_rfl
theorem b1p:r4 Tryz.prog 107=some ((.agg #[(.I 0)])):=by kernel_rfl
theorem b3Y:r4 Tryz.prog 115=some ((.agg #[(.I 0),(.I 0),(.I 0),(.I 0)])):=by kernel_rfl
theorem a1M:r4 Tryz.prog 120=some ((.agg #[(.I 0),(.I 0)])):=by kernel_rfl
theorem a1N:r4 Tryz.prog 124=some ((.agg #[.nilFunc,.nilFunc,(.bool false)])):=by kernel_rfl
theorem b3Z:r4 Tryz.prog 142=some ((.slice none 0 0)):=by kernel_rfl
theorem b30:r4 Tryz.prog 149=some (.nilFunc):=by kernel_rfl
theorem b31:r4 Tryz.prog 155=some ((.agg #[(.slice none 0 0),(.I 0),(.I 0),(.slice none 0 0),(.slice none 0 0),(.slice none 0 0),(.slice none 0 0),(.I 0),(.I 0),(.I 0),(.I 0),(.I 0)])):=by kernel_rfl
theorem b32:r4 Tryz.prog 168=some ((.agg #[(.I 0),(.I 0),(.I 0),(.I 0),(.bool false),(.slice none 0 0)])):=by kernel_rfl
theorem b33:r4 Tryz.prog 193=some ((.slice none 0 0)):=by kernel_rfl
theorem C3:r4 Tryz.prog 199=some ((.agg #[.nilFunc,(.I 0),(.I 0),(.I 0)])):=by kernel_rfl
theorem a81:r4 Tryz.prog 202=some ((.agg #[(.I 0),(.bool false),(.I 0)])):=by kernel_rfl
theorem a4P:r4 Tryz.prog 205=some ((.agg #[(.I 0),(.I 0),(.I 0)])):=by kernel_rfl
theorem a3x:r4 Tryz.prog 224=some ((.agg #[(.I 0),(.I 0),(.I 0),(.I 0),(.I 0),(.I 0),(.bool false),(.slice none 0 0)])):=by kernel_rfl
theorem b34:r4 Tryz.prog 348=some ((.agg #[(.I 0),(.I 0),(.I 0)])):=by kernel_rfl
theorem b35:r4 Tryz.prog 356=some ((.agg #[(.slice none 0 0)])):=by kernel_rfl
theorem a6G:r4 Tryz.prog 371=some ((.agg #[(.I 0),(.I 0),(.I 0)])):=by kernel_rfl
theorem b36:r4 Tryz.prog 376=some ((.agg #[.nilFunc])):=by kernel_rfl
theorem b37:r4 Tryz.prog 388=some ((.agg #[(.I 0),(.I 0)])):=by kernel_rfl
theorem b38:r4 Tryz.prog 450=some ((.agg #[(.slice none 0 0),(.I 0)])):=by kernel_rfl
theorem a3y:r4 Tryz.prog 471=some ((.agg #[(.I 0),(.I 0)])):=by kernel_rfl
theorem p7:Tryz.prog.follows .mixedOrders=true:=by kernel_rfl
def tb:TB:=⟨[((29,0),(0,3)),((29,1),(1,27)),((40,0),(0,38)),((40,1),(1,3)),((42,0),(0,40)),((42,1),(2,3)),((48,0),(0,46)),((48,1),(1,3)),((50,0),(0,42)),((50,1),(3,43)),((50,2),(4,44)),((50,3),(5,45)),((50,4),(6,48)),((53,0),(0,50)),((53,1),(8,51)),((63,0),(0,53)),((63,1),(9,4)),((63,2),(10,51)),((92,0),(0,3)),((92,1),(1,3)),((92,2),(2,3)),((92,3),(3,3)),((99,0),(0,92)),((107,0),(0,3)),((120,0),(0,3)),((120,1),(1,3)),((124,1),(1,122)),((155,0),(0,50)),((155,1),(8,92)),((168,0),(0,3)),((168,1),(1,3)),((168,2),(2,3)),((168,3),(3,3)),((168,4),(4,4)),((168,5),(5,43)),((199,0),(0,197)),((199,1),(1,3)),((199,3),(3,27)),((202,0),(0,3)),((202,1),(1,4)),((202,2),(2,3)),((205,0),(0,3)),((205,1),(1,3)),((205,2),(2,3)),((224,0),(0,3)),((224,1),(1,3)),((224,2),(2,168)),((348,0),(0,3)),((348,1),(1,3)),((348,2),(2,3)),((356,0),(0,45)),((371,0),(0,3)),((371,1),(1,3)),((371,2),(2,3)),((376,0),(0,374)),((388,0),(0,3)),((388,1),(1,3)),((450,0),(0,43)),((450,1),(1,3)),((471,0),(0,3)),((471,1),(1,3))],[(3,false),(4,false),(9,false),(27,false),(29,true),(38,false),(40,true),(42,true),(43,false),(44,false),(45,false),(46,false),(48,true),(50,true),(51,false),(53,true),(63,true),(92,true),(115,true),(122,false),(142,false),(155,true),(168,true),(197,false),(199,true),(202,true),(205,true),(222,false),(224,true),(290,false),(371,true),(374,false),(376,true),(450,true),(468,false),(471,true),(479,false)],[(3,1),(4,1),(27,1),(29,2),(38,1),(40,2),(42,3),(43,1),(44,1),(45,1),(48,2),(50,8),(51,1),(53,9),(63,11),(92,4),(99,4),(107,1),(115,4),(120,2),(124,3),(155,12),(168,6),(199,4),(202,3),(205,3),(222,1),(224,8),(290,1),(371,3),(376,1),(450,2),(468,1),(471,2)],[(3,.I 0),(4,.bool false),(27,.I 0),(29,.agg [.I 0,.I 0]),(40,.agg [.lst true (List.map b6.Pv []),.I 0]),(42,.agg [.lst true (List.map b6.Pv []),.I 0,.I 0]),(43,.lst true (List.map iF [])),(45,.lst true (List.map a8.Pv [])),(48,.agg [.lst true (List.map k8.Pv []),.I 0]),(50,.agg [.lst true (List.map b6.Pv []),.I 0,.I 0,.lst true (List.map iF []),.lst true (List.map c9.Pv []),.lst true (List.map a8.Pv []),.lst true (List.map k8.Pv []),.I 0]),(53,.agg [.lst true (List.map b6.Pv []),.I 0,.I 0,.lst true (List.map iF []),.lst true (List.map c9.Pv []),.lst true (List.map a8.Pv []),.lst true (List.map k8.Pv []),.I 0,.lst true (List.map (Ls j5.Pv) [])]),(63,.agg [.lst true (List.map b6.Pv []),.I 0,.I 0,.lst true (List.map iF []),.lst true (List.map c9.Pv []),.lst true (List.map a8.Pv []),.lst true (List.map k8.Pv []),.I 0,.lst true (List.map (Ls j5.Pv) []),.bool false,.lst true (List.map (Ls j5.Pv) [])]),(92,.agg [.I 0,.I 0,.I 0,.I 0]),(99,.agg [.I 0,.I 0,.I 0,.I 0]),(103,.agg []),(107,.agg [.I 0]),(115,.agg [.I 0,.I 0,.I 0,.I 0]),(120,.agg [.I 0,.I 0]),(124,.agg [.nilfn,.nilfn,.bool false]),(168,.agg [.I 0,.I 0,.I 0,.I 0,.bool false,.lst true (List.map iF [])]),(199,.agg [.nilfn,.I 0,.I 0,.I 0]),(202,.agg [.I 0,.bool false,.I 0]),(205,.agg [.I 0,.I 0,.I 0]),(222,.abs b0z),(224,.agg [.I 0,.I 0,.I 0,.I 0,.I 0,.I 0,.bool false,.lst true (List.map iF [])]),(290,.abs b0z),(371,.agg [.I 0,.I 0,.I 0]),(376,.agg [.nilfn]),(450,.agg [.lst true (List.map iF []),.I 0]),(468,.lst true (List.map j8.Pv [])),(471,.agg [.I 0,.I 0])]⟩
theorem Tb:TB.Ok Tryz.prog tb:=⟨by kernel_rfl,by kernel_rfl,by kernel_rfl,by kernel_rfl⟩
section
variable{X:Ctx}{ops:Array Oper}{K:Ctx→St→Prop}{i n:Nat}{l l':List Oper}{env env':Nat→PV}{σ σ':Nat→Option Row}{Q:PX→Ctx→St→Prop}{y:Code}{KD:St→Prop}{bar:List Nat}
theorem S1(n:Nat)(h:run tb n l env σ=some (l',env',σ'))(k:Sq X ops (i+n) l' K ⟨env',σ'⟩)(hb:TB.Ok X.P tb:=by exact Tb):Sq X ops i l K ⟨env,σ⟩:=seg hb n h k
theorem S2(n:Nat)(h:run tb n l env σ=some ([],env',σ'))(k:K X ⟨env',σ'⟩)(hb:TB.Ok X.P tb:=by exact Tb):Sq X ops i l K ⟨env,σ⟩:=seg hb n h (yN k)
theorem S3{id:Nat}(n:Nat)(h:run tb n l env σ=some (l',env',σ'))(k:Sq X l.toArray (0+n) l' (λX' s=>J1 X' y Q s) ⟨env',σ'⟩)(hd:X5 X.N l.toArray=true:=by kernel_rfl)(hb:TB.Ok X.P tb:=by exact Tb):J1 X (.seq (.region id l.toArray false) y) Q ⟨env,σ⟩:=sr hd (seg hb n h k)
theorem S4{id:Nat}(n:Nat)(h:run tb n l env σ=some ([],env',σ'))(k:J1 X y Q ⟨env',σ'⟩)(hd:X5 X.N l.toArray=true:=by kernel_rfl)(hb:TB.Ok X.P tb:=by exact Tb):J1 X (.seq (.region id l.toArray false) y) Q ⟨env,σ⟩:=sr hd (seg hb n h (yN k))
theorem S5{id:Nat}(n:Nat)(h:run tb n l env σ=some (l',env',σ'))(k:Sq X l.toArray (0+n) l' (Q .normal) ⟨env',σ'⟩)(hd:X5 X.N l.toArray=true:=by kernel_rfl)(hb:TB.Ok X.P tb:=by exact Tb):J1 X (.region id l.toArray false) Q ⟨env,σ⟩:=sr1 hd (seg hb n h k)
theorem S6{id:Nat}(n:Nat)(h:run tb n l env σ=some ([],env',σ'))(k:Q .normal X ⟨env',σ'⟩)(hd:X5 X.N l.toArray=true:=by kernel_rfl)(hb:TB.Ok X.P tb:=by exact Tb):J1 X (.region id l.toArray false) Q ⟨env,σ⟩:=sr1 hd (seg hb n h (yN k))
theorem S7(n:Nat)(h:b4v tb bar n i l env σ=some (l',env',σ'))(k:Ex X.P ops bar true (i+n) l' ⟨env',σ'⟩ KD)(hb:TB.Ok X.P tb:=by exact Tb):Ex X.P ops bar true i l ⟨env,σ⟩ KD:=dG hb n h k
theorem S8(n:Nat)(h:b4v tb bar n i l env σ=some ([],env',σ'))(k:KD ⟨env',σ'⟩)(hb:TB.Ok X.P tb:=by exact Tb):Ex X.P ops bar true i l ⟨env,σ⟩ KD:=dG hb n h k
end
theorem b52:a8S Tryz.prog (Tryz.sortF_ren.f 6):=b18 Tryz.sortF
theorem b4z:a6E Tryz.prog (Tryz.sortI_ren.f 5):=b01 Tryz.sortI
theorem b2M{n:Int}{r:ByteArray}(h:a8L n=some r):E5 Tryz.prog 28 [.I n] (.str r):=
 b4r (P:=Tryz.prog) (ρ:=Tryz.itoaL_ren) Tryz.itoaL (by rw[show Tryz.prog.globalNamed (b0j Tryz.prog)=some b6E by kernel_rfl];exact nofun) (λw hT n h0 h1=>Any.strconv_Itoa Tryz.itoaL n h0 h1 w (cast (by kernel_rfl) hT)) h
theorem b53{s sep:ByteArray}{xs:List ByteArray}(h:a9u s sep=some xs):E5 Tryz.prog 21 [.str s,.str sep] (.lst false (xs.map PV.str)):=
 b24 (P:=Tryz.prog) (ρ:=Tryz.splitL_ren) Tryz.splitL (by kernel_rfl) (by kernel_rfl) h
theorem a4s{a0}:PO Tryz.prog 23 [.int .i32 a0] (Y7 a0) λr=>.bool r:=by
 refine pO Tryz.func23 λr h _ _=>?_;unfold Y7 at h;refine S4 1 J<|S3 3 J<|k9 J (λhg=>om (d:=.int .i32 a0) J)<|k9 J (λhg=>A0 (ct hg) J J)<|y0 J (D8 J J J (λq=>eqF q))<|S1 1 J<|k9 J (λhg=>om (d:=.int .i32 a0) J)<|k9 J (λhg=>A0 (ct hg) J J)<|y0 J (D8 J J J (λq=>eqF q))<|S2 1 J<|a7 ?_;cases h;exact f1

theorem M7{a0}:PO Tryz.prog 22 [.str a0,.fn (.func 23) []] (F2 a0) λr=>.L PV.str r:=by
 refine pO Tryz.func22 λr h _ _=>?_;refine S4 1 J<|sR<|b6J (m:=32) J J nl J J a0I a1J a1M a8V nl nl<|S2 1 J<|S4 1 J ?_;refine jq h (λq=>St.of [(0,.str a0),(5,.sl 12),(6,.I q.1)] [(12,⟨List.map l9.Pv q.2,(List.map l9.Pv q.2).length,true,2,true⟩)]) (λq12 h=>?_) λκ9 h=>?_
 ·obtain⟨j10,j11⟩:=q12;refine jq h (λj15=>St.of [(0,.str a0),(5,.sl 43)] [(43,⟨List.map l9.Pv j15,(List.map l9.Pv j15).length,true,2,true⟩)]) (λj15 h=>?_) λκ14 h=>?_
  ·refine S3 1 J ?_;refine y0 J (a8H (f:=l9.Pv) J J J a0I)<|r9 h λv16 hv10 h=>y1 J (a7v (f:=PV.str) hv10 J J J G9 V5 b2s b4H J J J) J<|S2 1 J ?_;refine jq h (λj26=>St.of [(9,.sl 46)] [(46,⟨List.map PV.str j26,0,true,1,true⟩)]) (λj26 h=>?_) λκ25 h=>?_
   ·refine S4 2 J ?_;refine a7 ?_;cases h;exact f1
   ·refine S3 1 J ?_;refine y0 J (a8H (f:=l9.Pv) J J J a0I)<|S2 1 J<|c6<|lq h (λq=>St.of [(0,.str a0),(9,.sl 46),(47,.sl 43),(48,.I (j15.length:Int)),(49,.I q.1)] [(43,⟨List.map l9.Pv j15,(List.map l9.Pv j15).length,true,2,true⟩),(46,⟨List.map PV.str q.2,0,true,1,true⟩)]) (Wk.trans (l6 _ [43]) W) λq31 x30 h hx20=>?_;obtain⟨s28,s29⟩:=q31;refine S4 1 J<|c5 ?_;refine cN h (λhc h=>?_) λhc h=>?_
    ·refine b5 ?_;refine c5<|c6<|S3 1 J<|r9 h λv32 hv21 h=>y0 J (a0w (f:=l9.Pv) hv21 J J J J a0I a1J J)<|y0 J (b6v (f:=l9.Pv) (cs:=l9.Pc v32) hv21 J J J b3r a1J nl J)<|S2 3 J<|S5 7 J<|r9 h λv33 hv22 h=>y0 J (b5G hv22 J ⟨_,J⟩ ⟨_,J⟩ A7)<|r9 h λv34 hv23 h=>y0 J (a0w (f:=PV.str) hv23 J J J J G9 V5 J)<|a4h (f:=PV.str) (v:=v33) hv23 J J (.inl J) V5<|yN<|S6 2 J ?_;exact eL h (Wk.trans (l6 _ [43]) W)
    ·refine o9 ?_;refine c4<|c4<|j7 ?_;have h:=xL hx20 h;exact eJ h W
  ·refine S4 2 J ?_;refine cN h (λhc h=>?_) λhc h=>?_
   ·refine S5 3 J ?_;refine y0 J (b5J J A7 J)<|y0 J (o6 (cs:=[.I j10,.I (a0.size:Int)]) J b1h a1M J J J)<|y0 J (J2 (f:=l9.Pv) (l:=[(⟨j10,(a0.size:Int)⟩:l9)]) J a0I a1J a1M J J nl J J)<|r9 h λv35 hv24 h=>N9 J (L5 (f:=l9.Pv) hv24 J J J J J J (.inl ⟨_,J,J⟩) a0I a1J a8V a1M J (λ_=>J)) J J J<|S2 1 J ?_;exact eJ h (Wk.trans (l6 _ [43]) W)
   ·refine b5 ?_;exact eJ h (Wk.trans (l6 _ [12]) (WP (λl=>if l=43 then 12 else l)))
 ·refine S3 1 J ?_;refine b3j 5000014 J J A7 J<|yN<|c6<|lq h (λq=>St.of [(0,.str a0),(1,.fn (.func 23) []),(5,.sl 12),(6,.I q.1),(14,.ptr 5000014 0 0)] [(5000014,itR a0 q.2.1),(12,⟨List.map l9.Pv q.2.2,(List.map l9.Pv q.2.2).length,true,2,true⟩)]) (Wk.trans (l6 _ [12]) W) λq41 x40 h hx27=>?_;obtain⟨s37,s38,s39⟩:=q41;refine sR ?_;refine b46 J J J (λhc28=>?_) (λhc28=>?_)
  ·have h:=ifT h (decide_eq_true hc28);refine S2 1 J<|c5 ?_;refine y7 true J (λ_=>?_) (λq=>nomatch q);refine b5<|c6<|S4 4 J<|S3 2 J<|cA h a4s J J λv42 _ h=>yN ?_;refine cN h (λhc h=>?_) λhc h=>?_
   ·refine S4 2 J ?_;refine cN h (λhc h=>?_) λhc h=>?_
    ·refine S3 3 J ?_;refine y0 J (o6 (cs:=[.I s37,.I ((s38:Nat):Int)]) J b1h a1M J J J)<|y0 J (J2 (f:=l9.Pv) (l:=[(⟨s37,((s38:Nat):Int)⟩:l9)]) J a0I a1J a1M J J nl J J)<|r9 h λv43 hv30 h=>N9 J (L5 (f:=l9.Pv) hv30 J J J J J J (.inl ⟨_,J,J⟩) a0I a1J a8V a1M J (λ_=>J)) J J J<|S2 1 J<|S5 1 J<|y0 J (b5K J J J)<|S2 1 J ?_;exact eL h (Wk.trans (l6 _ [29]) (WP (λl=>if l=12 then 29 else l)))
    ·refine b5 ?_;exact eL h (Wk.trans (l6 _ [12]) W)
   ·refine S4 2 J ?_;refine cN h (λhc h=>?_) λhc h=>?_
    ·refine S6 2 J ?_;exact eL h (Wk.trans (l6 _ [12]) W)
    ·refine b5 ?_;exact eL h (Wk.trans (l6 _ [12]) W)
  ·have h:=ifF h (decide_eq_false hc28);refine S2 1 J<|c5 ?_;refine y7 false J (λq=>nomatch q) (λ_=>?_);refine o9<|c4<|c4<|j7 ?_;have h:=xL hx27 h;exact eJ h (Wk.trans (l6 _ [12]) W)

theorem F5{a0}:PO Tryz.prog 77 [.I a0] (K2 a0) λr=>.fn (.func 137) [.rptr [.I r]]:=by
 refine pO Tryz.func77 λr h _ _=>?_;unfold K2 at h;refine S4 2 J<|S4 2 J<|a7 ?_;cases h;exact f1

theorem p9{a0 a1}:PO Tryz.prog 79 [.I a0,.I a1] (s7 a0 a1) λr=>b4.Pv r:=by
 refine pO Tryz.func79 λr h _ _=>?_;refine S4 2 J<|S3 1 J<|cF h F5 J J λv1 _ h=>S1 1 J<|E1 (b43 7 J)<|y0 J (o6 (cs:=[.fn (.func 137) [.rptr [.I v1]],.fn (.func 138) [.rptr [.I a0]],.bool false]) J a3w a1N J J J)<|E1 (a8P 8 (d':=.agg [fwE (some (137,some v1)),fwE (some (138,some a0)),.bool false]) J J)<|S2 1 J<|a7 ?_;cases h;exact⟨J,[_],⟨oL J J J b3t b1n nl J,tr⟩,J,io⟩

theorem a3K:PO Tryz.prog 42 [] (a1n) λr=>.abs (I0 (List.map (ent PV.str b4.Pv) r)):=by
 refine pO Tryz.func42 λr h _ _=>?_;refine S4 1 J<|sR<|a8R (KT:=ByteArray) (VT:=b4) (EK:=PV.str) (E:=b4.Pv) 5000001 J J<|y0 J (o6 (cs:=[.fn (.func 75) [],.fn (.func 76) [],.bool true]) J a3w a1N J J J)<|E1 (a8P 2 (d':=.agg [fwE (some (75,none)),fwE (some (76,none)),.bool true]) J J)<|z7 (es:=[]) (k:=(p5 [112,114,111,103])) (v:=(⟨(some (75,none)),(some (76,none)),true⟩:b4)) (E:=b4.Pv) (EK:=PV.str) (.inr J) J J J J J J C4 (C5 A7)<|cF h F5 J J λv1 _ h=>y0 J (o6 (cs:=[.fn (.func 137) [.rptr [.I v1]],.fn (.func 78) [],.bool true]) J a3w a1N J J J)<|E1 (a8P 4 (d':=.agg [fwE (some (137,some v1)),fwE (some (78,none)),.bool true]) J J)<|z7 (es:=(h9 [] (p5 [112,114,111,103]) (⟨(some (75,none)),(some (76,none)),true⟩:b4))) (k:=(p5 [104,101,97,112])) (v:=(⟨(some (137,some v1)),(some (78,none)),true⟩:b4)) (E:=b4.Pv) (EK:=PV.str) (.inr J) J J J J J J C4 (C5 A7)<|cF h p9 J J λv2 _ h=>z7 (es:=(h9 (h9 [] (p5 [112,114,111,103]) (⟨(some (75,none)),(some (76,none)),true⟩:b4)) (p5 [104,101,97,112]) (⟨(some (137,some v1)),(some (78,none)),true⟩:b4))) (k:=(p5 [110,101,119])) (v:=v2) (E:=b4.Pv) (EK:=PV.str) (.inr J) J J J J J J C4 (C5 A7)<|cF h p9 J J λv3 _ h=>z7 (es:=(h9 (h9 (h9 [] (p5 [112,114,111,103]) (⟨(some (75,none)),(some (76,none)),true⟩:b4)) (p5 [104,101,97,112]) (⟨(some (137,some v1)),(some (78,none)),true⟩:b4)) (p5 [110,101,119]) v2)) (k:=(p5 [99,111,112,121])) (v:=v3) (E:=b4.Pv) (EK:=PV.str) (.inr J) J J J J J J C4 (C5 A7)<|cF h p9 J J λv4 _ h=>z7 (es:=(h9 (h9 (h9 (h9 [] (p5 [112,114,111,103]) (⟨(some (75,none)),(some (76,none)),true⟩:b4)) (p5 [104,101,97,112]) (⟨(some (137,some v1)),(some (78,none)),true⟩:b4)) (p5 [110,101,119]) v2) (p5 [99,111,112,121]) v3)) (k:=(p5 [100,114,111,112])) (v:=v4) (E:=b4.Pv) (EK:=PV.str) (.inr J) J J J J J J C4 (C5 A7)<|cF h p9 J J λv5 _ h=>z7 (es:=(h9 (h9 (h9 (h9 (h9 [] (p5 [112,114,111,103]) (⟨(some (75,none)),(some (76,none)),true⟩:b4)) (p5 [104,101,97,112]) (⟨(some (137,some v1)),(some (78,none)),true⟩:b4)) (p5 [110,101,119]) v2) (p5 [99,111,112,121]) v3) (p5 [100,114,111,112]) v4)) (k:=(p5 [108,111,97,100])) (v:=v5) (E:=b4.Pv) (EK:=PV.str) (.inr J) J J J J J J C4 (C5 A7)<|cF h p9 J J λv6 _ h=>z7 (es:=(h9 (h9 (h9 (h9 (h9 (h9 [] (p5 [112,114,111,103]) (⟨(some (75,none)),(some (76,none)),true⟩:b4)) (p5 [104,101,97,112]) (⟨(some (137,some v1)),(some (78,none)),true⟩:b4)) (p5 [110,101,119]) v2) (p5 [99,111,112,121]) v3) (p5 [100,114,111,112]) v4) (p5 [108,111,97,100]) v5)) (k:=(p5 [115,116,111,114,101])) (v:=v6) (E:=b4.Pv) (EK:=PV.str) (.inr J) J J J J J J C4 (C5 A7)<|cF h p9 J J λv7 _ h=>z7 (es:=(h9 (h9 (h9 (h9 (h9 (h9 (h9 [] (p5 [112,114,111,103]) (⟨(some (75,none)),(some (76,none)),true⟩:b4)) (p5 [104,101,97,112]) (⟨(some (137,some v1)),(some (78,none)),true⟩:b4)) (p5 [110,101,119]) v2) (p5 [99,111,112,121]) v3) (p5 [100,114,111,112]) v4) (p5 [108,111,97,100]) v5) (p5 [115,116,111,114,101]) v6)) (k:=(p5 [119,101,97,107])) (v:=v7) (E:=b4.Pv) (EK:=PV.str) (.inr J) J J J J J J C4 (C5 A7)<|cF h p9 J J λv8 _ h=>z7 (es:=(h9 (h9 (h9 (h9 (h9 (h9 (h9 (h9 [] (p5 [112,114,111,103]) (⟨(some (75,none)),(some (76,none)),true⟩:b4)) (p5 [104,101,97,112]) (⟨(some (137,some v1)),(some (78,none)),true⟩:b4)) (p5 [110,101,119]) v2) (p5 [99,111,112,121]) v3) (p5 [100,114,111,112]) v4) (p5 [108,111,97,100]) v5) (p5 [115,116,111,114,101]) v6) (p5 [119,101,97,107]) v7)) (k:=(p5 [117,112])) (v:=v8) (E:=b4.Pv) (EK:=PV.str) (.inr J) J J J J J J C4 (C5 A7)<|cF h p9 J J λv9 _ h=>z7 (es:=(h9 (h9 (h9 (h9 (h9 (h9 (h9 (h9 (h9 [] (p5 [112,114,111,103]) (⟨(some (75,none)),(some (76,none)),true⟩:b4)) (p5 [104,101,97,112]) (⟨(some (137,some v1)),(some (78,none)),true⟩:b4)) (p5 [110,101,119]) v2) (p5 [99,111,112,121]) v3) (p5 [100,114,111,112]) v4) (p5 [108,111,97,100]) v5) (p5 [115,116,111,114,101]) v6) (p5 [119,101,97,107]) v7) (p5 [117,112]) v8)) (k:=(p5 [112,97,105,114])) (v:=v9) (E:=b4.Pv) (EK:=PV.str) (.inr J) J J J J J J C4 (C5 A7)<|cF h p9 J J λv10 _ h=>z7 (es:=(h9 (h9 (h9 (h9 (h9 (h9 (h9 (h9 (h9 (h9 [] (p5 [112,114,111,103]) (⟨(some (75,none)),(some (76,none)),true⟩:b4)) (p5 [104,101,97,112]) (⟨(some (137,some v1)),(some (78,none)),true⟩:b4)) (p5 [110,101,119]) v2) (p5 [99,111,112,121]) v3) (p5 [100,114,111,112]) v4) (p5 [108,111,97,100]) v5) (p5 [115,116,111,114,101]) v6) (p5 [119,101,97,107]) v7) (p5 [117,112]) v8) (p5 [112,97,105,114]) v9)) (k:=(p5 [103,101,116])) (v:=v10) (E:=b4.Pv) (EK:=PV.str) (.inr J) J J J J J J C4 (C5 A7)<|cF h p9 J J λv11 _ h=>z7 (es:=(h9 (h9 (h9 (h9 (h9 (h9 (h9 (h9 (h9 (h9 (h9 [] (p5 [112,114,111,103]) (⟨(some (75,none)),(some (76,none)),true⟩:b4)) (p5 [104,101,97,112]) (⟨(some (137,some v1)),(some (78,none)),true⟩:b4)) (p5 [110,101,119]) v2) (p5 [99,111,112,121]) v3) (p5 [100,114,111,112]) v4) (p5 [108,111,97,100]) v5) (p5 [115,116,111,114,101]) v6) (p5 [119,101,97,107]) v7) (p5 [117,112]) v8) (p5 [112,97,105,114]) v9) (p5 [103,101,116]) v10)) (k:=(p5 [115,97,109,101])) (v:=v11) (E:=b4.Pv) (EK:=PV.str) (.inr J) J J J J J J C4 (C5 A7) ?_;refine cF h p9 J J λv12 _ h=>z7 (es:=(h9 (h9 (h9 (h9 (h9 (h9 (h9 (h9 (h9 (h9 (h9 (h9 [] (p5 [112,114,111,103]) (⟨(some (75,none)),(some (76,none)),true⟩:b4)) (p5 [104,101,97,112]) (⟨(some (137,some v1)),(some (78,none)),true⟩:b4)) (p5 [110,101,119]) v2) (p5 [99,111,112,121]) v3) (p5 [100,114,111,112]) v4) (p5 [108,111,97,100]) v5) (p5 [115,116,111,114,101]) v6) (p5 [119,101,97,107]) v7) (p5 [117,112]) v8) (p5 [112,97,105,114]) v9) (p5 [103,101,116]) v10) (p5 [115,97,109,101]) v11)) (k:=(p5 [99,111,108,108,101,99,116])) (v:=v12) (E:=b4.Pv) (EK:=PV.str) (.inr J) J J J J J J C4 (C5 A7)<|cF h p9 J J λv13 _ h=>z7 (es:=(h9 (h9 (h9 (h9 (h9 (h9 (h9 (h9 (h9 (h9 (h9 (h9 (h9 [] (p5 [112,114,111,103]) (⟨(some (75,none)),(some (76,none)),true⟩:b4)) (p5 [104,101,97,112]) (⟨(some (137,some v1)),(some (78,none)),true⟩:b4)) (p5 [110,101,119]) v2) (p5 [99,111,112,121]) v3) (p5 [100,114,111,112]) v4) (p5 [108,111,97,100]) v5) (p5 [115,116,111,114,101]) v6) (p5 [119,101,97,107]) v7) (p5 [117,112]) v8) (p5 [112,97,105,114]) v9) (p5 [103,101,116]) v10) (p5 [115,97,109,101]) v11) (p5 [99,111,108,108,101,99,116]) v12)) (k:=(p5 [100,114,97,105,110])) (v:=v13) (E:=b4.Pv) (EK:=PV.str) (.inr J) J J J J J J C4 (C5 A7)<|cF h F5 J J λv14 hv14 h=>y0 J (o6 (cs:=[.fn (.func 137) [.rptr [.I v14]],.fn (.func 80) [],.bool false]) J a3w a1N J J J)<|E1 (a8P 18 (d':=.agg [fwE (some (137,some v14)),fwE (some (80,none)),.bool false]) J J)<|z7 (es:=(h9 (h9 (h9 (h9 (h9 (h9 (h9 (h9 (h9 (h9 (h9 (h9 (h9 (h9 [] (p5 [112,114,111,103]) (⟨(some (75,none)),(some (76,none)),true⟩:b4)) (p5 [104,101,97,112]) (⟨(some (137,some v1)),(some (78,none)),true⟩:b4)) (p5 [110,101,119]) v2) (p5 [99,111,112,121]) v3) (p5 [100,114,111,112]) v4) (p5 [108,111,97,100]) v5) (p5 [115,116,111,114,101]) v6) (p5 [119,101,97,107]) v7) (p5 [117,112]) v8) (p5 [112,97,105,114]) v9) (p5 [103,101,116]) v10) (p5 [115,97,109,101]) v11) (p5 [99,111,108,108,101,99,116]) v12) (p5 [100,114,97,105,110]) v13)) (k:=(p5 [108,105,118,101,115])) (v:=(⟨(some (137,some v14)),(some (80,none)),false⟩:b4)) (E:=b4.Pv) (EK:=PV.str) (.inr J) J J J J J J C4 (C5 A7)<|yc J (u9 J F5 J hv14)<|y0 J (o6 (cs:=[.fn (.func 137) [.rptr [.I v14]],.fn (.func 81) [],.bool false]) J a3w a1N J J J)<|E1 (a8P 20 (d':=.agg [fwE (some (137,some v14)),fwE (some (81,none)),.bool false]) J J)<|z7 (es:=(h9 (h9 (h9 (h9 (h9 (h9 (h9 (h9 (h9 (h9 (h9 (h9 (h9 (h9 (h9 [] (p5 [112,114,111,103]) (⟨(some (75,none)),(some (76,none)),true⟩:b4)) (p5 [104,101,97,112]) (⟨(some (137,some v1)),(some (78,none)),true⟩:b4)) (p5 [110,101,119]) v2) (p5 [99,111,112,121]) v3) (p5 [100,114,111,112]) v4) (p5 [108,111,97,100]) v5) (p5 [115,116,111,114,101]) v6) (p5 [119,101,97,107]) v7) (p5 [117,112]) v8) (p5 [112,97,105,114]) v9) (p5 [103,101,116]) v10) (p5 [115,97,109,101]) v11) (p5 [99,111,108,108,101,99,116]) v12) (p5 [100,114,97,105,110]) v13) (p5 [108,105,118,101,115]) (⟨(some (137,some v14)),(some (80,none)),false⟩:b4))) (k:=(p5 [114,111,111,116,115])) (v:=(⟨(some (137,some v14)),(some (81,none)),false⟩:b4)) (E:=b4.Pv) (EK:=PV.str) (.inr J) J J J J J J C4 (C5 A7)<|yc J (u9 J F5 J hv14)<|y0 J (o6 (cs:=[.fn (.func 137) [.rptr [.I v14]],.fn (.func 82) [],.bool false]) J a3w a1N J J J)<|E1 (a8P 22 (d':=.agg [fwE (some (137,some v14)),fwE (some (82,none)),.bool false]) J J)<|z7 (es:=(h9 (h9 (h9 (h9 (h9 (h9 (h9 (h9 (h9 (h9 (h9 (h9 (h9 (h9 (h9 (h9 [] (p5 [112,114,111,103]) (⟨(some (75,none)),(some (76,none)),true⟩:b4)) (p5 [104,101,97,112]) (⟨(some (137,some v1)),(some (78,none)),true⟩:b4)) (p5 [110,101,119]) v2) (p5 [99,111,112,121]) v3) (p5 [100,114,111,112]) v4) (p5 [108,111,97,100]) v5) (p5 [115,116,111,114,101]) v6) (p5 [119,101,97,107]) v7) (p5 [117,112]) v8) (p5 [112,97,105,114]) v9) (p5 [103,101,116]) v10) (p5 [115,97,109,101]) v11) (p5 [99,111,108,108,101,99,116]) v12) (p5 [100,114,97,105,110]) v13) (p5 [108,105,118,101,115]) (⟨(some (137,some v14)),(some (80,none)),false⟩:b4)) (p5 [114,111,111,116,115]) (⟨(some (137,some v14)),(some (81,none)),false⟩:b4))) (k:=(p5 [116,97,108,108,121])) (v:=(⟨(some (137,some v14)),(some (82,none)),false⟩:b4)) (E:=b4.Pv) (EK:=PV.str) (.inr J) J J J J J J C4 (C5 A7)<|S2 2 J<|R6 (a9D 0 5000001 J J)<|a7 ?_;cases h;exact f1

theorem a4S{a0}:PO Tryz.prog 13 [.str a0] (a2M a0) λr=>.tup [.I r.1,.bool r.2]:=by
 refine pO Tryz.func13 λr h _ _=>?_;refine S4 2 J<|a7z<|S4 3 J<|c5<|a7y ?_;refine jq h (λq=>St.of [(4,.I q.1),(5,.I q.2.1),(6,.I q.2.2)] []) (λq12 h=>?_) λκ8 h=>?_
 ·obtain⟨j9,j10,j11⟩:=q12;refine c5<|S4 2 J ?_;refine cN h (λhc h=>?_) λhc h=>?_
  ·refine S4 2 J ?_;refine a7 ?_;cases h;exact f2
  ·refine b5 ?_;refine S4 5 J<|a7 ?_;cases h;exact f2
 ·refine S3 1 J ?_;refine b3j 5000010 J J A7 J<|yN<|c6<|lq h (λq=>St.of [(4,.I q.1),(5,.I q.2.1),(6,.I q.2.2.1),(10,.ptr 5000010 0 0)] [(5000010,itR a0 q.2.2.2)]) W λq19 x18 h hx8=>?_;obtain⟨s14,s15,s16,s17⟩:=q19;refine sR ?_;refine b46 J J J (λhc9=>?_) (λhc9=>?_)
  ·have h:=ifT h (decide_eq_true hc9);refine S2 1 J<|c5 ?_;refine y7 true J (λ_=>?_) (λq=>nomatch q);refine b5<|c6<|S4 4 J<|c5<|c6<|S3 3 J<|k9 J (λhg=>om (d:=.int .i32 ((dec a0 s17).1:Int)) J)<|k9 J (λhg=>A0 (ct hg) J J)<|y0 J (A3 J J J (λq=>eqT q))<|S2 1 J ?_;refine cN h (λhc h=>?_) λhc h=>?_
   ·refine S4 1 J ?_;refine o9<|N2 (by decide)<|c4<|j7 ?_;exact eL h W
   ·refine S3 3 J ?_;refine k9 J (λhg=>om (d:=.int .i32 ((dec a0 s17).1:Int)) J)<|k9 J (λhg=>A0 (ct hg) J J)<|y0 J (D8 J J J (λq=>eqF q))<|S1 1 J<|k9 J (λhg=>mI J)<|k9 J (λhg=>A0 (ct hg) J J)<|y0 J (D8 J J J (λq=>eqF q))<|S2 1 J ?_;refine cN h (λhc h=>?_) λhc h=>?_
    ·refine S4 1 J ?_;refine o9<|N2 (by decide)<|c4<|N2 (by decide)<|c4<|j7 ?_;have h:=xL hx8 h;exact eJ h W
    ·refine b5 ?_;refine S3 4 J<|y0 J (b5E J b5o b6k J)<|S2 2 J<|S6 3 J ?_;exact eL h W
  ·have h:=ifF h (decide_eq_false hc9);refine S2 1 J<|c5 ?_;refine y7 false J (λq=>nomatch q) (λ_=>?_);refine o9<|c4<|c4<|j7 ?_;have h:=xL hx8 h;exact eJ h W

theorem a2O{a0}:PO Tryz.prog 43 [.L PV.str a0] (a0M a0) λr=>.tup [.L iF r.1,.bool r.2]:=by
 refine pO Tryz.func43 λr h _ _=>?_;refine S4 2 J<|S4 1 J ?_;refine jq h (λj10=>St.of [(4,.sl 910004)] [(910004,⟨List.map iF j10,(List.map iF j10).length,true,1,true⟩)]) (λj10 h=>?_) λκ9 h=>?_
 ·refine S4 3 J ?_;refine a7 ?_;cases h;exact f2
 ·refine S3 1 J ?_;refine nL J G9<|S2 1 J<|c6<|lq h (λq=>St.of [(4,.sl 910004),(9,.L PV.str a0),(10,.I (a0.length:Int)),(11,.I q.1)] [(910004,⟨List.map iF q.2,(List.map iF q.2).length,true,1,true⟩)]) (Wk.trans (J0 (t:=4) (l:=920004) (z:=1) J J) (WP (λl=>if l=910004 then 920004 else l))) λq15 x14 h hx10=>?_;obtain⟨s12,s13⟩:=q15;refine S4 1 J<|c5 ?_;refine cN h (λhc h=>?_) λhc h=>?_
  ·refine b5 ?_;refine c5<|c6<|sR<|iL h J J G9 V5 λv16 _ h=>S2 2 J<|S3 1 J<|cA h a4S J J λv17 _ h=>S2 5 J<|c5<|S4 2 J ?_;refine cN h (λhc h=>?_) λhc h=>?_
   ·refine S4 2 J ?_;refine a7 ?_;have h:=xL hx10 h;cases h;exact f2
   ·refine b5 ?_;refine S5 2 J<|y0 J (J2 (f:=iF) (l:=[v17.1]) J j1 l7 y9 J J nl J J)<|r9 h λv18 hv13 h=>N9 J (L5 (f:=iF) hv13 J J J J J J (.inl ⟨_,J,J⟩) j1 l7 J3 y9 J (λ_=>J)) J J J<|S2 1 J<|S6 2 J ?_;exact eL h (Wk.trans (l6 _ [25]) (WP (λl=>if l=910004 then 25 else l)))
  ·refine o9 ?_;refine c4<|c4<|j7 ?_;have h:=xL hx10 h;exact eJ h (Wk.trans (l6 _ [910004]) W)

theorem a2E{a0}:PO Tryz.prog 75 [.I a0] (Q2 a0) λr=>.bool r:=by
 refine pO Tryz.func75 λr h _ _=>?_;unfold Q2 at h;refine S4 1 J<|S3 1 J<|r9 h λv1 hv1 h=>y0 J (a5f J J hv1)<|S2 2 J<|a7 ?_;cases h;exact f1

theorem a2N{a0 a1}:PO Tryz.prog 137 [.I a0,.rptr [.I a1]] (T6 a0 a1) λr=>.bool r:=by
 refine pO Tryz.func137 λr h _ _=>?_;unfold T6 at h;refine S4 1 J<|S4 4 J<|a7 ?_;cases h;exact f1

theorem b0Q{f:Fw}{a0:Int}{r:Bool}(h:a9g f a0=some r):∃n cap,fwP f = .fn (.func n) cap∧FwC cap∧o7 Tryz.prog n∧E5 Tryz.prog n ([.I a0]++cap) (.bool r):=by
 unfold a9g at h;match f,h with
 | none,h=>cases h
 | some (n,none),h=>
  dsimp only at h;by_cases e75:n=75
  ·rw[if_pos e75] at h;subst e75;exact⟨75,_,J,.inl J,b5f,a2E.2 _ h⟩
  rw[if_neg e75] at h;cases h
 | some (n,some c),h=>
  dsimp only at h;by_cases e137:n=137
  ·rw[if_pos e137] at h;subst e137;exact⟨137,_,J,.inr ⟨c,J⟩,b3A,a2N.2 _ h⟩
  rw[if_neg e137] at h;cases h

theorem E3{a0}:PO Tryz.prog 27 [.I a0] (D6 a0) λr=>.str r:=by
 refine pO Tryz.func27 λr h _ _=>?_;unfold D6 at h;refine S4 1 J<|S3 1 J<|r9 h λv1 hv1 h=>y0 J (a5K J b0C J (b2M hv1))<|r9 h λv2 hv2 h=>y0 J (M0 hv2 J J A7)<|S2 1 J<|a7 ?_;cases h;exact f1

theorem a7X{a0}:PO Tryz.prog 55 [j5.Pv a0] (a4l a0) λr=>.bool r:=by
 refine pO Tryz.func55 λr h _ _=>?_;unfold a4l at h;refine S4 2 J<|S3 4 J<|k9 J (λhg=>oF J b2j J)<|k9 J (λhg=>oS (ct hg) J J G0 J)<|k9 J (λhg=>A0 (ct hg) J J)<|y0 J (A3 J J J (λq=>eqT q))<|S2 1 J<|a7 ?_;cases h;exact f1

theorem r8:PO Tryz.prog 168 [.fn (.func 169) []] (K9) λr=>c8.Pv r:=by
 refine pO Tryz.func168 λr h _ _=>?_;unfold K9 at h;refine S4 1 J<|S3 1 J<|y0 J (o6 (cs:=[.fn (.func 169) [],.I 0,.I 5,.I 6]) J S9 C3 J J J)<|E1 (a2C 4 (d':=.agg [fvE (some 169),.I 0,.I 5,.I 6]) J)<|S2 1 J<|a7 ?_;cases h;exact⟨J,[_],⟨oL J J J a0c D1 nl J,tr⟩,J,io⟩

theorem L4:PO Tryz.prog 171 [.fn (.func 172) []] (H0) λr=>c8.Pv r:=by
 refine pO Tryz.func171 λr h _ _=>?_;unfold H0 at h;refine S4 1 J<|S3 1 J<|y0 J (o6 (cs:=[.fn (.func 172) [],.I (-1),.I 5,.I 13]) J S9 C3 J J J)<|E1 (a2C 4 (d':=.agg [fvE (some 172),.I (-1),.I 5,.I 13]) J)<|S2 1 J<|a7 ?_;cases h;exact⟨J,[_],⟨oL J J J a0c D1 nl J,tr⟩,J,io⟩

theorem y4{a0}:PO Tryz.prog 167 [.L c8.Pv a0] (C1 a0) λr=>.L c8.Pv r:=by
 refine pO Tryz.func167 λr h _ _=>?_;unfold C1 at h;refine S4 1 J<|S4 2 J<|a7 ?_;cases h;exact f1

theorem D2:PO Tryz.prog 168 [.fn (.func 170) []] (L0) λr=>c8.Pv r:=by
 refine pO Tryz.func168 λr h _ _=>?_;unfold L0 at h;refine S4 1 J<|S3 1 J<|y0 J (o6 (cs:=[.fn (.func 170) [],.I 0,.I 5,.I 6]) J S9 C3 J J J)<|E1 (a2C 4 (d':=.agg [fvE (some 170),.I 0,.I 5,.I 6]) J)<|S2 1 J<|a7 ?_;cases h;exact⟨J,[_],⟨oL J J J a0c D1 nl J,tr⟩,J,io⟩

theorem a0E:PO Tryz.prog 173 [.fn (.func 172) []] (J6) λr=>c8.Pv r:=by
 refine pO Tryz.func173 λr h _ _=>?_;unfold J6 at h;refine S4 1 J<|S3 1 J<|y0 J (o6 (cs:=[.fn (.func 172) [],.I 0,.I 3,.I 5]) J S9 C3 J J J)<|E1 (a2C 4 (d':=.agg [fvE (some 172),.I 0,.I 3,.I 5]) J)<|S2 1 J<|a7 ?_;cases h;exact⟨J,[_],⟨oL J J J a0c D1 nl J,tr⟩,J,io⟩

theorem a0D:PO Tryz.prog 173 [.fn (.func 170) []] (J5) λr=>c8.Pv r:=by
 refine pO Tryz.func173 λr h _ _=>?_;unfold J5 at h;refine S4 1 J<|S3 1 J<|y0 J (o6 (cs:=[.fn (.func 170) [],.I 0,.I 3,.I 5]) J S9 C3 J J J)<|E1 (a2C 4 (d':=.agg [fvE (some 170),.I 0,.I 3,.I 5]) J)<|S2 1 J<|a7 ?_;cases h;exact⟨J,[_],⟨oL J J J a0c D1 nl J,tr⟩,J,io⟩

theorem W2:PO Tryz.prog 174 [.fn (.func 172) []] (E9) λr=>c8.Pv r:=by
 refine pO Tryz.func174 λr h _ _=>?_;unfold E9 at h;refine S4 1 J<|S3 1 J<|y0 J (o6 (cs:=[.fn (.func 172) [],.I (-1),.I 5,.I 6]) J S9 C3 J J J)<|E1 (a2C 4 (d':=.agg [fvE (some 172),.I (-1),.I 5,.I 6]) J)<|S2 1 J<|a7 ?_;cases h;exact⟨J,[_],⟨oL J J J a0c D1 nl J,tr⟩,J,io⟩

theorem a04:PO Tryz.prog 175 [.fn (.func 169) []] (K7) λr=>c8.Pv r:=by
 refine pO Tryz.func175 λr h _ _=>?_;unfold K7 at h;refine S4 1 J<|S3 1 J<|y0 J (o6 (cs:=[.fn (.func 169) [],.I 0,.I 5,.I 7]) J S9 C3 J J J)<|E1 (a2C 4 (d':=.agg [fvE (some 169),.I 0,.I 5,.I 7]) J)<|S2 1 J<|a7 ?_;cases h;exact⟨J,[_],⟨oL J J J a0c D1 nl J,tr⟩,J,io⟩

theorem I3:PO Tryz.prog 174 [.fn (.func 170) []] (E8) λr=>c8.Pv r:=by
 refine pO Tryz.func174 λr h _ _=>?_;unfold E8 at h;refine S4 1 J<|S3 1 J<|y0 J (o6 (cs:=[.fn (.func 170) [],.I (-1),.I 5,.I 6]) J S9 C3 J J J)<|E1 (a2C 4 (d':=.agg [fvE (some 170),.I (-1),.I 5,.I 6]) J)<|S2 1 J<|a7 ?_;cases h;exact⟨J,[_],⟨oL J J J a0c D1 nl J,tr⟩,J,io⟩

theorem a05:PO Tryz.prog 175 [.fn (.func 170) []] (K8) λr=>c8.Pv r:=by
 refine pO Tryz.func175 λr h _ _=>?_;unfold K8 at h;refine S4 1 J<|S3 1 J<|y0 J (o6 (cs:=[.fn (.func 170) [],.I 0,.I 5,.I 7]) J S9 C3 J J J)<|E1 (a2C 4 (d':=.agg [fvE (some 170),.I 0,.I 5,.I 7]) J)<|S2 1 J<|a7 ?_;cases h;exact⟨J,[_],⟨oL J J J a0c D1 nl J,tr⟩,J,io⟩

theorem a6t:PO Tryz.prog 94 [] (a4R) λr=>.abs (I0 (List.map (ent iF (Ls c8.Pv)) r)):=by
 refine pO Tryz.func94 λr h _ _=>?_;refine S4 1 J<|sR<|a8R (KT:=Int) (VT:=List c8) (EK:=iF) (E:=(Ls c8.Pv)) 5000001 J J<|cF h r8 J J λv1 hv1 h=>y0 J (o6 (cs:=[.fn (.func 170) [],.I 0,.I 4,.I 1]) J S9 C3 J J J)<|E1 (a2C 3 (d':=.agg [fvE (some 170),.I 0,.I 4,.I 1]) J)<|cF h L4 J J λv2 hv2 h=>y0 J (J2 (f:=c8.Pv) (l:=[v1,(⟨(some 170),0,4,1⟩:c8),v2]) J M9 D1 C3 J J nl J J)<|cF h y4 J J λv3 _ h=>z7 (es:=[]) (k:=1) (v:=v3) (E:=(Ls c8.Pv)) (EK:=iF) (.inr J) J J J J J J I2 (s6 D5)<|yc J (u9 J r8 J hv1)<|cF h D2 J J λv4 hv4 h=>y0 J (J2 (f:=c8.Pv) (l:=[v1,v4]) J M9 D1 C3 J J nl J J)<|cF h y4 J J λv5 hv5 h=>z7 (es:=(h9 [] 1 v3)) (k:=2) (v:=v5) (E:=(Ls c8.Pv)) (EK:=iF) (.inr J) J J J J J J I2 (s6 D5)<|yc J (u9 J r8 J hv1)<|y0 J (J2 (f:=c8.Pv) (l:=[v1]) J M9 D1 C3 J J nl J J)<|cF h y4 J J λv6 _ h=>z7 (es:=(h9 (h9 [] 1 v3) 2 v5)) (k:=3) (v:=v6) (E:=(Ls c8.Pv)) (EK:=iF) (.inr J) J J J J J J I2 (s6 D5)<|yc J (u9 J r8 J hv1)<|yc J (u9 J D2 J hv4)<|cF h a0E J J λv7 _ h=>y0 J (J2 (f:=c8.Pv) (l:=[v1,v4,v7]) J M9 D1 C3 J J nl J J)<|cF h y4 J J λv8 _ h=>z7 (es:=(h9 (h9 (h9 [] 1 v3) 2 v5) 3 v6)) (k:=4) (v:=v8) (E:=(Ls c8.Pv)) (EK:=iF) (.inr J) J J J J J J I2 (s6 D5)<|yc J (u9 J r8 J hv1)<|cF h a0D J J λv9 _ h=>cF h W2 J J λv10 _ h=>y0 J (J2 (f:=c8.Pv) (l:=[v1,v9,v10]) J M9 D1 C3 J J nl J J)<|cF h y4 J J λv11 _ h=>?_;refine z7 (es:=(h9 (h9 (h9 (h9 [] 1 v3) 2 v5) 3 v6) 4 v8)) (k:=5) (v:=v11) (E:=(Ls c8.Pv)) (EK:=iF) (.inr J) J J J J J J I2 (s6 D5)<|cF h a04 J J λv12 _ h=>cF h I3 J J λv13 hv13 h=>yc J (u9 J L4 J hv2)<|y0 J (J2 (f:=c8.Pv) (l:=[v12,v13,v2]) J M9 D1 C3 J J nl J J)<|cF h y4 J J λv14 _ h=>z7 (es:=(h9 (h9 (h9 (h9 (h9 [] 1 v3) 2 v5) 3 v6) 4 v8) 5 v11)) (k:=6) (v:=v14) (E:=(Ls c8.Pv)) (EK:=iF) (.inr J) J J J J J J I2 (s6 D5)<|yc J (u9 J r8 J hv1)<|cF h a05 J J λv15 _ h=>y0 J (J2 (f:=c8.Pv) (l:=[v1,v15]) J M9 D1 C3 J J nl J J)<|cF h y4 J J λv16 _ h=>z7 (es:=(h9 (h9 (h9 (h9 (h9 (h9 [] 1 v3) 2 v5) 3 v6) 4 v8) 5 v11) 6 v14)) (k:=7) (v:=v16) (E:=(Ls c8.Pv)) (EK:=iF) (.inr J) J J J J J J I2 (s6 D5)<|yc J (u9 J r8 J hv1)<|yc J (u9 J I3 J hv13)<|y0 J (J2 (f:=c8.Pv) (l:=[v1,v13]) J M9 D1 C3 J J nl J J)<|cF h y4 J J λv17 _ h=>z7 (es:=(h9 (h9 (h9 (h9 (h9 (h9 (h9 [] 1 v3) 2 v5) 3 v6) 4 v8) 5 v11) 6 v14) 7 v16)) (k:=8) (v:=v17) (E:=(Ls c8.Pv)) (EK:=iF) (.inr J) J J J J J J I2 (s6 D5)<|yc J (u9 J r8 J hv1)<|yc J (u9 J D2 J hv4)<|y0 J (J2 (f:=c8.Pv) (l:=[v1,v4]) J M9 D1 C3 J J nl J J)<|yc J (u9 J y4 J hv5)<|z7 (es:=(h9 (h9 (h9 (h9 (h9 (h9 (h9 (h9 [] 1 v3) 2 v5) 3 v6) 4 v8) 5 v11) 6 v14) 7 v16) 8 v17)) (k:=9) (v:=v5) (E:=(Ls c8.Pv)) (EK:=iF) (.inr J) J J J J J J I2 (s6 D5)<|yc J (u9 J r8 J hv1)<|yc J (u9 J D2 J hv4)<|y0 J (J2 (f:=c8.Pv) (l:=[v1,v4]) J M9 D1 C3 J J nl J J)<|yc J (u9 J y4 J hv5)<|z7 (es:=(h9 (h9 (h9 (h9 (h9 (h9 (h9 (h9 (h9 [] 1 v3) 2 v5) 3 v6) 4 v8) 5 v11) 6 v14) 7 v16) 8 v17) 9 v5)) (k:=10) (v:=v5) (E:=(Ls c8.Pv)) (EK:=iF) (.inr J) J J J J J J I2 (s6 D5)<|cF h y4 J J λv18 _ h=>z7 (es:=(h9 (h9 (h9 (h9 (h9 (h9 (h9 (h9 (h9 (h9 [] 1 v3) 2 v5) 3 v6) 4 v8) 5 v11) 6 v14) 7 v16) 8 v17) 9 v5) 10 v5)) (k:=11) (v:=v18) (E:=(Ls c8.Pv)) (EK:=iF) (.inr J) J J J J J J I2 (s6 D5)<|y0 J (o6 (cs:=[.fn (.func 169) [],.I 0,.I 200,.I 12]) J S9 C3 J J J) ?_;refine E1 (a2C 46 (d':=.agg [fvE (some 169),.I 0,.I 200,.I 12]) J)<|y0 J (J2 (f:=c8.Pv) (l:=[(⟨(some 169),0,200,12⟩:c8)]) J M9 D1 C3 J J nl J J)<|cF h y4 J J λv19 _ h=>z7 (es:=(h9 (h9 (h9 (h9 (h9 (h9 (h9 (h9 (h9 (h9 (h9 [] 1 v3) 2 v5) 3 v6) 4 v8) 5 v11) 6 v14) 7 v16) 8 v17) 9 v5) 10 v5) 11 v18)) (k:=12) (v:=v19) (E:=(Ls c8.Pv)) (EK:=iF) (.inr J) J J J J J J I2 (s6 D5)<|S2 2 J<|R6 (a9D 0 5000001 J J)<|a7 ?_;cases h;exact f1

theorem a3Q{a0}:PO Tryz.prog 169 [j5.Pv a0] (a4n a0) λr=>.I r:=by
 refine pO Tryz.func169 λr h _ _=>?_;unfold a4n at h;refine S4 2 J<|S4 3 J<|a7 ?_;cases h;exact f1

theorem a3R{a0}:PO Tryz.prog 170 [j5.Pv a0] (a4o a0) λr=>.I r:=by
 refine pO Tryz.func170 λr h _ _=>?_;unfold a4o at h;refine S4 2 J<|S4 3 J<|a7 ?_;cases h;exact f1

theorem a3S{a0}:PO Tryz.prog 172 [j5.Pv a0] (a4p a0) λr=>.I r:=by
 refine pO Tryz.func172 λr h _ _=>?_;unfold a4p at h;refine S4 2 J<|S4 3 J<|a7 ?_;cases h;exact f1

theorem b0O{f:Fv}{a0:j5}{r:Int}(h:a9d f a0=some r):∃n,f=some n∧o7 Tryz.prog n∧E5 Tryz.prog n [j5.Pv a0] (.I r):=by
 unfold a9d at h;by_cases e169:f=some 169
 ·rw[if_pos e169] at h;exact⟨169,e169,(@a3Q a0).1,(@a3Q a0).2 _ h⟩
 rw[if_neg e169] at h;by_cases e170:f=some 170
 ·rw[if_pos e170] at h;exact⟨170,e170,(@a3R a0).1,(@a3R a0).2 _ h⟩
 rw[if_neg e170] at h;by_cases e172:f=some 172
 ·rw[if_pos e172] at h;exact⟨172,e172,(@a3S a0).1,(@a3S a0).2 _ h⟩
 rw[if_neg e172] at h;cases h

theorem a03{a0}:PO Tryz.prog 56 [j5.Pv a0] (a0m a0) λr=>.I r:=by
 refine pO Tryz.func56 λr h _ _=>?_;unfold a0m at h;refine S4 2 J<|dr [] p7 (by kernel_rfl) (by kernel_rfl)<|r9 h λv1 hv1 h=>d2f J (u9 J a6t J hv1) J<|S7 2 J<|d4 J (b0d (es:=v1) (k:=a0.Kind) (E:=(Ls c8.Pv)) (EK:=iF) (d:=.tup [.L c8.Pv ((F7 v1 a0.Kind).getD ([]:List c8)),.bool ((F7 v1 a0.Kind).isSome)]) J J I2 (s6 D5) b33 J (lk2 _ _ ([]:List c8))) J<|S8 5 J<|c5<|S4 2 J ?_;refine cN h (λhc h=>?_) λhc h=>?_
 ·refine S4 1 J ?_;refine a7 ?_;cases h;exact f1
 ·refine b5 ?_;refine jq h (λ_=>St.of [] []) (λq9 h=>?_) λκ8 h=>?_
  ·refine S4 1 J ?_;refine a7 ?_;cases h;exact f1
  ·refine S3 1 J ?_;refine nL J M9<|S2 1 J<|c6<|lq h (λs11=>St.of [(1,.ptr 1 0 0),(17,.L c8.Pv ((F7 v1 a0.Kind).getD ([]:List c8))),(18,.I (((F7 v1 a0.Kind).getD ([]:List c8)).length:Int)),(19,.I s11)] [(1,vR (j5.Pv a0) 4)]) W λs11 x12 h hx13=>S4 1 J<|c5 ?_;refine cN h (λhc h=>?_) λhc h=>?_
   ·refine b5 ?_;refine c5<|c6<|sR<|iL h J J M9 D1 λv13 _ h=>S2 3 J<|S3 3 J ?_;obtain⟨v14,hv15,h⟩:=a1l h;obtain⟨n15,he16,hk17,hp18⟩:=b0O hv15;refine E1 (b42 24 J he16)<|y0 J (a5K J hk17 J hp18)<|S2 1 J<|S3 5 J<|k9 J (λhg=>mI J)<|k9 J (λhg=>oF J b1M J)<|k9 J (λhg=>oS (ct hg) J J G0 J)<|k9 J (λhg=>A0 (ct hg) (ct hg) J)<|y0 J (D8 J J J (λq=>eqF q))<|yN ?_;refine cN h (λhc h=>?_) λhc h=>?_
    ·refine S4 3 J ?_;refine a7 ?_;have h:=xL hx13 h;cases h;exact f1
    ·refine b5 ?_;refine S6 2 J ?_;exact eL h W
   ·refine o9 ?_;refine c4<|c4<|j7 ?_;have h:=xL hx13 h;exact eJ h W

theorem a3P{a0}:PO Tryz.prog 30 [.L (Ls j5.Pv) a0] (a4m a0) λr=>.bool r:=by
 refine pO Tryz.func30 λr h _ _=>?_;refine S4 1 J<|c5<|S3 1 J<|nL J a0l<|S2 1 J ?_;refine cN h (λhc h=>?_) λhc h=>?_
 ·refine S4 1 J ?_;refine a7 ?_;cases h;exact f1
 ·refine b5 ?_;refine jq h (λ_=>St.of [] []) (λq21 h=>?_) λκ20 h=>?_
  ·refine S4 1 J ?_;refine a7 ?_;cases h;exact f1
  ·refine S3 1 J ?_;refine nL J a0l<|S2 1 J<|c6<|lq h (λs23=>St.of [(10,.L (Ls j5.Pv) a0),(11,.I (a0.length:Int)),(12,.I s23)] []) W λs23 x24 h hx22=>S4 1 J<|c5 ?_;refine cN h (λhc h=>?_) λhc h=>?_
   ·refine b5 ?_;refine jq h (λ_=>St.of [(10,.L (Ls j5.Pv) a0),(11,.I (a0.length:Int)),(12,.I s23)] []) (λq33 h=>?_) λκ32 h=>?_
    ·refine S6 2 J ?_;exact eL h W
    ·refine c6 ?_;refine sR<|iL h J J a0l a0d λv34 _ h=>S2 2 J<|c5<|S3 1 J<|nL J a0J<|S2 1 J ?_;refine cN h (λhc h=>?_) λhc h=>?_
     ·refine S4 1 J ?_;refine a7 ?_;have h:=xL hx22 h;cases h;exact f1
     ·refine b5 ?_;refine S3 1 J<|nL J a0J<|S2 1 J<|c6<|lq h (λs36=>St.of [(10,.L (Ls j5.Pv) a0),(11,.I (a0.length:Int)),(12,.I s23),(19,.L j5.Pv v34),(20,.I (v34.length:Int)),(21,.I s36)] []) W λs36 x37 h hx34=>S4 1 J<|c5 ?_;refine cN h (λhc h=>?_) λhc h=>?_
      ·refine b5 ?_;refine c5<|c6<|sR<|iL h J J a0J a1L λv38 _ h=>S2 3 J<|S3 1 J<|cA h a7X J J λv39 _ h=>S1 2 J<|k9 J (λhg=>oL J J J a8U a1L nl J)<|r9 h λv40 hv37 h=>k9 J (λhg=>H3 J a03 (a0o (ct hg) J) (L6 hv37 hg))<|k9 J (λhg=>A0 (ct hg) J J)<|y0 J (D8 J J J (λq=>eqF q))<|yN ?_;refine cN h (λhc h=>?_) λhc h=>?_
       ·refine S4 1 J ?_;refine a7 ?_;have h:=xL hx34 h;have h:=xL hx22 h;cases h;exact f1
       ·refine b5 ?_;refine S6 2 J ?_;exact eL h W
      ·refine o9 ?_;refine c4<|c4<|j7 ?_;have h:=xL hx34 h;exact eJ h W
   ·refine o9 ?_;refine c4<|c4<|j7 ?_;have h:=xL hx22 h;exact eJ h W

theorem a0p{a0 a1}:PO Tryz.prog 76 [c3.Pv a0,.L iF a1] (R2 a0 a1) λr=>.tup [c3.Pv r.1,.str r.2]:=by
 refine pO Tryz.func76 λr h _ _=>?_;refine S4 3 J<|S3 1 J<|iL h J J j1 l7 λv1 _ h=>S2 2 J<|c5<|S3 3 J<|k9 J (λhg=>mI J)<|k9 J (λhg=>A0 (ct hg) J J)<|y0 J (D8 J J J (λq=>eqF q))<|yN ?_;refine cN h (λhc h=>?_) λhc h=>?_
 ·refine dr [] p7 (by kernel_rfl) (by kernel_rfl) ?_;refine S7 1 J<|r9 h λv2 hv2 h=>d2 J (H3 J E3 J hv2) J<|x4 (x':=c3.Pv a0) (cl':=true) J J (.inr J) F4<|S8 1 J<|a7 ?_;cases h;exact⟨J,[_,_],⟨oL J J J S0 F4 nl J,⟨J,tr⟩⟩,J,io⟩
 ·refine b5 ?_;refine S3 4 J<|nL J a0l<|y0 J (b1v J J J)<|r9 h λv3 hv3 h=>y1 J (a7v (f:=(Ls j5.Pv)) hv3 J J J a0l a0d b3Z b3v J J J) J<|S2 1 J<|S3 3 J<|r9 h λv4 hv4 h=>b58 (f:=(Ls j5.Pv)) hv4 J J J (.inl ⟨_,J,J⟩) a0l a0d (λ_=>J) (by decide)<|yN<|S3 2 J<|r9 h λv5 hv5 h=>y0 J (a0w (f:=(Ls j5.Pv)) hv5 J J J J a0l a0d J)<|b4F (f:=(Ls j5.Pv)) 930026 4 hv5 J J J a0d J J J J<|yN ?_;refine jq h (λj19=>St.of [(2,.ptr 2 0 0),(4,.ptr 4 0 0),(7,.sl 26)] [(26,⟨a4A (Ls j5.Pv) v4 ((v1).toNat) 930026,0,true,1,false⟩),(930026,⟨List.map j5.Pv j19,(List.map j5.Pv j19).length,true,4,true⟩),(4,vR (.agg [.nl,.I 0,.I 0,.nl,.nl,.nl,.nl,.I 0,.nl,.bool false,.nl]) 11),(2,vR (c3.Pv a0) 11)]) (λj19 h=>?_) λκ18 h=>?_
  ·refine c5 ?_;refine R6 (b54 (l:=26) (r:=930026) (f:=(Ls j5.Pv)) (gE:=j5.Pv) (v:=j19) J (b6q hv5) J J J J (λ_=>J) J)<|S3 1 J<|cA h a3P J J λv20 _ h=>S2 1 J ?_;refine cN h (λhc h=>?_) λhc h=>?_
   ·refine dr [] p7 (by kernel_rfl) (by kernel_rfl) ?_;refine S7 1 J<|r9 h λv21 hv18 h=>d2 J (H3 J E3 J hv18) J<|x4 (x':=c3.Pv a0) (cl':=true) J J (.inr J) F4<|S8 1 J<|a7 ?_;cases h;exact⟨J,[_,_],⟨oL J J J S0 F4 nl J,⟨J,tr⟩⟩,J,io⟩
   ·refine b5 ?_;refine S4 3 J<|S4 3 J<|a7 ?_;cases h;exact⟨J,[_,_],⟨oL J J J S0 F4 nl J,⟨J,tr⟩⟩,J,io⟩
  ·refine S3 1 J ?_;obtain⟨v22,hv19,h⟩:=a1l h;refine y0 J (a9l (f:=iF) hv19 J ⟨_,J⟩ J j1 l7 (λ_=>J))<|S2 1 J<|c6<|lq h (λq=>St.of [(2,.ptr 2 0 0),(4,.ptr 4 0 0),(6,.I v1),(7,.sl 26),(8,.L iF q.1)] [(26,⟨a4A (Ls j5.Pv) v4 ((v1).toNat) 930026,0,true,1,false⟩),(930026,⟨List.map j5.Pv q.2,(List.map j5.Pv q.2).length,true,4,true⟩),(4,vR (.agg [.nl,.I 0,.I 0,.nl,.nl,.nl,.nl,.I 0,.nl,.bool false,.nl]) 11),(2,vR (c3.Pv a0) 11)]) (Wk.trans (l6 _ [930026]) (a5r _ _ ⟨J,J,J,J,J,J,J,J,J,J,J,J,J,J,J,tr⟩ ⟨a5R J J J (λ_=>J) J J J J (λ_=>J) (λ_=>J) (λ_=>J),rS,rS,rS,tr⟩)) λq27 x26 h hx22=>?_;obtain⟨s24,s25⟩:=q27;refine c5<|S3 1 J<|nL J j1<|S2 1 J ?_;refine cN h (λhc h=>?_) λhc h=>?_
   ·refine b5 ?_;refine c5<|c6<|a7x [] p7 (by kernel_rfl) (by kernel_rfl)<|S7 4 J<|d0 J (b4W (f:=(Ls j5.Pv)) hv5 J J J J a0l a0d J) J<|d0 J (b6w (f:=(Ls j5.Pv)) hv5 J J J b3u) J<|S7 1 J<|r9 h λv28 hv23 h=>d0 J (B4 (f:=iF) (cs:=[.I v28]) hv23 J J j1 l7 J J) J<|S7 2 J<|r9 h λv29 hv24 h=>d0 J (B4 (f:=iF) (cs:=[.I v29]) hv24 J J j1 l7 J J) J<|S7 2 J<|r9 h λv30 hv25 h=>d0 J (B4 (f:=iF) (cs:=[.I v30]) hv25 J J j1 l7 J J) J<|S7 2 J<|r9 h λv31 hv26 h=>d0 J (B4 (f:=iF) (cs:=[.I v31]) hv26 J J j1 l7 J J) J<|S7 1 J<|d7 J (λ_ hN=>o6 (cs:=[.I v28,.I v29,.I v30,.I v31]) J a8Y a5t J J J) J<|d1n J (J2 (f:=j5.Pv) (l:=[(⟨v28,v29,v30,v31⟩:j5)]) J a0J a1L a5t J J nl J J) J<|r9 h λv32 hv27 h=>d3a J (L5 (f:=j5.Pv) hv27 J J J J J J (.inl ⟨_,J,J⟩) a0J a1L b5c a5t J (λ_=>J)) J J J J J<|d0 J (b4W (f:=(Ls j5.Pv)) hv5 J J J J a0l a0d J) J<|b6m (f:=(Ls j5.Pv)) hv5 J J J a0d J<|R3<|S5 1 J<|r9 h λv33 hv28 h=>y0 J (a9l (f:=iF) hv28 J ⟨_,J⟩ J j1 l7 (λ_=>J))<|S2 1 J ?_;exact eL h (Wk.trans (l6 _ [61]) (b04 (λl=>if l=930026 then 61 else l) _ _ ⟨J,J,J,J,J,J,J,J,J,J,J,J,J,J,J,tr⟩ ⟨a5R J J J (λ_=>J) J J J J (λ_=>J) (λ_=>J) (λ_=>J),rN,rN,rN,tr⟩ J))
   ·refine o9 ?_;refine c4<|c4<|j7 ?_;have h:=xL hx22 h;exact eJ h (Wk.trans (l6 _ [930026]) (a5r _ _ ⟨J,J,J,J,J,J,J,J,J,tr⟩ ⟨a5R J J J (λ_=>J) J J J J (λ_=>J) (λ_=>J) (λ_=>J),rS,rS,rS,tr⟩))

theorem a2I{a0 a1}:PO Tryz.prog 95 [.I a0,.I a1] (a0A a0 a1) λr=>b9.Pv r:=by
 refine pO Tryz.func95 λr h _ _=>?_;refine S4 1 J<|c5<|S3 3 J<|k9 J (λhg=>mI J)<|k9 J (λhg=>A0 (ct hg) J J)<|y0 J (D8 J J J (λq=>eqF q))<|S1 1 J<|k9 J (λhg=>mI J)<|k9 J (λhg=>A0 (ct hg) J J)<|y0 J (D8 J J J (λq=>eqF q))<|S1 1 J<|k9 J (λhg=>mI J)<|k9 J (λhg=>A0 (ct hg) J J)<|y0 J (D8 J J J (λq=>eqF q))<|yN ?_;refine cN h (λhc h=>?_) λhc h=>?_
 ·refine sR ?_;refine y0 J (o6 (cs:=[.nl,.I 0]) J b2k b2p J J J)<|a3u (x':=.agg [.nl,.I 0]) (cl':=true) J J (.inl J) T0<|yN<|a7 ?_;cases h;exact⟨J,[_],⟨oL J J J Y4 T0 nl J,tr⟩,J,io⟩
 ·refine b5 ?_;refine S3 1 J<|r9 h λv1 hv1 h=>y1 J (a7v (f:=b6.Pv) hv1 J J J I1 H7 a3x b1a J J J) J<|S1 1 J<|y0 J (o6 (cs:=[.sl 21,.I a1]) J b2k b2p J J J)<|S2 1 J<|a7 ?_;cases h;exact⟨J,[_],⟨oL J J J Y4 T0 nl J,tr⟩,J,io⟩

theorem a9v{a0 a1}:PO Tryz.prog 57 [.I a0,.I a1] (a8M a0 a1) λr=>b8.Pv r:=by
 refine pO Tryz.func57 λr h _ _=>?_;refine S4 1 J<|S3 2 J<|cF h a2I J J λv1 _ h=>y0 J (o6 (cs:=[.L b6.Pv v1.o8,.I v1.Last,.I 0]) J b2l b2q J J J)<|S2 1 J<|a7 ?_;cases h;exact⟨J,[_],⟨oL J J J a1G a1K nl J,tr⟩,J,io⟩

theorem b0q{a0}:PO Tryz.prog 58 [.I a0] (b0p a0) λr=>.L c9.Pv r:=by
 refine pO Tryz.func58 λr h _ _=>?_;refine S4 1 J<|c5<|S3 3 J<|k9 J (λhg=>mI J)<|k9 J (λhg=>A0 (ct hg) J J)<|y0 J (D8 J J J (λq=>eqF q))<|yN ?_;refine cN h (λhc h=>?_) λhc h=>?_
 ·refine S4 1 J ?_;refine a7 ?_;cases h;exact f1
 ·refine b5 ?_;refine S3 1 J<|r9 h λv1 hv1 h=>y1 J (a7v (f:=c9.Pv) hv1 J J J K5 L3 a81 b09 J J J) J<|S2 1 J ?_;refine jq h (λj9=>St.of [(3,.sl 12)] [(12,⟨List.map c9.Pv j9,0,true,3,true⟩)]) (λj9 h=>?_) λκ8 h=>?_
  ·refine S4 2 J ?_;refine a7 ?_;cases h;exact f1
  ·refine S3 1 J ?_;refine y0 J (a8H (f:=c9.Pv) J J J K5)<|S2 1 J<|c6<|lq h (λq=>St.of [(3,.sl 12),(14,.I (v1.length:Int)),(15,.I q.1)] [(12,⟨List.map c9.Pv q.2,0,true,3,true⟩)]) W λq14 x13 h hx9=>?_;obtain⟨s11,s12⟩:=q14;refine S4 1 J<|c5 ?_;refine cN h (λhc h=>?_) λhc h=>?_
   ·refine b5 ?_;refine c5<|c6<|S4 2 J<|S5 2 J<|r9 h λv15 hv10 h=>y0 J (a0w (f:=c9.Pv) hv10 J J J J K5 L3 J)<|S1 1 J<|a4h (f:=c9.Pv) (v:=(⟨v15.Target,v15.Intact,(-1)⟩:c9)) hv10 J J (.inl J) l7<|yN<|S6 2 J ?_;exact eL h W
   ·refine o9 ?_;refine c4<|c4<|j7 ?_;have h:=xL hx9 h;exact eJ h W

theorem a9Y{a0}:PO Tryz.prog 59 [.I a0] (a9X a0) λr=>.L a8.Pv r:=by
 refine pO Tryz.func59 λr h _ _=>?_;refine S4 1 J<|c5<|S3 3 J<|k9 J (λhg=>mI J)<|k9 J (λhg=>A0 (ct hg) J J)<|y0 J (D8 J J J (λq=>eqF q))<|yN ?_;refine cN h (λhc h=>?_) λhc h=>?_
 ·refine S4 1 J ?_;refine a7 ?_;cases h;exact f1
 ·refine b5 ?_;refine S3 1 J<|r9 h λv1 hv1 h=>y1 J (a7v (f:=a8.Pv) hv1 J J J Q1 P8 a6G b1b J J J) J<|S2 1 J<|a7 ?_;cases h;exact f1

theorem a15{a0}:PO Tryz.prog 96 [.I a0] (O5 a0) λr=>b7.Pv r:=by
 refine pO Tryz.func96 λr h _ _=>?_;unfold O5 at h;refine S4 1 J<|S3 1 J<|y0 J (o6 (cs:=[.nl,.I a0]) J b5m b5q J J J)<|a3u (x':=.agg [.nl,.I a0]) (cl':=true) J J (.inl J) T3<|yN<|a7 ?_;cases h;exact⟨J,[_],⟨oL J J J a02 T3 nl J,tr⟩,J,io⟩

theorem b0l:PO Tryz.prog 60 [] (b0k) λr=>b7.Pv r:=by
 refine pO Tryz.func60 λr h _ _=>?_;refine S4 1 J<|sR<|cF h a15 J J λv1 _ h=>S2 1 J<|a7 ?_;cases h;exact⟨J,[_],⟨oL J J J a02 T3 nl J,tr⟩,J,io⟩

theorem a94{a0 a1 a2}:PO Tryz.prog 31 [.I a0,.I a1,.I a2] (a92 a0 a1 a2) λr=>a6.Pv r:=by
 refine pO Tryz.func31 λr h _ _=>?_;refine S4 1 J<|c5<|S3 3 J<|k9 J (λhg=>mI J)<|k9 J (λhg=>A0 (ct hg) J J)<|y0 J (D8 J J J (λq=>eqF q))<|S1 1 J<|k9 J (λhg=>mI J)<|k9 J (λhg=>A0 (ct hg) J J)<|y0 J (D8 J J J (λq=>eqF q))<|S1 1 J<|k9 J (λhg=>mI J)<|k9 J (λhg=>A0 (ct hg) J J)<|y0 J (D8 J J J (λq=>eqF q))<|S1 1 J<|k9 J (λhg=>mI J)<|k9 J (λhg=>A0 (ct hg) J J)<|y0 J (D8 J J J (λq=>eqF q))<|S1 1 J<|k9 J (λhg=>mI J)<|k9 J (λhg=>A0 (ct hg) J J)<|y0 J (D8 J J J (λq=>eqF q))<|yN ?_;refine cN h (λhc h=>?_) λhc h=>?_
 ·refine sR ?_;refine y0 J (o6 (cs:=[.nl,.I 0,.I 0,.nl,.nl,.nl,.nl,.I 0]) J b2m b2r J J J)<|a3u (x':=.agg [.nl,.I 0,.I 0,.nl,.nl,.nl,.nl,.I 0]) (cl':=true) J J (.inl J) l4<|yN<|a7 ?_;cases h;exact⟨J,[_],⟨oL J J J o5 l4 nl J,tr⟩,J,io⟩
 ·refine b5 ?_;refine dr [] p7 (by kernel_rfl) (by kernel_rfl)<|S7 2 J<|r9 h λv1 hv1 h=>d2f J (u9 J a9v J hv1) J<|r9 h λv2 hv2 h=>d1 J (a7v (f:=iF) hv2 J J J j1 l7 y9 J3 J J J) J J J<|r9 h λv3 hv3 h=>d2f J (u9 J b0q J hv3) J<|S7 1 J<|r9 h λv4 hv4 h=>d2f J (u9 J a9Y J hv4) J<|r9 h λv5 hv5 h=>d2f J (u9 J b0l J hv5) J<|d7 J (λ_ hN=>o6 (cs:=[.L b6.Pv v1.S.o8,.I v1.S.Last,.I v1.Serial,.sl 33,.L c9.Pv v3,.L a8.Pv v4,.L k8.Pv v5.L,.I v5.Cap]) J b2m b2r J J J) J<|x4 (x':=.agg [.L b6.Pv v1.S.o8,.I v1.S.Last,.I v1.Serial,.sl 33,.L c9.Pv v3,.L a8.Pv v4,.L k8.Pv v5.L,.I v5.Cap]) (cl':=false) J J (.inr J) l4<|R3<|a7 ?_;cases h;exact⟨J,[_],⟨oL J J J o5 l4 nl J,tr⟩,J,io⟩

theorem a3W{a0 a1 a2 a3}:PO Tryz.prog 17 [.I a0,.I a1,.I a2,.L (Ls j5.Pv) a3] (a4u a0 a1 a2 a3) λr=>.tup [l3.Pv r.1,.I r.2]:=by
 refine pO Tryz.func17 λr h _ _=>?_;refine S4 2 J<|c5<|S3 1 J<|cA h a3P J J λv1 _ h=>S2 1 J ?_;refine cN h (λhc h=>?_) λhc h=>?_
 ·refine sR ?_;refine y0 J (o6 (cs:=[.nl,.I 0,.I 0,.nl,.nl,.nl,.nl,.I 0,.nl]) J b0D b0F J J J)<|a3u (x':=.agg [.nl,.I 0,.I 0,.nl,.nl,.nl,.nl,.I 0,.nl]) (cl':=true) J J (.inl J) K6<|S2 1 J<|a7 ?_;cases h;exact⟨J,[_,_],⟨oL J J J a0k K6 nl J,⟨J,tr⟩⟩,J,io⟩
 ·refine b5 ?_;refine S3 3 J<|cF h a94 J J λv2 _ h=>S2 2 J<|c5<|S3 2 J<|nL J j1<|S2 1 J ?_;refine cN h (λhc h=>?_) λhc h=>?_
  ·refine sR ?_;refine y0 J (o6 (cs:=[.nl,.I 0,.I 0,.nl,.nl,.nl,.nl,.I 0,.nl]) J b0D b0F J J J)<|a3u (x':=.agg [.nl,.I 0,.I 0,.nl,.nl,.nl,.nl,.I 0,.nl]) (cl':=true) J J (.inl J) K6<|S2 1 J<|a7 ?_;cases h;exact⟨J,[_,_],⟨oL J J J a0k K6 nl J,⟨J,tr⟩⟩,J,io⟩
  ·refine b5 ?_;refine S3 2 J<|y0 J (o6 (cs:=[.L b6.Pv v2.S.S.o8,.I v2.S.S.Last,.I v2.S.Serial,.L iF v2.Roots,.L c9.Pv v2.o8,.L a8.Pv v2.T,.L k8.Pv v2.Q.L,.I v2.Q.Cap,.L (Ls j5.Pv) a3]) J b0D b0F J J J)<|S2 2 J<|a7 ?_;cases h;exact⟨J,[_,_],⟨oL J J J a0k K6 nl J,⟨J,tr⟩⟩,J,io⟩

theorem a1o{a0 a1}:PO Tryz.prog 78 [c3.Pv a0,.L iF a1] (L8 a0 a1) λr=>.tup [c3.Pv r.1,.str r.2]:=by
 refine pO Tryz.func78 λr h _ _=>?_;unfold L8 at h;refine S4 3 J<|dr [] p7 (by kernel_rfl) (by kernel_rfl)<|S7 1 J<|r9 h λv1 hv1 h=>d0 J (B4 (f:=iF) (cs:=[.I v1]) hv1 J J j1 l7 J J) J<|S7 2 J<|r9 h λv2 hv2 h=>d0 J (B4 (f:=iF) (cs:=[.I v2]) hv2 J J j1 l7 J J) J<|S7 2 J<|r9 h λv3 hv3 h=>d0 J (B4 (f:=iF) (cs:=[.I v3]) hv3 J J j1 l7 J J) J<|S7 3 J<|r9 h λv4 hv4 h=>d2f J (u9 J a3W J hv4) J<|S7 4 J<|x4 (x':=l3.Pv v4.1) (cl':=true) J J (.inr J) K6<|S8 1 J<|c5<|S4 2 J ?_;refine cN h (λhc h=>?_) λhc h=>?_
 ·refine dr [] p7 (by kernel_rfl) (by kernel_rfl) ?_;refine S7 2 J<|r9 h λv5 hv5 h=>d2 J (H3 J E3 J hv5) J<|x4 (x':=c3.Pv a0) (cl':=true) J J (.inr J) F4<|S8 1 J<|a7 ?_;cases h;exact⟨J,[_,_],⟨oL J J J S0 F4 nl J,⟨J,tr⟩⟩,J,io⟩
 ·refine b5 ?_;refine S4 5 J<|S4 3 J<|a7 ?_;cases h;exact⟨J,[_,_],⟨oL J J J S0 F4 nl J,⟨J,tr⟩⟩,J,io⟩

theorem a2W{a0 a1}:PO Tryz.prog 125 [.I a0,.I a1] (a2V a0 a1) λr=>.I r:=by
 refine pO Tryz.func125 λr h _ _=>?_;refine S4 1 J<|c5<|S3 3 J<|k9 J (λhg=>mI J)<|k9 J (λhg=>A0 (ct hg) J J)<|y0 J (D8 J J J (λq=>eqF q))<|S1 1 J<|k9 J (λhg=>mI J)<|k9 J (λhg=>A0 (ct hg) J J)<|y0 J (D8 J J J (λq=>eqF q))<|S1 1 J<|k9 J (λhg=>mI J)<|k9 J (λhg=>A0 (ct hg) J J)<|y0 J (D8 J J J (λq=>eqF q))<|yN ?_;refine cN h (λhc h=>?_) λhc h=>?_
 ·refine S4 1 J ?_;refine a7 ?_;cases h;exact f1
 ·refine b5 ?_;refine S4 7 J<|a7 ?_;cases h;exact f1

theorem a1m{a0}:PO Tryz.prog 202 [.I a0] (cmp_isNaN_int a0) λr=>.bool r:=by
 refine pO Tryz.func202 λr h _ _=>?_;unfold cmp_isNaN_int at h;refine S4 1 J<|S4 4 J<|a7 ?_;cases h;exact f1

theorem a4k{a0 a1}:PO Tryz.prog 128 [.I a0,.I a1] (Y5 a0 a1) λr=>.I r:=by
 refine pO Tryz.func128 λr h _ _=>?_;refine S4 1 J<|S3 1 J<|cA h a1m J J λv1 _ h=>S2 1 J<|S3 1 J<|cA h a1m J J λv2 _ h=>S2 1 J<|c5<|S4 1 J ?_;refine cN h (λhc h=>?_) λhc h=>?_
 ·refine c5 ?_;refine S4 1 J ?_;refine cN h (λhc h=>?_) λhc h=>?_
  ·refine S4 1 J ?_;refine a7 ?_;cases h;exact f1
  ·refine b5 ?_;refine S4 1 J<|a7 ?_;cases h;exact f1
 ·refine b5 ?_;refine c5<|S4 1 J ?_;refine cN h (λhc h=>?_) λhc h=>?_
  ·refine S4 1 J ?_;refine a7 ?_;cases h;exact f1
  ·refine b5 ?_;refine c5<|S4 3 J ?_;refine cN h (λhc h=>?_) λhc h=>?_
   ·refine S4 1 J ?_;refine a7 ?_;cases h;exact f1
   ·refine b5 ?_;refine c5<|S4 3 J ?_;refine cN h (λhc h=>?_) λhc h=>?_
    ·refine S4 1 J ?_;refine a7 ?_;cases h;exact f1
    ·refine b5 ?_;refine S4 1 J<|a7 ?_;cases h;exact f1

theorem a6B{a0 a1 a2}:PO Tryz.prog 127 [.I a0,.I a1,.rptr [.abs (I0 (List.map (ent iF iF) a2))]] (a2k a0 a1 a2) λr=>.I r:=by
 refine pO Tryz.func127 λr h _ _=>?_;refine S4 1 J<|S3 2 J<|y0 J (b0d (es:=a2) (k:=a0) (E:=iF) (EK:=iF) (d:=.I ((F7 a2 a0).getD (0:Int))) J J a6V (s6 D5) y9 J (lk1 _ _ _))<|S1 2 J<|y0 J (b0d (es:=a2) (k:=a1) (E:=iF) (EK:=iF) (d:=.I ((F7 a2 a1).getD (0:Int))) J J a6V (s6 D5) y9 J (lk1 _ _ _))<|cA h a4k J J λv1 _ h=>S2 1 J<|a7 ?_;cases h;exact f1

theorem D4{a0}:PO Tryz.prog 68 [b8.Pv a0] (H4 a0) λr=>.L iF r:=by
 refine pO Tryz.func68 λr h _ _=>?_;refine S4 2 J<|S4 1 J<|sR<|a8R (KT:=Int) (VT:=Int) (EK:=iF) (E:=iF) 5000008 J J<|S2 2 J ?_;refine jq h (λq=>St.of [(3,.sl 910003),(4,.ptr 4 0 0)] [(4,vS (.mp 5000008) 1),(5000008,⟨[.mapc (List.map (ent iF iF) q.1)],0,false,0,false⟩),(910003,⟨List.map iF q.2,0,true,1,true⟩)]) (λq20 h=>?_) λκ17 h=>?_
 ·obtain⟨j18,j19⟩:=q20;refine S3 2 J<|E1 (Wk.trans (b4D 5000008 nl J) (b56 4 0 5000008 J J J J))<|r9 h λv21 hv12 h=>b6b hv12 (b29 (λh=>(F7 j18 h).getD 0) (λx y=>by unfold a2k Y5 cmp_isNaN_int;simp only[b7B,bne_self_eq_false,Bool.false_eq_true,if_false];exact b6W _ _)) J J b3x b52 J J J b3y J J J J J (λp q r h=>a6B.2 r h)<|yN<|S4 2 J<|a7 ?_;cases h;exact f1
 ·refine S3 3 J ?_;refine nL J I1<|S2 1 J<|c6<|lq h (λq=>St.of [(3,.sl 910003),(4,.ptr 4 0 0),(11,.L b6.Pv a0.S.o8),(12,.I (a0.S.o8.length:Int)),(13,.I q.1)] [(4,vS (.mp 5000008) 1),(5000008,⟨[.mapc (List.map (ent iF iF) q.2.1)],0,false,0,false⟩),(910003,⟨List.map iF q.2.2,0,true,1,true⟩)]) (Wk.trans (J0 (t:=3) (l:=920003) (z:=1) J J) (WP (λl=>if l=910003 then 920003 else l))) λq27 x26 h hx15=>?_;obtain⟨s23,s24,s25⟩:=q27;refine S4 1 J<|c5 ?_;refine cN h (λhc h=>?_) λhc h=>?_
  ·refine b5 ?_;refine jq h (λq=>St.of [(3,.sl 33),(4,.ptr 4 0 0),(11,.L b6.Pv a0.S.o8),(12,.I (a0.S.o8.length:Int)),(13,.I s23)] [(4,vS (.mp 5000008) 1),(5000008,⟨[.mapc (List.map (ent iF iF) q.1)],0,false,0,false⟩),(33,⟨List.map iF q.2,0,true,1,true⟩)]) (λq34 h=>?_) λκ31 h=>?_
   ·obtain⟨j32,j33⟩:=q34;refine S6 2 J ?_;exact eL h (WP (λl=>if l=910003 then 33 else l))
   ·refine c6 ?_;refine S3 1 J<|iL h J J I1 H7 λv35 _ h=>S2 4 J<|S4 3 J ?_;refine cN h (λhc h=>?_) λhc h=>?_
    ·refine S3 3 J ?_;refine cA h a2W J J λv36 _ h=>S2 1 J<|S3 5 J<|z7 (es:=s24) (k:=v36) (v:=v35.Val.Serial) (E:=iF) (EK:=iF) (.inl J) J J J J J J a6V (s6 D5)<|yN<|S5 2 J<|y0 J (J2 (f:=iF) (l:=[v36]) J j1 l7 y9 J J nl J J)<|r9 h λv37 hv22 h=>b45 (f:=iF) (b:=8) [(4,.ptr 4 0 0),(11,.L b6.Pv a0.S.o8),(12,.I (a0.S.o8.length:Int)),(13,.I s23),(14,.bool (decide (s23<(a0.S.o8.length:Int)))),(15,.I s23),(16,.rptr (b6.Pc v35)),(17,b6.Pv v35),(6,.ptr 6 0 0),(5,.I s23),(18,.ptr 6 0 0),(19,.I v35.State),(20,.bool (v35.State==1)),(21,.I s23),(22,.ptr 6 0 1),(23,.I v35.Gen),(24,.I v36),(7,.I v36),(25,.mp 5000008),(26,.I v36),(27,.ptr 6 0 2),(28,.ptr 6 0 2),(29,.I v35.Val.Serial),(31,.I v36),(32,.lst true (List.map iF [v36]))] [(6,vR (b6.Pv v35) 8),(5000008,⟨[.mapc (List.map (ent iF iF) (h9 s24 v36 v35.Val.Serial))],0,false,0,false⟩),(4,vS (.mp 5000008) 1)] J hv22 ⟨J,J,J,J,J,J,J,J,J,J,J,J,J,J,J,J,J,J,J,J,J,J,J,J,J,J,J,J,J,J,J,J,J,J,J,J,J,J,J,J,J,J,J,J,J,J,J,J,J,J,J,J,J,J,J,J,J,J,J,J,J,J,J,J,J,J,J,J,J,J,J,J,J,J,J,tr⟩ ⟨rS,W5 J J J (λq=>nomatch q) J J J J,W5 J J J (λq=>nomatch q) J J J J,tr⟩ J J J J (.inl ⟨_,J,J⟩) j1 l7 J3 y9 J (λ_=>J)<|S2 1 J ?_;exact eJ h W
    ·refine b5 ?_;exact eJ h (WP (λl=>if l=33 then 910003 else l))
  ·refine o9 ?_;refine c4<|c4<|j7 ?_;have h:=xL hx15 h;exact eJ h W

theorem a2v{a0}:PO Tryz.prog 336 [.I a0] (a1U a0) λr=>.tup [.I r.1,.I r.2.1,.bool r.2.2]:=by
 refine pO Tryz.func336 λr h _ _=>?_;refine S4 3 J<|c5<|S4 2 J ?_;refine cN h (λhc h=>?_) λhc h=>?_
 ·refine S4 3 J ?_;refine a7 ?_;cases h;exact f3
 ·refine b5 ?_;refine S3 2 J<|r9 h λv1 hv1 h=>y0 J (a5f J J hv1)<|r9 h λv2 hv2 h=>y0 J (a5f J J hv2)<|S1 2 J<|r9 h λv3 hv3 h=>y0 J (a5f J J hv3)<|S2 2 J<|c5<|S3 3 J<|k9 J (λhg=>mI J)<|k9 J (λhg=>A0 (ct hg) J J)<|y0 J (D8 J J J (λq=>eqF q))<|yN ?_;refine cN h (λhc h=>?_) λhc h=>?_
  ·refine S4 3 J ?_;refine a7 ?_;cases h;exact f3
  ·refine b5 ?_;refine S4 5 J<|a7 ?_;cases h;exact f3

theorem a2Y{a0}:PO Tryz.prog 279 [.I a0] (a2X a0) λr=>.I r:=by
 refine pO Tryz.func279 λr h _ _=>?_;refine S4 1 J<|S3 1 J<|cA h a2v J J λv1 _ h=>S2 7 J<|S4 2 J<|a7 ?_;cases h;exact f1

theorem a3Z{a0}:PO Tryz.prog 280 [.I a0] (a4x a0) λr=>.I r:=by
 refine pO Tryz.func280 λr h _ _=>?_;refine S4 1 J<|S3 1 J<|cA h a2v J J λv1 _ h=>S2 7 J<|S4 2 J<|a7 ?_;cases h;exact f1

theorem B5{a0 a1}:PO Tryz.prog 267 [b9.Pv a0,.I a1] (B9 a0 a1) λr=>.tup [.I r.1,.I r.2]:=by
 refine pO Tryz.func267 λr h _ _=>?_;refine S4 3 J<|c5<|S4 2 J ?_;refine cN h (λhc h=>?_) λhc h=>?_
 ·refine S4 2 J ?_;refine a7 ?_;cases h;exact f2
 ·refine b5 ?_;refine S3 1 J<|cA h a2Y J J λv1 _ h=>S2 1 J<|c5<|S3 3 J<|k9 J (λhg=>mI J)<|k9 J (λhg=>oF J b2g J)<|k9 J (λhg=>oS (ct hg) J J b49 J)<|k9 J (λhg=>a3g (f:=b6.Pv) (ct hg) I1)<|k9 J (λhg=>A0 (ct hg) (ct hg) J)<|y0 J (D8 J J J (λq=>eqF q))<|yN ?_;refine cN h (λhc h=>?_) λhc h=>?_
  ·refine S4 2 J ?_;refine a7 ?_;cases h;exact f2
  ·refine b5 ?_;refine S3 3 J<|iL h J J I1 H7 λv2 _ h=>S2 3 J<|c5<|dr [] p7 (by kernel_rfl) (by kernel_rfl)<|S7 3 J<|r9 h λv3 hv3 h=>d2 J (H3 J a3Z J hv3) J<|S7 2 J<|a4V J (λhg _ hN=>oF J a8m J) J ?_;refine a8s J (λhg=>oS (ct hg) J J G0 J) J<|a4V J (λhg _ hN=>A0 (ct hg) J J) J<|a4V J (λhg _ hN=>om (d:=.bool (v2.State != 1)) (ct hg)) J<|a4V (b3e J J J) (λhg _ hN=>oF J a8m J) J ?_;refine a8s (b3e J J J) (λhg=>oS (ct hg) J J G0 J) J<|a4V (b3e J J J) (λhg _ hN=>A0 (ct hg) J J) J<|a4V J (λhg _ hN=>A3 (ct hg) J J (λq=>b6U hg (eqT q))) J<|d7 J (λ_ hN=>D8 J J J (λq=>eqF q)) J<|R3 ?_;refine cN h (λhc h=>?_) λhc h=>?_
   ·refine S4 2 J ?_;refine a7 ?_;cases h;exact f2
   ·refine b5 ?_;refine S4 3 J<|a7 ?_;cases h;exact f2

theorem W1{a0 a1}:PO Tryz.prog 185 [b9.Pv a0,.I a1] (Q9 a0 a1) λr=>.tup [p8.Pv r.1,.I r.2]:=by
 refine pO Tryz.func185 λr h _ _=>?_;refine S4 3 J<|S4 1 J<|S3 2 J<|cA h B5 J J λv1 _ h=>S2 5 J<|c5<|S4 2 J ?_;refine cN h (λhc h=>?_) λhc h=>?_
 ·refine S3 2 J ?_;refine a3u (x':=.agg [.I 0,.I 0,.I 0,.I 0,.bool false,.nl]) (cl':=true) J J (.inl J) a0K<|S2 1 J<|a7 ?_;cases h;exact⟨J,[_,_],⟨oL J J J a4M a0K nl J,⟨J,tr⟩⟩,J,io⟩
 ·refine b5 ?_;refine c5<|S3 3 J<|iL h J J I1 H7 λv2 hv2 h=>S2 3 J ?_;refine cN h (λhc h=>?_) λhc h=>?_
  ·refine S3 1 J ?_;refine a3u (x':=.agg [.I 0,.I 0,.I 0,.I 0,.bool false,.nl]) (cl':=true) J J (.inl J) a0K<|S2 1 J<|a7 ?_;cases h;exact⟨J,[_,_],⟨oL J J J a4M a0K nl J,⟨J,tr⟩⟩,J,io⟩
  ·refine b5 ?_;refine S3 3 J<|y0 J (B4 (f:=b6.Pv) (cs:=b6.Pc v2) hv2 J J I1 H7 J J)<|S2 4 J<|a7 ?_;cases h;exact⟨J,[_,_],⟨oL J J J a4M a0K nl J,⟨J,tr⟩⟩,J,io⟩

theorem u5{a0 a1}:PO Tryz.prog 108 [b8.Pv a0,.I a1] (z1 a0 a1) λr=>.tup [p8.Pv r.1,.I r.2]:=by
 refine pO Tryz.func108 λr h _ _=>?_;refine S4 3 J<|S3 3 J<|cF h W1 J J λv1 _ h=>S2 4 J<|a7 ?_;cases h;exact⟨J,[_,_],⟨oL J J J a4M a0K nl J,⟨J,tr⟩⟩,J,io⟩

theorem a0Q{a0 a1}:PO Tryz.prog 186 [a6.Pv a0,.I a1] (a0t a0 a1) λr=>.I r:=by
 refine pO Tryz.func186 λr h _ _=>?_;refine S4 2 J<|S3 3 J<|cF h u5 J J λv1 _ h=>S2 6 J<|S4 3 J<|a7 ?_;cases h;exact f1

theorem a6v{a0}:PO Tryz.prog 141 [l3.Pv a0] (a4Y a0) λr=>.L iF r:=by
 refine pO Tryz.func141 λr h _ _=>?_;refine S4 2 J<|S4 1 J ?_;refine jq h (λj11=>St.of [(3,.sl 910003)] [(910003,⟨List.map iF j11,0,true,1,true⟩)]) (λj11 h=>?_) λκ10 h=>?_
 ·refine S3 1 J ?_;obtain⟨v12,hv9,h⟩:=a1l h;refine b4E hv9 J J b3C b4z J J<|yN<|S4 2 J<|a7 ?_;cases h;exact f1
 ·refine S3 3 J ?_;refine cF h D4 J J λv13 _ h=>nL J j1<|S2 1 J<|c6<|lq h (λq=>St.of [(1,.ptr 1 0 0),(3,.sl 910003),(9,.L iF v13),(10,.I (v13.length:Int)),(11,.I q.1)] [(1,vR (l3.Pv a0) 9),(910003,⟨List.map iF q.2,0,true,1,true⟩)]) (Wk.trans (J0 (t:=3) (l:=920003) (z:=1) J J) (WP (λl=>if l=910003 then 920003 else l))) λq18 x17 h hx13=>?_;obtain⟨s15,s16⟩:=q18;refine S4 1 J<|c5 ?_;refine cN h (λhc h=>?_) λhc h=>?_
  ·refine b5 ?_;refine c5<|c6<|sR<|iL h J J j1 l7 λv19 _ h=>S2 2 J<|S5 4 J<|cA h a0Q J J λv20 _ h=>y0 J (J2 (f:=iF) (l:=[v20]) J j1 l7 y9 J J nl J J)<|r9 h λv21 hv16 h=>b45 (f:=iF) (b:=8) [(1,.ptr 1 0 0),(9,.L iF v13),(10,.I (v13.length:Int)),(11,.I s15),(12,.bool (decide (s15<(v13.length:Int)))),(13,.rptr [.I v19]),(14,.I v19),(5,.I v19),(16,.ptr 1 0 0),(17,a6.Pv a0.X),(18,.I v19),(19,.I v20),(20,.lst true (List.map iF [v20]))] [(1,vR (l3.Pv a0) 9)] J hv16 ⟨J,J,J,J,J,J,J,J,J,J,J,J,J,J,J,J,J,J,J,J,J,J,J,J,J,J,J,J,J,J,J,J,J,J,J,J,J,J,J,tr⟩ ⟨rS,tr⟩ J J J J (.inl ⟨_,J,J⟩) j1 l7 J3 y9 J (λ_=>J)<|S2 1 J<|S6 2 J ?_;exact eL h (WP (λl=>if l=910003 then 21 else l))
  ·refine o9 ?_;refine c4<|c4<|j7 ?_;have h:=xL hx13 h;exact eJ h W

theorem T8{a0 a1}:PO Tryz.prog 140 [.str a0,.L iF a1] (T7 a0 a1) λr=>.str r:=by
 refine pO Tryz.func140 λr h _ _=>?_;refine S4 1 J ?_;refine jq h (λj11=>St.of [(0,.str j11)] []) (λj11 h=>?_) λκ10 h=>?_
 ·refine S4 2 J ?_;refine a7 ?_;cases h;exact f1
 ·refine S3 1 J ?_;refine nL J j1<|S2 1 J<|c6<|lq h (λq=>St.of [(0,.str q.1),(7,.L iF a1),(8,.I (a1.length:Int)),(9,.I q.2)] []) W λq16 x15 h hx11=>?_;obtain⟨s13,s14⟩:=q16;refine S4 1 J<|c5 ?_;refine cN h (λhc h=>?_) λhc h=>?_
  ·refine b5 ?_;refine c5<|c6<|sR<|iL h J J j1 l7 λv17 _ h=>S2 2 J<|S5 2 J<|r9 h λv18 hv13 h=>y0 J (a5K J b0C J (b2M hv13))<|r9 h λv19 hv14 h=>y0 J (M0 hv14 J J A7)<|r9 h λv20 hv15 h=>y0 J (M0 hv15 J J A7)<|S2 1 J<|S6 2 J ?_;exact eL h W
  ·refine o9 ?_;refine c4<|c4<|j7 ?_;have h:=xL hx11 h;exact eJ h W

theorem a06{a0 a1}:PO Tryz.prog 80 [c3.Pv a0,.L iF a1] (L1 a0 a1) λr=>.tup [c3.Pv r.1,.str r.2]:=by
 refine pO Tryz.func80 λr h _ _=>?_;unfold L1 at h;refine S4 3 J<|dr [] p7 (by kernel_rfl) (by kernel_rfl)<|S7 3 J<|r9 h λv1 hv1 h=>d2f J (u9 J a6v J hv1) J<|r9 h λv2 hv2 h=>d2 J (H3 J T8 J hv2) J<|x4 (x':=c3.Pv a0) (cl':=true) J J (.inr J) F4<|S8 1 J<|a7 ?_;cases h;exact⟨J,[_,_],⟨oL J J J S0 F4 nl J,⟨J,tr⟩⟩,J,io⟩

theorem E6{a0 a1}:PO Tryz.prog 111 [a6.Pv a0,.I a1] (G6 a0 a1) λr=>.I r:=by
 refine pO Tryz.func111 λr h _ _=>?_;refine S4 2 J<|c5<|S3 3 J<|k9 J (λhg=>mI J)<|k9 J (λhg=>oF J a9L J)<|k9 J (λhg=>oS (ct hg) J J b0A J)<|k9 J (λhg=>a3g (f:=iF) (ct hg) j1)<|k9 J (λhg=>A0 (ct hg) (ct hg) J)<|y0 J (D8 J J J (λq=>eqF q))<|yN ?_;refine cN h (λhc h=>?_) λhc h=>?_
 ·refine S4 1 J ?_;refine a7 ?_;cases h;exact f1
 ·refine b5 ?_;refine S3 3 J<|iL h J J j1 l7 λv1 _ h=>S2 2 J<|a7 ?_;cases h;exact f1

theorem W9{a0 a1}:PO Tryz.prog 110 [a6.Pv a0,.I a1] (W3 a0 a1) λr=>.I r:=by
 refine pO Tryz.func110 λr h _ _=>?_;unfold W3 at h;refine S4 2 J<|dr [] p7 (by kernel_rfl) (by kernel_rfl)<|S7 3 J<|r9 h λv1 hv1 h=>d2 J (H3 J E6 J hv1) J<|r9 h λv2 hv2 h=>d2 J (H3 J a0Q J hv2) J<|S8 1 J<|a7 ?_;cases h;exact f1

theorem a07{a0 a1}:PO Tryz.prog 81 [c3.Pv a0,.L iF a1] (L2 a0 a1) λr=>.tup [c3.Pv r.1,.str r.2]:=by
 refine pO Tryz.func81 λr h _ _=>?_;unfold L2 at h;refine S4 3 J<|sR<|r9 h λv1 hv1 h=>y1 J (a7v (f:=iF) hv1 J J J j1 l7 y9 J3 J J J) J<|S2 1 J ?_;refine jq h (λj10=>St.of [(2,.ptr 2 0 0),(4,.ptr 4 0 0),(6,.sl 8)] [(8,⟨List.map iF j10,0,true,1,true⟩),(4,vR (.agg [.nl,.I 0,.I 0,.nl,.nl,.nl,.nl,.I 0,.nl,.bool false,.nl]) 11),(2,vR (c3.Pv a0) 11)]) (λj10 h=>?_) λκ9 h=>?_
 ·refine dr [] p7 (by kernel_rfl) (by kernel_rfl) ?_;refine S7 2 J<|r9 h λv11 hv8 h=>d2 J (H3 J T8 J hv8) J<|x4 (x':=c3.Pv a0) (cl':=true) J J (.inr J) F4<|S8 1 J<|a7 ?_;cases h;exact⟨J,[_,_],⟨oL J J J S0 F4 nl J,⟨J,tr⟩⟩,J,io⟩
 ·refine S3 1 J ?_;refine y0 J (a8H (f:=iF) J J J j1)<|S2 1 J<|c6<|lq h (λq=>St.of [(2,.ptr 2 0 0),(4,.ptr 4 0 0),(6,.sl 8),(10,.I (v1.length:Int)),(11,.I q.1)] [(8,⟨List.map iF q.2,0,true,1,true⟩),(4,vR (.agg [.nl,.I 0,.I 0,.nl,.nl,.nl,.nl,.I 0,.nl,.bool false,.nl]) 11),(2,vR (c3.Pv a0) 11)]) W λq16 x15 h hx11=>?_;obtain⟨s13,s14⟩:=q16;refine S4 1 J<|c5 ?_;refine cN h (λhc h=>?_) λhc h=>?_
  ·refine b5 ?_;refine c5<|c6<|S4 2 J<|S5 6 J<|cA h W9 J J λv17 _ h=>r9 h λv18 hv13 h=>y0 J (a0w (f:=iF) hv13 J J J J j1 l7 J)<|a4h (f:=iF) (v:=v17) hv13 J J (.inl J) l7<|yN<|S6 2 J ?_;exact eL h W
  ·refine o9 ?_;refine c4<|c4<|j7 ?_;have h:=xL hx11 h;exact eJ h W

theorem a1y{a0}:PO Tryz.prog 71 [b9.Pv a0] (Y1 a0) λr=>A4.Pv r:=by
 refine pO Tryz.func71 λr h _ _=>?_;refine S4 2 J<|S4 1 J ?_;refine jq h (λj9=>St.of [(2,.ptr 2 0 0),(3,.ptr 3 0 0)] [(3,vR (A4.Pv j9) 4),(2,vR (.agg [.I 0,.I 0,.I 0,.I 0]) 4)]) (λj9 h=>?_) λκ8 h=>?_
 ·refine S4 2 J ?_;refine a7 ?_;cases h;exact⟨J,[_],⟨oL J J J b07 b1m nl J,tr⟩,J,io⟩
 ·refine S3 2 J ?_;refine nL J I1<|S2 1 J<|c6<|lq h (λq=>St.of [(2,.ptr 2 0 0),(3,.ptr 3 0 0),(7,.L b6.Pv a0.o8),(8,.I (a0.o8.length:Int)),(9,.I q.1)] [(3,vR (A4.Pv q.2) 4),(2,vR (.agg [.I 0,.I 0,.I 0,.I 0]) 4)]) W λq14 x13 h hx9=>?_;obtain⟨s11,s12⟩:=q14;refine S4 1 J<|c5 ?_;refine cN h (λhc h=>?_) λhc h=>?_
  ·refine b5 ?_;refine c5<|c6<|sR<|iL h J J I1 H7 λv15 _ h=>S2 3 J<|S5 2 J<|r9 h λv16 hv11 h=>y0 J (b4V hv11 J J a8Z l7)<|y0 J (oS J J J G0 (A4.get hv11))<|S1 1 J<|y0 J (b4V hv11 J J a8Z l7)<|b6L hv11 J J (.inl J) J l7<|yN<|S6 2 J ?_;exact eL h W
  ·refine o9 ?_;refine c4<|c4<|j7 ?_;have h:=xL hx9 h;exact eJ h W

theorem a2s{a0}:PO Tryz.prog 40 [l3.Pv a0] (a1S a0) λr=>A4.Pv r:=by
 refine pO Tryz.func40 λr h _ _=>?_;refine S4 2 J<|S3 4 J<|cA h a1y J J λv1 _ h=>S2 1 J<|a7 ?_;cases h;exact⟨J,[_],⟨oL J J J b07 b1m nl J,tr⟩,J,io⟩

theorem a08{a0 a1}:PO Tryz.prog 82 [c3.Pv a0,.L iF a1] (V7 a0 a1) λr=>.tup [c3.Pv r.1,.str r.2]:=by
 refine pO Tryz.func82 λr h _ _=>?_;refine S4 3 J<|S3 2 J<|cA h a2s J J λv1 _ h=>S2 2 J<|R6 (b43 6 J)<|dr [] p7 (by kernel_rfl) (by kernel_rfl)<|S7 1 J<|d0 J (b6z (xs:=[v1.a,v1.b,v1.c,v1.d]) J J a8Z J l7) J<|r9 h λv2 hv2 h=>d2 J (H3 J T8 J hv2) J<|x4 (x':=c3.Pv a0) (cl':=true) J J (.inr J) F4<|S8 1 J<|a7 ?_;cases h;exact⟨J,[_,_],⟨oL J J J S0 F4 nl J,⟨J,tr⟩⟩,J,io⟩

theorem a6Z{a0}:PO Tryz.prog 32 [.L iF a0] (a5Z a0) λr=>.tup [j5.Pv r.1,.I r.2]:=by
 refine pO Tryz.func32 λr h _ _=>?_;refine S4 2 J<|c5<|S3 1 J<|nL J j1<|S2 1 J ?_;refine cN h (λhc h=>?_) λhc h=>?_
 ·refine sR ?_;refine y0 J (o6 (cs:=[.I 0,.I 0,.I 0,.I 0]) J a8Y a5t J J J)<|S2 2 J<|a7 ?_;cases h;exact⟨J,[_,_],⟨oL J J J a8U a1L nl J,⟨J,tr⟩⟩,J,io⟩
 ·refine b5 ?_;refine dr [] p7 (by kernel_rfl) (by kernel_rfl)<|S7 1 J<|r9 h λv1 hv1 h=>d0 J (B4 (f:=iF) (cs:=[.I v1]) hv1 J J j1 l7 J J) J<|S7 2 J<|r9 h λv2 hv2 h=>d0 J (B4 (f:=iF) (cs:=[.I v2]) hv2 J J j1 l7 J J) J<|S7 2 J<|r9 h λv3 hv3 h=>d0 J (B4 (f:=iF) (cs:=[.I v3]) hv3 J J j1 l7 J J) J<|S7 2 J<|r9 h λv4 hv4 h=>d0 J (B4 (f:=iF) (cs:=[.I v4]) hv4 J J j1 l7 J J) J<|S7 1 J<|d7 J (λ_ hN=>o6 (cs:=[.I v1,.I v2,.I v3,.I v4]) J a8Y a5t J J J) J<|S7 1 J<|x4 (x':=.agg [.I v1,.I v2,.I v3,.I v4]) (cl':=true) J J (.inl J) a1L<|R3<|c5<|S3 1 J<|cA h a03 J J λv5 _ h=>S2 1 J<|S4 2 J ?_;refine cN h (λhc h=>?_) λhc h=>?_
  ·refine sR ?_;refine y0 J (o6 (cs:=[.I 0,.I 0,.I 0,.I 0]) J a8Y a5t J J J)<|S2 3 J<|a7 ?_;cases h;exact⟨J,[_,_],⟨oL J J J a8U a1L nl J,⟨J,tr⟩⟩,J,io⟩
  ·refine b5 ?_;refine S4 3 J<|a7 ?_;cases h;exact⟨J,[_,_],⟨oL J J J a8U a1L nl J,⟨J,tr⟩⟩,J,io⟩

theorem a6w{a0}:PO Tryz.prog 33 [j5.Pv a0] (a4Z a0) λr=>ifE a4i r:=by
 refine pO Tryz.func33 λr h _ _=>?_;refine S4 2 J<|c5<|S4 2 J<|c6<|S4 2 J ?_;refine cN h (λhc h=>?_) λhc h=>?_
 ·refine sR ?_;refine y0 J (o6 (cs:=[]) J b3L b1o J J J)<|y0 J (b0T (n:=a4i) (T:=103) (xs:=[]) J b1k J)<|S2 1 J<|a7 ?_;cases h;exact f1
 ·refine S4 2 J ?_;refine cN h (λhc h=>?_) λhc h=>?_
  ·refine S3 2 J ?_;refine y0 J (o6 (cs:=[.I a0.A]) J b3M b1p J J J)<|y0 J (b0T (n:=a4i) (T:=107) (xs:=[a0.A]) J b1l J)<|S2 1 J<|a7 ?_;cases h;exact f1
  ·refine b5 ?_;refine S3 1 J<|y0 J (o6 (cs:=[.I a0.Kind,.I a0.A,.I a0.B,.I a0.C]) J b5n b2t J J J)<|y0 J (b0T (n:=a4i) (T:=99) (xs:=[a0.Kind,a0.A,a0.B,a0.C]) J b2n J)<|S2 1 J<|a7 ?_;cases h;exact f1

theorem a5I:PO Tryz.prog 61 [] (a1d) λr=>.abs (I0 (List.map (ent iF fvE) r)):=by
 refine pO Tryz.func61 λr h _ _=>?_;unfold a1d at h;refine S4 1 J<|sR<|a8R (KT:=Int) (VT:=Fv) (EK:=iF) (E:=fvE) 5000001 J J<|a1k (es:=[]) (k:=1) (v:=(some 97)) (E:=fvE) (EK:=iF) (.inr J) J J J J J J L7 (s6 D5)<|a1k (es:=(h9 [] 1 (some 97))) (k:=2) (v:=(some 98)) (E:=fvE) (EK:=iF) (.inr J) J J J J J J L7 (s6 D5)<|a1k (es:=(h9 (h9 [] 1 (some 97)) 2 (some 98))) (k:=3) (v:=(some 99)) (E:=fvE) (EK:=iF) (.inr J) J J J J J J L7 (s6 D5)<|a1k (es:=(h9 (h9 (h9 [] 1 (some 97)) 2 (some 98)) 3 (some 99))) (k:=4) (v:=(some 100)) (E:=fvE) (EK:=iF) (.inr J) J J J J J J L7 (s6 D5)<|a1k (es:=(h9 (h9 (h9 (h9 [] 1 (some 97)) 2 (some 98)) 3 (some 99)) 4 (some 100))) (k:=5) (v:=(some 101)) (E:=fvE) (EK:=iF) (.inr J) J J J J J J L7 (s6 D5)<|a1k (es:=(h9 (h9 (h9 (h9 (h9 [] 1 (some 97)) 2 (some 98)) 3 (some 99)) 4 (some 100)) 5 (some 101))) (k:=6) (v:=(some 102)) (E:=fvE) (EK:=iF) (.inr J) J J J J J J L7 (s6 D5)<|a1k (es:=(h9 (h9 (h9 (h9 (h9 (h9 [] 1 (some 97)) 2 (some 98)) 3 (some 99)) 4 (some 100)) 5 (some 101)) 6 (some 102))) (k:=7) (v:=(some 103)) (E:=fvE) (EK:=iF) (.inr J) J J J J J J L7 (s6 D5)<|a1k (es:=(h9 (h9 (h9 (h9 (h9 (h9 (h9 [] 1 (some 97)) 2 (some 98)) 3 (some 99)) 4 (some 100)) 5 (some 101)) 6 (some 102)) 7 (some 103))) (k:=8) (v:=(some 104)) (E:=fvE) (EK:=iF) (.inr J) J J J J J J L7 (s6 D5)<|a1k (es:=(h9 (h9 (h9 (h9 (h9 (h9 (h9 (h9 [] 1 (some 97)) 2 (some 98)) 3 (some 99)) 4 (some 100)) 5 (some 101)) 6 (some 102)) 7 (some 103)) 8 (some 104))) (k:=9) (v:=(some 105)) (E:=fvE) (EK:=iF) (.inr J) J J J J J J L7 (s6 D5)<|a1k (es:=(h9 (h9 (h9 (h9 (h9 (h9 (h9 (h9 (h9 [] 1 (some 97)) 2 (some 98)) 3 (some 99)) 4 (some 100)) 5 (some 101)) 6 (some 102)) 7 (some 103)) 8 (some 104)) 9 (some 105))) (k:=10) (v:=(some 106)) (E:=fvE) (EK:=iF) (.inr J) J J J J J J L7 (s6 D5)<|S2 2 J<|R6 (a9D 0 5000001 J J)<|a7 ?_;cases h;exact f1

theorem b03{a0}:PO Tryz.prog 252 [.I a0] (b1G a0) λr=>.tup [.L iF r.1,.I r.2]:=by
 refine pO Tryz.func252 λr h _ _=>?_;refine S4 2 J<|c5<|S3 3 J<|k9 J (λhg=>mI J)<|k9 J (λhg=>A0 (ct hg) J J)<|y0 J (D8 J J J (λq=>eqF q))<|yN ?_;refine cN h (λhc h=>?_) λhc h=>?_
 ·refine S4 2 J ?_;refine a7 ?_;cases h;exact f2
 ·refine b5 ?_;refine S3 1 J<|r9 h λv1 hv1 h=>y1 J (a7v (f:=iF) hv1 J J J j1 l7 y9 J3 J J J) J<|S2 2 J<|a7 ?_;cases h;exact f2

theorem a3t{a0}:PO Tryz.prog 253 [.I a0] (V0 a0) λr=>.bool r:=by
 refine pO Tryz.func253 λr h _ _=>?_;unfold V0 at h;refine S4 1 J<|S3 3 J<|k9 J (λhg=>mI J)<|k9 J (λhg=>A0 (ct hg) J J)<|y0 J (A3 J J J (λq=>eqT q))<|S2 1 J<|a7 ?_;cases h;exact f1

theorem a2j{a0}:PO Tryz.prog 325 [b9.Pv a0] (O8 a0) λr=>.fn (.func 367) [.rptr (b9.Pc r)]:=by
 refine pO Tryz.func325 λr h _ _=>?_;unfold O8 at h;refine S4 2 J<|S4 2 J<|a7 ?_;cases h;exact f1

theorem E0{a0}:PON Tryz.prog 331 [.L b6.Pv a0] (u4 a0) λr=>⟨List.map b6.Pv r,0,true,8,true⟩:=by
 refine pON Tryz.func331 λr h _ _=>?_;unfold u4 at h;refine S4 1 J<|c5<|S3 1 J<|a9G J I1 λb hb=>yN ?_;refine y7 b J (λhc=>?_) (λhc=>?_)
 ·obtain rfl:a0 = []:=by simpa using hb hc
  refine S4 1 J<|R6 (J0 (t:=2) (l:=920000) (z:=8) J J)<|a7 ?_;cases h;exact⟨J,_,_,J,J,J,J⟩
 ·refine b5 ?_;refine sR<|y0 J (a7w J I1 H7)<|S1 1 J<|y1 J (b0c (f:=b6.Pv) h J J (.inl ⟨_,J,J⟩) I1 H7 b1a a3x J (λ_=>J)) J<|S2 1 J<|a7 ?_;exact⟨J,_,_,J,J,J,J⟩

theorem B6{a0 a1 a2}:PO Tryz.prog 268 [b9.Pv a0,.I a1,b6.Pv a2] (z6 a0 a1 a2) λr=>b9.Pv r:=by
 refine pO Tryz.func268 λr h _ _=>?_;unfold z6 at h;refine S4 3 J<|S3 2 J<|r9 h λv1 hv1 h=>ycN J (a8G J E0 J hv1) J J<|S2 2 J<|S3 4 J<|r9 h λv2 hv2 h=>y0 J (a0w (f:=b6.Pv) hv2 J J J J I1 H7 J)<|a4h (f:=b6.Pv) (v:=a2) hv2 J J (.inr J) H7<|yN<|S4 2 J<|a7 ?_;cases h;exact⟨J,[_],⟨oL J J J Y4 T0 nl J,tr⟩,J,io⟩

theorem a2i{a0 a1}:PO Tryz.prog 254 [b9.Pv a0,p8.Pv a1] (a0a a0 a1) λr=>.tup [b9.Pv r.1,.I r.2.1,.I r.2.2]:=by
 refine pO Tryz.func254 λr h _ _=>?_;refine S4 5 J ?_;refine jq h (λ_=>St.of [(2,.ptr 2005 0 0),(4,.ptr 2003 0 0),(5,.ptr 2002 0 0),(6,.ptr 2001 0 0)] [(2001,vR (.I 0) 1),(2002,vR (.I 0) 1),(2003,vR (.agg [.nl,.I 0]) 2),(2005,vR (b9.Pv a0) 2)]) (λq10 h=>?_) λκ9 h=>?_
 ·refine S4 4 J ?_;refine a7 ?_;cases h;exact⟨J,[_,_,_],⟨oL J J J Y4 T0 nl J,⟨oS J J J G0 J,⟨oS J J J a5s J,tr⟩⟩⟩,J,io⟩
 ·refine S3 1 J ?_;refine cF h a2j J J λv11 _ h=>yN<|c6<|R6 (WPE (λl=>if l=2006 then 6 else if l=2007 then 5 else if l=2008 then 4 else if l=2009 then 3 else if l=2010 then 2 else l) [(2,.ptr 2010 0 0),(3,.ptr 2009 0 0),(4,.ptr 2008 0 0),(5,.ptr 2007 0 0),(6,.ptr 2006 0 0),(10,.fn (.func 367) [.rptr (b9.Pc v11)])] [(2006,vR (.I 0) 1),(2007,vR (.I 0) 1),(2008,vR (.agg [.nl,.I 0]) 2),(2009,vR (p8.Pv a1) 6),(2010,vR (b9.Pv a0) 2)]) ?_;refine U4 (fn:=Tryz.f367) (N1:=23) J Tryz.func367 J J nl J b3I J J (λl19 e20 o21 hR22=>?_);refine S3 2 J<|nL J I1<|S2 1 J<|c6<|lq h (λs13=>St.of [(1000002,.ptr 2010 0 0),(1000003,.ptr 2009 0 0),(1000004,.ptr 2008 0 0),(1000005,.ptr 2007 0 0),(1000006,.ptr 2006 0 0),(1000010,.fn (.func 367) [.rptr (b9.Pc v11)]),(0,.fn (.yield l19) []),(6,.L b6.Pv v11.o8),(7,.I (v11.o8.length:Int)),(8,.I s13)] [(2006,vR (.I 0) 1),(2007,vR (.I 0) 1),(2008,vR (.agg [.nl,.I 0]) 2),(2009,vR (p8.Pv a1) 6),(2010,vR (b9.Pv a0) 2)]) W λs13 x14 h hx25=>S4 1 J<|c5 ?_;refine cN h (λhc h=>?_) λhc h=>?_
  ·refine b5 ?_;refine c5<|c6<|S3 1 J<|iL h J J I1 H7 λv15 _ h=>S2 4 J<|S3 4 J<|k9 J (λhg=>om (d:=.fn (.yield l19) []) J)<|k9 J (λhg=>mI J) ?_;rcases Bool.eq_false_or_eq_true ((v15.State==0)==true) with hg27 | hg27
   ·have h:=ifT h hg27;refine E1 (WE [(1000002,.ptr 2010 0 0),(1000003,.ptr 2009 0 0),(1000004,.ptr 2008 0 0),(1000005,.ptr 2007 0 0),(1000006,.ptr 2006 0 0),(1000010,.fn (.func 367) [.rptr (b9.Pc v11)]),(0,.fn (.yield l19) []),(6,.L b6.Pv v11.o8),(7,.I (v11.o8.length:Int)),(8,.I s13),(16,.bool (v15.State==0)),(17,.fn (.yield l19) []),(18,.I s13)] [(2006,vR (.I 0) 1),(2007,vR (.I 0) 1),(2008,vR (.agg [.nl,.I 0]) 2),(2009,vR (p8.Pv a1) 6),(2010,vR (b9.Pv a0) 2)]) ?_;refine a2p hR22 (congrArg some hg27) J J J J J (λe28 o29 o30=>?_);refine S6 1 J ?_;refine⟨J,?_⟩;refine c6<|S3 3 J<|iL h J J I1 H7 λv16 _ h=>S2 3 J<|S3 4 J<|y0 J (o6 (cs:=[.I 1,.I v16.Gen,.I a1.Serial,.I a1.Strong,.I a1.Weak,.I a1.Prog,.bool a1.Started,.L iF a1.Fields]) J a6F a3x J J J)<|cF h B6 J J λv17 _ h=>S1 2 J<|cA h a2W J J λv18 _ h=>S2 3 J<|a7 ?_;refine⟨J,?_⟩;refine E1 (WE [(1000002,.ptr 2010 0 0),(1000003,.ptr 2009 0 0),(1000004,.ptr 2008 0 0),(1000005,.ptr 2007 0 0),(1000006,.ptr 2006 0 0),(1000010,.fn (.func 367) [.rptr (b9.Pc v11)]),(0,.fn (.yield l19) []),(6,.L b6.Pv v11.o8),(7,.I (v11.o8.length:Int)),(8,.I s13),(16,.bool (v15.State==0)),(19,.bool false)] [(2006,vR (.I 0) 1),(2007,vR (.I v18) 1),(2008,vR (b9.Pv v17) 2),(2009,vR (p8.Pv a1) 6),(2010,vR (b9.Pv a0) 2)])<|y0 (congrArg some hg27) (a0x J J)<|y0 J (a13 J J hg27)<|yN ?_;refine y7 true J (λ_=>?_) (λq=>nomatch q);refine a7 ?_;refine .inr ⟨.ret,J,b4c ?_⟩;have h:=xL hx25 h;cases h;exact⟨J,[_,_,_],⟨oL J J J Y4 T0 nl J,⟨oS J J J G0 J,⟨oS J J J a5s J,tr⟩⟩⟩,J,io⟩
   ·have h:=ifF h hg27;refine R1 (congrArg some hg27)<|R1 (congrArg some hg27)<|y0 J (a3E J J hg27)<|yN ?_;refine y7 false J (λq=>nomatch q) (λ_=>?_);refine b5<|S6 2 J ?_;exact eL h W
  ·refine o9 ?_;refine c4<|c4<|j7 ?_;refine .inl ⟨J,?_⟩;have h:=xL hx25 h;exact eJ h (WP (λl=>if l=2005 then 2010 else if l=2003 then 2008 else if l=2002 then 2007 else if l=2001 then 2006 else l))

theorem a8e{a0 a1 a2}:PO Tryz.prog 176 [b8.Pv a0,.I a1,.I a2] (a7J a0 a1 a2) λr=>.tup [b8.Pv r.1,.I r.2.1,.I r.2.2]:=by
 refine pO Tryz.func176 λr h _ _=>?_;refine S4 4 J<|S3 1 J<|cF h b03 J J λv1 _ h=>S2 5 J<|c5<|S4 2 J ?_;refine cN h (λhc h=>?_) λhc h=>?_
 ·refine S4 5 J ?_;refine a7 ?_;cases h;exact⟨J,[_,_,_],⟨oL J J J a1G a1K nl J,⟨J,⟨J,tr⟩⟩⟩,J,io⟩
 ·refine b5 ?_;refine c5<|S3 1 J<|cA h a3t J J λv2 _ h=>S2 1 J ?_;refine cN h (λhc h=>?_) λhc h=>?_
  ·refine S4 4 J ?_;refine a7 ?_;cases h;exact⟨J,[_,_,_],⟨oL J J J a1G a1K nl J,⟨J,⟨J,tr⟩⟩⟩,J,io⟩
  ·refine b5 ?_;refine S3 7 J<|y0 J (o6 (cs:=[.I (G2 (a0.Serial+1)),.I 0,.I 0,.I a2,.bool false,.L iF v1.1]) J b3P b32 J J J)<|cF h a2i J J λv3 _ h=>S2 8 J<|c5<|S4 2 J ?_;refine cN h (λhc h=>?_) λhc h=>?_
   ·refine S4 5 J ?_;refine a7 ?_;cases h;exact⟨J,[_,_,_],⟨oL J J J a1G a1K nl J,⟨J,⟨J,tr⟩⟩⟩,J,io⟩
   ·refine b5 ?_;refine S3 4 J<|y0 J (o6 (cs:=[.L b6.Pv v3.1.o8,.I v3.1.Last,.I (G2 (a0.Serial+1))]) J b2l b2q J J J)<|S2 4 J<|a7 ?_;cases h;exact⟨J,[_,_,_],⟨oL J J J a1G a1K nl J,⟨J,⟨J,tr⟩⟩⟩,J,io⟩

theorem a7o{a0 a1}:PO Tryz.prog 327 [a6.Pv a0,.I a1] (a6g a0 a1) λr=>.bool r:=by
 refine pO Tryz.func327 λr h _ _=>?_;refine S4 2 J<|S3 3 J<|cF h u5 J J λv1 _ h=>S2 6 J<|S4 3 J<|a7 ?_;cases h;exact f1

theorem I6{a0 a1}:PO Tryz.prog 256 [a6.Pv a0,.I a1] (H2 a0 a1) λr=>.bool r:=by
 refine pO Tryz.func256 λr h _ _=>?_;unfold H2 at h;refine S4 2 J<|S3 3 J<|k9 J (λhg=>oL J J J o5 l4 nl J)<|k9 J (λhg=>mI J)<|r9 h λv1 hv1 h=>k9 J (λhg=>H3 J a7o (a0o (ct hg) (a0o (ct hg) J)) (L6 hv1 hg))<|y0 J (D8 J J J (λq=>eqF q))<|S2 1 J<|a7 ?_;cases h;exact f1

theorem L9{a0}:PO Tryz.prog 332 [.I a0] (G3 a0) λr=>.bool r:=by
 refine pO Tryz.func332 λr h _ _=>?_;unfold G3 at h;refine S4 1 J<|S4 3 J<|a7 ?_;cases h;exact f1

theorem a4U{a0}:PO Tryz.prog 271 [.I a0] (a2P a0) λr=>.tup [.I r.1,.I r.2]:=by
 refine pO Tryz.func271 λr h _ _=>?_;refine S4 2 J<|c5<|S3 1 J<|cA h L9 J J λv1 _ h=>yN ?_;refine cN h (λhc h=>?_) λhc h=>?_
 ·refine S4 2 J ?_;refine a7 ?_;cases h;exact f2
 ·refine b5 ?_;refine S3 1 J<|y0 J (b1v J J J)<|S2 3 J<|a7 ?_;cases h;exact f2

theorem a86{a0}:PO Tryz.prog 190 [.I a0] (a8r a0) λr=>.I r:=by
 refine pO Tryz.func190 λr h _ _=>?_;refine S4 1 J<|S3 1 J<|cA h a4U J J λv1 _ h=>S2 5 J<|S4 2 J<|a7 ?_;cases h;exact f1

theorem a2J{a0 a1 a2}:PO Tryz.prog 187 [b9.Pv a0,.I a1,p8.Pv a2] (a0B a0 a1 a2) λr=>.tup [b9.Pv r.1,.I r.2]:=by
 refine pO Tryz.func187 λr h _ _=>?_;refine S4 4 J<|S3 2 J<|cA h B5 J J λv1 _ h=>S2 5 J<|c5<|S4 2 J ?_;refine cN h (λhc h=>?_) λhc h=>?_
 ·refine S4 4 J ?_;refine a7 ?_;cases h;exact⟨J,[_,_],⟨oL J J J Y4 T0 nl J,⟨J,tr⟩⟩,J,io⟩
 ·refine b5 ?_;refine S3 3 J<|iL h J J I1 H7 λv2 _ h=>S2 3 J<|S4 3 J<|S3 3 J<|cF h B6 J J λv3 _ h=>S2 2 J<|a7 ?_;cases h;exact⟨J,[_,_],⟨oL J J J Y4 T0 nl J,⟨J,tr⟩⟩,J,io⟩

theorem N6{a0 a1 a2}:PO Tryz.prog 114 [b8.Pv a0,.I a1,p8.Pv a2] (W6 a0 a1 a2) λr=>.tup [b8.Pv r.1,.I r.2]:=by
 refine pO Tryz.func114 λr h _ _=>?_;refine S4 4 J<|S4 1 J<|S3 4 J<|cF h a2J J J λv1 _ h=>S2 6 J<|S4 4 J<|a7 ?_;cases h;exact⟨J,[_,_],⟨oL J J J a1G a1K nl J,⟨J,tr⟩⟩,J,io⟩

theorem a0s{a0 a1}:PO Tryz.prog 189 [a6.Pv a0,.I a1,.fn (.func 190) []] (R5 a0 a1) λr=>a6.Pv r:=by
 refine pO Tryz.func189 λr h _ _=>?_;refine S4 2 J<|S3 3 J<|cF h u5 J J λv1 _ h=>S2 6 J<|c5<|S4 2 J ?_;refine cN h (λhc h=>?_) λhc h=>?_
 ·refine S3 3 J ?_;refine cA h a86 J J λv2 _ h=>S2 2 J<|S5 4 J<|cF h N6 J J λv3 _ h=>S2 5 J<|S4 2 J<|a7 ?_;cases h;exact⟨J,[_],⟨oL J J J o5 l4 nl J,tr⟩,J,io⟩
 ·refine b5 ?_;refine S4 2 J<|a7 ?_;cases h;exact⟨J,[_],⟨oL J J J o5 l4 nl J,tr⟩,J,io⟩

theorem U0{a0 a1}:PO Tryz.prog 116 [a6.Pv a0,.I a1] (X6 a0 a1) λr=>a6.Pv r:=by
 refine pO Tryz.func116 λr h _ _=>?_;refine S4 2 J<|S3 2 J<|cF h a0s J J λv1 _ h=>S2 1 J<|a7 ?_;cases h;exact⟨J,[_],⟨oL J J J o5 l4 nl J,tr⟩,J,io⟩

theorem a1h{a0}:PON Tryz.prog 347 [.L iF a0] (M5 a0) λr=>⟨List.map iF r,0,true,1,true⟩:=by
 refine pON Tryz.func347 λr h _ _=>?_;unfold M5 at h;refine S4 1 J<|c5<|S3 1 J<|a9G J j1 λb hb=>yN ?_;refine y7 b J (λhc=>?_) (λhc=>?_)
 ·obtain rfl:a0 = []:=by simpa using hb hc
  refine S4 1 J<|R6 (J0 (t:=2) (l:=920000) (z:=1) J J)<|a7 ?_;cases h;exact⟨J,_,_,J,J,J,J⟩
 ·refine b5 ?_;refine sR<|y0 J (a7w J j1 l7)<|S1 1 J<|y1 J (b0c (f:=iF) h J J (.inl ⟨_,J,J⟩) j1 l7 J3 y9 J (λ_=>J)) J<|S2 1 J<|a7 ?_;exact⟨J,_,_,J,J,J,J⟩

theorem a2H{a0 a1}:PO Tryz.prog 298 [B2.Pv a0,a6.Pv a1] (Q4 a0 a1) λr=>a6.Pv r:=by
 refine pO Tryz.func298 λr h _ _=>?_;unfold Q4 at h;refine S4 3 J<|S3 2 J<|r9 h λv1 hv1 h=>ycN J (a8G J a1h J hv1) J J<|S2 2 J<|S3 6 J<|r9 h λv2 hv2 h=>y0 J (a0w (f:=iF) hv2 J J J J j1 l7 J)<|a4h (f:=iF) (v:=a0.h) hv2 J J (.inl J) l7<|yN<|S4 2 J<|a7 ?_;cases h;exact⟨J,[_],⟨oL J J J o5 l4 nl J,tr⟩,J,io⟩

theorem a3L{a0}:PO Tryz.prog 281 [.I a0] (a1p a0) λr=>.tup [.I r.1,.I r.2]:=by
 refine pO Tryz.func281 λr h _ _=>?_;refine S4 2 J<|c5<|S3 1 J<|cA h L9 J J λv1 _ h=>yN ?_;refine cN h (λhc h=>?_) λhc h=>?_
 ·refine S4 2 J ?_;refine a7 ?_;cases h;exact f2
 ·refine b5 ?_;refine c5<|S4 2 J ?_;refine cN h (λhc h=>?_) λhc h=>?_
  ·refine S4 2 J ?_;refine a7 ?_;cases h;exact f2
  ·refine b5 ?_;refine S4 4 J<|a7 ?_;cases h;exact f2

theorem a84{a0}:PO Tryz.prog 197 [.I a0] (a8q a0) λr=>.tup [.I r.1,.I r.2]:=by
 refine pO Tryz.func197 λr h _ _=>?_;refine S4 2 J<|S3 1 J<|cA h a3L J J λv1 _ h=>S2 5 J<|S4 4 J<|a7 ?_;cases h;exact f2

theorem a5b{a0}:PO Tryz.prog 196 [.I a0] (a3a a0) λr=>.I r:=by
 refine pO Tryz.func196 λr h _ _=>?_;refine S4 1 J<|S3 1 J<|cA h a84 J J λv1 _ h=>S2 5 J<|c5<|S4 2 J ?_;refine cN h (λhc h=>?_) λhc h=>?_
 ·refine S4 2 J ?_;refine a7 ?_;cases h;exact f1
 ·refine b5 ?_;refine S4 2 J<|a7 ?_;cases h;exact f1

theorem V3{a0 a1}:PO Tryz.prog 189 [a6.Pv a0,.I a1,.fn (.func 196) []] (K4 a0 a1) λr=>a6.Pv r:=by
 refine pO Tryz.func189 λr h _ _=>?_;refine S4 2 J<|S3 3 J<|cF h u5 J J λv1 _ h=>S2 6 J<|c5<|S4 2 J ?_;refine cN h (λhc h=>?_) λhc h=>?_
 ·refine S3 3 J ?_;refine cA h a5b J J λv2 _ h=>S2 2 J<|S5 4 J<|cF h N6 J J λv3 _ h=>S2 5 J<|S4 2 J<|a7 ?_;cases h;exact⟨J,[_],⟨oL J J J o5 l4 nl J,tr⟩,J,io⟩
 ·refine b5 ?_;refine S4 2 J<|a7 ?_;cases h;exact⟨J,[_],⟨oL J J J o5 l4 nl J,tr⟩,J,io⟩

theorem K3{a0 a1}:PO Tryz.prog 123 [a6.Pv a0,.I a1] (N3 a0 a1) λr=>a6.Pv r:=by
 refine pO Tryz.func123 λr h _ _=>?_;refine S4 2 J<|S3 2 J<|cF h V3 J J λv1 _ h=>S2 1 J<|a7 ?_;cases h;exact⟨J,[_],⟨oL J J J o5 l4 nl J,tr⟩,J,io⟩

theorem Q6{a0 a1 a2 a3}:PO Tryz.prog 257 [a6.Pv a0,.I a1,.I a2,.abs (BFn 298 [B2.Pv a3])] (H6 a0 a1 a2 a3) λr=>a6.Pv r:=by
 refine pO Tryz.func257 λr h _ _=>?_;refine S4 2 J<|S3 3 J<|cF h U0 J J λv1 _ h=>r9 h λv2 hv2 h=>a9F (xs:=[a6.Pv v1]) J J b3H J (a2H.2 _ hv2)<|S1 1 J<|cF h K3 J J λv3 _ h=>S2 1 J<|a7 ?_;cases h;exact⟨J,[_],⟨oL J J J o5 l4 nl J,tr⟩,J,io⟩

theorem a1X{a0 a1 a2}:PO Tryz.prog 205 [a6.Pv a0,.I a1,.I a2] (a3B a0 a1 a2) λr=>.tup [a6.Pv r.1,.I r.2]:=by
 refine pO Tryz.func205 λr h _ _=>?_;refine S4 3 J<|c5<|S3 3 J<|k9 J (λhg=>mI J)<|k9 J (λhg=>oF J a9L J)<|k9 J (λhg=>oS (ct hg) J J b0A J)<|k9 J (λhg=>a3g (f:=iF) (ct hg) j1)<|k9 J (λhg=>A0 (ct hg) (ct hg) J)<|y0 J (D8 J J J (λq=>eqF q))<|yN ?_;refine cN h (λhc h=>?_) λhc h=>?_
 ·refine S4 3 J ?_;refine a7 ?_;cases h;exact⟨J,[_,_],⟨oL J J J o5 l4 nl J,⟨J,tr⟩⟩,J,io⟩
 ·refine b5 ?_;refine c5<|S3 2 J<|cA h I6 J J λv1 _ h=>S2 1 J ?_;refine cN h (λhc h=>?_) λhc h=>?_
  ·refine S4 3 J ?_;refine a7 ?_;cases h;exact⟨J,[_,_],⟨oL J J J o5 l4 nl J,⟨J,tr⟩⟩,J,io⟩
  ·refine b5 ?_;refine dr [] p7 (by kernel_rfl) (by kernel_rfl)<|S7 4 J<|r9 h λv2 hv2 h=>d0 J (B4 (f:=iF) (cs:=[.I v2]) hv2 J J j1 l7 J J) J<|S7 4 J<|d7 J (λ_ hN=>o6 (cs:=[.I a1,.I a2]) J b3U b37 J J J) J<|d7 J (λ_ hN=>a5L (d:=.agg [.I a1,.I a2]) J) J<|r9 h λv3 hv3 h=>d2f J (u9 J Q6 J hv3) J<|x4 (x':=a6.Pv v3) (cl':=true) J J (.inr J) l4<|S8 1 J<|a7 ?_;cases h;exact⟨J,[_,_],⟨oL J J J o5 l4 nl J,⟨J,tr⟩⟩,J,io⟩

theorem A8{a0 a1 a2}:PO Tryz.prog 177 [l8.Pv a0,.I a1,.I a2] (B3 a0 a1 a2) λr=>.tup [a6.Pv r.1,.I r.2]:=by
 refine pO Tryz.func177 λr h _ _=>?_;refine S4 3 J<|c5<|S4 2 J ?_;refine cN h (λhc h=>?_) λhc h=>?_
 ·refine S4 5 J ?_;refine a7 ?_;cases h;exact⟨J,[_,_],⟨oL J J J o5 l4 nl J,⟨J,tr⟩⟩,J,io⟩
 ·refine b5 ?_;refine S3 6 J<|cF h a1X J J λv1 _ h=>S2 4 J<|a7 ?_;cases h;exact⟨J,[_,_],⟨oL J J J o5 l4 nl J,⟨J,tr⟩⟩,J,io⟩

theorem U1{a0}:PO Tryz.prog 97 [l8.Pv a0] (Z5 a0) λr=>.tup [a6.Pv r.1,.I r.2]:=by
 refine pO Tryz.func97 λr h _ _=>?_;refine S4 3 J<|S3 9 J<|cF h a8e J J λv1 _ h=>S2 8 J<|c5<|S4 2 J ?_;refine cN h (λhc h=>?_) λhc h=>?_
 ·refine S4 5 J ?_;refine a7 ?_;cases h;exact⟨J,[_,_],⟨oL J J J o5 l4 nl J,⟨J,tr⟩⟩,J,io⟩
 ·refine b5 ?_;refine S4 4 J<|S3 2 J<|cF h A8 J J λv2 _ h=>S2 4 J<|a7 ?_;cases h;exact⟨J,[_,_],⟨oL J J J o5 l4 nl J,⟨J,tr⟩⟩,J,io⟩

theorem N7{a0}:PO Tryz.prog 98 [l8.Pv a0] (J8 a0) λr=>.tup [a6.Pv r.1,.I r.2]:=by
 refine pO Tryz.func98 λr h _ _=>?_;unfold J8 at h;refine S4 3 J<|dr [] p7 (by kernel_rfl) (by kernel_rfl)<|S7 6 J<|r9 h λv1 hv1 h=>d2 J (H3 J E6 J hv1) J<|r9 h λv2 hv2 h=>d2f J (u9 J A8 J hv2) J<|S7 2 J<|x4 (x':=a6.Pv v2.1) (cl':=true) J J (.inr J) l4<|S8 1 J<|a7 ?_;cases h;exact⟨J,[_,_],⟨oL J J J o5 l4 nl J,⟨J,tr⟩⟩,J,io⟩

theorem X7{a0}:PO Tryz.prog 99 [l8.Pv a0] (a0R a0) λr=>.tup [a6.Pv r.1,.I r.2]:=by
 refine pO Tryz.func99 λr h _ _=>?_;refine S4 3 J<|S3 1 J<|cF h A8 J J λv1 _ h=>S2 4 J<|a7 ?_;cases h;exact⟨J,[_,_],⟨oL J J J o5 l4 nl J,⟨J,tr⟩⟩,J,io⟩

theorem G5{a0 a1}:PO Tryz.prog 178 [a6.Pv a0,.I a1] (I7 a0 a1) λr=>.tup [.I r.1,.I r.2]:=by
 refine pO Tryz.func178 λr h _ _=>?_;refine S4 3 J<|S3 2 J<|cA h E6 J J λv1 _ h=>S2 1 J<|c5<|S4 2 J ?_;refine cN h (λhc h=>?_) λhc h=>?_
 ·refine S4 2 J ?_;refine a7 ?_;cases h;exact f2
 ·refine b5 ?_;refine S4 3 J<|a7 ?_;cases h;exact f2

theorem a7R{a0 a1}:PO Tryz.prog 326 [.L iF a0,.I a1] (a6R a0 a1) λr=>.bool r:=by
 refine pO Tryz.func326 λr h _ _=>?_;unfold a6R at h;refine S4 1 J<|S3 3 J<|k9 J (λhg=>mI J)<|k9 J (λhg=>om (d:=.L iF a0) J)<|k9 J (λhg=>a3g (f:=iF) (ct hg) j1)<|k9 J (λhg=>A0 (ct hg) (ct hg) J)<|y0 J (A3 J J J (λq=>eqT q))<|S2 1 J<|a7 ?_;cases h;exact f1

theorem b2c{a0 a1}:PO Tryz.prog 255 [.L iF a0,.I a1] (b3d a0 a1) λr=>.tup [.I r.1,.I r.2]:=by
 refine pO Tryz.func255 λr h _ _=>?_;refine S4 2 J<|c5<|S3 2 J<|cA h a7R J J λv1 _ h=>S2 1 J ?_;refine cN h (λhc h=>?_) λhc h=>?_
 ·refine S4 2 J ?_;refine a7 ?_;cases h;exact f2
 ·refine b5 ?_;refine S3 2 J<|iL h J J j1 l7 λv2 _ h=>S2 3 J<|a7 ?_;cases h;exact f2

theorem a3s{a0 a1 a2}:PO Tryz.prog 179 [b8.Pv a0,.I a1,.I a2] (a3r a0 a1 a2) λr=>.tup [.I r.1,.I r.2]:=by
 refine pO Tryz.func179 λr h _ _=>?_;refine S4 3 J<|S3 2 J<|cF h u5 J J λv1 _ h=>S2 6 J<|c5<|S4 2 J ?_;refine cN h (λhc h=>?_) λhc h=>?_
 ·refine S4 3 J ?_;refine a7 ?_;cases h;exact f2
 ·refine b5 ?_;refine S3 3 J<|cA h b2c J J λv2 _ h=>S2 4 J<|a7 ?_;cases h;exact f2

theorem X8{a0}:PO Tryz.prog 100 [l8.Pv a0] (a0S a0) λr=>.tup [a6.Pv r.1,.I r.2]:=by
 refine pO Tryz.func100 λr h _ _=>?_;refine S4 3 J<|S3 5 J<|cA h G5 J J λv1 _ h=>S2 5 J<|c5<|S4 2 J ?_;refine cN h (λhc h=>?_) λhc h=>?_
 ·refine S4 5 J ?_;refine a7 ?_;cases h;exact⟨J,[_,_],⟨oL J J J o5 l4 nl J,⟨J,tr⟩⟩,J,io⟩
 ·refine b5 ?_;refine dr [] p7 (by kernel_rfl) (by kernel_rfl)<|S7 8 J<|r9 h λv2 hv2 h=>d2 J (H3 J a3s J hv2) J<|S7 2 J<|r9 h λv3 hv3 h=>d2f J (u9 J A8 J hv3) J<|S7 2 J<|x4 (x':=a6.Pv v3.1) (cl':=true) J J (.inr J) l4<|S8 1 J<|a7 ?_;cases h;exact⟨J,[_,_],⟨oL J J J o5 l4 nl J,⟨J,tr⟩⟩,J,io⟩

theorem b0o{a0 a1 a2}:PO Tryz.prog 368 [.L iF a0,.I a1,.I a2] (b0n a0 a1 a2) λr=>.tup [.L iF r.1,.I r.2]:=by
 refine pO Tryz.func368 λr h _ _=>?_;refine S4 2 J<|c5<|S3 2 J<|cA h a7R J J λv1 _ h=>S2 1 J ?_;refine cN h (λhc h=>?_) λhc h=>?_
 ·refine S4 3 J ?_;refine a7 ?_;cases h;exact f2
 ·refine b5 ?_;refine S3 1 J<|nL J j1<|r9 h λv2 hv2 h=>y1 J (a7v (f:=iF) hv2 J J J j1 l7 y9 J3 J J J) J<|S2 1 J<|S3 2 J<|r9 h λv3 hv3 h=>b58 (f:=iF) hv3 J J J (.inl ⟨_,J,J⟩) j1 l7 (λ_=>J) (by decide)<|yN<|S3 3 J<|r9 h λv4 hv4 h=>y0 J (a0w (f:=iF) hv4 J J J J j1 l7 J)<|a4h (f:=iF) (v:=a2) hv4 J J (.inl J) l7<|yN<|S4 3 J<|a7 ?_;cases h;exact f2

theorem a9w{a0 a1 a2 a3}:PO Tryz.prog 328 [b8.Pv a0,.I a1,.I a2,.I a3] (a8N a0 a1 a2 a3) λr=>.tup [b8.Pv r.1,.I r.2]:=by
 refine pO Tryz.func328 λr h _ _=>?_;refine S4 3 J<|S3 2 J<|cF h u5 J J λv1 _ h=>S2 6 J<|c5<|S4 2 J ?_;refine cN h (λhc h=>?_) λhc h=>?_
 ·refine S4 4 J ?_;refine a7 ?_;cases h;exact⟨J,[_,_],⟨oL J J J a1G a1K nl J,⟨J,tr⟩⟩,J,io⟩
 ·refine b5 ?_;refine c5<|S3 4 J<|cF h b0o J J λv2 _ h=>S2 6 J<|S4 2 J ?_;refine cN h (λhc h=>?_) λhc h=>?_
  ·refine S4 4 J ?_;refine a7 ?_;cases h;exact⟨J,[_,_],⟨oL J J J a1G a1K nl J,⟨J,tr⟩⟩,J,io⟩
  ·refine b5 ?_;refine S3 3 J<|cF h N6 J J λv3 _ h=>S2 4 J<|a7 ?_;cases h;exact⟨J,[_,_],⟨oL J J J a1G a1K nl J,⟨J,tr⟩⟩,J,io⟩

theorem a1Y{a0 a1}:PO Tryz.prog 258 [z8.Pv a0,a6.Pv a1] (Z4 a0 a1) λr=>a6.Pv r:=by
 refine pO Tryz.func258 λr h _ _=>?_;refine S4 3 J<|S3 8 J<|cF h a9w J J λv1 _ h=>S2 5 J<|S4 2 J<|a7 ?_;cases h;exact⟨J,[_],⟨oL J J J o5 l4 nl J,tr⟩,J,io⟩

theorem P1{a0 a1 a2 a3}:PO Tryz.prog 257 [a6.Pv a0,.I a1,.I a2,.abs (BFn 258 [z8.Pv a3])] (G4 a0 a1 a2 a3) λr=>a6.Pv r:=by
 refine pO Tryz.func257 λr h _ _=>?_;refine S4 2 J<|S3 3 J<|cF h U0 J J λv1 _ h=>r9 h λv2 hv2 h=>a9F (xs:=[a6.Pv v1]) J J b3D J (a1Y.2 _ hv2)<|S1 1 J<|cF h K3 J J λv3 _ h=>S2 1 J<|a7 ?_;cases h;exact⟨J,[_],⟨oL J J J o5 l4 nl J,tr⟩,J,io⟩

theorem a74{a0 a1 a2 a3}:PO Tryz.prog 180 [a6.Pv a0,.I a1,.I a2,.I a3] (a7n a0 a1 a2 a3) λr=>.tup [a6.Pv r.1,.I r.2]:=by
 refine pO Tryz.func180 λr h _ _=>?_;refine S4 3 J<|S3 4 J<|cA h a3s J J λv1 _ h=>S2 5 J<|c5<|S4 2 J ?_;refine cN h (λhc h=>?_) λhc h=>?_
 ·refine S4 4 J ?_;refine a7 ?_;cases h;exact⟨J,[_,_],⟨oL J J J o5 l4 nl J,⟨J,tr⟩⟩,J,io⟩
 ·refine b5 ?_;refine c5<|S3 2 J<|cA h I6 J J λv2 _ h=>S2 1 J ?_;refine cN h (λhc h=>?_) λhc h=>?_
  ·refine S4 3 J ?_;refine a7 ?_;cases h;exact⟨J,[_,_],⟨oL J J J o5 l4 nl J,⟨J,tr⟩⟩,J,io⟩
  ·refine b5 ?_;refine S3 6 J<|y0 J (o6 (cs:=[.I a1,.I a2,.I a3]) J b3R b34 J J J)<|y0 J (a5L (d:=.agg [.I a1,.I a2,.I a3]) J)<|cF h P1 J J λv3 _ h=>S2 2 J<|a7 ?_;cases h;exact⟨J,[_,_],⟨oL J J J o5 l4 nl J,⟨J,tr⟩⟩,J,io⟩

theorem V9{a0}:PO Tryz.prog 101 [l8.Pv a0] (a0u a0) λr=>.tup [a6.Pv r.1,.I r.2]:=by
 refine pO Tryz.func101 λr h _ _=>?_;refine S4 3 J<|S3 5 J<|cA h G5 J J λv1 _ h=>S2 5 J<|c5<|S4 2 J ?_;refine cN h (λhc h=>?_) λhc h=>?_
 ·refine S4 5 J ?_;refine a7 ?_;cases h;exact⟨J,[_,_],⟨oL J J J o5 l4 nl J,⟨J,tr⟩⟩,J,io⟩
 ·refine b5 ?_;refine dr [] p7 (by kernel_rfl) (by kernel_rfl)<|S7 11 J<|r9 h λv2 hv2 h=>d2 J (H3 J E6 J hv2) J<|r9 h λv3 hv3 h=>d2f J (u9 J a74 J hv3) J<|S7 2 J<|x4 (x':=a6.Pv v3.1) (cl':=true) J J (.inr J) l4<|S8 1 J<|a7 ?_;cases h;exact⟨J,[_,_],⟨oL J J J o5 l4 nl J,⟨J,tr⟩⟩,J,io⟩

theorem b02{a0 a1}:PO Tryz.prog 329 [b7.Pv a0,.I a1] (a9y a0 a1) λr=>.fn (.func 369) [.rptr (b7.Pc r.1),.rptr [.I r.2]]:=by
 refine pO Tryz.func329 λr h _ _=>?_;unfold a9y at h;refine S4 3 J<|S4 2 J<|a7 ?_;cases h;exact f1

theorem a8f{a0 a1}:PO Tryz.prog 259 [b7.Pv a0,.I a1] (a7L a0 a1) λr=>.bool r:=by
 refine pO Tryz.func259 λr h _ _=>?_;refine S4 3 J ?_;refine jq h (λ_=>St.of [(4,.ptr 2001 0 0)] [(2001,vR (.bool false) 1)]) (λq7 h=>?_) λκ6 h=>?_
 ·refine S4 1 J ?_;refine a7 ?_;cases h;exact⟨J,[_],⟨oS J J J a8j J,tr⟩,J,io⟩
 ·refine S3 1 J ?_;refine cF h b02 J J λv8 _ h=>yN<|c6<|R6 (WPE (λl=>if l=2003 then 4 else if l=2004 then 3 else l) [(3,.ptr 2004 0 0),(4,.ptr 2003 0 0),(7,.fn (.func 369) [.rptr (b7.Pc v8.1),.rptr [.I v8.2]])] [(2003,vR (.bool false) 1),(2004,vR (.I a1) 1)]) ?_;refine U4 (fn:=Tryz.f369) (N1:=24) J Tryz.func369 J J nl J b3J J J (λl16 e17 o18 hR19=>?_);refine S3 2 J<|nL J a2L<|S2 1 J<|c6<|lq h (λs10=>St.of [(1000003,.ptr 2004 0 0),(1000004,.ptr 2003 0 0),(1000007,.fn (.func 369) [.rptr (b7.Pc v8.1),.rptr [.I v8.2]]),(0,.fn (.yield l16) []),(2,.rptr [.I v8.2]),(7,.L k8.Pv v8.1.L),(8,.I (v8.1.L.length:Int)),(9,.I s10)] [(2003,vR (.bool false) 1),(2004,vR (.I a1) 1)]) W λs10 x11 h hx22=>S4 1 J<|c5 ?_;refine cN h (λhc h=>?_) λhc h=>?_
  ·refine b5 ?_;refine c5<|c6<|sR<|iL h J J a2L E2 λv12 _ h=>S2 3 J<|S3 5 J<|k9 J (λhg=>om (d:=.fn (.yield l16) []) J)<|k9 J (λhg=>oL J J J R9 E2 nl J) ?_;rcases Bool.eq_false_or_eq_true ((v12.Kind==v8.2)==true) with hg24 | hg24
   ·have h:=ifT h hg24;refine E1 (WE [(1000003,.ptr 2004 0 0),(1000004,.ptr 2003 0 0),(1000007,.fn (.func 369) [.rptr (b7.Pc v8.1),.rptr [.I v8.2]]),(0,.fn (.yield l16) []),(2,.rptr [.I v8.2]),(7,.L k8.Pv v8.1.L),(8,.I (v8.1.L.length:Int)),(9,.I s10),(17,.bool (v12.Kind==v8.2)),(18,.fn (.yield l16) []),(19,k8.Pv v12)] [(2003,vR (.bool false) 1),(2004,vR (.I a1) 1)]) ?_;refine a2p hR19 (congrArg some hg24) J J J J J (λe25 o26 o27=>?_);refine S6 2 J ?_;refine⟨J,?_⟩;refine c6<|S4 4 J ?_;refine cN h (λhc h=>?_) λhc h=>?_
    ·refine S4 1 J ?_;refine a7 ?_;refine⟨J,?_⟩;refine E1 (WE [(1000003,.ptr 2004 0 0),(1000004,.ptr 2003 0 0),(1000007,.fn (.func 369) [.rptr (b7.Pc v8.1),.rptr [.I v8.2]]),(0,.fn (.yield l16) []),(2,.rptr [.I v8.2]),(7,.L k8.Pv v8.1.L),(8,.I (v8.1.L.length:Int)),(9,.I s10),(17,.bool (v12.Kind==v8.2)),(20,.bool false)] [(2003,vR (.bool true) 1),(2004,vR (.I a1) 1)])<|y0 (congrArg some hg24) (a0x J J)<|y0 J (a13 J J hg24)<|yN ?_;refine y7 true J (λ_=>?_) (λq=>nomatch q);refine a7 ?_;refine .inr ⟨.ret,J,b4c ?_⟩;have h:=xL hx22 h;cases h;exact⟨J,[_],⟨oS J J J a8j J,tr⟩,J,io⟩
    ·refine b5 ?_;refine⟨J,?_⟩;refine E1 (WE [(1000003,.ptr 2004 0 0),(1000004,.ptr 2003 0 0),(1000007,.fn (.func 369) [.rptr (b7.Pc v8.1),.rptr [.I v8.2]]),(0,.fn (.yield l16) []),(2,.rptr [.I v8.2]),(7,.L k8.Pv v8.1.L),(8,.I (v8.1.L.length:Int)),(9,.I s10),(17,.bool (v12.Kind==v8.2)),(20,.bool true)] [(2003,vR (.bool false) 1),(2004,vR (.I a1) 1)])<|y0 (congrArg some hg24) (a0x J J)<|y0 J (a13 J J hg24)<|yN ?_;refine y7 false J (λq=>nomatch q) (λ_=>?_);refine b5<|S6 2 J ?_;exact eL h W
   ·have h:=ifF h hg24;refine R1 (congrArg some hg24)<|R1 (congrArg some hg24)<|y0 J (a3E J J hg24)<|yN ?_;refine y7 false J (λq=>nomatch q) (λ_=>?_);refine b5<|S6 2 J ?_;exact eL h W
  ·refine o9 ?_;refine c4<|c4<|j7 ?_;refine .inl ⟨J,?_⟩;have h:=xL hx22 h;exact eJ h (WP (λl=>if l=2001 then 2003 else l))

theorem a6r{a0 a1}:PO Tryz.prog 263 [.L c9.Pv a0,.I a1] (a5q a0 a1) λr=>.bool r:=by
 refine pO Tryz.func263 λr h _ _=>?_;unfold a5q at h;refine S4 1 J<|S3 3 J<|k9 J (λhg=>mI J)<|k9 J (λhg=>om (d:=.L c9.Pv a0) J)<|k9 J (λhg=>a3g (f:=c9.Pv) (ct hg) K5)<|k9 J (λhg=>A0 (ct hg) (ct hg) J)<|y0 J (A3 J J J (λq=>eqT q))<|S2 1 J<|a7 ?_;cases h;exact f1

theorem a2B{a0}:PON Tryz.prog 275 [.L c9.Pv a0] (a0Z a0) λr=>⟨List.map c9.Pv r,0,true,3,true⟩:=by
 refine pON Tryz.func275 λr h _ _=>?_;unfold a0Z at h;refine S4 1 J<|S3 1 J<|nL J K5<|r9 h λv1 hv1 h=>y1 J (a7v (f:=c9.Pv) hv1 J J J K5 L3 a81 b09 J J J) J<|S2 1 J<|S3 2 J<|r9 h λv2 hv2 h=>b58 (f:=c9.Pv) hv2 J J J (.inl ⟨_,J,J⟩) K5 L3 (λ_=>J) (by decide)<|yN<|S4 2 J<|a7 ?_;cases h;exact⟨J,_,_,J,J,J,J⟩

theorem b0s{a0 a1 a2 a3}:PO Tryz.prog 260 [.L c9.Pv a0,.I a1,.I a2,.I a3] (b0r a0 a1 a2 a3) λr=>.tup [.L c9.Pv r.1,.I r.2.1,.I r.2.2]:=by
 refine pO Tryz.func260 λr h _ _=>?_;refine S4 3 J<|c5<|S3 2 J<|cA h a6r J J λv1 _ h=>S2 1 J ?_;refine cN h (λhc h=>?_) λhc h=>?_
 ·refine S4 4 J ?_;refine a7 ?_;cases h;exact f3
 ·refine b5 ?_;refine S3 1 J<|r9 h λv2 hv2 h=>ycN J (a8G J a2B J hv2) J J<|S2 1 J<|S3 6 J<|y0 J (o6 (cs:=[.I a2,.bool (a2 != 0),.I a3]) J b3Q a81 J J J)<|r9 h λv3 hv3 h=>y0 J (a0w (f:=c9.Pv) hv3 J J J J K5 L3 J)<|a4h (f:=c9.Pv) (v:=(⟨a2,(a2 != 0),a3⟩:c9)) hv3 J J (.inl J) L3<|yN<|dr [] p7 (by kernel_rfl) (by kernel_rfl)<|S7 3 J<|r9 h λv4 hv4 h=>d0 J (B4 (f:=c9.Pv) (cs:=c9.Pc v4) hv4 J J K5 L3 J J) J<|S8 5 J<|a7 ?_;cases h;exact f3

theorem a3c{a0 a1 a2}:PO Tryz.prog 262 [a6.Pv a0,.I a1,.I a2] (a3b a0 a1 a2) λr=>a6.Pv r:=by
 refine pO Tryz.func262 λr h _ _=>?_;refine S4 2 J<|S3 4 J<|cA h B5 J J λv1 _ h=>S2 5 J<|c5<|S4 2 J ?_;refine cN h (λhc h=>?_) λhc h=>?_
 ·refine S3 5 J ?_;refine iL h J J I1 H7 λv2 _ h=>S2 4 J<|S4 6 J<|S5 4 J<|cF h N6 J J λv3 _ h=>S2 5 J<|S4 2 J<|a7 ?_;cases h;exact⟨J,[_],⟨oL J J J o5 l4 nl J,tr⟩,J,io⟩
 ·refine b5 ?_;refine S4 2 J<|a7 ?_;cases h;exact⟨J,[_],⟨oL J J J o5 l4 nl J,tr⟩,J,io⟩

theorem U9{a0 a1}:PO Tryz.prog 195 [b9.Pv a0,.I a1] (O7 a0 a1) λr=>.tup [b9.Pv r.1,.I r.2]:=by
 refine pO Tryz.func195 λr h _ _=>?_;refine S4 3 J<|S3 2 J<|cA h B5 J J λv1 _ h=>S2 5 J<|c5<|S4 2 J ?_;refine cN h (λhc h=>?_) λhc h=>?_
 ·refine S4 4 J ?_;refine a7 ?_;cases h;exact⟨J,[_,_],⟨oL J J J Y4 T0 nl J,⟨J,tr⟩⟩,J,io⟩
 ·refine b5 ?_;refine S3 3 J<|iL h J J I1 H7 λv2 _ h=>S2 3 J<|c5<|S4 4 J ?_;refine cN h (λhc h=>?_) λhc h=>?_
  ·refine S3 3 J ?_;refine y0 J (o6 (cs:=[.I 3,.I v2.Gen,.I 0,.I 0,.I 0,.I 0,.bool false,.nl]) J a6F a3x J J J)<|cF h B6 J J λv3 _ h=>S2 2 J<|a7 ?_;cases h;exact⟨J,[_,_],⟨oL J J J Y4 T0 nl J,⟨J,tr⟩⟩,J,io⟩
  ·refine b5 ?_;refine S3 4 J<|y0 J (o6 (cs:=[.I 0,.I (G2 (v2.Gen+1)),.I 0,.I 0,.I 0,.I 0,.bool false,.nl]) J a6F a3x J J J)<|cF h B6 J J λv4 _ h=>S2 2 J<|a7 ?_;cases h;exact⟨J,[_,_],⟨oL J J J Y4 T0 nl J,⟨J,tr⟩⟩,J,io⟩

theorem a5G{a0 a1}:PO Tryz.prog 261 [a6.Pv a0,.I a1] (a30 a0 a1) λr=>a6.Pv r:=by
 refine pO Tryz.func261 λr h _ _=>?_;refine S4 2 J<|S3 2 J<|cF h a3c J J λv1 _ h=>S2 1 J<|S3 4 J<|cA h B5 J J λv2 _ h=>S2 5 J<|c5<|S4 2 J ?_;refine cN h (λhc h=>?_) λhc h=>?_
 ·refine S4 2 J ?_;refine a7 ?_;cases h;exact⟨J,[_],⟨oL J J J o5 l4 nl J,tr⟩,J,io⟩
 ·refine b5 ?_;refine c5<|S3 5 J<|iL h J J I1 H7 λv3 _ h=>S2 3 J<|S3 4 J<|k9 J (λhg=>oF J b1O J)<|k9 J (λhg=>oF (ct hg) b1L J)<|k9 J (λhg=>oS (ct hg) J J G0 J)<|k9 J (λhg=>A0 (ct hg) J J)<|y0 J (A3 J J J (λq=>eqT q))<|yN ?_;refine cN h (λhc h=>?_) λhc h=>?_
  ·refine S5 4 J ?_;refine cF h U9 J J λv4 _ h=>S2 6 J<|S4 2 J<|a7 ?_;cases h;exact⟨J,[_],⟨oL J J J o5 l4 nl J,tr⟩,J,io⟩
  ·refine b5 ?_;refine S4 2 J<|a7 ?_;cases h;exact⟨J,[_],⟨oL J J J o5 l4 nl J,tr⟩,J,io⟩

theorem a5c{a0 a1 a2 a3}:PO Tryz.prog 181 [a6.Pv a0,.I a1,.I a2,.I a3] (a3C a0 a1 a2 a3) λr=>.tup [a6.Pv r.1,.I r.2]:=by
 refine pO Tryz.func181 λr h _ _=>?_;unfold a3C at h;refine S4 3 J<|c5<|S3 3 J<|k9 J (λhg=>mI J)<|k9 J (λhg=>oF J b2h J)<|k9 J (λhg=>oS (ct hg) J J b5a J)<|k9 J (λhg=>a3g (f:=c9.Pv) (ct hg) K5)<|k9 J (λhg=>A0 (ct hg) (ct hg) J)<|y0 J (D8 J J J (λq=>eqF q))<|S1 1 J<|k9 J (λhg=>oF J b2i J)<|k9 J (λhg=>oL (ct hg) J J a02 T3 nl J)<|k9 J (λhg=>mI J)<|r9 h λv1 hv1 h=>k9 J (λhg=>H3 J a8f (a0o (ct hg) (a0o (ct hg) J)) (L6 hv1 hg))<|y0 J (D8 J J J (λq=>eqF q))<|yN ?_;refine cN h (λhc h=>?_) λhc h=>?_
 ·refine S4 3 J ?_;refine a7 ?_;cases h;exact⟨J,[_,_],⟨oL J J J o5 l4 nl J,⟨J,tr⟩⟩,J,io⟩
 ·refine b5 ?_;refine c5<|S3 2 J<|cA h I6 J J λv2 _ h=>S2 1 J ?_;refine cN h (λhc h=>?_) λhc h=>?_
  ·refine S4 3 J ?_;refine a7 ?_;cases h;exact⟨J,[_,_],⟨oL J J J o5 l4 nl J,⟨J,tr⟩⟩,J,io⟩
  ·refine b5 ?_;refine S3 5 J<|cF h b0s J J λv3 _ h=>S2 7 J<|S4 3 J<|S3 2 J<|cF h a3c J J λv4 _ h=>S1 1 J<|cF h a5G J J λv5 _ h=>S2 2 J<|a7 ?_;cases h;exact⟨J,[_,_],⟨oL J J J o5 l4 nl J,⟨J,tr⟩⟩,J,io⟩

theorem U2{a0}:PO Tryz.prog 102 [l8.Pv a0] (Z7 a0) λr=>.tup [a6.Pv r.1,.I r.2]:=by
 refine pO Tryz.func102 λr h _ _=>?_;refine S4 3 J<|c5<|S4 4 J ?_;refine cN h (λhc h=>?_) λhc h=>?_
 ·refine S3 8 J ?_;refine cF h a5c J J λv1 _ h=>S2 4 J<|a7 ?_;cases h;exact⟨J,[_,_],⟨oL J J J o5 l4 nl J,⟨J,tr⟩⟩,J,io⟩
 ·refine b5 ?_;refine S3 5 J<|cA h G5 J J λv2 _ h=>S2 5 J<|c5<|S4 2 J ?_;refine cN h (λhc h=>?_) λhc h=>?_
  ·refine S4 5 J ?_;refine a7 ?_;cases h;exact⟨J,[_,_],⟨oL J J J o5 l4 nl J,⟨J,tr⟩⟩,J,io⟩
  ·refine b5 ?_;refine S3 9 J<|cF h a5c J J λv3 _ h=>S2 4 J<|a7 ?_;cases h;exact⟨J,[_,_],⟨oL J J J o5 l4 nl J,⟨J,tr⟩⟩,J,io⟩

theorem a9C{a0 a1}:PO Tryz.prog 182 [.L c9.Pv a0,.I a1] (a8O a0 a1) λr=>.tup [.I r.1,.I r.2]:=by
 refine pO Tryz.func182 λr h _ _=>?_;refine S4 2 J<|c5<|S3 2 J<|cA h a6r J J λv1 _ h=>S2 1 J ?_;refine cN h (λhc h=>?_) λhc h=>?_
 ·refine S4 2 J ?_;refine a7 ?_;cases h;exact f2
 ·refine b5 ?_;refine c5<|S3 2 J<|iL h J J K5 L3 λv2 hv2 h=>S1 4 J<|k9 J (λhg=>om (d:=.L c9.Pv a0) J)<|k9 J (λhg=>mI J)<|k9 J (λhg=>B4 (f:=c9.Pv) (cs:=c9.Pc v2) hv2 (ct hg) (ct hg) K5 L3 J J)<|k9 J (λhg=>N4 (ct hg) b1N J)<|k9 J (λhg=>C6 (ct hg) a8j J)<|k9 J (λhg=>a0x (ct hg) J)<|y0 J (D8 J J J (λq=>eqF q))<|yN ?_;refine cN h (λhc h=>?_) λhc h=>?_
  ·refine S4 2 J ?_;refine a7 ?_;cases h;exact f2
  ·refine b5 ?_;refine S3 2 J<|y0 J (B4 (f:=c9.Pv) (cs:=c9.Pc v2) hv2 J J K5 L3 J J)<|S2 4 J<|a7 ?_;cases h;exact f2

theorem a0v{a0}:PO Tryz.prog 103 [l8.Pv a0] (Z0 a0) λr=>.tup [a6.Pv r.1,.I r.2]:=by
 refine pO Tryz.func103 λr h _ _=>?_;unfold Z0 at h;refine S4 3 J<|dr [] p7 (by kernel_rfl) (by kernel_rfl)<|S7 7 J<|r9 h λv1 hv1 h=>d2 J (H3 J a9C J hv1) J<|S7 2 J<|r9 h λv2 hv2 h=>d2f J (u9 J A8 J hv2) J<|S7 2 J<|x4 (x':=a6.Pv v2.1) (cl':=true) J J (.inr J) l4<|S8 1 J<|a7 ?_;cases h;exact⟨J,[_,_],⟨oL J J J o5 l4 nl J,⟨J,tr⟩⟩,J,io⟩

theorem a5a{a0 a1}:PO Tryz.prog 334 [.I a0,.I a1] (a3A a0 a1) λr=>.fn (.func 370) [.rptr [.I r.1],.rptr [.I r.2]]:=by
 refine pO Tryz.func334 λr h _ _=>?_;unfold a3A at h;refine S4 3 J<|S4 2 J<|a7 ?_;cases h;exact f1

theorem a47{a0 a1}:PO Tryz.prog 371 [.I a0,.I a1] (a5E a0 a1) λr=>.I r:=by
 refine pO Tryz.func371 λr h _ _=>?_;refine S4 1 J<|c5<|S4 2 J ?_;refine cN h (λhc h=>?_) λhc h=>?_
 ·refine S4 1 J ?_;refine a7 ?_;cases h;exact f1
 ·refine b5 ?_;refine S3 4 J<|r9 h λv1 hv1 h=>y0 J (a5f J J hv1)<|S2 1 J<|c5<|S4 2 J ?_;refine cN h (λhc h=>?_) λhc h=>?_
  ·refine S6 4 J ?_;refine S4 2 J<|a7 ?_;cases h;exact f1
  ·refine b5 ?_;refine S4 2 J<|a7 ?_;cases h;exact f1

theorem a1V{a0 a1}:PO Tryz.prog 277 [.L a8.Pv a0,.I a1] (a3z a0 a1) λr=>.I r:=by
 refine pO Tryz.func277 λr h _ _=>?_;refine S4 3 J ?_;refine jq h (λ_=>St.of [(4,.ptr 2001 0 0)] [(2001,vR (.I 0) 1)]) (λq9 h=>?_) λκ8 h=>?_
 ·refine S4 1 J ?_;refine a7 ?_;cases h;exact⟨J,[_],⟨oS J J J G0 J,tr⟩,J,io⟩
 ·refine S3 1 J ?_;refine nL J Q1<|S1 1 J<|cF h a5a J J λv10 _ h=>yN<|c6<|R6 (WPE (λl=>if l=2004 then 4 else if l=2005 then 3 else if l=2006 then 2 else l) [(2,.ptr 2006 0 0),(3,.ptr 2005 0 0),(4,.ptr 2004 0 0),(9,.fn (.func 370) [.rptr [.I v10.1],.rptr [.I v10.2]])] [(2004,vR (.I 0) 1),(2005,vR (.I a1) 1),(2006,vR (.L a8.Pv a0) 1)]) ?_;refine U4 (fn:=Tryz.f370) (N1:=20) J Tryz.func370 J J nl J b1e J J (λl17 e18 o19 hR20=>?_);refine S4 2 J<|c6<|lq h (λs12=>St.of [(1000002,.ptr 2006 0 0),(1000003,.ptr 2005 0 0),(1000004,.ptr 2004 0 0),(1000009,.fn (.func 370) [.rptr [.I v10.1],.rptr [.I v10.2]]),(0,.fn (.yield l17) []),(1,.rptr [.I v10.1]),(2,.rptr [.I v10.2]),(5,.I v10.1),(6,.I s12)] [(2004,vR (.I 0) 1),(2005,vR (.I a1) 1),(2006,vR (.L a8.Pv a0) 1)]) W λs12 x13 h hx23=>S4 1 J<|c5 ?_;refine cN h (λhc h=>?_) λhc h=>?_
  ·refine b5 ?_;refine c5<|c6<|S4 2 J<|drY [] 8 p7 (by kernel_rfl) (by kernel_rfl) (by kernel_rfl) (by kernel_rfl) nl<|S7 3 J<|r9 h λv14 hv24 h=>d2 J (H3 J a47 J hv24) J<|S7 3 J<|r9 h λv15 hv25 h=>d7 J (λ_ hN=>a5f J J hv25) J<|R3<|b22 (WE [(1000002,.ptr 2006 0 0),(1000003,.ptr 2005 0 0),(1000004,.ptr 2004 0 0),(1000009,.fn (.func 370) [.rptr [.I v10.1],.rptr [.I v10.2]]),(0,.fn (.yield l17) []),(1,.rptr [.I v10.1]),(2,.rptr [.I v10.2]),(5,.I v10.1),(6,.I s12),(9,.fn (.yield l17) []),(16,.I v15)] [(2004,vR (.I 0) 1),(2005,vR (.I a1) 1),(2006,vR (.L a8.Pv a0) 1)]) ?_;refine a7U J hR20 J J J J J J (λe26 o27 o28=>?_);refine S6 1 J ?_;refine⟨J,?_⟩;refine c6<|c5<|S3 2 J<|iL h J J Q1 P8 λv16 hv29 h=>S2 3 J ?_;refine cN h (λhc h=>?_) λhc h=>?_
   ·refine o9 ?_;refine c4<|N2 (by decide) ?_;refine⟨J,?_⟩;refine⟨_,a5r [(1000002,.ptr 2006 0 0),(1000003,.ptr 2005 0 0),(1000004,.ptr 2004 0 0),(1000009,.fn (.func 370) [.rptr [.I v10.1],.rptr [.I v10.2]]),(0,.fn (.yield l17) []),(1,.rptr [.I v10.1]),(2,.rptr [.I v10.2]),(5,.I v10.1),(6,.I s12),(17,.bool false)] [(2004,vR (.I 0) 1),(2005,vR (.I a1) 1),(2006,vR (.L a8.Pv a0) 1)] ⟨J,J,J,J,J,J,J,J,J,J,J,J,J,J,J,J,J,J,J,J,J,J,J,J,J,J,J,J,J,J,tr⟩ ⟨rS,rS,rS,tr⟩,?_⟩;refine S8 1 J ?_;refine y7 true J (λ_=>?_) (λq=>nomatch q);refine a7 ?_;refine .inr ⟨.exit 0,J,b61 ?_⟩;refine j7 ?_;have h:=xL hx23 h;exact eJ h (WP (λl=>if l=2001 then 2004 else l))
   ·refine b5 ?_;refine dr [] p7 (by kernel_rfl) (by kernel_rfl)<|S7 2 J<|d0 J (B4 (f:=a8.Pv) (cs:=a8.Pc v16) hv29 J J Q1 P8 J J) J<|S7 4 J<|a8s J (λhg=>oS J J J a8T J) J<|a4V J (λhg _ hN=>mI J) J ?_;refine a8s J (λhg=>B4 (f:=a8.Pv) (cs:=a8.Pc v16) hv29 (ct hg) (ct hg) Q1 P8 J J) J<|a4V J (λhg _ hN=>N4 (ct hg) b1P J) J ?_;refine a8s J (λhg=>C6 (ct hg) G0 J) J<|a8s J (λhg=>oS J J J G0 J) J<|a4V J (λhg _ hN=>A0 (ct hg) (ct hg) J) J<|d7 J (λ_ hN=>A3 J J J (λq=>eqT q)) J<|R3 ?_;refine cN h (λhc h=>?_) λhc h=>?_
    ·refine S4 2 J ?_;refine a7 ?_;refine⟨J,?_⟩;refine⟨_,a5r [(1000002,.ptr 2006 0 0),(1000003,.ptr 2005 0 0),(1000004,.ptr 2004 0 0),(1000009,.fn (.func 370) [.rptr [.I v10.1],.rptr [.I v10.2]]),(0,.fn (.yield l17) []),(1,.rptr [.I v10.1]),(2,.rptr [.I v10.2]),(5,.I v10.1),(6,.I s12),(17,.bool false)] [(2004,vR (.I v15) 1),(2005,vR (.I a1) 1),(2006,vR (.L a8.Pv a0) 1)] ⟨J,J,J,J,J,J,J,J,J,J,J,J,J,J,J,J,J,J,J,J,J,J,J,J,J,J,J,J,J,J,tr⟩ ⟨rS,rS,rS,tr⟩,?_⟩;refine S8 1 J ?_;refine y7 true J (λ_=>?_) (λq=>nomatch q);refine a7 ?_;refine .inr ⟨.ret,J,b4c ?_⟩;have h:=xL hx23 h;cases h;exact⟨J,[_],⟨oS J J J G0 J,tr⟩,J,io⟩
    ·refine b5 ?_;refine⟨J,?_⟩;refine⟨_,a5r [(1000002,.ptr 2006 0 0),(1000003,.ptr 2005 0 0),(1000004,.ptr 2004 0 0),(1000009,.fn (.func 370) [.rptr [.I v10.1],.rptr [.I v10.2]]),(0,.fn (.yield l17) []),(1,.rptr [.I v10.1]),(2,.rptr [.I v10.2]),(5,.I v10.1),(6,.I s12),(17,.bool true)] [(2004,vR (.I 0) 1),(2005,vR (.I a1) 1),(2006,vR (.L a8.Pv a0) 1)] ⟨J,J,J,J,J,J,J,J,J,J,J,J,J,J,J,J,J,J,J,J,J,J,J,J,J,J,J,J,J,J,tr⟩ ⟨rS,rS,rS,tr⟩,?_⟩;refine S8 1 J ?_;refine y7 false J (λq=>nomatch q) (λ_=>?_);refine b5<|S6 2 J ?_;exact eL h W
  ·refine o9 ?_;refine c4<|c4<|j7 ?_;refine .inl ⟨J,?_⟩;have h:=xL hx23 h;exact eJ h (WP (λl=>if l=2001 then 2004 else l))

theorem a0O{a0 a1}:PO Tryz.prog 266 [.L a8.Pv a0,.I a1] (a2Z a0 a1) λr=>.tup [.I r.1,.I r.2]:=by
 refine pO Tryz.func266 λr h _ _=>?_;refine S4 2 J<|S3 2 J<|cA h a1V J J λv1 _ h=>S2 1 J<|c5<|S4 2 J ?_;refine cN h (λhc h=>?_) λhc h=>?_
 ·refine S4 2 J ?_;refine a7 ?_;cases h;exact f2
 ·refine b5 ?_;refine S3 2 J<|iL h J J Q1 P8 λv2 _ h=>S2 4 J<|a7 ?_;cases h;exact f2

theorem M4{a0}:PON Tryz.prog 335 [.L a8.Pv a0] (A5 a0) λr=>⟨List.map a8.Pv r,0,true,3,true⟩:=by
 refine pON Tryz.func335 λr h _ _=>?_;unfold A5 at h;refine S4 1 J<|c5<|S3 1 J<|a9G J Q1 λb hb=>yN ?_;refine y7 b J (λhc=>?_) (λhc=>?_)
 ·obtain rfl:a0 = []:=by simpa using hb hc
  refine S4 1 J<|R6 (J0 (t:=2) (l:=920000) (z:=3) J J)<|a7 ?_;cases h;exact⟨J,_,_,J,J,J,J⟩
 ·refine b5 ?_;refine sR<|y0 J (a7w J Q1 P8)<|S1 1 J<|y1 J (b0c (f:=a8.Pv) h J J (.inl ⟨_,J,J⟩) Q1 P8 b1b a6G J (λ_=>J)) J<|S2 1 J<|a7 ?_;exact⟨J,_,_,J,J,J,J⟩

theorem a1W{a0 a1 a2}:PO Tryz.prog 278 [.L a8.Pv a0,.I a1,a8.Pv a2] (a1q a0 a1 a2) λr=>.L a8.Pv r:=by
 refine pO Tryz.func278 λr h _ _=>?_;unfold a1q at h;refine S4 2 J<|S3 1 J<|r9 h λv1 hv1 h=>ycN J (a8G J M4 J hv1) J J<|S2 1 J<|S3 3 J<|r9 h λv2 hv2 h=>y0 J (a0w (f:=a8.Pv) hv2 J J J J Q1 P8 J)<|a4h (f:=a8.Pv) (v:=a2) hv2 J J (.inl J) P8<|yN<|S4 2 J<|a7 ?_;cases h;exact f1

theorem a43{a0 a1}:PO Tryz.prog 193 [.L a8.Pv a0,.I a1] (a5D a0 a1) λr=>.tup [.L a8.Pv r.1,.I r.2.1,.I r.2.2]:=by
 refine pO Tryz.func193 λr h _ _=>?_;refine S4 3 J<|S3 2 J<|cA h a1V J J λv1 _ h=>S2 1 J<|c5<|S4 2 J ?_;refine cN h (λhc h=>?_) λhc h=>?_
 ·refine S4 4 J ?_;refine a7 ?_;cases h;exact f3
 ·refine b5 ?_;refine dr [] p7 (by kernel_rfl) (by kernel_rfl)<|S7 2 J<|d7 J (λ_ hN=>o6 (cs:=[.I 2,.I 0,.I 0]) J b1i a6G J J J) J<|r9 h λv2 hv2 h=>d2f J (u9 J a1W J hv2) J<|S7 2 J<|r9 h λv3 hv3 h=>d0 J (B4 (f:=a8.Pv) (cs:=a8.Pc v3) hv3 J J Q1 P8 J J) J<|S8 5 J<|a7 ?_;cases h;exact f3

theorem a90{a0 a1 a2}:PO Tryz.prog 330 [.L a8.Pv a0,.I a1,.I a2] (a9Z a0 a1 a2) λr=>.tup [.L a8.Pv r.1,.I r.2]:=by
 refine pO Tryz.func330 λr h _ _=>?_;refine S4 3 J<|S3 2 J<|y0 J (o6 (cs:=[.I 1,.I a1,.I a2]) J b1i a6G J J J)<|S2 2 J<|c5<|S3 2 J<|cA h a1V J J λv1 _ h=>S2 1 J<|S4 2 J ?_;refine cN h (λhc h=>?_) λhc h=>?_
 ·refine S3 3 J ?_;refine cF h a1W J J λv2 _ h=>S2 2 J<|a7 ?_;cases h;exact⟨J,[_,_],⟨oS J J J a8T J,⟨oS J J J a5s J,tr⟩⟩,J,io⟩
 ·refine b5 ?_;refine jq h (λ_=>St.of [(3,.ptr 2004 0 0),(6,.ptr 2003 0 0),(7,.ptr 2002 0 0)] [(2002,vR (.I 0) 1),(2003,vR (.nl) 1),(2004,vR (.L a8.Pv a0) 1)]) (λq12 h=>?_) λκ11 h=>?_
  ·refine S4 3 J ?_;refine a7 ?_;cases h;exact⟨J,[_,_],⟨oS J J J a8T J,⟨oS J J J a5s J,tr⟩⟩,J,io⟩
  ·refine S3 1 J ?_;refine nL J Q1<|S1 1 J<|cF h a5a J J λv13 _ h=>yN<|c6<|R6 (WPE (λl=>if l=2005 then 8 else if l=2006 then 7 else if l=2007 then 6 else if l=2008 then 3 else l) [(3,.ptr 2008 0 0),(6,.ptr 2007 0 0),(7,.ptr 2006 0 0),(8,.ptr 2005 0 0),(26,.fn (.func 370) [.rptr [.I v13.1],.rptr [.I v13.2]])] [(2005,vR (.agg [.I 1,.I a1,.I a2]) 3),(2006,vR (.I 0) 1),(2007,vR (.nl) 1),(2008,vR (.L a8.Pv a0) 1)]) ?_;refine U4 (fn:=Tryz.f370) (N1:=20) J Tryz.func370 J J nl J b1e J J (λl20 e21 o22 hR23=>?_);refine S4 2 J<|c6<|lq h (λs15=>St.of [(1000003,.ptr 2008 0 0),(1000006,.ptr 2007 0 0),(1000007,.ptr 2006 0 0),(1000008,.ptr 2005 0 0),(1000026,.fn (.func 370) [.rptr [.I v13.1],.rptr [.I v13.2]]),(0,.fn (.yield l20) []),(1,.rptr [.I v13.1]),(2,.rptr [.I v13.2]),(5,.I v13.1),(6,.I s15)] [(2005,vR (.agg [.I 1,.I a1,.I a2]) 3),(2006,vR (.I 0) 1),(2007,vR (.nl) 1),(2008,vR (.L a8.Pv a0) 1)]) W λs15 x16 h hx26=>S4 1 J<|c5 ?_;refine cN h (λhc h=>?_) λhc h=>?_
   ·refine b5 ?_;refine c5<|c6<|S4 2 J<|drY [] 8 p7 (by kernel_rfl) (by kernel_rfl) (by kernel_rfl) (by kernel_rfl) nl<|S7 3 J<|r9 h λv17 hv27 h=>d2 J (H3 J a47 J hv27) J<|S7 3 J<|r9 h λv18 hv28 h=>d7 J (λ_ hN=>a5f J J hv28) J<|R3<|b22 (WE [(1000003,.ptr 2008 0 0),(1000006,.ptr 2007 0 0),(1000007,.ptr 2006 0 0),(1000008,.ptr 2005 0 0),(1000026,.fn (.func 370) [.rptr [.I v13.1],.rptr [.I v13.2]]),(0,.fn (.yield l20) []),(1,.rptr [.I v13.1]),(2,.rptr [.I v13.2]),(5,.I v13.1),(6,.I s15),(9,.fn (.yield l20) []),(16,.I v18)] [(2005,vR (.agg [.I 1,.I a1,.I a2]) 3),(2006,vR (.I 0) 1),(2007,vR (.nl) 1),(2008,vR (.L a8.Pv a0) 1)]) ?_;refine a7U J hR23 J J J J J J (λe29 o30 o31=>?_);refine S6 1 J ?_;refine⟨J,?_⟩;refine c6<|S3 2 J<|iL h J J Q1 P8 λv19 _ h=>S2 3 J ?_;refine cN h (λhc h=>?_) λhc h=>?_
    ·refine S3 3 J ?_;refine cF h a1W J J λv20 _ h=>S2 2 J<|a7 ?_;refine⟨J,?_⟩;refine⟨_,a5r [(1000003,.ptr 2008 0 0),(1000006,.ptr 2007 0 0),(1000007,.ptr 2006 0 0),(1000008,.ptr 2005 0 0),(1000026,.fn (.func 370) [.rptr [.I v13.1],.rptr [.I v13.2]]),(0,.fn (.yield l20) []),(1,.rptr [.I v13.1]),(2,.rptr [.I v13.2]),(5,.I v13.1),(6,.I s15),(17,.bool false)] [(2005,vR (.agg [.I 1,.I a1,.I a2]) 3),(2006,vR (.I 0) 1),(2007,vR (.L a8.Pv v20) 1),(2008,vR (.L a8.Pv a0) 1)] ⟨J,J,J,J,J,J,J,J,J,J,J,J,J,J,J,J,J,J,J,J,J,J,J,J,J,J,J,J,J,J,J,J,J,tr⟩ ⟨rS,rS,rS,rS,tr⟩,?_⟩;refine S8 1 J ?_;refine y7 true J (λ_=>?_) (λq=>nomatch q);refine a7 ?_;refine .inr ⟨.ret,J,b4c ?_⟩;have h:=xL hx26 h;cases h;exact⟨J,[_,_],⟨oS J J J a8T J,⟨oS J J J a5s J,tr⟩⟩,J,io⟩
    ·refine b5 ?_;refine⟨J,?_⟩;refine⟨_,a5r [(1000003,.ptr 2008 0 0),(1000006,.ptr 2007 0 0),(1000007,.ptr 2006 0 0),(1000008,.ptr 2005 0 0),(1000026,.fn (.func 370) [.rptr [.I v13.1],.rptr [.I v13.2]]),(0,.fn (.yield l20) []),(1,.rptr [.I v13.1]),(2,.rptr [.I v13.2]),(5,.I v13.1),(6,.I s15),(17,.bool true)] [(2005,vR (.agg [.I 1,.I a1,.I a2]) 3),(2006,vR (.I 0) 1),(2007,vR (.nl) 1),(2008,vR (.L a8.Pv a0) 1)] ⟨J,J,J,J,J,J,J,J,J,J,J,J,J,J,J,J,J,J,J,J,J,J,J,J,J,J,J,J,J,J,J,J,J,tr⟩ ⟨rS,rS,rS,rS,tr⟩,?_⟩;refine S8 1 J ?_;refine y7 false J (λq=>nomatch q) (λ_=>?_);refine b5<|S6 2 J ?_;exact eL h W
   ·refine o9 ?_;refine c4<|c4<|j7 ?_;refine .inl ⟨J,?_⟩;have h:=xL hx26 h;exact eJ h (WP (λl=>if l=2004 then 2008 else if l=2003 then 2007 else if l=2002 then 2006 else l))

theorem a9a{a0 a1 a2}:PO Tryz.prog 264 [.L a8.Pv a0,.I a1,.I a2] (a8u a0 a1 a2) λr=>.tup [.L a8.Pv r.1,.I r.2.1,.I r.2.2]:=by
 refine pO Tryz.func264 λr h _ _=>?_;refine S4 3 J<|c5<|S4 2 J ?_;refine cN h (λhc h=>?_) λhc h=>?_
 ·refine S4 4 J ?_;refine a7 ?_;cases h;exact f3
 ·refine b5 ?_;refine S3 2 J<|cA h a0O J J λv1 _ h=>S2 5 J<|c5<|S4 2 J ?_;refine cN h (λhc h=>?_) λhc h=>?_
  ·refine S3 2 J ?_;refine cF h a43 J J λv2 _ h=>S2 7 J<|S4 5 J<|a7 ?_;cases h;exact f3
  ·refine b5 ?_;refine S3 3 J<|cF h a90 J J λv3 _ h=>S2 5 J<|c5<|S4 2 J ?_;refine cN h (λhc h=>?_) λhc h=>?_
   ·refine S4 5 J ?_;refine a7 ?_;cases h;exact f3
   ·refine b5 ?_;refine S4 5 J<|a7 ?_;cases h;exact f3

theorem a2G{a0 a1}:PO Tryz.prog 265 [B1.Pv a0,a6.Pv a1] (Q3 a0 a1) λr=>a6.Pv r:=by
 refine pO Tryz.func265 λr h _ _=>?_;unfold Q3 at h;refine S4 3 J<|S4 4 J<|S4 2 J<|a7 ?_;cases h;exact⟨J,[_],⟨oL J J J o5 l4 nl J,tr⟩,J,io⟩

theorem Q5{a0 a1 a2 a3}:PO Tryz.prog 257 [a6.Pv a0,.I a1,.I a2,.abs (BFn 265 [B1.Pv a3])] (H5 a0 a1 a2 a3) λr=>a6.Pv r:=by
 refine pO Tryz.func257 λr h _ _=>?_;refine S4 2 J<|S3 3 J<|cF h U0 J J λv1 _ h=>r9 h λv2 hv2 h=>a9F (xs:=[a6.Pv v1]) J J b3E J (a2G.2 _ hv2)<|S1 1 J<|cF h K3 J J λv3 _ h=>S2 1 J<|a7 ?_;cases h;exact⟨J,[_],⟨oL J J J o5 l4 nl J,tr⟩,J,io⟩

end Go.Proofs.YtppgkaeodaaidaaGreatDoor.Ok
