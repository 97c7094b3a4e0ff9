/- A part. -/
import Derived.Test.YtppgkaeodaaidaaGreatDoorU3hPwC
import Derived.Test.YtppgkaeodaaidaaGreatDoorU3hPwD
import Derived.Test.YtppgkaeodaaidaaGreatDoorSrt
import Derived.Test.YtppgkaeodaaidaaGreatDoorSrtI
import Derived.Test.YtppgkaeodaaidaaGreatDoorU3hPwE
import Derived.Test.YtppgkaeodaaidaaGreatDoorStr
import Derived.Test.YtppgkaeodaaidaaGreatDoorU3hSh
import Derived.Test.YtppgkaeodaaidaaGreatDoorProg
set_option linter.unusedVariables false
set_option linter.unusedSimpArgs false
set_option linter.unusedSectionVars false
namespace Go.Proofs.YtppgkaeodaaidaaGreatDoor.Ok
open Go Go.Pw Go.Sh Go.Proofs Tryz
set_option maxRecDepth 100000
set_option maxHeartbeats 4000000
abbrev _root_.Go.Sh.o9.Pc(x:o9):List PV:=[.I x.Serial,.I x.Strong,.I x.Weak,.I x.Prog,.bool x.Started,.L iF x.Fields]
abbrev _root_.Go.Sh.o9.Pv(x:o9):PV:=.agg x.Pc
abbrev _root_.Go.Sh.b7.Pc(x:b7):List PV:=[.I x.State,.I x.Gen,.I x.Val.Serial,.I x.Val.Strong,.I x.Val.Weak,.I x.Val.Prog,.bool x.Val.Started,.L iF x.Val.Fields]
abbrev _root_.Go.Sh.b7.Pv(x:b7):PV:=.agg x.Pc
abbrev _root_.Go.Sh.j5.Pc(x:j5):List PV:=[.I x.Target,.bool x.Intact,.I x.Call]
abbrev _root_.Go.Sh.j5.Pv(x:j5):PV:=.agg x.Pc
abbrev _root_.Go.Sh.b8.Pc(x:b8):List PV:=[.I x.State,.I x.Key,.I x.Val]
abbrev _root_.Go.Sh.b8.Pv(x:b8):PV:=.agg x.Pc
abbrev _root_.Go.Sh.l7.Pc(x:l7):List PV:=[.I x.Kind,.I x.At,.I x.Prog]
abbrev _root_.Go.Sh.l7.Pv(x:l7):PV:=.agg x.Pc
abbrev _root_.Go.Sh.c8.Pc(x:c8):List PV:=[.I x.Kind,.I x.A,.I x.B,.I x.C]
abbrev _root_.Go.Sh.c8.Pv(x:c8):PV:=.agg x.Pc
abbrev _root_.Go.Sh.s6.Pc(x:s6):List PV:=[.I x.start,.I x.end_]
abbrev _root_.Go.Sh.s6.Pv(x:s6):PV:=.agg x.Pc
abbrev _root_.Go.Sh.c5.Pc(x:c5):List PV:=[.L b7.Pv x.a8,.I x.Last]
abbrev _root_.Go.Sh.c5.Pv(x:c5):PV:=.agg x.Pc
abbrev _root_.Go.Sh.a7.Pc(x:a7):List PV:=[.L b7.Pv x.S.a8,.I x.S.Last,.I x.Serial]
abbrev _root_.Go.Sh.a7.Pv(x:a7):PV:=.agg x.Pc
abbrev _root_.Go.Sh.k7.Pc(x:k7):List PV:=[.L l7.Pv x.L,.I x.Cap]
abbrev _root_.Go.Sh.k7.Pv(x:k7):PV:=.agg x.Pc
abbrev _root_.Go.Sh.b6.Pc(x:b6):List PV:=[.L b7.Pv x.S.S.a8,.I x.S.S.Last,.I x.S.Serial,.L iF x.Roots,.L j5.Pv x.a8,.L b8.Pv x.T,.L l7.Pv x.Q.L,.I x.Q.Cap]
abbrev _root_.Go.Sh.b6.Pv(x:b6):PV:=.agg x.Pc
abbrev _root_.Go.Sh.u9.Pc(x:u9):List PV:=[.L b7.Pv x.X.S.S.a8,.I x.X.S.S.Last,.I x.X.S.Serial,.L iF x.X.Roots,.L j5.Pv x.X.a8,.L b8.Pv x.X.T,.L l7.Pv x.X.Q.L,.I x.X.Q.Cap,.L (Ls c8.Pv) x.Progs]
abbrev _root_.Go.Sh.u9.Pv(x:u9):PV:=.agg x.Pc
abbrev _root_.Go.Sh.c4.Pc(x:c4):List PV:=[.L b7.Pv x.g.X.S.S.a8,.I x.g.X.S.S.Last,.I x.g.X.S.Serial,.L iF x.g.X.Roots,.L j5.Pv x.g.X.a8,.L b8.Pv x.g.X.T,.L l7.Pv x.g.X.Q.L,.I x.g.X.Q.Cap,.L (Ls c8.Pv) x.g.Progs,.bool x.begun,.L (Ls c8.Pv) x.progs]
abbrev _root_.Go.Sh.c4.Pv(x:c4):PV:=.agg x.Pc
abbrev _root_.Go.Sh.c9.Pc(x:c9):List PV:=[AS x.takes,AS x.run,.bool x.early]
abbrev _root_.Go.Sh.c9.Pv(x:c9):PV:=.agg x.Pc
abbrev _root_.Go.Sh.k8.Pc(x:k8):List PV:=[qV x.part,.I x.least,.I x.most,.I x.e]
abbrev _root_.Go.Sh.k8.Pv(x:k8):PV:=.agg x.Pc
abbrev _root_.Go.Sh.u3.Pc(x:u3):List PV:=[.L b7.Pv x.x.S.S.a8,.I x.x.S.S.Last,.I x.x.S.Serial,.L iF x.x.Roots,.L j5.Pv x.x.a8,.L b8.Pv x.x.T,.L l7.Pv x.x.Q.L,.I x.x.Q.Cap,.I x.o.Kind,.I x.o.A,.I x.o.B,.I x.o.C]
abbrev _root_.Go.Sh.u3.Pv(x:u3):PV:=.agg x.Pc
abbrev _root_.Go.Sh.H9.Pc(x:H9):List PV:=[.I x.r,.I x.h]
abbrev _root_.Go.Sh.H9.Pv(x:H9):PV:=.agg x.Pc
abbrev _root_.Go.Sh.G7.Pc(x:G7):List PV:=[.I x.h,.I x.k,.I x.v]
abbrev _root_.Go.Sh.G7.Pv(x:G7):PV:=.agg x.Pc
abbrev _root_.Go.Sh.H8.Pc(x:H8):List PV:=[.L b8.Pv x.t]
abbrev _root_.Go.Sh.H8.Pv(x:H8):PV:=.agg x.Pc
abbrev _root_.Go.Sh.r7.Pc(x:r7):List PV:=[.I x.Key,.I x.Val]
abbrev _root_.Go.Sh.r7.Pv(x:r7):PV:=.agg x.Pc
abbrev _root_.Go.Sh.l6.Pc(x:l6):List PV:=[.L iF x.L,.I x.Cap]
abbrev _root_.Go.Sh.l6.Pv(x:l6):PV:=.agg x.Pc
abbrev _root_.Go.Sh.D4.Pc(x:D4):List PV:=[.I x.V,.I x.E]
abbrev _root_.Go.Sh.D4.Pv(x:D4):PV:=.agg x.Pc
def pU(t:Nat):Nat:=if t=99 then 4 else if t=103 then 0 else if t=107 then 1 else 0
theorem V6:I9 prog 3=some false:=by kernel_rfl
theorem yi:I9 prog 4=some false:=by kernel_rfl
theorem cQ:I9 prog 9=some false:=by kernel_rfl
theorem vA:I9 prog 27=some false:=by kernel_rfl
theorem kH:I9 prog 29=some true:=by kernel_rfl
theorem Sn:I9 prog 38=some false:=by kernel_rfl
theorem fq:I9 prog 40=some true:=by kernel_rfl
theorem kI:I9 prog 42=some true:=by kernel_rfl
theorem Eo:I9 prog 43=some false:=by kernel_rfl
theorem Sp:I9 prog 44=some false:=by kernel_rfl
theorem An:I9 prog 45=some false:=by kernel_rfl
theorem jh:I9 prog 48=some true:=by kernel_rfl
theorem w8:I9 prog 50=some true:=by kernel_rfl
theorem mT:I9 prog 53=some true:=by kernel_rfl
theorem cP:I9 prog 63=some true:=by kernel_rfl
theorem Ao:I9 prog 92=some true:=by kernel_rfl
theorem Gg:I9 prog 115=some true:=by kernel_rfl
theorem NX:I9 prog 120=some true:=by kernel_rfl
theorem NY:I9 prog 121=some false:=by kernel_rfl
theorem NZ:I9 prog 124=some true:=by kernel_rfl
theorem Oa:I9 prog 142=some false:=by kernel_rfl
theorem qD:I9 prog 168=some true:=by kernel_rfl
theorem fJ:I9 prog 199=some true:=by kernel_rfl
theorem cM:I9 prog 205=some true:=by kernel_rfl
theorem Gi:I9 prog 290=some false:=by kernel_rfl
theorem oc:I9 prog 450=some true:=by kernel_rfl
theorem X5:K7 prog 3=some 8:=by kernel_rfl
theorem Rp:K7 prog 9=some 16:=by kernel_rfl
theorem Sr:K7 prog 92=some 32:=by kernel_rfl
theorem Ap:K7 prog 120=some 16:=by kernel_rfl
theorem Ob:K7 prog 142=some 24:=by kernel_rfl
theorem Gj:K7 prog 202=some 24:=by kernel_rfl
theorem Oc:K7 prog 205=some 24:=by kernel_rfl
theorem Gk:K7 prog 224=some 80:=by kernel_rfl
theorem Gl:K7 prog 371=some 24:=by kernel_rfl
theorem Gm:K7 prog 471=some 16:=by kernel_rfl
theorem D0:B0 prog 24=some 9:=by kernel_rfl
theorem V7:B0 prog 38=some 224:=by kernel_rfl
theorem o7:B0 prog 43=some 3:=by kernel_rfl
theorem ah:B0 prog 44=some 202:=by kernel_rfl
theorem bO:B0 prog 45=some 371:=by kernel_rfl
theorem mU:B0 prog 46=some 205:=by kernel_rfl
theorem gu:B0 prog 51=some 142:=by kernel_rfl
theorem iC:B0 prog 118=some 120:=by kernel_rfl
theorem iD:B0 prog 142=some 92:=by kernel_rfl
theorem aX:B0 prog 193=some 199:=by kernel_rfl
theorem kJ:B0 prog 468=some 471:=by kernel_rfl
theorem JL:bT prog 40 0=some (0,38):=by kernel_rfl
theorem Cx:bT prog 50 1=some (3,43):=by kernel_rfl
theorem JM:bT prog 50 2=some (4,44):=by kernel_rfl
theorem JN:bT prog 50 4=some (6,48):=by kernel_rfl
theorem JO:bT prog 92 0=some (0,3):=by kernel_rfl
theorem Ij:bT prog 124 0=some (0,121):=by kernel_rfl
theorem Ik:bT prog 124 2=some (2,4):=by kernel_rfl
theorem Il:bT prog 168 1=some (1,3):=by kernel_rfl
theorem Im:bT prog 168 2=some (2,3):=by kernel_rfl
theorem yj:bT prog 168 4=some (4,4):=by kernel_rfl
theorem Io:bT prog 199 2=some (2,3):=by kernel_rfl
theorem yk:bT prog 202 0=some (0,3):=by kernel_rfl
theorem Ip:bT prog 202 1=some (1,4):=by kernel_rfl
theorem yl:bT prog 224 0=some (0,3):=by kernel_rfl
theorem Iq:bT prog 224 2=some (2,168):=by kernel_rfl
theorem Ir:bT prog 371 1=some (1,3):=by kernel_rfl
theorem It:bT prog 471 0=some (0,3):=by kernel_rfl
theorem ym:bT prog 471 1=some (1,3):=by kernel_rfl
theorem VH:Ns prog 3=some .i64:=by kernel_rfl
theorem Ss:x8 prog 21:=kC func21 J
theorem Ep:x8 prog 28:=kC func28 J
theorem Su:x8 prog 69:=kC func69 J
theorem Sw:x8 prog 75:=kC func75 J
theorem Sx:x8 prog 76:=kC func76 J
theorem Sy:x8 prog 78:=kC func78 J
theorem Sz:x8 prog 80:=kC func80 J
theorem SA:x8 prog 81:=kC func81 J
theorem SC:x8 prog 82:=kC func82 J
theorem Gp:x8 prog 119:=kC func119 J
theorem Od:x8 prog 126:=kC func126 J
theorem Oe:x8 prog 127:=kC func127 J
theorem Of:x8 prog 129:=kC func129 J
theorem Og:x8 prog 137:=kC func137 J
theorem Oi:x8 prog 138:=kC func138 J
theorem Oj:x8 prog 212:=kC func212 J
theorem Ol:x8 prog 258:=kC func258 J
theorem Om:x8 prog 265:=kC func265 J
theorem On:x8 prog 276:=kC func276 J
theorem Oo:x8 prog 287:=kC func287 J
theorem Oq:x8 prog 298:=kC func298 J
theorem Ot:x8 prog 367:=kC func367 J
theorem Ou:x8 prog 369:=kC func369 J
theorem Gq:x8 prog 370:=kC func370 J
theorem Gr:x8 prog 373:=kC func373 J
theorem Ov:x8 prog 406:=kC func406 J
theorem Gs:x8 prog 407:=kC func407 J
theorem J7:pq prog 126=some (9,124):=by kernel_rfl
theorem aF:pq prog 151=some (3,149):=by kernel_rfl
theorem V8:pq prog 195=some (3,193):=by kernel_rfl
theorem vB:pq prog 222=some (3,3):=by kernel_rfl
theorem eN:pq prog 290=some (3,4):=by kernel_rfl
theorem SD:E4 prog 29=some (λi=>(#[(0,1),(1,1)]:Array (Nat × Nat))[i]?):=by kernel_rfl
theorem JP:E4 prog 40=some (λi=>(#[(0,1),(1,1)]:Array (Nat × Nat))[i]?):=by kernel_rfl
theorem JQ:E4 prog 42=some (λi=>(#[(0,2),(2,1)]:Array (Nat × Nat))[i]?):=by kernel_rfl
theorem SE:E4 prog 48=some (λi=>(#[(0,1),(1,1)]:Array (Nat × Nat))[i]?):=by kernel_rfl
theorem JR:E4 prog 50=some (λi=>(#[(0,3),(3,1),(4,1),(5,1),(6,2)]:Array (Nat × Nat))[i]?):=by kernel_rfl
theorem Es:E4 prog 53=some (λi=>(#[(0,8),(8,1)]:Array (Nat × Nat))[i]?):=by kernel_rfl
theorem As:E4 prog 92=some (λi=>(#[(0,1),(1,1),(2,1),(3,1)]:Array (Nat × Nat))[i]?):=by kernel_rfl
theorem SF:E4 prog 99=some (λi=>(#[(0,4)]:Array (Nat × Nat))[i]?):=by kernel_rfl
theorem Ow:E4 prog 103=some (λi=>(#[]:Array (Nat × Nat))[i]?):=by kernel_rfl
theorem Ox:E4 prog 107=some (λi=>(#[(0,1)]:Array (Nat × Nat))[i]?):=by kernel_rfl
theorem Gt:E4 prog 120=some (λi=>(#[(0,1),(1,1)]:Array (Nat × Nat))[i]?):=by kernel_rfl
theorem od:E4 prog 124=some (λi=>(#[(0,1),(1,1),(2,1)]:Array (Nat × Nat))[i]?):=by kernel_rfl
theorem Oy:E4 prog 155=some (λi=>(#[(0,8),(8,4)]:Array (Nat × Nat))[i]?):=by kernel_rfl
theorem Oz:E4 prog 168=some (λi=>(#[(0,1),(1,1),(2,1),(3,1),(4,1),(5,1)]:Array (Nat × Nat))[i]?):=by kernel_rfl
theorem cR:E4 prog 199=some (λi=>(#[(0,1),(1,1),(2,1),(3,1)]:Array (Nat × Nat))[i]?):=by kernel_rfl
theorem OA:E4 prog 202=some (λi=>(#[(0,1),(1,1),(2,1)]:Array (Nat × Nat))[i]?):=by kernel_rfl
theorem Aq:E4 prog 205=some (λi=>(#[(0,1),(1,1),(2,1)]:Array (Nat × Nat))[i]?):=by kernel_rfl
theorem uP:E4 prog 224=some (λi=>(#[(0,1),(1,1),(2,6)]:Array (Nat × Nat))[i]?):=by kernel_rfl
theorem OB:E4 prog 348=some (λi=>(#[(0,1),(1,1),(2,1)]:Array (Nat × Nat))[i]?):=by kernel_rfl
theorem OC:E4 prog 356=some (λi=>(#[(0,1)]:Array (Nat × Nat))[i]?):=by kernel_rfl
theorem Gu:E4 prog 371=some (λi=>(#[(0,1),(1,1),(2,1)]:Array (Nat × Nat))[i]?):=by kernel_rfl
theorem OD:E4 prog 376=some (λi=>(#[(0,1)]:Array (Nat × Nat))[i]?):=by kernel_rfl
theorem OE:E4 prog 388=some (λi=>(#[(0,1),(1,1)]:Array (Nat × Nat))[i]?):=by kernel_rfl
theorem OF:E4 prog 450=some (λi=>(#[(0,1),(1,1)]:Array (Nat × Nat))[i]?):=by kernel_rfl
theorem Gv:E4 prog 471=some (λi=>(#[(0,1),(1,1)]:Array (Nat × Nat))[i]?):=by kernel_rfl
theorem JS:qj prog 99=true:=by kernel_rfl
theorem Gw:qj prog 103=true:=by kernel_rfl
theorem Gx:qj prog 107=true:=by kernel_rfl
theorem Au:Cc prog 115=some (4,3):=by kernel_rfl
theorem u5:u0 prog 3=some 1:=by kernel_rfl
theorem VI:u0 prog 4=some 1:=by kernel_rfl
theorem P5:u0 prog 9=some 1:=by kernel_rfl
theorem dQ:u0 prog 29=some 2:=by kernel_rfl
theorem cS:u0 prog 40=some 2:=by kernel_rfl
theorem kL:u0 prog 42=some 3:=by kernel_rfl
theorem Et:u0 prog 43=some 1:=by kernel_rfl
theorem JT:u0 prog 46=some 1:=by kernel_rfl
theorem cT:u0 prog 48=some 2:=by kernel_rfl
theorem s7:u0 prog 50=some 8:=by kernel_rfl
theorem bP:u0 prog 53=some 9:=by kernel_rfl
theorem P9:u0 prog 63=some 11:=by kernel_rfl
theorem kM:u0 prog 92=some 4:=by kernel_rfl
theorem OG:u0 prog 103=some 0:=by kernel_rfl
theorem Gy:u0 prog 115=some 4:=by kernel_rfl
theorem kK:u0 prog 120=some 2:=by kernel_rfl
theorem Gz:u0 prog 124=some 3:=by kernel_rfl
theorem fK:u0 prog 142=some 1:=by kernel_rfl
theorem iE:u0 prog 168=some 6:=by kernel_rfl
theorem L1:u0 prog 199=some 4:=by kernel_rfl
theorem aw:u0 prog 202=some 3:=by kernel_rfl
theorem N3:u0 prog 205=some 3:=by kernel_rfl
theorem U8:u0 prog 224=some 8:=by kernel_rfl
theorem bK:u0 prog 371=some 3:=by kernel_rfl
theorem iG:u0 prog 450=some 2:=by kernel_rfl
theorem qE:u0 prog 471=some 2:=by kernel_rfl
theorem M2:prog.underlying 3=some (.int .i64):=by kernel_rfl
theorem R5:prog.underlying 9=some (.string):=by kernel_rfl
theorem SG:prog.underlying 21=some (.int .i32):=by kernel_rfl
theorem F8:A2 prog 3=some ((.I 0)):=by kernel_rfl
theorem Cy:A2 prog 4=some ((.bool false)):=by kernel_rfl
theorem JX:A2 prog 9=some ((.string ByteArray.empty)):=by kernel_rfl
theorem SH:A2 prog 29=some ((.agg #[(.I 0),(.I 0)])):=by kernel_rfl
theorem JU:A2 prog 40=some ((.agg #[(.slice none 0 0),(.I 0)])):=by kernel_rfl
theorem JV:A2 prog 42=some ((.agg #[(.slice none 0 0),(.I 0),(.I 0)])):=by kernel_rfl
theorem SI:A2 prog 48=some ((.agg #[(.slice none 0 0),(.I 0)])):=by kernel_rfl
theorem JW:A2 prog 50=some ((.agg #[(.slice none 0 0),(.I 0),(.I 0),(.slice none 0 0),(.slice none 0 0),(.slice none 0 0),(.slice none 0 0),(.I 0)])):=by kernel_rfl
theorem Eu:A2 prog 53=some ((.agg #[(.slice none 0 0),(.I 0),(.I 0),(.slice none 0 0),(.slice none 0 0),(.slice none 0 0),(.slice none 0 0),(.I 0),(.slice none 0 0)])):=by kernel_rfl
theorem sH:A2 prog 92=some ((.agg #[(.I 0),(.I 0),(.I 0),(.I 0)])):=by kernel_rfl
theorem JY:A2 prog 99=some ((.agg #[(.I 0),(.I 0),(.I 0),(.I 0)])):=by kernel_rfl
theorem GA:A2 prog 103=some ((.agg #[])):=by kernel_rfl
theorem GB:A2 prog 107=some ((.agg #[(.I 0)])):=by kernel_rfl
theorem kN:A2 prog 120=some ((.agg #[(.I 0),(.I 0)])):=by kernel_rfl
theorem kO:A2 prog 124=some ((.agg #[.nilFunc,.nilFunc,(.bool false)])):=by kernel_rfl
theorem OH:A2 prog 142=some ((.slice none 0 0)):=by kernel_rfl
theorem OI:A2 prog 149=some (.nilFunc):=by kernel_rfl
theorem OJ:A2 prog 155=some ((.agg #[(.slice none 0 0),(.I 0),(.I 0),(.slice none 0 0),(.slice none 0 0),(.slice none 0 0),(.slice none 0 0),(.I 0),(.I 0),(.I 0),(.I 0),(.I 0)])):=by kernel_rfl
theorem OK:A2 prog 168=some ((.agg #[(.I 0),(.I 0),(.I 0),(.I 0),(.bool false),(.slice none 0 0)])):=by kernel_rfl
theorem OL:A2 prog 193=some ((.slice none 0 0)):=by kernel_rfl
theorem J4:A2 prog 199=some ((.agg #[.nilFunc,(.I 0),(.I 0),(.I 0)])):=by kernel_rfl
theorem Av:A2 prog 202=some ((.agg #[(.I 0),(.bool false),(.I 0)])):=by kernel_rfl
theorem qF:A2 prog 205=some ((.agg #[(.I 0),(.I 0),(.I 0)])):=by kernel_rfl
theorem oe:A2 prog 224=some ((.agg #[(.I 0),(.I 0),(.I 0),(.I 0),(.I 0),(.I 0),(.bool false),(.slice none 0 0)])):=by kernel_rfl
theorem OM:A2 prog 348=some ((.agg #[(.I 0),(.I 0),(.I 0)])):=by kernel_rfl
theorem ON:A2 prog 356=some ((.agg #[(.slice none 0 0)])):=by kernel_rfl
theorem uQ:A2 prog 371=some ((.agg #[(.I 0),(.I 0),(.I 0)])):=by kernel_rfl
theorem OO:A2 prog 376=some ((.agg #[.nilFunc])):=by kernel_rfl
theorem OP:A2 prog 388=some ((.agg #[(.I 0),(.I 0)])):=by kernel_rfl
theorem OQ:A2 prog 450=some ((.agg #[(.slice none 0 0),(.I 0)])):=by kernel_rfl
theorem og:A2 prog 471=some ((.agg #[(.I 0),(.I 0)])):=by kernel_rfl
theorem y6:prog.follows .mixedOrders=true:=by kernel_rfl
def tb:TB:=⟨[((29,0),(0,3)),((29,1),(1,27)),((40,0),(0,38)),((40,1),(1,3)),((42,0),(0,40)),((42,1),(2,3)),((48,0),(0,46)),((48,1),(1,3)),((50,0),(0,42)),((50,1),(3,43)),((50,2),(4,44)),((50,3),(5,45)),((50,4),(6,48)),((53,0),(0,50)),((53,1),(8,51)),((63,0),(0,53)),((63,1),(9,4)),((63,2),(10,51)),((92,0),(0,3)),((92,1),(1,3)),((92,2),(2,3)),((92,3),(3,3)),((99,0),(0,92)),((107,0),(0,3)),((120,0),(0,3)),((120,1),(1,3)),((124,1),(1,122)),((155,0),(0,50)),((155,1),(8,92)),((168,0),(0,3)),((168,1),(1,3)),((168,2),(2,3)),((168,3),(3,3)),((168,4),(4,4)),((168,5),(5,43)),((199,0),(0,197)),((199,1),(1,3)),((199,3),(3,27)),((202,0),(0,3)),((202,1),(1,4)),((202,2),(2,3)),((205,0),(0,3)),((205,1),(1,3)),((205,2),(2,3)),((224,0),(0,3)),((224,1),(1,3)),((224,2),(2,168)),((348,0),(0,3)),((348,1),(1,3)),((348,2),(2,3)),((356,0),(0,45)),((371,0),(0,3)),((371,1),(1,3)),((371,2),(2,3)),((376,0),(0,374)),((388,0),(0,3)),((388,1),(1,3)),((450,0),(0,43)),((450,1),(1,3)),((471,0),(0,3)),((471,1),(1,3))],[(3,false),(4,false),(9,false),(27,false),(29,true),(38,false),(40,true),(42,true),(43,false),(44,false),(45,false),(46,false),(48,true),(50,true),(51,false),(53,true),(63,true),(92,true),(115,true),(122,false),(142,false),(155,true),(168,true),(197,false),(199,true),(202,true),(205,true),(222,false),(224,true),(290,false),(371,true),(374,false),(376,true),(450,true),(468,false),(471,true),(479,false)],[(3,1),(4,1),(27,1),(29,2),(38,1),(40,2),(42,3),(43,1),(44,1),(45,1),(48,2),(50,8),(51,1),(53,9),(63,11),(92,4),(99,4),(107,1),(115,4),(120,2),(124,3),(155,12),(168,6),(199,4),(202,3),(205,3),(222,1),(224,8),(290,1),(371,3),(376,1),(450,2),(468,1),(471,2)],[(3,.I 0),(4,.bool false),(27,.I 0),(29,.agg [.I 0,.I 0]),(40,.agg [.G8 true (List.map b7.Pv []),.I 0]),(42,.agg [.G8 true (List.map b7.Pv []),.I 0,.I 0]),(43,.G8 true (List.map iF [])),(45,.G8 true (List.map b8.Pv [])),(48,.agg [.G8 true (List.map l7.Pv []),.I 0]),(50,.agg [.G8 true (List.map b7.Pv []),.I 0,.I 0,.G8 true (List.map iF []),.G8 true (List.map j5.Pv []),.G8 true (List.map b8.Pv []),.G8 true (List.map l7.Pv []),.I 0]),(53,.agg [.G8 true (List.map b7.Pv []),.I 0,.I 0,.G8 true (List.map iF []),.G8 true (List.map j5.Pv []),.G8 true (List.map b8.Pv []),.G8 true (List.map l7.Pv []),.I 0,.G8 true (List.map (Ls c8.Pv) [])]),(63,.agg [.G8 true (List.map b7.Pv []),.I 0,.I 0,.G8 true (List.map iF []),.G8 true (List.map j5.Pv []),.G8 true (List.map b8.Pv []),.G8 true (List.map l7.Pv []),.I 0,.G8 true (List.map (Ls c8.Pv) []),.bool false,.G8 true (List.map (Ls c8.Pv) [])]),(92,.agg [.I 0,.I 0,.I 0,.I 0]),(99,.agg [.I 0,.I 0,.I 0,.I 0]),(103,.agg []),(107,.agg [.I 0]),(115,.agg [.I 0,.I 0,.I 0,.I 0]),(120,.agg [.I 0,.I 0]),(124,.agg [.nilfn,.nilfn,.bool false]),(168,.agg [.I 0,.I 0,.I 0,.I 0,.bool false,.G8 true (List.map iF [])]),(199,.agg [.nilfn,.I 0,.I 0,.I 0]),(202,.agg [.I 0,.bool false,.I 0]),(205,.agg [.I 0,.I 0,.I 0]),(222,.abs El),(224,.agg [.I 0,.I 0,.I 0,.I 0,.I 0,.I 0,.bool false,.G8 true (List.map iF [])]),(290,.abs El),(371,.agg [.I 0,.I 0,.I 0]),(376,.agg [.nilfn]),(450,.agg [.G8 true (List.map iF []),.I 0]),(468,.G8 true (List.map r7.Pv [])),(471,.agg [.I 0,.I 0])]⟩
theorem Tb:TB.Ok prog tb:=⟨by kernel_rfl,by kernel_rfl,by kernel_rfl,by kernel_rfl⟩
section
variable{X:Ctx}{ops:Array Oper}{K:Ctx->St->Prop}{i n:Nat}{l l':List Oper}{env env':Nat->PV}{σ σ':Nat->Option Row}{Q:PX->Ctx->St->Prop}{y:Code}{KD:St->Prop}{bar:List Nat}
theorem S1(n:Nat)(h:run tb n l env σ=some (l',env',σ'))(k:Sq X ops (i+n) l' K ⟨env',σ'⟩)(hb:TB.Ok X.P tb:=by exact Tb):Sq X ops i l K ⟨env,σ⟩:=UT hb n h k
theorem S2(n:Nat)(h:run tb n l env σ=some ([],env',σ'))(k:K X ⟨env',σ'⟩)(hb:TB.Ok X.P tb:=by exact Tb):Sq X ops i l K ⟨env,σ⟩:=UT hb n h (yN k)
theorem S3{id:Nat}(n:Nat)(h:run tb n l env σ=some (l',env',σ'))(k:Sq X l.toArray (0+n) l' (λX' s=>X4 X' y Q s) ⟨env',σ'⟩)(hd:eT X.N l.toArray=true:=by kernel_rfl)(hb:TB.Ok X.P tb:=by exact Tb):X4 X (.seq (.region id l.toArray false) y) Q ⟨env,σ⟩:=sr hd (UT hb n h k)
theorem S4{id:Nat}(n:Nat)(h:run tb n l env σ=some ([],env',σ'))(k:X4 X y Q ⟨env',σ'⟩)(hd:eT X.N l.toArray=true:=by kernel_rfl)(hb:TB.Ok X.P tb:=by exact Tb):X4 X (.seq (.region id l.toArray false) y) Q ⟨env,σ⟩:=sr hd (UT hb n h (yN k))
theorem S5{id:Nat}(n:Nat)(h:run tb n l env σ=some (l',env',σ'))(k:Sq X l.toArray (0+n) l' (Q .normal) ⟨env',σ'⟩)(hd:eT X.N l.toArray=true:=by kernel_rfl)(hb:TB.Ok X.P tb:=by exact Tb):X4 X (.region id l.toArray false) Q ⟨env,σ⟩:=RY hd (UT hb n h k)
theorem S6{id:Nat}(n:Nat)(h:run tb n l env σ=some ([],env',σ'))(k:Q .normal X ⟨env',σ'⟩)(hd:eT X.N l.toArray=true:=by kernel_rfl)(hb:TB.Ok X.P tb:=by exact Tb):X4 X (.region id l.toArray false) Q ⟨env,σ⟩:=RY hd (UT hb n h (yN k))
theorem S7(n:Nat)(h:QI tb bar n i l env σ=some (l',env',σ'))(k:Ex X.P ops bar true (i+n) l' ⟨env',σ'⟩ KD)(hb:TB.Ok X.P tb:=by exact Tb):Ex X.P ops bar true i l ⟨env,σ⟩ KD:=dG hb n h k
theorem S8(n:Nat)(h:QI tb bar n i l env σ=some ([],env',σ'))(k:KD ⟨env',σ'⟩)(hb:TB.Ok X.P tb:=by exact Tb):Ex X.P ops bar true i l ⟨env,σ⟩ KD:=dG hb n h k
end
theorem UX:Am prog (Tryz.sortF_ren.f 6):=Ju Tryz.sortF
theorem QP:uO prog (Tryz.sortI_ren.f 5):=FT Tryz.sortI
theorem Lv{n:Int}{r:ByteArray}(h:nQ n=some r):N7 prog 28 [.I n] (.str r):=
 Ql (P:=prog) (ρ:=Tryz.itoaL_ren) Tryz.itoaL (by rw[show prog.globalNamed (DS prog)=some WZ by kernel_rfl];exact nofun) (λw hT n h0 h1=>Any.strconv_Itoa Tryz.itoaL n h0 h1 w (cast (by kernel_rfl) hT)) h
theorem UY{s sep:ByteArray}{xs:List ByteArray}(h:tN s sep=some xs):N7 prog 21 [.str s,.str sep] (.G8 false (xs.map PV.str)):=
 Mt (P:=prog) (ρ:=Tryz.splitL_ren) Tryz.splitL (by kernel_rfl) (by kernel_rfl) h
theorem qg{a0}:PO prog 23 [.int .i32 a0] (Z3 a0) λr=>.bool r:=by
 refine pO func23 λr h _ _=>?_;unfold Z3 at h;refine S4 1 J<|S3 3 J<|p9 J (λhg=>om (d:=.int .i32 a0) J)<|p9 J (λhg=>I3 (ct hg) J J)<|y0 J (K1 J J J (λq=>mL q))<|S1 1 J<|p9 J (λhg=>om (d:=.int .i32 a0) J)<|p9 J (λhg=>I3 (ct hg) J J)<|y0 J (K1 J J J (λq=>mL q))<|S2 1 J<|b9 ?_;cases h;exact f1
theorem aU{a0}:PO prog 22 [.str a0,.fn (.func 23) []] (D5 a0) λr=>.L PV.str r:=by
 refine pO func22 λr h _ _=>?_;refine S4 1 J<|sR<|Xf (m:=32) J J nl J J iC kK kN Ap nl nl<|S2 1 J<|S4 1 J ?_;refine jq h (λq=>St.of [(0,.str a0),(5,.sl 12),(6,.I q.1)] [(12,⟨List.map s6.Pv q.2,(List.map s6.Pv q.2).length,true,2,true⟩)]) (λq12 h=>?_) λκ9 h=>?_
 .obtain⟨j10,j11⟩:=q12;refine jq h (λj15=>St.of [(0,.str a0),(5,.sl 43)] [(43,⟨List.map s6.Pv j15,(List.map s6.Pv j15).length,true,2,true⟩)]) (λj15 h=>?_) λκ14 h=>?_
  .refine S3 1 J ?_;refine y0 J (yQ (f:=s6.Pv) J J J iC)<|A6 h λv16 hv10 h=>y1 J (wH (f:=PV.str) hv10 J J J D0 P5 JX Rp J J J) J<|S2 1 J ?_;refine jq h (λj26=>St.of [(9,.sl 46)] [(46,⟨List.map PV.str j26,0,true,1,true⟩)]) (λj26 h=>?_) λκ25 h=>?_
   .refine S4 2 J ?_;refine b9 ?_;cases h;exact f1
   .refine S3 1 J ?_;refine y0 J (yQ (f:=s6.Pv) J J J iC)<|S2 1 J<|n0<|lq h (λq=>St.of [(0,.str a0),(9,.sl 46),(47,.sl 43),(48,.I (j15.length:Int)),(49,.I q.1)] [(43,⟨List.map s6.Pv j15,(List.map s6.Pv j15).length,true,2,true⟩),(46,⟨List.map PV.str q.2,0,true,1,true⟩)]) (Wk.trans (u4 _ [43]) W) λq31 x30 h hx20=>?_;obtain⟨s28,s29⟩:=q31;refine S4 1 J<|l5 ?_;refine cN h (λhc h=>?_) λhc h=>?_
    .refine e6 ?_;refine l5<|n0<|S3 1 J<|A6 h λv32 hv21 h=>y0 J (gP (f:=s6.Pv) hv21 J J J J iC kK J)<|y0 J (WB (f:=s6.Pv) (cs:=s6.Pc v32) hv21 J J J NX kK nl J)<|S2 3 J<|S5 7 J<|A6 h λv33 hv22 h=>y0 J (Uh hv22 J ⟨_,J⟩ ⟨_,J⟩ R5)<|A6 h λv34 hv23 h=>y0 J (gP (f:=PV.str) hv23 J J J J D0 P5 J)<|pT (f:=PV.str) (v:=v33) hv23 J J (.inl J) P5<|yN<|S6 2 J ?_;exact eL h (Wk.trans (u4 _ [43]) W)
    .refine y2 ?_;refine l4<|l4<|r8 ?_;have h:=xL hx20 h;exact eJ h W
  .refine S4 2 J ?_;refine cN h (λhc h=>?_) λhc h=>?_
   .refine S5 3 J ?_;refine y0 J (Fo J R5 J)<|y0 J (w9 (cs:=[.I j10,.I (a0.size:Int)]) J Gt kN J J J)<|y0 J (aO (f:=s6.Pv) (l:=[(⟨j10,(a0.size:Int)⟩:s6)]) J iC kK kN J J nl J J)<|A6 h λv35 hv24 h=>bJ J (aN (f:=s6.Pv) hv24 J J J J J J (.inl ⟨_,J,J⟩) iC kK Ap kN J (λ_=>J)) J J J<|S2 1 J ?_;exact eJ h (Wk.trans (u4 _ [43]) W)
   .refine e6 ?_;exact eJ h (Wk.trans (u4 _ [12]) (WP (λl=>if l=43 then 12 else l)))
 .refine S3 1 J ?_;refine NJ 5000014 J J R5 J<|yN<|n0<|lq h (λq=>St.of [(0,.str a0),(1,.fn (.func 23) []),(5,.sl 12),(6,.I q.1),(14,.ptr 5000014 0 0)] [(5000014,Vw a0 q.2.1),(12,⟨List.map s6.Pv q.2.2,(List.map s6.Pv q.2.2).length,true,2,true⟩)]) (Wk.trans (u4 _ [12]) W) λq41 x40 h hx27=>?_;obtain⟨s37,s38,s39⟩:=q41;refine sR ?_;refine Sj J J J (λhc28=>?_) (λhc28=>?_)
  .have h:=NR h (zA hc28);refine S2 1 J<|l5 ?_;refine F3 true J (λ_=>?_) (λq=>nomatch q);refine e6<|n0<|S4 4 J<|S3 2 J<|cA h qg J J λv42 _ h=>yN ?_;refine cN h (λhc h=>?_) λhc h=>?_
   .refine S4 2 J ?_;refine cN h (λhc h=>?_) λhc h=>?_
    .refine S3 3 J ?_;refine y0 J (w9 (cs:=[.I s37,.I ((s38:Nat):Int)]) J Gt kN J J J)<|y0 J (aO (f:=s6.Pv) (l:=[(⟨s37,((s38:Nat):Int)⟩:s6)]) J iC kK kN J J nl J J)<|A6 h λv43 hv30 h=>bJ J (aN (f:=s6.Pv) hv30 J J J J J J (.inl ⟨_,J,J⟩) iC kK Ap kN J (λ_=>J)) J J J<|S2 1 J<|S5 1 J<|y0 J (Uk J J J)<|S2 1 J ?_;exact eL h (Wk.trans (u4 _ [29]) (WP (λl=>if l=12 then 29 else l)))
    .refine e6 ?_;exact eL h (Wk.trans (u4 _ [12]) W)
   .refine S4 2 J ?_;refine cN h (λhc h=>?_) λhc h=>?_
    .refine S6 2 J ?_;exact eL h (Wk.trans (u4 _ [12]) W)
    .refine e6 ?_;exact eL h (Wk.trans (u4 _ [12]) W)
  .have h:=NQ h (zK hc28);refine S2 1 J<|l5 ?_;refine F3 false J (λq=>nomatch q) (λ_=>?_);refine y2<|l4<|l4<|r8 ?_;have h:=xL hx27 h;exact eJ h (Wk.trans (u4 _ [12]) W)
theorem Q1{a0}:PO prog 77 [.I a0] (Z2 a0) λr=>.fn (.func 137) [.rptr [.I r]]:=by
 refine pO func77 λr h _ _=>?_;unfold Z2 at h;refine S4 2 J<|S4 2 J<|b9 ?_;cases h;exact f1
theorem z7{a0 a1}:PO prog 79 [.I a0,.I a1] (B4 a0 a1) λr=>c9.Pv r:=by
 refine pO func79 λr h _ _=>?_;refine S4 2 J<|S3 1 J<|cF h Q1 J J λv1 _ h=>S1 1 J<|N2 (Sf 7 J)<|y0 J (w9 (cs:=[.fn (.func 137) [.rptr [.I v1]],.fn (.func 138) [.rptr [.I a0]],.bool false]) J od kO J J J)<|N2 (Ai 8 (d':=.agg [AS (some (137,some v1)),AS (some (138,some a0)),.bool false]) J J)<|S2 1 J<|b9 ?_;cases h;exact⟨J,[_],⟨oL J J J NZ Gz nl J,tr⟩,J,io⟩
theorem pe:PO prog 42 [] (dU) λr=>.abs (V5 (List.map (fP PV.str c9.Pv) r)):=by
 refine pO func42 λr h _ _=>?_;refine S4 1 J<|sR<|Ak (KT:=ByteArray) (VT:=c9) (EK:=PV.str) (E:=c9.Pv) 5000001 J J<|y0 J (w9 (cs:=[.fn (.func 75) [],.fn (.func 76) [],.bool true]) J od kO J J J)<|N2 (Ai 2 (d':=.agg [AS (some (75,none)),AS (some (76,none)),.bool true]) J J)<|G1 (es:=[]) (k:=(r9 [112,114,111,103])) (v:=(⟨(some (75,none)),(some (76,none)),true⟩:c9)) (E:=c9.Pv) (EK:=PV.str) (.inr J) J J J J J J J7 (K0 R5)<|cF h Q1 J J λv1 _ h=>y0 J (w9 (cs:=[.fn (.func 137) [.rptr [.I v1]],.fn (.func 78) [],.bool true]) J od kO J J J)<|N2 (Ai 4 (d':=.agg [AS (some (137,some v1)),AS (some (78,none)),.bool true]) J J)<|G1 (es:=(o0 [] (r9 [112,114,111,103]) (⟨(some (75,none)),(some (76,none)),true⟩:c9))) (k:=(r9 [104,101,97,112])) (v:=(⟨(some (137,some v1)),(some (78,none)),true⟩:c9)) (E:=c9.Pv) (EK:=PV.str) (.inr J) J J J J J J J7 (K0 R5)<|cF h z7 J J λv2 _ h=>G1 (es:=(o0 (o0 [] (r9 [112,114,111,103]) (⟨(some (75,none)),(some (76,none)),true⟩:c9)) (r9 [104,101,97,112]) (⟨(some (137,some v1)),(some (78,none)),true⟩:c9))) (k:=(r9 [110,101,119])) (v:=v2) (E:=c9.Pv) (EK:=PV.str) (.inr J) J J J J J J J7 (K0 R5)<|cF h z7 J J λv3 _ h=>G1 (es:=(o0 (o0 (o0 [] (r9 [112,114,111,103]) (⟨(some (75,none)),(some (76,none)),true⟩:c9)) (r9 [104,101,97,112]) (⟨(some (137,some v1)),(some (78,none)),true⟩:c9)) (r9 [110,101,119]) v2)) (k:=(r9 [99,111,112,121])) (v:=v3) (E:=c9.Pv) (EK:=PV.str) (.inr J) J J J J J J J7 (K0 R5)<|cF h z7 J J λv4 _ h=>G1 (es:=(o0 (o0 (o0 (o0 [] (r9 [112,114,111,103]) (⟨(some (75,none)),(some (76,none)),true⟩:c9)) (r9 [104,101,97,112]) (⟨(some (137,some v1)),(some (78,none)),true⟩:c9)) (r9 [110,101,119]) v2) (r9 [99,111,112,121]) v3)) (k:=(r9 [100,114,111,112])) (v:=v4) (E:=c9.Pv) (EK:=PV.str) (.inr J) J J J J J J J7 (K0 R5)<|cF h z7 J J λv5 _ h=>G1 (es:=(o0 (o0 (o0 (o0 (o0 [] (r9 [112,114,111,103]) (⟨(some (75,none)),(some (76,none)),true⟩:c9)) (r9 [104,101,97,112]) (⟨(some (137,some v1)),(some (78,none)),true⟩:c9)) (r9 [110,101,119]) v2) (r9 [99,111,112,121]) v3) (r9 [100,114,111,112]) v4)) (k:=(r9 [108,111,97,100])) (v:=v5) (E:=c9.Pv) (EK:=PV.str) (.inr J) J J J J J J J7 (K0 R5)<|cF h z7 J J λv6 _ h=>G1 (es:=(o0 (o0 (o0 (o0 (o0 (o0 [] (r9 [112,114,111,103]) (⟨(some (75,none)),(some (76,none)),true⟩:c9)) (r9 [104,101,97,112]) (⟨(some (137,some v1)),(some (78,none)),true⟩:c9)) (r9 [110,101,119]) v2) (r9 [99,111,112,121]) v3) (r9 [100,114,111,112]) v4) (r9 [108,111,97,100]) v5)) (k:=(r9 [115,116,111,114,101])) (v:=v6) (E:=c9.Pv) (EK:=PV.str) (.inr J) J J J J J J J7 (K0 R5)<|cF h z7 J J λv7 _ h=>G1 (es:=(o0 (o0 (o0 (o0 (o0 (o0 (o0 [] (r9 [112,114,111,103]) (⟨(some (75,none)),(some (76,none)),true⟩:c9)) (r9 [104,101,97,112]) (⟨(some (137,some v1)),(some (78,none)),true⟩:c9)) (r9 [110,101,119]) v2) (r9 [99,111,112,121]) v3) (r9 [100,114,111,112]) v4) (r9 [108,111,97,100]) v5) (r9 [115,116,111,114,101]) v6)) (k:=(r9 [119,101,97,107])) (v:=v7) (E:=c9.Pv) (EK:=PV.str) (.inr J) J J J J J J J7 (K0 R5)<|cF h z7 J J λv8 _ h=>G1 (es:=(o0 (o0 (o0 (o0 (o0 (o0 (o0 (o0 [] (r9 [112,114,111,103]) (⟨(some (75,none)),(some (76,none)),true⟩:c9)) (r9 [104,101,97,112]) (⟨(some (137,some v1)),(some (78,none)),true⟩:c9)) (r9 [110,101,119]) v2) (r9 [99,111,112,121]) v3) (r9 [100,114,111,112]) v4) (r9 [108,111,97,100]) v5) (r9 [115,116,111,114,101]) v6) (r9 [119,101,97,107]) v7)) (k:=(r9 [117,112])) (v:=v8) (E:=c9.Pv) (EK:=PV.str) (.inr J) J J J J J J J7 (K0 R5)<|cF h z7 J J λv9 _ h=>G1 (es:=(o0 (o0 (o0 (o0 (o0 (o0 (o0 (o0 (o0 [] (r9 [112,114,111,103]) (⟨(some (75,none)),(some (76,none)),true⟩:c9)) (r9 [104,101,97,112]) (⟨(some (137,some v1)),(some (78,none)),true⟩:c9)) (r9 [110,101,119]) v2) (r9 [99,111,112,121]) v3) (r9 [100,114,111,112]) v4) (r9 [108,111,97,100]) v5) (r9 [115,116,111,114,101]) v6) (r9 [119,101,97,107]) v7) (r9 [117,112]) v8)) (k:=(r9 [112,97,105,114])) (v:=v9) (E:=c9.Pv) (EK:=PV.str) (.inr J) J J J J J J J7 (K0 R5)<|cF h z7 J J λv10 _ h=>G1 (es:=(o0 (o0 (o0 (o0 (o0 (o0 (o0 (o0 (o0 (o0 [] (r9 [112,114,111,103]) (⟨(some (75,none)),(some (76,none)),true⟩:c9)) (r9 [104,101,97,112]) (⟨(some (137,some v1)),(some (78,none)),true⟩:c9)) (r9 [110,101,119]) v2) (r9 [99,111,112,121]) v3) (r9 [100,114,111,112]) v4) (r9 [108,111,97,100]) v5) (r9 [115,116,111,114,101]) v6) (r9 [119,101,97,107]) v7) (r9 [117,112]) v8) (r9 [112,97,105,114]) v9)) (k:=(r9 [103,101,116])) (v:=v10) (E:=c9.Pv) (EK:=PV.str) (.inr J) J J J J J J J7 (K0 R5)<|cF h z7 J J λv11 _ h=>G1 (es:=(o0 (o0 (o0 (o0 (o0 (o0 (o0 (o0 (o0 (o0 (o0 [] (r9 [112,114,111,103]) (⟨(some (75,none)),(some (76,none)),true⟩:c9)) (r9 [104,101,97,112]) (⟨(some (137,some v1)),(some (78,none)),true⟩:c9)) (r9 [110,101,119]) v2) (r9 [99,111,112,121]) v3) (r9 [100,114,111,112]) v4) (r9 [108,111,97,100]) v5) (r9 [115,116,111,114,101]) v6) (r9 [119,101,97,107]) v7) (r9 [117,112]) v8) (r9 [112,97,105,114]) v9) (r9 [103,101,116]) v10)) (k:=(r9 [115,97,109,101])) (v:=v11) (E:=c9.Pv) (EK:=PV.str) (.inr J) J J J J J J J7 (K0 R5) ?_;refine cF h z7 J J λv12 _ h=>G1 (es:=(o0 (o0 (o0 (o0 (o0 (o0 (o0 (o0 (o0 (o0 (o0 (o0 [] (r9 [112,114,111,103]) (⟨(some (75,none)),(some (76,none)),true⟩:c9)) (r9 [104,101,97,112]) (⟨(some (137,some v1)),(some (78,none)),true⟩:c9)) (r9 [110,101,119]) v2) (r9 [99,111,112,121]) v3) (r9 [100,114,111,112]) v4) (r9 [108,111,97,100]) v5) (r9 [115,116,111,114,101]) v6) (r9 [119,101,97,107]) v7) (r9 [117,112]) v8) (r9 [112,97,105,114]) v9) (r9 [103,101,116]) v10) (r9 [115,97,109,101]) v11)) (k:=(r9 [99,111,108,108,101,99,116])) (v:=v12) (E:=c9.Pv) (EK:=PV.str) (.inr J) J J J J J J J7 (K0 R5)<|cF h z7 J J λv13 _ h=>G1 (es:=(o0 (o0 (o0 (o0 (o0 (o0 (o0 (o0 (o0 (o0 (o0 (o0 (o0 [] (r9 [112,114,111,103]) (⟨(some (75,none)),(some (76,none)),true⟩:c9)) (r9 [104,101,97,112]) (⟨(some (137,some v1)),(some (78,none)),true⟩:c9)) (r9 [110,101,119]) v2) (r9 [99,111,112,121]) v3) (r9 [100,114,111,112]) v4) (r9 [108,111,97,100]) v5) (r9 [115,116,111,114,101]) v6) (r9 [119,101,97,107]) v7) (r9 [117,112]) v8) (r9 [112,97,105,114]) v9) (r9 [103,101,116]) v10) (r9 [115,97,109,101]) v11) (r9 [99,111,108,108,101,99,116]) v12)) (k:=(r9 [100,114,97,105,110])) (v:=v13) (E:=c9.Pv) (EK:=PV.str) (.inr J) J J J J J J J7 (K0 R5)<|cF h Q1 J J λv14 hv14 h=>y0 J (w9 (cs:=[.fn (.func 137) [.rptr [.I v14]],.fn (.func 80) [],.bool false]) J od kO J J J)<|N2 (Ai 18 (d':=.agg [AS (some (137,some v14)),AS (some (80,none)),.bool false]) J J)<|G1 (es:=(o0 (o0 (o0 (o0 (o0 (o0 (o0 (o0 (o0 (o0 (o0 (o0 (o0 (o0 [] (r9 [112,114,111,103]) (⟨(some (75,none)),(some (76,none)),true⟩:c9)) (r9 [104,101,97,112]) (⟨(some (137,some v1)),(some (78,none)),true⟩:c9)) (r9 [110,101,119]) v2) (r9 [99,111,112,121]) v3) (r9 [100,114,111,112]) v4) (r9 [108,111,97,100]) v5) (r9 [115,116,111,114,101]) v6) (r9 [119,101,97,107]) v7) (r9 [117,112]) v8) (r9 [112,97,105,114]) v9) (r9 [103,101,116]) v10) (r9 [115,97,109,101]) v11) (r9 [99,111,108,108,101,99,116]) v12) (r9 [100,114,97,105,110]) v13)) (k:=(r9 [108,105,118,101,115])) (v:=(⟨(some (137,some v14)),(some (80,none)),false⟩:c9)) (E:=c9.Pv) (EK:=PV.str) (.inr J) J J J J J J J7 (K0 R5)<|yc J (C2 J Q1 J hv14)<|y0 J (w9 (cs:=[.fn (.func 137) [.rptr [.I v14]],.fn (.func 81) [],.bool false]) J od kO J J J)<|N2 (Ai 20 (d':=.agg [AS (some (137,some v14)),AS (some (81,none)),.bool false]) J J)<|G1 (es:=(o0 (o0 (o0 (o0 (o0 (o0 (o0 (o0 (o0 (o0 (o0 (o0 (o0 (o0 (o0 [] (r9 [112,114,111,103]) (⟨(some (75,none)),(some (76,none)),true⟩:c9)) (r9 [104,101,97,112]) (⟨(some (137,some v1)),(some (78,none)),true⟩:c9)) (r9 [110,101,119]) v2) (r9 [99,111,112,121]) v3) (r9 [100,114,111,112]) v4) (r9 [108,111,97,100]) v5) (r9 [115,116,111,114,101]) v6) (r9 [119,101,97,107]) v7) (r9 [117,112]) v8) (r9 [112,97,105,114]) v9) (r9 [103,101,116]) v10) (r9 [115,97,109,101]) v11) (r9 [99,111,108,108,101,99,116]) v12) (r9 [100,114,97,105,110]) v13) (r9 [108,105,118,101,115]) (⟨(some (137,some v14)),(some (80,none)),false⟩:c9))) (k:=(r9 [114,111,111,116,115])) (v:=(⟨(some (137,some v14)),(some (81,none)),false⟩:c9)) (E:=c9.Pv) (EK:=PV.str) (.inr J) J J J J J J J7 (K0 R5)<|yc J (C2 J Q1 J hv14)<|y0 J (w9 (cs:=[.fn (.func 137) [.rptr [.I v14]],.fn (.func 82) [],.bool false]) J od kO J J J)<|N2 (Ai 22 (d':=.agg [AS (some (137,some v14)),AS (some (82,none)),.bool false]) J J)<|G1 (es:=(o0 (o0 (o0 (o0 (o0 (o0 (o0 (o0 (o0 (o0 (o0 (o0 (o0 (o0 (o0 (o0 [] (r9 [112,114,111,103]) (⟨(some (75,none)),(some (76,none)),true⟩:c9)) (r9 [104,101,97,112]) (⟨(some (137,some v1)),(some (78,none)),true⟩:c9)) (r9 [110,101,119]) v2) (r9 [99,111,112,121]) v3) (r9 [100,114,111,112]) v4) (r9 [108,111,97,100]) v5) (r9 [115,116,111,114,101]) v6) (r9 [119,101,97,107]) v7) (r9 [117,112]) v8) (r9 [112,97,105,114]) v9) (r9 [103,101,116]) v10) (r9 [115,97,109,101]) v11) (r9 [99,111,108,108,101,99,116]) v12) (r9 [100,114,97,105,110]) v13) (r9 [108,105,118,101,115]) (⟨(some (137,some v14)),(some (80,none)),false⟩:c9)) (r9 [114,111,111,116,115]) (⟨(some (137,some v14)),(some (81,none)),false⟩:c9))) (k:=(r9 [116,97,108,108,121])) (v:=(⟨(some (137,some v14)),(some (82,none)),false⟩:c9)) (E:=c9.Pv) (EK:=PV.str) (.inr J) J J J J J J J7 (K0 R5)<|S2 2 J<|cy (Ci 0 5000001 J J)<|b9 ?_;cases h;exact f1
theorem qM{a0}:PO prog 13 [.str a0] (aG a0) λr=>.tup [.I r.1,.bool r.2]:=by
 refine pO func13 λr h _ _=>?_;refine S4 2 J<|wU<|S4 3 J<|l5<|wP ?_;refine jq h (λq=>St.of [(4,.I q.1),(5,.I q.2.1),(6,.I q.2.2)] []) (λq12 h=>?_) λκ8 h=>?_
 .obtain⟨j9,j10,j11⟩:=q12;refine l5<|S4 2 J ?_;refine cN h (λhc h=>?_) λhc h=>?_
  .refine S4 2 J ?_;refine b9 ?_;cases h;exact f2
  .refine e6 ?_;refine S4 5 J<|b9 ?_;cases h;exact f2
 .refine S3 1 J ?_;refine NJ 5000010 J J R5 J<|yN<|n0<|lq h (λq=>St.of [(4,.I q.1),(5,.I q.2.1),(6,.I q.2.2.1),(10,.ptr 5000010 0 0)] [(5000010,Vw a0 q.2.2.2)]) W λq19 x18 h hx8=>?_;obtain⟨s14,s15,s16,s17⟩:=q19;refine sR ?_;refine Sj J J J (λhc9=>?_) (λhc9=>?_)
  .have h:=NR h (zA hc9);refine S2 1 J<|l5 ?_;refine F3 true J (λ_=>?_) (λq=>nomatch q);refine e6<|n0<|S4 4 J<|l5<|n0<|S3 3 J<|p9 J (λhg=>om (d:=.int .i32 ((dec a0 s17).1:Int)) J)<|p9 J (λhg=>I3 (ct hg) J J)<|y0 J (E7 J J J (λq=>mM q))<|S2 1 J ?_;refine cN h (λhc h=>?_) λhc h=>?_
   .refine S4 1 J ?_;refine y2<|aY (by decide)<|l4<|r8 ?_;exact eL h W
   .refine S3 3 J ?_;refine p9 J (λhg=>om (d:=.int .i32 ((dec a0 s17).1:Int)) J)<|p9 J (λhg=>I3 (ct hg) J J)<|y0 J (K1 J J J (λq=>mL q))<|S1 1 J<|p9 J (λhg=>mI J)<|p9 J (λhg=>I3 (ct hg) J J)<|y0 J (K1 J J J (λq=>mL q))<|S2 1 J ?_;refine cN h (λhc h=>?_) λhc h=>?_
    .refine S4 1 J ?_;refine y2<|aY (by decide)<|l4<|aY (by decide)<|l4<|r8 ?_;have h:=xL hx8 h;exact eJ h W
    .refine e6 ?_;refine S3 4 J<|y0 J (Uf J SG VH J)<|S2 2 J<|S6 3 J ?_;exact eL h W
  .have h:=NQ h (zK hc9);refine S2 1 J<|l5 ?_;refine F3 false J (λq=>nomatch q) (λ_=>?_);refine y2<|l4<|l4<|r8 ?_;have h:=xL hx8 h;exact eJ h W
theorem mZ{a0}:PO prog 43 [.L PV.str a0] (az a0) λr=>.tup [.L iF r.1,.bool r.2]:=by
 refine pO func43 λr h _ _=>?_;refine S4 2 J<|S4 1 J ?_;refine jq h (λj10=>St.of [(4,.sl 910004)] [(910004,⟨List.map iF j10,(List.map iF j10).length,true,1,true⟩)]) (λj10 h=>?_) λκ9 h=>?_
 .refine S4 3 J ?_;refine b9 ?_;cases h;exact f2
 .refine S3 1 J ?_;refine nL J D0<|S2 1 J<|n0<|lq h (λq=>St.of [(4,.sl 910004),(9,.L PV.str a0),(10,.I (a0.length:Int)),(11,.I q.1)] [(910004,⟨List.map iF q.2,(List.map iF q.2).length,true,1,true⟩)]) (Wk.trans (Y7 (t:=4) (l:=920004) (z:=1) J J) (WP (λl=>if l=910004 then 920004 else l))) λq15 x14 h hx10=>?_;obtain⟨s12,s13⟩:=q15;refine S4 1 J<|l5 ?_;refine cN h (λhc h=>?_) λhc h=>?_
  .refine e6 ?_;refine l5<|n0<|sR<|iL h J J D0 P5 λv16 _ h=>S2 2 J<|S3 1 J<|cA h qM J J λv17 _ h=>S2 5 J<|l5<|S4 2 J ?_;refine cN h (λhc h=>?_) λhc h=>?_
   .refine S4 2 J ?_;refine b9 ?_;have h:=xL hx10 h;cases h;exact f2
   .refine e6 ?_;refine S5 2 J<|y0 J (aO (f:=iF) (l:=[v17.1]) J o7 u5 F8 J J nl J J)<|A6 h λv18 hv13 h=>bJ J (aN (f:=iF) hv13 J J J J J J (.inl ⟨_,J,J⟩) o7 u5 X5 F8 J (λ_=>J)) J J J<|S2 1 J<|S6 2 J ?_;exact eL h (Wk.trans (u4 _ [25]) (WP (λl=>if l=910004 then 25 else l)))
  .refine y2 ?_;refine l4<|l4<|r8 ?_;have h:=xL hx10 h;exact eJ h (Wk.trans (u4 _ [910004]) W)
theorem mJ{a0}:PO prog 75 [.I a0] (bQ a0) λr=>.bool r:=by
 refine pO func75 λr h _ _=>?_;unfold bQ at h;refine S4 1 J<|S3 1 J<|A6 h λv1 hv1 h=>y0 J (wG J J hv1)<|S2 2 J<|b9 ?_;cases h;exact f1
theorem mY{a0 a1}:PO prog 137 [.I a0,.rptr [.I a1]] (cV a0 a1) λr=>.bool r:=by
 refine pO func137 λr h _ _=>?_;unfold cV at h;refine S4 1 J<|S4 4 J<|b9 ?_;cases h;exact f1
theorem EV{f:Fw}{a0:Int}{r:Bool}(h:oC f a0=some r):∃n cap,Vv f = .fn (.func n) cap/\Xr cap/\x8 prog n/\N7 prog n ([.I a0]++cap) (.bool r):=by
 unfold oC at h;match f,h with
 | none,h=>cases h
 | some (n,none),h=>
  dsimp only at h;by_cases e75:n=75
  .rw[zb e75] at h;subst e75;exact⟨75,_,J,.inl J,Sw,mJ.2 _ h⟩
  rw[za e75] at h;cases h
 | some (n,some c),h=>
  dsimp only at h;by_cases e137:n=137
  .rw[zb e137] at h;subst e137;exact⟨137,_,J,.inr ⟨c,J⟩,Og,mY.2 _ h⟩
  rw[za e137] at h;cases h
theorem N5{a0}:PO prog 27 [.I a0] (B7 a0) λr=>.str r:=by
 refine pO func27 λr h _ _=>?_;unfold B7 at h;refine S4 1 J<|S3 1 J<|A6 h λv1 hv1 h=>y0 J (tl J Ep J (Lv hv1))<|A6 h λv2 hv2 h=>y0 J (tj hv2 J J R5)<|S2 1 J<|b9 ?_;cases h;exact f1
theorem xN{a0}:PO prog 55 [c8.Pv a0] (dR a0) λr=>.bool r:=by
 refine pO func55 λr h _ _=>?_;unfold dR at h;refine S4 2 J<|S3 4 J<|p9 J (λhg=>oF J JO J)<|p9 J (λhg=>oS (ct hg) J J V6 J)<|p9 J (λhg=>I3 (ct hg) J J)<|y0 J (E7 J J J (λq=>mM q))<|S2 1 J<|b9 ?_;cases h;exact f1
theorem A5:PO prog 168 [.fn (.func 169) []] (ak) λr=>k8.Pv r:=by
 refine pO func168 λr h _ _=>?_;unfold ak at h;refine S4 1 J<|S3 1 J<|y0 J (w9 (cs:=[.fn (.func 169) [],.I 0,.I 5,.I 6]) J cR J4 J J J)<|N2 (mF 4 (d':=.agg [qV (some 169),.I 0,.I 5,.I 6]) J)<|S2 1 J<|b9 ?_;cases h;exact⟨J,[_],⟨oL J J J fJ L1 nl J,tr⟩,J,io⟩
theorem ay:PO prog 171 [.fn (.func 172) []] (U3) λr=>k8.Pv r:=by
 refine pO func171 λr h _ _=>?_;unfold U3 at h;refine S4 1 J<|S3 1 J<|y0 J (w9 (cs:=[.fn (.func 172) [],.I (-1),.I 5,.I 13]) J cR J4 J J J)<|N2 (mF 4 (d':=.agg [qV (some 172),.I (-1),.I 5,.I 13]) J)<|S2 1 J<|b9 ?_;cases h;exact⟨J,[_],⟨oL J J J fJ L1 nl J,tr⟩,J,io⟩
theorem E3{a0}:PO prog 167 [.L k8.Pv a0] (J0 a0) λr=>.L k8.Pv r:=by
 refine pO func167 λr h _ _=>?_;unfold J0 at h;refine S4 1 J<|S4 2 J<|b9 ?_;cases h;exact f1
theorem L3:PO prog 168 [.fn (.func 170) []] (al) λr=>k8.Pv r:=by
 refine pO func168 λr h _ _=>?_;unfold al at h;refine S4 1 J<|S3 1 J<|y0 J (w9 (cs:=[.fn (.func 170) [],.I 0,.I 5,.I 6]) J cR J4 J J J)<|N2 (mF 4 (d':=.agg [qV (some 170),.I 0,.I 5,.I 6]) J)<|S2 1 J<|b9 ?_;cases h;exact⟨J,[_],⟨oL J J J fJ L1 nl J,tr⟩,J,io⟩
theorem iy:PO prog 173 [.fn (.func 172) []] (X8) λr=>k8.Pv r:=by
 refine pO func173 λr h _ _=>?_;unfold X8 at h;refine S4 1 J<|S3 1 J<|y0 J (w9 (cs:=[.fn (.func 172) [],.I 0,.I 3,.I 5]) J cR J4 J J J)<|N2 (mF 4 (d':=.agg [qV (some 172),.I 0,.I 3,.I 5]) J)<|S2 1 J<|b9 ?_;cases h;exact⟨J,[_],⟨oL J J J fJ L1 nl J,tr⟩,J,io⟩
theorem iw:PO prog 173 [.fn (.func 170) []] (X7) λr=>k8.Pv r:=by
 refine pO func173 λr h _ _=>?_;unfold X7 at h;refine S4 1 J<|S3 1 J<|y0 J (w9 (cs:=[.fn (.func 170) [],.I 0,.I 3,.I 5]) J cR J4 J J J)<|N2 (mF 4 (d':=.agg [qV (some 170),.I 0,.I 3,.I 5]) J)<|S2 1 J<|b9 ?_;cases h;exact⟨J,[_],⟨oL J J J fJ L1 nl J,tr⟩,J,io⟩
theorem dT:PO prog 174 [.fn (.func 172) []] (P0) λr=>k8.Pv r:=by
 refine pO func174 λr h _ _=>?_;unfold P0 at h;refine S4 1 J<|S3 1 J<|y0 J (w9 (cs:=[.fn (.func 172) [],.I (-1),.I 5,.I 6]) J cR J4 J J J)<|N2 (mF 4 (d':=.agg [qV (some 172),.I (-1),.I 5,.I 6]) J)<|S2 1 J<|b9 ?_;cases h;exact⟨J,[_],⟨oL J J J fJ L1 nl J,tr⟩,J,io⟩
theorem jj:PO prog 175 [.fn (.func 169) []] (ai) λr=>k8.Pv r:=by
 refine pO func175 λr h _ _=>?_;unfold ai at h;refine S4 1 J<|S3 1 J<|y0 J (w9 (cs:=[.fn (.func 169) [],.I 0,.I 5,.I 7]) J cR J4 J J J)<|N2 (mF 4 (d':=.agg [qV (some 169),.I 0,.I 5,.I 7]) J)<|S2 1 J<|b9 ?_;cases h;exact⟨J,[_],⟨oL J J J fJ L1 nl J,tr⟩,J,io⟩
theorem V9:PO prog 174 [.fn (.func 170) []] (O9) λr=>k8.Pv r:=by
 refine pO func174 λr h _ _=>?_;unfold O9 at h;refine S4 1 J<|S3 1 J<|y0 J (w9 (cs:=[.fn (.func 170) [],.I (-1),.I 5,.I 6]) J cR J4 J J J)<|N2 (mF 4 (d':=.agg [qV (some 170),.I (-1),.I 5,.I 6]) J)<|S2 1 J<|b9 ?_;cases h;exact⟨J,[_],⟨oL J J J fJ L1 nl J,tr⟩,J,io⟩
theorem jk:PO prog 175 [.fn (.func 170) []] (aj) λr=>k8.Pv r:=by
 refine pO func175 λr h _ _=>?_;unfold aj at h;refine S4 1 J<|S3 1 J<|y0 J (w9 (cs:=[.fn (.func 170) [],.I 0,.I 5,.I 7]) J cR J4 J J J)<|N2 (mF 4 (d':=.agg [qV (some 170),.I 0,.I 5,.I 7]) J)<|S2 1 J<|b9 ?_;cases h;exact⟨J,[_],⟨oL J J J fJ L1 nl J,tr⟩,J,io⟩
theorem uz:PO prog 94 [] (kV) λr=>.abs (V5 (List.map (fP iF (Ls k8.Pv)) r)):=by
 refine pO func94 λr h _ _=>?_;refine S4 1 J<|sR<|Ak (KT:=Int) (VT:=List k8) (EK:=iF) (E:=(Ls k8.Pv)) 5000001 J J<|cF h A5 J J λv1 hv1 h=>y0 J (w9 (cs:=[.fn (.func 170) [],.I 0,.I 4,.I 1]) J cR J4 J J J)<|N2 (mF 3 (d':=.agg [qV (some 170),.I 0,.I 4,.I 1]) J)<|cF h ay J J λv2 hv2 h=>y0 J (aO (f:=k8.Pv) (l:=[v1,(⟨(some 170),0,4,1⟩:k8),v2]) J aX L1 J4 J J nl J J)<|cF h E3 J J λv3 _ h=>G1 (es:=[]) (k:=1) (v:=v3) (E:=(Ls k8.Pv)) (EK:=iF) (.inr J) J J J J J J V8 (A9 M2)<|yc J (C2 J A5 J hv1)<|cF h L3 J J λv4 hv4 h=>y0 J (aO (f:=k8.Pv) (l:=[v1,v4]) J aX L1 J4 J J nl J J)<|cF h E3 J J λv5 hv5 h=>G1 (es:=(o0 [] 1 v3)) (k:=2) (v:=v5) (E:=(Ls k8.Pv)) (EK:=iF) (.inr J) J J J J J J V8 (A9 M2)<|yc J (C2 J A5 J hv1)<|y0 J (aO (f:=k8.Pv) (l:=[v1]) J aX L1 J4 J J nl J J)<|cF h E3 J J λv6 _ h=>G1 (es:=(o0 (o0 [] 1 v3) 2 v5)) (k:=3) (v:=v6) (E:=(Ls k8.Pv)) (EK:=iF) (.inr J) J J J J J J V8 (A9 M2)<|yc J (C2 J A5 J hv1)<|yc J (C2 J L3 J hv4)<|cF h iy J J λv7 _ h=>y0 J (aO (f:=k8.Pv) (l:=[v1,v4,v7]) J aX L1 J4 J J nl J J)<|cF h E3 J J λv8 _ h=>G1 (es:=(o0 (o0 (o0 [] 1 v3) 2 v5) 3 v6)) (k:=4) (v:=v8) (E:=(Ls k8.Pv)) (EK:=iF) (.inr J) J J J J J J V8 (A9 M2)<|yc J (C2 J A5 J hv1)<|cF h iw J J λv9 _ h=>cF h dT J J λv10 _ h=>y0 J (aO (f:=k8.Pv) (l:=[v1,v9,v10]) J aX L1 J4 J J nl J J)<|cF h E3 J J λv11 _ h=>?_;refine G1 (es:=(o0 (o0 (o0 (o0 [] 1 v3) 2 v5) 3 v6) 4 v8)) (k:=5) (v:=v11) (E:=(Ls k8.Pv)) (EK:=iF) (.inr J) J J J J J J V8 (A9 M2)<|cF h jj J J λv12 _ h=>cF h V9 J J λv13 hv13 h=>yc J (C2 J ay J hv2)<|y0 J (aO (f:=k8.Pv) (l:=[v12,v13,v2]) J aX L1 J4 J J nl J J)<|cF h E3 J J λv14 _ h=>G1 (es:=(o0 (o0 (o0 (o0 (o0 [] 1 v3) 2 v5) 3 v6) 4 v8) 5 v11)) (k:=6) (v:=v14) (E:=(Ls k8.Pv)) (EK:=iF) (.inr J) J J J J J J V8 (A9 M2)<|yc J (C2 J A5 J hv1)<|cF h jk J J λv15 _ h=>y0 J (aO (f:=k8.Pv) (l:=[v1,v15]) J aX L1 J4 J J nl J J)<|cF h E3 J J λv16 _ h=>G1 (es:=(o0 (o0 (o0 (o0 (o0 (o0 [] 1 v3) 2 v5) 3 v6) 4 v8) 5 v11) 6 v14)) (k:=7) (v:=v16) (E:=(Ls k8.Pv)) (EK:=iF) (.inr J) J J J J J J V8 (A9 M2)<|yc J (C2 J A5 J hv1)<|yc J (C2 J V9 J hv13)<|y0 J (aO (f:=k8.Pv) (l:=[v1,v13]) J aX L1 J4 J J nl J J)<|cF h E3 J J λv17 _ h=>G1 (es:=(o0 (o0 (o0 (o0 (o0 (o0 (o0 [] 1 v3) 2 v5) 3 v6) 4 v8) 5 v11) 6 v14) 7 v16)) (k:=8) (v:=v17) (E:=(Ls k8.Pv)) (EK:=iF) (.inr J) J J J J J J V8 (A9 M2)<|yc J (C2 J A5 J hv1)<|yc J (C2 J L3 J hv4)<|y0 J (aO (f:=k8.Pv) (l:=[v1,v4]) J aX L1 J4 J J nl J J)<|yc J (C2 J E3 J hv5)<|G1 (es:=(o0 (o0 (o0 (o0 (o0 (o0 (o0 (o0 [] 1 v3) 2 v5) 3 v6) 4 v8) 5 v11) 6 v14) 7 v16) 8 v17)) (k:=9) (v:=v5) (E:=(Ls k8.Pv)) (EK:=iF) (.inr J) J J J J J J V8 (A9 M2)<|yc J (C2 J A5 J hv1)<|yc J (C2 J L3 J hv4)<|y0 J (aO (f:=k8.Pv) (l:=[v1,v4]) J aX L1 J4 J J nl J J)<|yc J (C2 J E3 J hv5)<|G1 (es:=(o0 (o0 (o0 (o0 (o0 (o0 (o0 (o0 (o0 [] 1 v3) 2 v5) 3 v6) 4 v8) 5 v11) 6 v14) 7 v16) 8 v17) 9 v5)) (k:=10) (v:=v5) (E:=(Ls k8.Pv)) (EK:=iF) (.inr J) J J J J J J V8 (A9 M2)<|cF h E3 J J λv18 _ h=>G1 (es:=(o0 (o0 (o0 (o0 (o0 (o0 (o0 (o0 (o0 (o0 [] 1 v3) 2 v5) 3 v6) 4 v8) 5 v11) 6 v14) 7 v16) 8 v17) 9 v5) 10 v5)) (k:=11) (v:=v18) (E:=(Ls k8.Pv)) (EK:=iF) (.inr J) J J J J J J V8 (A9 M2)<|y0 J (w9 (cs:=[.fn (.func 169) [],.I 0,.I 200,.I 12]) J cR J4 J J J) ?_;refine N2 (mF 46 (d':=.agg [qV (some 169),.I 0,.I 200,.I 12]) J)<|y0 J (aO (f:=k8.Pv) (l:=[(⟨(some 169),0,200,12⟩:k8)]) J aX L1 J4 J J nl J J)<|cF h E3 J J λv19 _ h=>G1 (es:=(o0 (o0 (o0 (o0 (o0 (o0 (o0 (o0 (o0 (o0 (o0 [] 1 v3) 2 v5) 3 v6) 4 v8) 5 v11) 6 v14) 7 v16) 8 v17) 9 v5) 10 v5) 11 v18)) (k:=12) (v:=v19) (E:=(Ls k8.Pv)) (EK:=iF) (.inr J) J J J J J J V8 (A9 M2)<|S2 2 J<|cy (Ci 0 5000001 J J)<|b9 ?_;cases h;exact f1
theorem pz{a0}:PO prog 169 [c8.Pv a0] (pZ a0) λr=>.I r:=by
 refine pO func169 λr h _ _=>?_;unfold pZ at h;refine S4 2 J<|S4 3 J<|b9 ?_;cases h;exact f1
theorem pA{a0}:PO prog 170 [c8.Pv a0] (qc a0) λr=>.I r:=by
 refine pO func170 λr h _ _=>?_;unfold qc at h;refine S4 2 J<|S4 3 J<|b9 ?_;cases h;exact f1
theorem pB{a0}:PO prog 172 [c8.Pv a0] (qd a0) λr=>.I r:=by
 refine pO func172 λr h _ _=>?_;unfold qd at h;refine S4 2 J<|S4 3 J<|b9 ?_;cases h;exact f1
theorem ET{f:Fv}{a0:c8}{r:Int}(h:qW f a0=some r):∃n,f=some n/\x8 prog n/\N7 prog n [c8.Pv a0] (.I r):=by
 unfold qW at h;by_cases e169:f=some 169
 .rw[zb e169] at h;exact⟨169,e169,(@pz a0).1,(@pz a0).2 _ h⟩
 rw[za e169] at h;by_cases e170:f=some 170
 .rw[zb e170] at h;exact⟨170,e170,(@pA a0).1,(@pA a0).2 _ h⟩
 rw[za e170] at h;by_cases e172:f=some 172
 .rw[zb e172] at h;exact⟨172,e172,(@pB a0).1,(@pB a0).2 _ h⟩
 rw[za e172] at h;cases h
theorem ji{a0}:PO prog 56 [c8.Pv a0] (U2 a0) λr=>.I r:=by
 refine pO func56 λr h _ _=>?_;unfold U2 at h;refine S4 2 J<|dr [] y6 (by kernel_rfl) (by kernel_rfl)<|A6 h λv1 hv1 h=>mK J (C2 J uz J hv1) J<|S7 2 J<|d4 J (Dl (es:=v1) (k:=a0.Kind) (E:=(Ls k8.Pv)) (EK:=iF) (d:=.tup [.L k8.Pv ((y9 v1 a0.Kind).getD ([]:List k8)),.bool ((y9 v1 a0.Kind).isSome)]) J J V8 (A9 M2) OL J (Yc _ _ ([]:List k8))) J<|S8 5 J<|l5<|S4 2 J ?_;refine cN h (λhc h=>?_) λhc h=>?_
 .refine S4 1 J ?_;refine b9 ?_;cases h;exact f1
 .refine e6 ?_;refine jq h (λ_=>St.of [] []) (λq9 h=>?_) λκ8 h=>?_
  .refine S4 1 J ?_;refine b9 ?_;cases h;exact f1
  .refine S3 1 J ?_;refine nL J aX<|S2 1 J<|n0<|lq h (λs11=>St.of [(1,.ptr 1 0 0),(17,.L k8.Pv ((y9 v1 a0.Kind).getD ([]:List k8))),(18,.I (((y9 v1 a0.Kind).getD ([]:List k8)).length:Int)),(19,.I s11)] [(1,vR (c8.Pv a0) 4)]) W λs11 x12 h hx13=>S4 1 J<|l5 ?_;refine cN h (λhc h=>?_) λhc h=>?_
   .refine e6 ?_;refine l5<|n0<|sR<|iL h J J aX L1 λv13 _ h=>S2 3 J<|S3 3 J ?_;obtain⟨v14,hv15,h⟩:=C6 h;obtain⟨n15,he16,hk17,hp18⟩:=ET hv15;refine N2 (Se 24 J he16)<|y0 J (tl J hk17 J hp18)<|S2 1 J<|S3 5 J<|p9 J (λhg=>mI J)<|p9 J (λhg=>oF J Io J)<|p9 J (λhg=>oS (ct hg) J J V6 J)<|p9 J (λhg=>I3 (ct hg) (ct hg) J)<|y0 J (K1 J J J (λq=>mL q))<|yN ?_;refine cN h (λhc h=>?_) λhc h=>?_
    .refine S4 3 J ?_;refine b9 ?_;have h:=xL hx13 h;cases h;exact f1
    .refine e6 ?_;refine S6 2 J ?_;exact eL h W
   .refine y2 ?_;refine l4<|l4<|r8 ?_;have h:=xL hx13 h;exact eJ h W
theorem py{a0}:PO prog 30 [.L (Ls c8.Pv) a0] (dS a0) λr=>.bool r:=by
 refine pO func30 λr h _ _=>?_;refine S4 1 J<|l5<|S3 1 J<|nL J gu<|S2 1 J ?_;refine cN h (λhc h=>?_) λhc h=>?_
 .refine S4 1 J ?_;refine b9 ?_;cases h;exact f1
 .refine e6 ?_;refine jq h (λ_=>St.of [] []) (λq21 h=>?_) λκ20 h=>?_
  .refine S4 1 J ?_;refine b9 ?_;cases h;exact f1
  .refine S3 1 J ?_;refine nL J gu<|S2 1 J<|n0<|lq h (λs23=>St.of [(10,.L (Ls c8.Pv) a0),(11,.I (a0.length:Int)),(12,.I s23)] []) W λs23 x24 h hx22=>S4 1 J<|l5 ?_;refine cN h (λhc h=>?_) λhc h=>?_
   .refine e6 ?_;refine jq h (λ_=>St.of [(10,.L (Ls c8.Pv) a0),(11,.I (a0.length:Int)),(12,.I s23)] []) (λq33 h=>?_) λκ32 h=>?_
    .refine S6 2 J ?_;exact eL h W
    .refine n0 ?_;refine sR<|iL h J J gu fK λv34 _ h=>S2 2 J<|l5<|S3 1 J<|nL J iD<|S2 1 J ?_;refine cN h (λhc h=>?_) λhc h=>?_
     .refine S4 1 J ?_;refine b9 ?_;have h:=xL hx22 h;cases h;exact f1
     .refine e6 ?_;refine S3 1 J<|nL J iD<|S2 1 J<|n0<|lq h (λs36=>St.of [(10,.L (Ls c8.Pv) a0),(11,.I (a0.length:Int)),(12,.I s23),(19,.L c8.Pv v34),(20,.I (v34.length:Int)),(21,.I s36)] []) W λs36 x37 h hx34=>S4 1 J<|l5 ?_;refine cN h (λhc h=>?_) λhc h=>?_
      .refine e6 ?_;refine l5<|n0<|sR<|iL h J J iD kM λv38 _ h=>S2 3 J<|S3 1 J<|cA h xN J J λv39 _ h=>S1 2 J<|p9 J (λhg=>oL J J J Ao kM nl J)<|A6 h λv40 hv37 h=>p9 J (λhg=>T0 J ji (dJ (ct hg) J) (O5 hv37 hg))<|p9 J (λhg=>I3 (ct hg) J J)<|y0 J (K1 J J J (λq=>mL q))<|yN ?_;refine cN h (λhc h=>?_) λhc h=>?_
       .refine S4 1 J ?_;refine b9 ?_;have h:=xL hx34 h;have h:=xL hx22 h;cases h;exact f1
       .refine e6 ?_;refine S6 2 J ?_;exact eL h W
      .refine y2 ?_;refine l4<|l4<|r8 ?_;have h:=xL hx34 h;exact eJ h W
   .refine y2 ?_;refine l4<|l4<|r8 ?_;have h:=xL hx22 h;exact eJ h W
theorem gw{a0 a1}:PO prog 76 [c4.Pv a0,.L iF a1] (N4 a0 a1) λr=>.tup [c4.Pv r.1,.str r.2]:=by
 refine pO func76 λr h _ _=>?_;refine S4 3 J<|S3 1 J<|iL h J J o7 u5 λv1 _ h=>S2 2 J<|l5<|S3 3 J<|p9 J (λhg=>mI J)<|p9 J (λhg=>I3 (ct hg) J J)<|y0 J (K1 J J J (λq=>mL q))<|yN ?_;refine cN h (λhc h=>?_) λhc h=>?_
 .refine dr [] y6 (by kernel_rfl) (by kernel_rfl) ?_;refine S7 1 J<|A6 h λv2 hv2 h=>d2 J (T0 J N5 J hv2) J<|E2 (x':=c4.Pv a0) (cl':=true) J J (.inr J) P9<|S8 1 J<|b9 ?_;cases h;exact⟨J,[_,_],⟨oL J J J cP P9 nl J,⟨J,tr⟩⟩,J,io⟩
 .refine e6 ?_;refine S3 4 J<|nL J gu<|y0 J (Hi J J J)<|A6 h λv3 hv3 h=>y1 J (wH (f:=(Ls c8.Pv)) hv3 J J J gu fK OH Ob J J J) J<|S2 1 J<|S3 3 J<|A6 h λv4 hv4 h=>Vp (f:=(Ls c8.Pv)) hv4 J J J (.inl ⟨_,J,J⟩) gu fK (λ_=>J) (by decide)<|yN<|S3 2 J<|A6 h λv5 hv5 h=>y0 J (gP (f:=(Ls c8.Pv)) hv5 J J J J gu fK J)<|Rl (f:=(Ls c8.Pv)) 930026 4 hv5 J J J fK J J J J<|yN ?_;refine jq h (λj19=>St.of [(2,.ptr 2 0 0),(4,.ptr 4 0 0),(7,.sl 26)] [(26,⟨qk (Ls c8.Pv) v4 ((v1).toNat) 930026,0,true,1,false⟩),(930026,⟨List.map c8.Pv j19,(List.map c8.Pv j19).length,true,4,true⟩),(4,vR (.agg [.nl,.I 0,.I 0,.nl,.nl,.nl,.nl,.I 0,.nl,.bool false,.nl]) 11),(2,vR (c4.Pv a0) 11)]) (λj19 h=>?_) λκ18 h=>?_
  .refine l5 ?_;refine cy (Vl (l:=26) (r:=930026) (f:=(Ls c8.Pv)) (gE:=c8.Pv) (v:=j19) J (Wj hv5) J J J J (λ_=>J) J)<|S3 1 J<|cA h py J J λv20 _ h=>S2 1 J ?_;refine cN h (λhc h=>?_) λhc h=>?_
   .refine dr [] y6 (by kernel_rfl) (by kernel_rfl) ?_;refine S7 1 J<|A6 h λv21 hv18 h=>d2 J (T0 J N5 J hv18) J<|E2 (x':=c4.Pv a0) (cl':=true) J J (.inr J) P9<|S8 1 J<|b9 ?_;cases h;exact⟨J,[_,_],⟨oL J J J cP P9 nl J,⟨J,tr⟩⟩,J,io⟩
   .refine e6 ?_;refine S4 3 J<|S4 3 J<|b9 ?_;cases h;exact⟨J,[_,_],⟨oL J J J cP P9 nl J,⟨J,tr⟩⟩,J,io⟩
  .refine S3 1 J ?_;obtain⟨v22,hv19,h⟩:=C6 h;refine y0 J (tn (f:=iF) hv19 J ⟨_,J⟩ J o7 u5 (λ_=>J))<|S2 1 J<|n0<|lq h (λq=>St.of [(2,.ptr 2 0 0),(4,.ptr 4 0 0),(6,.I v1),(7,.sl 26),(8,.L iF q.1)] [(26,⟨qk (Ls c8.Pv) v4 ((v1).toNat) 930026,0,true,1,false⟩),(930026,⟨List.map c8.Pv q.2,(List.map c8.Pv q.2).length,true,4,true⟩),(4,vR (.agg [.nl,.I 0,.I 0,.nl,.nl,.nl,.nl,.I 0,.nl,.bool false,.nl]) 11),(2,vR (c4.Pv a0) 11)]) (Wk.trans (u4 _ [930026]) (sA _ _ ⟨J,J,J,J,J,J,J,J,J,J,J,J,J,J,J,tr⟩ ⟨tF J J J (λ_=>J) J J J J (λ_=>J) (λ_=>J) (λ_=>J),rS,rS,rS,tr⟩)) λq27 x26 h hx22=>?_;obtain⟨s24,s25⟩:=q27;refine l5<|S3 1 J<|nL J o7<|S2 1 J ?_;refine cN h (λhc h=>?_) λhc h=>?_
   .refine e6 ?_;refine l5<|n0<|wO [] y6 (by kernel_rfl) (by kernel_rfl)<|S7 4 J<|d0 J (RO (f:=(Ls c8.Pv)) hv5 J J J J gu fK J) J<|d0 J (WC (f:=(Ls c8.Pv)) hv5 J J J Oa) J<|S7 1 J<|A6 h λv28 hv23 h=>d0 J (F5 (f:=iF) (cs:=[.I v28]) hv23 J J o7 u5 J J) J<|S7 2 J<|A6 h λv29 hv24 h=>d0 J (F5 (f:=iF) (cs:=[.I v29]) hv24 J J o7 u5 J J) J<|S7 2 J<|A6 h λv30 hv25 h=>d0 J (F5 (f:=iF) (cs:=[.I v30]) hv25 J J o7 u5 J J) J<|S7 2 J<|A6 h λv31 hv26 h=>d0 J (F5 (f:=iF) (cs:=[.I v31]) hv26 J J o7 u5 J J) J<|S7 1 J<|d7 J (λ_ hN=>w9 (cs:=[.I v28,.I v29,.I v30,.I v31]) J As sH J J J) J<|XI J (aO (f:=c8.Pv) (l:=[(⟨v28,v29,v30,v31⟩:c8)]) J iD kM sH J J nl J J) J<|A6 h λv32 hv27 h=>Ym J (aN (f:=c8.Pv) hv27 J J J J J J (.inl ⟨_,J,J⟩) iD kM Sr sH J (λ_=>J)) J J J J J<|d0 J (RO (f:=(Ls c8.Pv)) hv5 J J J J gu fK J) J<|VN (f:=(Ls c8.Pv)) hv5 J J J fK J<|bC<|S5 1 J<|A6 h λv33 hv28 h=>y0 J (tn (f:=iF) hv28 J ⟨_,J⟩ J o7 u5 (λ_=>J))<|S2 1 J ?_;exact eL h (Wk.trans (u4 _ [61]) (Gb (λl=>if l=930026 then 61 else l) _ _ ⟨J,J,J,J,J,J,J,J,J,J,J,J,J,J,J,tr⟩ ⟨tF J J J (λ_=>J) J J J J (λ_=>J) (λ_=>J) (λ_=>J),rN,rN,rN,tr⟩ J))
   .refine y2 ?_;refine l4<|l4<|r8 ?_;have h:=xL hx22 h;exact eJ h (Wk.trans (u4 _ [930026]) (sA _ _ ⟨J,J,J,J,J,J,J,J,J,tr⟩ ⟨tF J J J (λ_=>J) J J J J (λ_=>J) (λ_=>J) (λ_=>J),rS,rS,rS,tr⟩))
theorem mQ{a0 a1}:PO prog 95 [.I a0,.I a1] (Y5 a0 a1) λr=>c5.Pv r:=by
 refine pO func95 λr h _ _=>?_;refine S4 1 J<|l5<|S3 3 J<|p9 J (λhg=>mI J)<|p9 J (λhg=>I3 (ct hg) J J)<|y0 J (K1 J J J (λq=>mL q))<|S1 1 J<|p9 J (λhg=>mI J)<|p9 J (λhg=>I3 (ct hg) J J)<|y0 J (K1 J J J (λq=>mL q))<|S1 1 J<|p9 J (λhg=>mI J)<|p9 J (λhg=>I3 (ct hg) J J)<|y0 J (K1 J J J (λq=>mL q))<|yN ?_;refine cN h (λhc h=>?_) λhc h=>?_
 .refine sR ?_;refine y0 J (w9 (cs:=[.nl,.I 0]) J JP JU J J J)<|oa (x':=.agg [.nl,.I 0]) (cl':=true) J J (.inl J) cS<|yN<|b9 ?_;cases h;exact⟨J,[_],⟨oL J J J fq cS nl J,tr⟩,J,io⟩
 .refine e6 ?_;refine S3 1 J<|A6 h λv1 hv1 h=>y1 J (wH (f:=b7.Pv) hv1 J J J V7 U8 oe Gk J J J) J<|S1 1 J<|y0 J (w9 (cs:=[.sl 21,.I a1]) J JP JU J J J)<|S2 1 J<|b9 ?_;cases h;exact⟨J,[_],⟨oL J J J fq cS nl J,tr⟩,J,io⟩
theorem BY{a0 a1}:PO prog 57 [.I a0,.I a1] (gq a0 a1) λr=>a7.Pv r:=by
 refine pO func57 λr h _ _=>?_;refine S4 1 J<|S3 2 J<|cF h mQ J J λv1 _ h=>y0 J (w9 (cs:=[.L b7.Pv v1.a8,.I v1.Last,.I 0]) J JQ JV J J J)<|S2 1 J<|b9 ?_;cases h;exact⟨J,[_],⟨oL J J J kI kL nl J,tr⟩,J,io⟩
theorem Eg{a0}:PO prog 58 [.I a0] (Ef a0) λr=>.L j5.Pv r:=by
 refine pO func58 λr h _ _=>?_;refine S4 1 J<|l5<|S3 3 J<|p9 J (λhg=>mI J)<|p9 J (λhg=>I3 (ct hg) J J)<|y0 J (K1 J J J (λq=>mL q))<|yN ?_;refine cN h (λhc h=>?_) λhc h=>?_
 .refine S4 1 J ?_;refine b9 ?_;cases h;exact f1
 .refine e6 ?_;refine S3 1 J<|A6 h λv1 hv1 h=>y1 J (wH (f:=j5.Pv) hv1 J J J ah aw Av Gj J J J) J<|S2 1 J ?_;refine jq h (λj9=>St.of [(3,.sl 12)] [(12,⟨List.map j5.Pv j9,0,true,3,true⟩)]) (λj9 h=>?_) λκ8 h=>?_
  .refine S4 2 J ?_;refine b9 ?_;cases h;exact f1
  .refine S3 1 J ?_;refine y0 J (yQ (f:=j5.Pv) J J J ah)<|S2 1 J<|n0<|lq h (λq=>St.of [(3,.sl 12),(14,.I (v1.length:Int)),(15,.I q.1)] [(12,⟨List.map j5.Pv q.2,0,true,3,true⟩)]) W λq14 x13 h hx9=>?_;obtain⟨s11,s12⟩:=q14;refine S4 1 J<|l5 ?_;refine cN h (λhc h=>?_) λhc h=>?_
   .refine e6 ?_;refine l5<|n0<|S4 2 J<|S5 2 J<|A6 h λv15 hv10 h=>y0 J (gP (f:=j5.Pv) hv10 J J J J ah aw J)<|S1 1 J<|pT (f:=j5.Pv) (v:=(⟨v15.Target,v15.Intact,(-1)⟩:j5)) hv10 J J (.inl J) u5<|yN<|S6 2 J ?_;exact eL h W
   .refine y2 ?_;refine l4<|l4<|r8 ?_;have h:=xL hx9 h;exact eJ h W
theorem CP{a0}:PO prog 59 [.I a0] (rh a0) λr=>.L b8.Pv r:=by
 refine pO func59 λr h _ _=>?_;refine S4 1 J<|l5<|S3 3 J<|p9 J (λhg=>mI J)<|p9 J (λhg=>I3 (ct hg) J J)<|y0 J (K1 J J J (λq=>mL q))<|yN ?_;refine cN h (λhc h=>?_) λhc h=>?_
 .refine S4 1 J ?_;refine b9 ?_;cases h;exact f1
 .refine e6 ?_;refine S3 1 J<|A6 h λv1 hv1 h=>y1 J (wH (f:=b8.Pv) hv1 J J J bO bK uQ Gl J J J) J<|S2 1 J<|b9 ?_;cases h;exact f1
theorem lI{a0}:PO prog 96 [.I a0] (bu a0) λr=>k7.Pv r:=by
 refine pO func96 λr h _ _=>?_;unfold bu at h;refine S4 1 J<|S3 1 J<|y0 J (w9 (cs:=[.nl,.I a0]) J SE SI J J J)<|oa (x':=.agg [.nl,.I a0]) (cl':=true) J J (.inl J) cT<|yN<|b9 ?_;cases h;exact⟨J,[_],⟨oL J J J jh cT nl J,tr⟩,J,io⟩
theorem DU:PO prog 60 [] (DT) λr=>k7.Pv r:=by
 refine pO func60 λr h _ _=>?_;refine S4 1 J<|sR<|cF h lI J J λv1 _ h=>S2 1 J<|b9 ?_;cases h;exact⟨J,[_],⟨oL J J J jh cT nl J,tr⟩,J,io⟩
theorem CR{a0 a1 a2}:PO prog 31 [.I a0,.I a1,.I a2] (jJ a0 a1 a2) λr=>b6.Pv r:=by
 refine pO func31 λr h _ _=>?_;refine S4 1 J<|l5<|S3 3 J<|p9 J (λhg=>mI J)<|p9 J (λhg=>I3 (ct hg) J J)<|y0 J (K1 J J J (λq=>mL q))<|S1 1 J<|p9 J (λhg=>mI J)<|p9 J (λhg=>I3 (ct hg) J J)<|y0 J (K1 J J J (λq=>mL q))<|S1 1 J<|p9 J (λhg=>mI J)<|p9 J (λhg=>I3 (ct hg) J J)<|y0 J (K1 J J J (λq=>mL q))<|S1 1 J<|p9 J (λhg=>mI J)<|p9 J (λhg=>I3 (ct hg) J J)<|y0 J (K1 J J J (λq=>mL q))<|S1 1 J<|p9 J (λhg=>mI J)<|p9 J (λhg=>I3 (ct hg) J J)<|y0 J (K1 J J J (λq=>mL q))<|yN ?_;refine cN h (λhc h=>?_) λhc h=>?_
 .refine sR ?_;refine y0 J (w9 (cs:=[.nl,.I 0,.I 0,.nl,.nl,.nl,.nl,.I 0]) J JR JW J J J)<|oa (x':=.agg [.nl,.I 0,.I 0,.nl,.nl,.nl,.nl,.I 0]) (cl':=true) J J (.inl J) s7<|yN<|b9 ?_;cases h;exact⟨J,[_],⟨oL J J J w8 s7 nl J,tr⟩,J,io⟩
 .refine e6 ?_;refine dr [] y6 (by kernel_rfl) (by kernel_rfl)<|S7 2 J<|A6 h λv1 hv1 h=>mK J (C2 J BY J hv1) J<|A6 h λv2 hv2 h=>d1 J (wH (f:=iF) hv2 J J J o7 u5 F8 X5 J J J) J J J<|A6 h λv3 hv3 h=>mK J (C2 J Eg J hv3) J<|S7 1 J<|A6 h λv4 hv4 h=>mK J (C2 J CP J hv4) J<|A6 h λv5 hv5 h=>mK J (C2 J DU J hv5) J<|d7 J (λ_ hN=>w9 (cs:=[.L b7.Pv v1.S.a8,.I v1.S.Last,.I v1.Serial,.sl 33,.L j5.Pv v3,.L b8.Pv v4,.L l7.Pv v5.L,.I v5.Cap]) J JR JW J J J) J<|E2 (x':=.agg [.L b7.Pv v1.S.a8,.I v1.S.Last,.I v1.Serial,.sl 33,.L j5.Pv v3,.L b8.Pv v4,.L l7.Pv v5.L,.I v5.Cap]) (cl':=false) J J (.inr J) s7<|bC<|b9 ?_;cases h;exact⟨J,[_],⟨oL J J J w8 s7 nl J,tr⟩,J,io⟩
theorem xR{a0 a1 a2 a3}:PO prog 17 [.I a0,.I a1,.I a2,.L (Ls c8.Pv) a3] (F9 a0 a1 a2 a3) λr=>.tup [u9.Pv r.1,.I r.2]:=by
 refine pO func17 λr h _ _=>?_;refine S4 2 J<|l5<|S3 1 J<|cA h py J J λv1 _ h=>S2 1 J ?_;refine cN h (λhc h=>?_) λhc h=>?_
 .refine sR ?_;refine y0 J (w9 (cs:=[.nl,.I 0,.I 0,.nl,.nl,.nl,.nl,.I 0,.nl]) J Es Eu J J J)<|oa (x':=.agg [.nl,.I 0,.I 0,.nl,.nl,.nl,.nl,.I 0,.nl]) (cl':=true) J J (.inl J) bP<|S2 1 J<|b9 ?_;cases h;exact⟨J,[_,_],⟨oL J J J mT bP nl J,⟨J,tr⟩⟩,J,io⟩
 .refine e6 ?_;refine S3 3 J<|cF h CR J J λv2 _ h=>S2 2 J<|l5<|S3 2 J<|nL J o7<|S2 1 J ?_;refine cN h (λhc h=>?_) λhc h=>?_
  .refine sR ?_;refine y0 J (w9 (cs:=[.nl,.I 0,.I 0,.nl,.nl,.nl,.nl,.I 0,.nl]) J Es Eu J J J)<|oa (x':=.agg [.nl,.I 0,.I 0,.nl,.nl,.nl,.nl,.I 0,.nl]) (cl':=true) J J (.inl J) bP<|S2 1 J<|b9 ?_;cases h;exact⟨J,[_,_],⟨oL J J J mT bP nl J,⟨J,tr⟩⟩,J,io⟩
  .refine e6 ?_;refine S3 2 J<|y0 J (w9 (cs:=[.L b7.Pv v2.S.S.a8,.I v2.S.S.Last,.I v2.S.Serial,.L iF v2.Roots,.L j5.Pv v2.a8,.L b8.Pv v2.T,.L l7.Pv v2.Q.L,.I v2.Q.Cap,.L (Ls c8.Pv) a3]) J Es Eu J J J)<|S2 2 J<|b9 ?_;cases h;exact⟨J,[_,_],⟨oL J J J mT bP nl J,⟨J,tr⟩⟩,J,io⟩
theorem jD{a0 a1}:PO prog 78 [c4.Pv a0,.L iF a1] (M3 a0 a1) λr=>.tup [c4.Pv r.1,.str r.2]:=by
 refine pO func78 λr h _ _=>?_;unfold M3 at h;refine S4 3 J<|dr [] y6 (by kernel_rfl) (by kernel_rfl)<|S7 1 J<|A6 h λv1 hv1 h=>d0 J (F5 (f:=iF) (cs:=[.I v1]) hv1 J J o7 u5 J J) J<|S7 2 J<|A6 h λv2 hv2 h=>d0 J (F5 (f:=iF) (cs:=[.I v2]) hv2 J J o7 u5 J J) J<|S7 2 J<|A6 h λv3 hv3 h=>d0 J (F5 (f:=iF) (cs:=[.I v3]) hv3 J J o7 u5 J J) J<|S7 3 J<|A6 h λv4 hv4 h=>mK J (C2 J xR J hv4) J<|S7 4 J<|E2 (x':=u9.Pv v4.1) (cl':=true) J J (.inr J) bP<|S8 1 J<|l5<|S4 2 J ?_;refine cN h (λhc h=>?_) λhc h=>?_
 .refine dr [] y6 (by kernel_rfl) (by kernel_rfl) ?_;refine S7 2 J<|A6 h λv5 hv5 h=>d2 J (T0 J N5 J hv5) J<|E2 (x':=c4.Pv a0) (cl':=true) J J (.inr J) P9<|S8 1 J<|b9 ?_;cases h;exact⟨J,[_,_],⟨oL J J J cP P9 nl J,⟨J,tr⟩⟩,J,io⟩
 .refine e6 ?_;refine S4 5 J<|S4 3 J<|b9 ?_;cases h;exact⟨J,[_,_],⟨oL J J J cP P9 nl J,⟨J,tr⟩⟩,J,io⟩
theorem nk{a0 a1}:PO prog 125 [.I a0,.I a1] (cq a0 a1) λr=>.I r:=by
 refine pO func125 λr h _ _=>?_;refine S4 1 J<|l5<|S3 3 J<|p9 J (λhg=>mI J)<|p9 J (λhg=>I3 (ct hg) J J)<|y0 J (K1 J J J (λq=>mL q))<|S1 1 J<|p9 J (λhg=>mI J)<|p9 J (λhg=>I3 (ct hg) J J)<|y0 J (K1 J J J (λq=>mL q))<|S1 1 J<|p9 J (λhg=>mI J)<|p9 J (λhg=>I3 (ct hg) J J)<|y0 J (K1 J J J (λq=>mL q))<|yN ?_;refine cN h (λhc h=>?_) λhc h=>?_
 .refine S4 1 J ?_;refine b9 ?_;cases h;exact f1
 .refine e6 ?_;refine S4 7 J<|b9 ?_;cases h;exact f1
theorem jC{a0}:PO prog 202 [.I a0] (cmp_isNaN_int a0) λr=>.bool r:=by
 refine pO func202 λr h _ _=>?_;unfold cmp_isNaN_int at h;refine S4 1 J<|S4 4 J<|b9 ?_;cases h;exact f1
theorem pY{a0 a1}:PO prog 128 [.I a0,.I a1] (bL a0 a1) λr=>.I r:=by
 refine pO func128 λr h _ _=>?_;refine S4 1 J<|S3 1 J<|cA h jC J J λv1 _ h=>S2 1 J<|S3 1 J<|cA h jC J J λv2 _ h=>S2 1 J<|l5<|S4 1 J ?_;refine cN h (λhc h=>?_) λhc h=>?_
 .refine l5 ?_;refine S4 1 J ?_;refine cN h (λhc h=>?_) λhc h=>?_
  .refine S4 1 J ?_;refine b9 ?_;cases h;exact f1
  .refine e6 ?_;refine S4 1 J<|b9 ?_;cases h;exact f1
 .refine e6 ?_;refine l5<|S4 1 J ?_;refine cN h (λhc h=>?_) λhc h=>?_
  .refine S4 1 J ?_;refine b9 ?_;cases h;exact f1
  .refine e6 ?_;refine l5<|S4 3 J ?_;refine cN h (λhc h=>?_) λhc h=>?_
   .refine S4 1 J ?_;refine b9 ?_;cases h;exact f1
   .refine e6 ?_;refine l5<|S4 3 J ?_;refine cN h (λhc h=>?_) λhc h=>?_
    .refine S4 1 J ?_;refine b9 ?_;cases h;exact f1
    .refine e6 ?_;refine S4 1 J<|b9 ?_;cases h;exact f1
theorem uK{a0 a1 a2}:PO prog 127 [.I a0,.I a1,.rptr [.abs (V5 (List.map (fP iF iF) a2))]] (dB a0 a1 a2) λr=>.I r:=by
 refine pO func127 λr h _ _=>?_;refine S4 1 J<|S3 2 J<|y0 J (Dl (es:=a2) (k:=a0) (E:=iF) (EK:=iF) (d:=.I ((y9 a2 a0).getD (0:Int))) J J vB (A9 M2) F8 J (TP _ _ _))<|S1 2 J<|y0 J (Dl (es:=a2) (k:=a1) (E:=iF) (EK:=iF) (d:=.I ((y9 a2 a1).getD (0:Int))) J J vB (A9 M2) F8 J (TP _ _ _))<|cA h pY J J λv1 _ h=>S2 1 J<|b9 ?_;cases h;exact f1
theorem M1{a0}:PO prog 68 [a7.Pv a0] (E0 a0) λr=>.L iF r:=by
 refine pO func68 λr h _ _=>?_;refine S4 2 J<|S4 1 J<|sR<|Ak (KT:=Int) (VT:=Int) (EK:=iF) (E:=iF) 5000008 J J<|S2 2 J ?_;refine jq h (λq=>St.of [(3,.sl 910003),(4,.ptr 4 0 0)] [(4,vS (.mp 5000008) 1),(5000008,⟨[.mapc (List.map (fP iF iF) q.1)],0,false,0,false⟩),(910003,⟨List.map iF q.2,0,true,1,true⟩)]) (λq20 h=>?_) λκ17 h=>?_
 .obtain⟨j18,j19⟩:=q20;refine S3 2 J<|N2 (Wk.trans (Rj 5000008 nl J) (Vn 4 0 5000008 J J J J))<|A6 h λv21 hv12 h=>Vs hv12 (DR (λh=>(y9 j18 h).getD 0) (λx y=>by unfold dB bL cmp_isNaN_int;simp only[Yx,zav,zm,zY];exact XG _ _)) J J Od UX J J J Oe J J J J J (λp q r h=>uK.2 r h)<|yN<|S4 2 J<|b9 ?_;cases h;exact f1
 .refine S3 3 J ?_;refine nL J V7<|S2 1 J<|n0<|lq h (λq=>St.of [(3,.sl 910003),(4,.ptr 4 0 0),(11,.L b7.Pv a0.S.a8),(12,.I (a0.S.a8.length:Int)),(13,.I q.1)] [(4,vS (.mp 5000008) 1),(5000008,⟨[.mapc (List.map (fP iF iF) q.2.1)],0,false,0,false⟩),(910003,⟨List.map iF q.2.2,0,true,1,true⟩)]) (Wk.trans (Y7 (t:=3) (l:=920003) (z:=1) J J) (WP (λl=>if l=910003 then 920003 else l))) λq27 x26 h hx15=>?_;obtain⟨s23,s24,s25⟩:=q27;refine S4 1 J<|l5 ?_;refine cN h (λhc h=>?_) λhc h=>?_
  .refine e6 ?_;refine jq h (λq=>St.of [(3,.sl 33),(4,.ptr 4 0 0),(11,.L b7.Pv a0.S.a8),(12,.I (a0.S.a8.length:Int)),(13,.I s23)] [(4,vS (.mp 5000008) 1),(5000008,⟨[.mapc (List.map (fP iF iF) q.1)],0,false,0,false⟩),(33,⟨List.map iF q.2,0,true,1,true⟩)]) (λq34 h=>?_) λκ31 h=>?_
   .obtain⟨j32,j33⟩:=q34;refine S6 2 J ?_;exact eL h (WP (λl=>if l=910003 then 33 else l))
   .refine n0 ?_;refine S3 1 J<|iL h J J V7 U8 λv35 _ h=>S2 4 J<|S4 3 J ?_;refine cN h (λhc h=>?_) λhc h=>?_
    .refine S3 3 J ?_;refine cA h nk J J λv36 _ h=>S2 1 J<|S3 5 J<|G1 (es:=s24) (k:=v36) (v:=v35.Val.Serial) (E:=iF) (EK:=iF) (.inl J) J J J J J J vB (A9 M2)<|yN<|S5 2 J<|y0 J (aO (f:=iF) (l:=[v36]) J o7 u5 F8 J J nl J J)<|A6 h λv37 hv22 h=>Si (f:=iF) (b:=8) [(4,.ptr 4 0 0),(11,.L b7.Pv a0.S.a8),(12,.I (a0.S.a8.length:Int)),(13,.I s23),(14,.bool (decide (s23<(a0.S.a8.length:Int)))),(15,.I s23),(16,.rptr (b7.Pc v35)),(17,b7.Pv v35),(6,.ptr 6 0 0),(5,.I s23),(18,.ptr 6 0 0),(19,.I v35.State),(20,.bool (v35.State==1)),(21,.I s23),(22,.ptr 6 0 1),(23,.I v35.Gen),(24,.I v36),(7,.I v36),(25,.mp 5000008),(26,.I v36),(27,.ptr 6 0 2),(28,.ptr 6 0 2),(29,.I v35.Val.Serial),(31,.I v36),(32,.G8 true (List.map iF [v36]))] [(6,vR (b7.Pv v35) 8),(5000008,⟨[.mapc (List.map (fP iF iF) (o0 s24 v36 v35.Val.Serial))],0,false,0,false⟩),(4,vS (.mp 5000008) 1)] J hv22 ⟨J,J,J,J,J,J,J,J,J,J,J,J,J,J,J,J,J,J,J,J,J,J,J,J,J,J,J,J,J,J,J,J,J,J,J,J,J,J,J,J,J,J,J,J,J,J,J,J,J,J,J,J,J,J,J,J,J,J,J,J,J,J,J,J,J,J,J,J,J,J,J,J,J,J,J,tr⟩ ⟨rS,ef J J J (λq=>nomatch q) J J J J,ef J J J (λq=>nomatch q) J J J J,tr⟩ J J J J (.inl ⟨_,J,J⟩) o7 u5 X5 F8 J (λ_=>J)<|S2 1 J ?_;exact eJ h W
    .refine e6 ?_;exact eJ h (WP (λl=>if l=33 then 910003 else l))
  .refine y2 ?_;refine l4<|l4<|r8 ?_;have h:=xL hx15 h;exact eJ h W
theorem mr{a0}:PO prog 336 [.I a0] (da a0) λr=>.tup [.I r.1,.I r.2.1,.bool r.2.2]:=by
 refine pO func336 λr h _ _=>?_;refine S4 3 J<|l5<|S4 2 J ?_;refine cN h (λhc h=>?_) λhc h=>?_
 .refine S4 3 J ?_;refine b9 ?_;cases h;exact f3
 .refine e6 ?_;refine S3 2 J<|A6 h λv1 hv1 h=>y0 J (wG J J hv1)<|A6 h λv2 hv2 h=>y0 J (wG J J hv2)<|S1 2 J<|A6 h λv3 hv3 h=>y0 J (wG J J hv3)<|S2 2 J<|l5<|S3 3 J<|p9 J (λhg=>mI J)<|p9 J (λhg=>I3 (ct hg) J J)<|y0 J (K1 J J J (λq=>mL q))<|yN ?_;refine cN h (λhc h=>?_) λhc h=>?_
  .refine S4 3 J ?_;refine b9 ?_;cases h;exact f3
  .refine e6 ?_;refine S4 5 J<|b9 ?_;cases h;exact f3
theorem nn{a0}:PO prog 279 [.I a0] (eV a0) λr=>.I r:=by
 refine pO func279 λr h _ _=>?_;refine S4 1 J<|S3 1 J<|cA h mr J J λv1 _ h=>S2 7 J<|S4 2 J<|b9 ?_;cases h;exact f1
theorem pH{a0}:PO prog 280 [.I a0] (gH a0) λr=>.I r:=by
 refine pO func280 λr h _ _=>?_;refine S4 1 J<|S3 1 J<|cA h mr J J λv1 _ h=>S2 7 J<|S4 2 J<|b9 ?_;cases h;exact f1
theorem I5{a0 a1}:PO prog 267 [c5.Pv a0,.I a1] (u7 a0 a1) λr=>.tup [.I r.1,.I r.2]:=by
 refine pO func267 λr h _ _=>?_;refine S4 3 J<|l5<|S4 2 J ?_;refine cN h (λhc h=>?_) λhc h=>?_
 .refine S4 2 J ?_;refine b9 ?_;cases h;exact f2
 .refine e6 ?_;refine S3 1 J<|cA h nn J J λv1 _ h=>S2 1 J<|l5<|S3 3 J<|p9 J (λhg=>mI J)<|p9 J (λhg=>oF J JL J)<|p9 J (λhg=>oS (ct hg) J J Sn J)<|p9 J (λhg=>nw (f:=b7.Pv) (ct hg) V7)<|p9 J (λhg=>I3 (ct hg) (ct hg) J)<|y0 J (K1 J J J (λq=>mL q))<|yN ?_;refine cN h (λhc h=>?_) λhc h=>?_
  .refine S4 2 J ?_;refine b9 ?_;cases h;exact f2
  .refine e6 ?_;refine S3 3 J<|iL h J J V7 U8 λv2 _ h=>S2 3 J<|l5<|dr [] y6 (by kernel_rfl) (by kernel_rfl)<|S7 3 J<|A6 h λv3 hv3 h=>d2 J (T0 J pH J hv3) J<|S7 2 J<|qO J (λhg _ hN=>oF J yl J) J ?_;refine yv J (λhg=>oS (ct hg) J J V6 J) J<|qO J (λhg _ hN=>I3 (ct hg) J J) J<|qO J (λhg _ hN=>om (d:=.bool (v2.State != 1)) (ct hg)) J<|qO (Ny J J J) (λhg _ hN=>oF J yl J) J ?_;refine yv (Ny J J J) (λhg=>oS (ct hg) J J V6 J) J<|qO (Ny J J J) (λhg _ hN=>I3 (ct hg) J J) J<|qO J (λhg _ hN=>E7 (ct hg) J J (λq=>Xw hg (mM q))) J<|d7 J (λ_ hN=>K1 J J J (λq=>mL q)) J<|bC ?_;refine cN h (λhc h=>?_) λhc h=>?_
   .refine S4 2 J ?_;refine b9 ?_;cases h;exact f2
   .refine e6 ?_;refine S4 3 J<|b9 ?_;cases h;exact f2
theorem dM{a0 a1}:PO prog 185 [c5.Pv a0,.I a1] (C4 a0 a1) λr=>.tup [o9.Pv r.1,.I r.2]:=by
 refine pO func185 λr h _ _=>?_;refine S4 3 J<|S4 1 J<|S3 2 J<|cA h I5 J J λv1 _ h=>S2 5 J<|l5<|S4 2 J ?_;refine cN h (λhc h=>?_) λhc h=>?_
 .refine S3 2 J ?_;refine oa (x':=.agg [.I 0,.I 0,.I 0,.I 0,.bool false,.nl]) (cl':=true) J J (.inl J) iE<|S2 1 J<|b9 ?_;cases h;exact⟨J,[_,_],⟨oL J J J qD iE nl J,⟨J,tr⟩⟩,J,io⟩
 .refine e6 ?_;refine l5<|S3 3 J<|iL h J J V7 U8 λv2 hv2 h=>S2 3 J ?_;refine cN h (λhc h=>?_) λhc h=>?_
  .refine S3 1 J ?_;refine oa (x':=.agg [.I 0,.I 0,.I 0,.I 0,.bool false,.nl]) (cl':=true) J J (.inl J) iE<|S2 1 J<|b9 ?_;cases h;exact⟨J,[_,_],⟨oL J J J qD iE nl J,⟨J,tr⟩⟩,J,io⟩
  .refine e6 ?_;refine S3 3 J<|y0 J (F5 (f:=b7.Pv) (cs:=b7.Pc v2) hv2 J J V7 U8 J J)<|S2 4 J<|b9 ?_;cases h;exact⟨J,[_,_],⟨oL J J J qD iE nl J,⟨J,tr⟩⟩,J,io⟩
theorem B8{a0 a1}:PO prog 108 [a7.Pv a0,.I a1] (y3 a0 a1) λr=>.tup [o9.Pv r.1,.I r.2]:=by
 refine pO func108 λr h _ _=>?_;refine S4 3 J<|S3 3 J<|cF h dM J J λv1 _ h=>S2 4 J<|b9 ?_;cases h;exact⟨J,[_,_],⟨oL J J J qD iE nl J,⟨J,tr⟩⟩,J,io⟩
theorem iR{a0 a1}:PO prog 186 [b6.Pv a0,.I a1] (aM a0 a1) λr=>.I r:=by
 refine pO func186 λr h _ _=>?_;refine S4 2 J<|S3 3 J<|cF h B8 J J λv1 _ h=>S2 6 J<|S4 3 J<|b9 ?_;cases h;exact f1
theorem uC{a0}:PO prog 141 [u9.Pv a0] (fN a0) λr=>.L iF r:=by
 refine pO func141 λr h _ _=>?_;refine S4 2 J<|S4 1 J ?_;refine jq h (λj11=>St.of [(3,.sl 910003)] [(910003,⟨List.map iF j11,0,true,1,true⟩)]) (λj11 h=>?_) λκ10 h=>?_
 .refine S3 1 J ?_;obtain⟨v12,hv9,h⟩:=C6 h;refine Rk hv9 J J Oj QP J J<|yN<|S4 2 J<|b9 ?_;cases h;exact f1
 .refine S3 3 J ?_;refine cF h M1 J J λv13 _ h=>nL J o7<|S2 1 J<|n0<|lq h (λq=>St.of [(1,.ptr 1 0 0),(3,.sl 910003),(9,.L iF v13),(10,.I (v13.length:Int)),(11,.I q.1)] [(1,vR (u9.Pv a0) 9),(910003,⟨List.map iF q.2,0,true,1,true⟩)]) (Wk.trans (Y7 (t:=3) (l:=920003) (z:=1) J J) (WP (λl=>if l=910003 then 920003 else l))) λq18 x17 h hx13=>?_;obtain⟨s15,s16⟩:=q18;refine S4 1 J<|l5 ?_;refine cN h (λhc h=>?_) λhc h=>?_
  .refine e6 ?_;refine l5<|n0<|sR<|iL h J J o7 u5 λv19 _ h=>S2 2 J<|S5 4 J<|cA h iR J J λv20 _ h=>y0 J (aO (f:=iF) (l:=[v20]) J o7 u5 F8 J J nl J J)<|A6 h λv21 hv16 h=>Si (f:=iF) (b:=8) [(1,.ptr 1 0 0),(9,.L iF v13),(10,.I (v13.length:Int)),(11,.I s15),(12,.bool (decide (s15<(v13.length:Int)))),(13,.rptr [.I v19]),(14,.I v19),(5,.I v19),(16,.ptr 1 0 0),(17,b6.Pv a0.X),(18,.I v19),(19,.I v20),(20,.G8 true (List.map iF [v20]))] [(1,vR (u9.Pv a0) 9)] J hv16 ⟨J,J,J,J,J,J,J,J,J,J,J,J,J,J,J,J,J,J,J,J,J,J,J,J,J,J,J,J,J,J,J,J,J,J,J,J,J,J,J,tr⟩ ⟨rS,tr⟩ J J J J (.inl ⟨_,J,J⟩) o7 u5 X5 F8 J (λ_=>J)<|S2 1 J<|S6 2 J ?_;exact eL h (WP (λl=>if l=910003 then 21 else l))
  .refine y2 ?_;refine l4<|l4<|r8 ?_;have h:=xL hx13 h;exact eJ h W
theorem cW{a0 a1}:PO prog 140 [.str a0,.L iF a1] (W0 a0 a1) λr=>.str r:=by
 refine pO func140 λr h _ _=>?_;refine S4 1 J ?_;refine jq h (λj11=>St.of [(0,.str j11)] []) (λj11 h=>?_) λκ10 h=>?_
 .refine S4 2 J ?_;refine b9 ?_;cases h;exact f1
 .refine S3 1 J ?_;refine nL J o7<|S2 1 J<|n0<|lq h (λq=>St.of [(0,.str q.1),(7,.L iF a1),(8,.I (a1.length:Int)),(9,.I q.2)] []) W λq16 x15 h hx11=>?_;obtain⟨s13,s14⟩:=q16;refine S4 1 J<|l5 ?_;refine cN h (λhc h=>?_) λhc h=>?_
  .refine e6 ?_;refine l5<|n0<|sR<|iL h J J o7 u5 λv17 _ h=>S2 2 J<|S5 2 J<|A6 h λv18 hv13 h=>y0 J (tl J Ep J (Lv hv13))<|A6 h λv19 hv14 h=>y0 J (tj hv14 J J R5)<|A6 h λv20 hv15 h=>y0 J (tj hv15 J J R5)<|S2 1 J<|S6 2 J ?_;exact eL h W
  .refine y2 ?_;refine l4<|l4<|r8 ?_;have h:=xL hx11 h;exact eJ h W
theorem jl{a0 a1}:PO prog 80 [c4.Pv a0,.L iF a1] (J8 a0 a1) λr=>.tup [c4.Pv r.1,.str r.2]:=by
 refine pO func80 λr h _ _=>?_;unfold J8 at h;refine S4 3 J<|dr [] y6 (by kernel_rfl) (by kernel_rfl)<|S7 3 J<|A6 h λv1 hv1 h=>mK J (C2 J uC J hv1) J<|A6 h λv2 hv2 h=>d2 J (T0 J cW J hv2) J<|E2 (x':=c4.Pv a0) (cl':=true) J J (.inr J) P9<|S8 1 J<|b9 ?_;cases h;exact⟨J,[_,_],⟨oL J J J cP P9 nl J,⟨J,tr⟩⟩,J,io⟩
theorem N9{a0 a1}:PO prog 111 [b6.Pv a0,.I a1] (L8 a0 a1) λr=>.I r:=by
 refine pO func111 λr h _ _=>?_;refine S4 2 J<|l5<|S3 3 J<|p9 J (λhg=>mI J)<|p9 J (λhg=>oF J Cx J)<|p9 J (λhg=>oS (ct hg) J J Eo J)<|p9 J (λhg=>nw (f:=iF) (ct hg) o7)<|p9 J (λhg=>I3 (ct hg) (ct hg) J)<|y0 J (K1 J J J (λq=>mL q))<|yN ?_;refine cN h (λhc h=>?_) λhc h=>?_
 .refine S4 1 J ?_;refine b9 ?_;cases h;exact f1
 .refine e6 ?_;refine S3 3 J<|iL h J J o7 u5 λv1 _ h=>S2 2 J<|b9 ?_;cases h;exact f1
theorem eH{a0 a1}:PO prog 110 [b6.Pv a0,.I a1] (aL a0 a1) λr=>.I r:=by
 refine pO func110 λr h _ _=>?_;unfold aL at h;refine S4 2 J<|dr [] y6 (by kernel_rfl) (by kernel_rfl)<|S7 3 J<|A6 h λv1 hv1 h=>d2 J (T0 J N9 J hv1) J<|A6 h λv2 hv2 h=>d2 J (T0 J iR J hv2) J<|S8 1 J<|b9 ?_;cases h;exact f1
theorem jm{a0 a1}:PO prog 81 [c4.Pv a0,.L iF a1] (J9 a0 a1) λr=>.tup [c4.Pv r.1,.str r.2]:=by
 refine pO func81 λr h _ _=>?_;unfold J9 at h;refine S4 3 J<|sR<|A6 h λv1 hv1 h=>y1 J (wH (f:=iF) hv1 J J J o7 u5 F8 X5 J J J) J<|S2 1 J ?_;refine jq h (λj10=>St.of [(2,.ptr 2 0 0),(4,.ptr 4 0 0),(6,.sl 8)] [(8,⟨List.map iF j10,0,true,1,true⟩),(4,vR (.agg [.nl,.I 0,.I 0,.nl,.nl,.nl,.nl,.I 0,.nl,.bool false,.nl]) 11),(2,vR (c4.Pv a0) 11)]) (λj10 h=>?_) λκ9 h=>?_
 .refine dr [] y6 (by kernel_rfl) (by kernel_rfl) ?_;refine S7 2 J<|A6 h λv11 hv8 h=>d2 J (T0 J cW J hv8) J<|E2 (x':=c4.Pv a0) (cl':=true) J J (.inr J) P9<|S8 1 J<|b9 ?_;cases h;exact⟨J,[_,_],⟨oL J J J cP P9 nl J,⟨J,tr⟩⟩,J,io⟩
 .refine S3 1 J ?_;refine y0 J (yQ (f:=iF) J J J o7)<|S2 1 J<|n0<|lq h (λq=>St.of [(2,.ptr 2 0 0),(4,.ptr 4 0 0),(6,.sl 8),(10,.I (v1.length:Int)),(11,.I q.1)] [(8,⟨List.map iF q.2,0,true,1,true⟩),(4,vR (.agg [.nl,.I 0,.I 0,.nl,.nl,.nl,.nl,.I 0,.nl,.bool false,.nl]) 11),(2,vR (c4.Pv a0) 11)]) W λq16 x15 h hx11=>?_;obtain⟨s13,s14⟩:=q16;refine S4 1 J<|l5 ?_;refine cN h (λhc h=>?_) λhc h=>?_
  .refine e6 ?_;refine l5<|n0<|S4 2 J<|S5 6 J<|cA h eH J J λv17 _ h=>A6 h λv18 hv13 h=>y0 J (gP (f:=iF) hv13 J J J J o7 u5 J)<|pT (f:=iF) (v:=v17) hv13 J J (.inl J) u5<|yN<|S6 2 J ?_;exact eL h W
  .refine y2 ?_;refine l4<|l4<|r8 ?_;have h:=xL hx11 h;exact eJ h W
theorem kl{a0}:PO prog 71 [c5.Pv a0] (T6 a0) λr=>A4.Pv r:=by
 refine pO func71 λr h _ _=>?_;refine S4 2 J<|S4 1 J ?_;refine jq h (λj9=>St.of [(2,.ptr 2 0 0),(3,.ptr 3 0 0)] [(3,vR (A4.Pv j9) 4),(2,vR (.agg [.I 0,.I 0,.I 0,.I 0]) 4)]) (λj9 h=>?_) λκ8 h=>?_
 .refine S4 2 J ?_;refine b9 ?_;cases h;exact⟨J,[_],⟨oL J J J Gg Gy nl J,tr⟩,J,io⟩
 .refine S3 2 J ?_;refine nL J V7<|S2 1 J<|n0<|lq h (λq=>St.of [(2,.ptr 2 0 0),(3,.ptr 3 0 0),(7,.L b7.Pv a0.a8),(8,.I (a0.a8.length:Int)),(9,.I q.1)] [(3,vR (A4.Pv q.2) 4),(2,vR (.agg [.I 0,.I 0,.I 0,.I 0]) 4)]) W λq14 x13 h hx9=>?_;obtain⟨s11,s12⟩:=q14;refine S4 1 J<|l5 ?_;refine cN h (λhc h=>?_) λhc h=>?_
  .refine e6 ?_;refine l5<|n0<|sR<|iL h J J V7 U8 λv15 _ h=>S2 3 J<|S5 2 J<|A6 h λv16 hv11 h=>y0 J (RN hv11 J J Au u5)<|y0 J (oS J J J V6 (A4.get hv11))<|S1 1 J<|y0 J (RN hv11 J J Au u5)<|Xh hv11 J J (.inl J) J u5<|yN<|S6 2 J ?_;exact eL h W
  .refine y2 ?_;refine l4<|l4<|r8 ?_;have h:=xL hx9 h;exact eJ h W
theorem uD{a0}:PO prog 40 [u9.Pv a0] (fO a0) λr=>A4.Pv r:=by
 refine pO func40 λr h _ _=>?_;refine S4 2 J<|S3 4 J<|cA h kl J J λv1 _ h=>S2 1 J<|b9 ?_;cases h;exact⟨J,[_],⟨oL J J J Gg Gy nl J,tr⟩,J,io⟩
theorem jo{a0 a1}:PO prog 82 [c4.Pv a0,.L iF a1] (Q9 a0 a1) λr=>.tup [c4.Pv r.1,.str r.2]:=by
 refine pO func82 λr h _ _=>?_;refine S4 3 J<|S3 2 J<|cA h uD J J λv1 _ h=>S2 2 J<|cy (Sf 6 J)<|dr [] y6 (by kernel_rfl) (by kernel_rfl)<|S7 1 J<|d0 J (WJ (xs:=[v1.a,v1.b,v1.c,v1.d]) J J Au J u5) J<|A6 h λv2 hv2 h=>d2 J (T0 J cW J hv2) J<|E2 (x':=c4.Pv a0) (cl':=true) J J (.inr J) P9<|S8 1 J<|b9 ?_;cases h;exact⟨J,[_,_],⟨oL J J J cP P9 nl J,⟨J,tr⟩⟩,J,io⟩
theorem vG{a0}:PO prog 32 [.L iF a0] (X6 a0) λr=>.tup [c8.Pv r.1,.I r.2]:=by
 refine pO func32 λr h _ _=>?_;refine S4 2 J<|l5<|S3 1 J<|nL J o7<|S2 1 J ?_;refine cN h (λhc h=>?_) λhc h=>?_
 .refine sR ?_;refine y0 J (w9 (cs:=[.I 0,.I 0,.I 0,.I 0]) J As sH J J J)<|S2 2 J<|b9 ?_;cases h;exact⟨J,[_,_],⟨oL J J J Ao kM nl J,⟨J,tr⟩⟩,J,io⟩
 .refine e6 ?_;refine dr [] y6 (by kernel_rfl) (by kernel_rfl)<|S7 1 J<|A6 h λv1 hv1 h=>d0 J (F5 (f:=iF) (cs:=[.I v1]) hv1 J J o7 u5 J J) J<|S7 2 J<|A6 h λv2 hv2 h=>d0 J (F5 (f:=iF) (cs:=[.I v2]) hv2 J J o7 u5 J J) J<|S7 2 J<|A6 h λv3 hv3 h=>d0 J (F5 (f:=iF) (cs:=[.I v3]) hv3 J J o7 u5 J J) J<|S7 2 J<|A6 h λv4 hv4 h=>d0 J (F5 (f:=iF) (cs:=[.I v4]) hv4 J J o7 u5 J J) J<|S7 1 J<|d7 J (λ_ hN=>w9 (cs:=[.I v1,.I v2,.I v3,.I v4]) J As sH J J J) J<|S7 1 J<|E2 (x':=.agg [.I v1,.I v2,.I v3,.I v4]) (cl':=true) J J (.inl J) kM<|bC<|l5<|S3 1 J<|cA h ji J J λv5 _ h=>S2 1 J<|S4 2 J ?_;refine cN h (λhc h=>?_) λhc h=>?_
  .refine sR ?_;refine y0 J (w9 (cs:=[.I 0,.I 0,.I 0,.I 0]) J As sH J J J)<|S2 3 J<|b9 ?_;cases h;exact⟨J,[_,_],⟨oL J J J Ao kM nl J,⟨J,tr⟩⟩,J,io⟩
  .refine e6 ?_;refine S4 3 J<|b9 ?_;cases h;exact⟨J,[_,_],⟨oL J J J Ao kM nl J,⟨J,tr⟩⟩,J,io⟩
theorem uE{a0}:PO prog 33 [c8.Pv a0] (la a0) λr=>Wg pU r:=by
 refine pO func33 λr h _ _=>?_;refine S4 2 J<|l5<|S4 2 J<|n0<|S4 2 J ?_;refine cN h (λhc h=>?_) λhc h=>?_
 .refine sR ?_;refine y0 J (w9 (cs:=[]) J Ow GA J J J)<|y0 J (Fp (n:=pU) (T:=103) (xs:=[]) J Gw J)<|S2 1 J<|b9 ?_;cases h;exact f1
 .refine S4 2 J ?_;refine cN h (λhc h=>?_) λhc h=>?_
  .refine S3 2 J ?_;refine y0 J (w9 (cs:=[.I a0.A]) J Ox GB J J J)<|y0 J (Fp (n:=pU) (T:=107) (xs:=[a0.A]) J Gx J)<|S2 1 J<|b9 ?_;cases h;exact f1
  .refine e6 ?_;refine S3 1 J<|y0 J (w9 (cs:=[.I a0.Kind,.I a0.A,.I a0.B,.I a0.C]) J SF JY J J J)<|y0 J (Fp (n:=pU) (T:=99) (xs:=[a0.Kind,a0.A,a0.B,a0.C]) J JS J)<|S2 1 J<|b9 ?_;cases h;exact f1
theorem tc:PO prog 61 [] (eI) λr=>.abs (V5 (List.map (fP iF qV) r)):=by
 refine pO func61 λr h _ _=>?_;unfold eI at h;refine S4 1 J<|sR<|Ak (KT:=Int) (VT:=Fv) (EK:=iF) (E:=qV) 5000001 J J<|jA (es:=[]) (k:=1) (v:=(some 97)) (E:=qV) (EK:=iF) (.inr J) J J J J J J aF (A9 M2)<|jA (es:=(o0 [] 1 (some 97))) (k:=2) (v:=(some 98)) (E:=qV) (EK:=iF) (.inr J) J J J J J J aF (A9 M2)<|jA (es:=(o0 (o0 [] 1 (some 97)) 2 (some 98))) (k:=3) (v:=(some 99)) (E:=qV) (EK:=iF) (.inr J) J J J J J J aF (A9 M2)<|jA (es:=(o0 (o0 (o0 [] 1 (some 97)) 2 (some 98)) 3 (some 99))) (k:=4) (v:=(some 100)) (E:=qV) (EK:=iF) (.inr J) J J J J J J aF (A9 M2)<|jA (es:=(o0 (o0 (o0 (o0 [] 1 (some 97)) 2 (some 98)) 3 (some 99)) 4 (some 100))) (k:=5) (v:=(some 101)) (E:=qV) (EK:=iF) (.inr J) J J J J J J aF (A9 M2)<|jA (es:=(o0 (o0 (o0 (o0 (o0 [] 1 (some 97)) 2 (some 98)) 3 (some 99)) 4 (some 100)) 5 (some 101))) (k:=6) (v:=(some 102)) (E:=qV) (EK:=iF) (.inr J) J J J J J J aF (A9 M2)<|jA (es:=(o0 (o0 (o0 (o0 (o0 (o0 [] 1 (some 97)) 2 (some 98)) 3 (some 99)) 4 (some 100)) 5 (some 101)) 6 (some 102))) (k:=7) (v:=(some 103)) (E:=qV) (EK:=iF) (.inr J) J J J J J J aF (A9 M2)<|jA (es:=(o0 (o0 (o0 (o0 (o0 (o0 (o0 [] 1 (some 97)) 2 (some 98)) 3 (some 99)) 4 (some 100)) 5 (some 101)) 6 (some 102)) 7 (some 103))) (k:=8) (v:=(some 104)) (E:=qV) (EK:=iF) (.inr J) J J J J J J aF (A9 M2)<|jA (es:=(o0 (o0 (o0 (o0 (o0 (o0 (o0 (o0 [] 1 (some 97)) 2 (some 98)) 3 (some 99)) 4 (some 100)) 5 (some 101)) 6 (some 102)) 7 (some 103)) 8 (some 104))) (k:=9) (v:=(some 105)) (E:=qV) (EK:=iF) (.inr J) J J J J J J aF (A9 M2)<|jA (es:=(o0 (o0 (o0 (o0 (o0 (o0 (o0 (o0 (o0 [] 1 (some 97)) 2 (some 98)) 3 (some 99)) 4 (some 100)) 5 (some 101)) 6 (some 102)) 7 (some 103)) 8 (some 104)) 9 (some 105))) (k:=10) (v:=(some 106)) (E:=qV) (EK:=iF) (.inr J) J J J J J J aF (A9 M2)<|S2 2 J<|cy (Ci 0 5000001 J J)<|b9 ?_;cases h;exact f1
theorem FZ{a0}:PO prog 252 [.I a0] (sw a0) λr=>.tup [.L iF r.1,.I r.2]:=by
 refine pO func252 λr h _ _=>?_;refine S4 2 J<|l5<|S3 3 J<|p9 J (λhg=>mI J)<|p9 J (λhg=>I3 (ct hg) J J)<|y0 J (K1 J J J (λq=>mL q))<|yN ?_;refine cN h (λhc h=>?_) λhc h=>?_
 .refine S4 2 J ?_;refine b9 ?_;cases h;exact f2
 .refine e6 ?_;refine S3 1 J<|A6 h λv1 hv1 h=>y1 J (wH (f:=iF) hv1 J J J o7 u5 F8 X5 J J J) J<|S2 2 J<|b9 ?_;cases h;exact f2
theorem nV{a0}:PO prog 253 [.I a0] (T9 a0) λr=>.bool r:=by
 refine pO func253 λr h _ _=>?_;unfold T9 at h;refine S4 1 J<|S3 3 J<|p9 J (λhg=>mI J)<|p9 J (λhg=>I3 (ct hg) J J)<|y0 J (E7 J J J (λq=>mM q))<|S2 1 J<|b9 ?_;cases h;exact f1
theorem lX{a0}:PO prog 325 [c5.Pv a0] (O8 a0) λr=>.fn (.func 367) [.rptr (c5.Pc r)]:=by
 refine pO func325 λr h _ _=>?_;unfold O8 at h;refine S4 2 J<|S4 2 J<|b9 ?_;cases h;exact f1
theorem M9{a0}:Sk prog 331 [.L b7.Pv a0] (y7 a0) λr=>⟨List.map b7.Pv r,0,true,8,true⟩:=by
 refine WK func331 λr h _ _=>?_;unfold y7 at h;refine S4 1 J<|l5<|S3 1 J<|Cm J V7 λb hb=>yN ?_;refine F3 b J (λhc=>?_) (λhc=>?_)
 .obtain rfl:a0 = []:=by simpa using hb hc
  refine S4 1 J<|cy (Y7 (t:=2) (l:=920000) (z:=8) J J)<|b9 ?_;cases h;exact⟨J,_,_,J,J,J,J⟩
 .refine e6 ?_;refine sR<|y0 J (wI J V7 U8)<|S1 1 J<|y1 J (Dk (f:=b7.Pv) h J J (.inl ⟨_,J,J⟩) V7 U8 Gk oe J (λ_=>J)) J<|S2 1 J<|b9 ?_;exact⟨J,_,_,J,J,J,J⟩
theorem I6{a0 a1 a2}:PO prog 268 [c5.Pv a0,.I a1,b7.Pv a2] (C9 a0 a1 a2) λr=>c5.Pv r:=by
 refine pO func268 λr h _ _=>?_;unfold C9 at h;refine S4 3 J<|S3 2 J<|A6 h λv1 hv1 h=>VB J (yP J M9 J hv1) J J<|S2 2 J<|S3 4 J<|A6 h λv2 hv2 h=>y0 J (gP (f:=b7.Pv) hv2 J J J J V7 U8 J)<|pT (f:=b7.Pv) (v:=a2) hv2 J J (.inr J) U8<|yN<|S4 2 J<|b9 ?_;cases h;exact⟨J,[_],⟨oL J J J fq cS nl J,tr⟩,J,io⟩
theorem lW{a0 a1}:PO prog 254 [c5.Pv a0,o9.Pv a1] (E5 a0 a1) λr=>.tup [c5.Pv r.1,.I r.2.1,.I r.2.2]:=by
 refine pO func254 λr h _ _=>?_;refine S4 5 J ?_;refine jq h (λ_=>St.of [(2,.ptr 2005 0 0),(4,.ptr 2003 0 0),(5,.ptr 2002 0 0),(6,.ptr 2001 0 0)] [(2001,vR (.I 0) 1),(2002,vR (.I 0) 1),(2003,vR (.agg [.nl,.I 0]) 2),(2005,vR (c5.Pv a0) 2)]) (λq10 h=>?_) λκ9 h=>?_
 .refine S4 4 J ?_;refine b9 ?_;cases h;exact⟨J,[_,_,_],⟨oL J J J fq cS nl J,⟨oS J J J V6 J,⟨oS J J J vA J,tr⟩⟩⟩,J,io⟩
 .refine S3 1 J ?_;refine cF h lX J J λv11 _ h=>yN<|n0<|cy (vC (λl=>if l=2006 then 6 else if l=2007 then 5 else if l=2008 then 4 else if l=2009 then 3 else if l=2010 then 2 else l) [(2,.ptr 2010 0 0),(3,.ptr 2009 0 0),(4,.ptr 2008 0 0),(5,.ptr 2007 0 0),(6,.ptr 2006 0 0),(10,.fn (.func 367) [.rptr (c5.Pc v11)])] [(2006,vR (.I 0) 1),(2007,vR (.I 0) 1),(2008,vR (.agg [.nl,.I 0]) 2),(2009,vR (o9.Pv a1) 6),(2010,vR (c5.Pv a0) 2)]) ?_;refine dm (fn:=Tryz.f367) (N1:=23) J func367 J J nl J Ot J J (λl19 e20 o21 hR22=>?_);refine S3 2 J<|nL J V7<|S2 1 J<|n0<|lq h (λs13=>St.of [(1000002,.ptr 2010 0 0),(1000003,.ptr 2009 0 0),(1000004,.ptr 2008 0 0),(1000005,.ptr 2007 0 0),(1000006,.ptr 2006 0 0),(1000010,.fn (.func 367) [.rptr (c5.Pc v11)]),(0,.fn (.yield l19) []),(6,.L b7.Pv v11.a8),(7,.I (v11.a8.length:Int)),(8,.I s13)] [(2006,vR (.I 0) 1),(2007,vR (.I 0) 1),(2008,vR (.agg [.nl,.I 0]) 2),(2009,vR (o9.Pv a1) 6),(2010,vR (c5.Pv a0) 2)]) W λs13 x14 h hx25=>S4 1 J<|l5 ?_;refine cN h (λhc h=>?_) λhc h=>?_
  .refine e6 ?_;refine l5<|n0<|S3 1 J<|iL h J J V7 U8 λv15 _ h=>S2 4 J<|S3 4 J<|p9 J (λhg=>om (d:=.fn (.yield l19) []) J)<|p9 J (λhg=>mI J) ?_;rcases zar ((v15.State==0)==true) with hg27 | hg27
   .have h:=NR h hg27;refine N2 (WE [(1000002,.ptr 2010 0 0),(1000003,.ptr 2009 0 0),(1000004,.ptr 2008 0 0),(1000005,.ptr 2007 0 0),(1000006,.ptr 2006 0 0),(1000010,.fn (.func 367) [.rptr (c5.Pc v11)]),(0,.fn (.yield l19) []),(6,.L b7.Pv v11.a8),(7,.I (v11.a8.length:Int)),(8,.I s13),(16,.bool (v15.State==0)),(17,.fn (.yield l19) []),(18,.I s13)] [(2006,vR (.I 0) 1),(2007,vR (.I 0) 1),(2008,vR (.agg [.nl,.I 0]) 2),(2009,vR (o9.Pv a1) 6),(2010,vR (c5.Pv a0) 2)]) ?_;refine mj hR22 (or some hg27) J J J J J (λe28 o29 o30=>?_);refine S6 1 J ?_;refine⟨J,?_⟩;refine n0<|S3 3 J<|iL h J J V7 U8 λv16 _ h=>S2 3 J<|S3 4 J<|y0 J (w9 (cs:=[.I 1,.I v16.Gen,.I a1.Serial,.I a1.Strong,.I a1.Weak,.I a1.Prog,.bool a1.Started,.L iF a1.Fields]) J uP oe J J J)<|cF h I6 J J λv17 _ h=>S1 2 J<|cA h nk J J λv18 _ h=>S2 3 J<|b9 ?_;refine⟨J,?_⟩;refine N2 (WE [(1000002,.ptr 2010 0 0),(1000003,.ptr 2009 0 0),(1000004,.ptr 2008 0 0),(1000005,.ptr 2007 0 0),(1000006,.ptr 2006 0 0),(1000010,.fn (.func 367) [.rptr (c5.Pc v11)]),(0,.fn (.yield l19) []),(6,.L b7.Pv v11.a8),(7,.I (v11.a8.length:Int)),(8,.I s13),(16,.bool (v15.State==0)),(19,.bool false)] [(2006,vR (.I 0) 1),(2007,vR (.I v18) 1),(2008,vR (c5.Pv v17) 2),(2009,vR (o9.Pv a1) 6),(2010,vR (c5.Pv a0) 2)])<|y0 (or some hg27) (fH J J)<|y0 J (lE J J hg27)<|yN ?_;refine F3 true J (λ_=>?_) (λq=>nomatch q);refine b9 ?_;refine .inr ⟨.ret,J,Px ?_⟩;have h:=xL hx25 h;cases h;exact⟨J,[_,_,_],⟨oL J J J fq cS nl J,⟨oS J J J V6 J,⟨oS J J J vA J,tr⟩⟩⟩,J,io⟩
   .have h:=NQ h hg27;refine cc (or some hg27)<|cc (or some hg27)<|y0 J (oK J J hg27)<|yN ?_;refine F3 false J (λq=>nomatch q) (λ_=>?_);refine e6<|S6 2 J ?_;exact eL h W
  .refine y2 ?_;refine l4<|l4<|r8 ?_;refine .inl ⟨J,?_⟩;have h:=xL hx25 h;exact eJ h (WP (λl=>if l=2005 then 2010 else if l=2003 then 2008 else if l=2002 then 2007 else if l=2001 then 2006 else l))
theorem yd{a0 a1 a2}:PO prog 176 [a7.Pv a0,.I a1,.I a2] (O0 a0 a1 a2) λr=>.tup [a7.Pv r.1,.I r.2.1,.I r.2.2]:=by
 refine pO func176 λr h _ _=>?_;refine S4 4 J<|S3 1 J<|cF h FZ J J λv1 _ h=>S2 5 J<|l5<|S4 2 J ?_;refine cN h (λhc h=>?_) λhc h=>?_
 .refine S4 5 J ?_;refine b9 ?_;cases h;exact⟨J,[_,_,_],⟨oL J J J kI kL nl J,⟨J,⟨J,tr⟩⟩⟩,J,io⟩
 .refine e6 ?_;refine l5<|S3 1 J<|cA h nV J J λv2 _ h=>S2 1 J ?_;refine cN h (λhc h=>?_) λhc h=>?_
  .refine S4 4 J ?_;refine b9 ?_;cases h;exact⟨J,[_,_,_],⟨oL J J J kI kL nl J,⟨J,⟨J,tr⟩⟩⟩,J,io⟩
  .refine e6 ?_;refine S3 7 J<|y0 J (w9 (cs:=[.I (z8 (a0.Serial+1)),.I 0,.I 0,.I a2,.bool false,.L iF v1.1]) J Oz OK J J J)<|cF h lW J J λv3 _ h=>S2 8 J<|l5<|S4 2 J ?_;refine cN h (λhc h=>?_) λhc h=>?_
   .refine S4 5 J ?_;refine b9 ?_;cases h;exact⟨J,[_,_,_],⟨oL J J J kI kL nl J,⟨J,⟨J,tr⟩⟩⟩,J,io⟩
   .refine e6 ?_;refine S3 4 J<|y0 J (w9 (cs:=[.L b7.Pv v3.1.a8,.I v3.1.Last,.I (z8 (a0.Serial+1))]) J JQ JV J J J)<|S2 4 J<|b9 ?_;cases h;exact⟨J,[_,_,_],⟨oL J J J kI kL nl J,⟨J,⟨J,tr⟩⟩⟩,J,io⟩
theorem wi{a0 a1}:PO prog 327 [b6.Pv a0,.I a1] (iO a0 a1) λr=>.bool r:=by
 refine pO func327 λr h _ _=>?_;refine S4 2 J<|S3 3 J<|cF h B8 J J λv1 _ h=>S2 6 J<|S4 3 J<|b9 ?_;cases h;exact f1
theorem W4{a0 a1}:PO prog 256 [b6.Pv a0,.I a1] (L5 a0 a1) λr=>.bool r:=by
 refine pO func256 λr h _ _=>?_;unfold L5 at h;refine S4 2 J<|S3 3 J<|p9 J (λhg=>oL J J J w8 s7 nl J)<|p9 J (λhg=>mI J)<|A6 h λv1 hv1 h=>p9 J (λhg=>T0 J wi (dJ (ct hg) (dJ (ct hg) J)) (O5 hv1 hg))<|y0 J (K1 J J J (λq=>mL q))<|S2 1 J<|b9 ?_;cases h;exact f1
theorem aH{a0}:PO prog 332 [.I a0] (G2 a0) λr=>.bool r:=by
 refine pO func332 λr h _ _=>?_;unfold G2 at h;refine S4 1 J<|S4 3 J<|b9 ?_;cases h;exact f1
theorem qN{a0}:PO prog 271 [.I a0] (gy a0) λr=>.tup [.I r.1,.I r.2]:=by
 refine pO func271 λr h _ _=>?_;refine S4 2 J<|l5<|S3 1 J<|cA h aH J J λv1 _ h=>yN ?_;refine cN h (λhc h=>?_) λhc h=>?_
 .refine S4 2 J ?_;refine b9 ?_;cases h;exact f2
 .refine e6 ?_;refine S3 1 J<|y0 J (Hi J J J)<|S2 3 J<|b9 ?_;cases h;exact f2
theorem AD{a0}:PO prog 190 [.I a0] (oi a0) λr=>.I r:=by
 refine pO func190 λr h _ _=>?_;refine S4 1 J<|S3 1 J<|cA h qN J J λv1 _ h=>S2 5 J<|S4 2 J<|b9 ?_;cases h;exact f1
theorem mR{a0 a1 a2}:PO prog 187 [c5.Pv a0,.I a1,o9.Pv a2] (K5 a0 a1 a2) λr=>.tup [c5.Pv r.1,.I r.2]:=by
 refine pO func187 λr h _ _=>?_;refine S4 4 J<|S3 2 J<|cA h I5 J J λv1 _ h=>S2 5 J<|l5<|S4 2 J ?_;refine cN h (λhc h=>?_) λhc h=>?_
 .refine S4 4 J ?_;refine b9 ?_;cases h;exact⟨J,[_,_],⟨oL J J J fq cS nl J,⟨J,tr⟩⟩,J,io⟩
 .refine e6 ?_;refine S3 3 J<|iL h J J V7 U8 λv2 _ h=>S2 3 J<|S4 3 J<|S3 3 J<|cF h I6 J J λv3 _ h=>S2 2 J<|b9 ?_;cases h;exact⟨J,[_,_],⟨oL J J J fq cS nl J,⟨J,tr⟩⟩,J,io⟩
theorem bl{a0 a1 a2}:PO prog 114 [a7.Pv a0,.I a1,o9.Pv a2] (K6 a0 a1 a2) λr=>.tup [a7.Pv r.1,.I r.2]:=by
 refine pO func114 λr h _ _=>?_;refine S4 4 J<|S4 1 J<|S3 4 J<|cF h mR J J λv1 _ h=>S2 6 J<|S4 4 J<|b9 ?_;cases h;exact⟨J,[_,_],⟨oL J J J kI kL nl J,⟨J,tr⟩⟩,J,io⟩
theorem gK{a0 a1}:PO prog 189 [b6.Pv a0,.I a1,.fn (.func 190) []] (W3 a0 a1) λr=>b6.Pv r:=by
 refine pO func189 λr h _ _=>?_;refine S4 2 J<|S3 3 J<|cF h B8 J J λv1 _ h=>S2 6 J<|l5<|S4 2 J ?_;refine cN h (λhc h=>?_) λhc h=>?_
 .refine S3 3 J ?_;refine cA h AD J J λv2 _ h=>S2 2 J<|S5 4 J<|cF h bl J J λv3 _ h=>S2 5 J<|S4 2 J<|b9 ?_;cases h;exact⟨J,[_],⟨oL J J J w8 s7 nl J,tr⟩,J,io⟩
 .refine e6 ?_;refine S4 2 J<|b9 ?_;cases h;exact⟨J,[_],⟨oL J J J w8 s7 nl J,tr⟩,J,io⟩
theorem dc{a0 a1}:PO prog 116 [b6.Pv a0,.I a1] (aK a0 a1) λr=>b6.Pv r:=by
 refine pO func116 λr h _ _=>?_;refine S4 2 J<|S3 2 J<|cF h gK J J λv1 _ h=>S2 1 J<|b9 ?_;cases h;exact⟨J,[_],⟨oL J J J w8 s7 nl J,tr⟩,J,io⟩
theorem jy{a0}:Sk prog 347 [.L iF a0] (M8 a0) λr=>⟨List.map iF r,0,true,1,true⟩:=by
 refine WK func347 λr h _ _=>?_;unfold M8 at h;refine S4 1 J<|l5<|S3 1 J<|Cm J o7 λb hb=>yN ?_;refine F3 b J (λhc=>?_) (λhc=>?_)
 .obtain rfl:a0 = []:=by simpa using hb hc
  refine S4 1 J<|cy (Y7 (t:=2) (l:=920000) (z:=1) J J)<|b9 ?_;cases h;exact⟨J,_,_,J,J,J,J⟩
 .refine e6 ?_;refine sR<|y0 J (wI J o7 u5)<|S1 1 J<|y1 J (Dk (f:=iF) h J J (.inl ⟨_,J,J⟩) o7 u5 X5 F8 J (λ_=>J)) J<|S2 1 J<|b9 ?_;exact⟨J,_,_,J,J,J,J⟩
theorem mO{a0 a1}:PO prog 298 [H9.Pv a0,b6.Pv a1] (Q3 a0 a1) λr=>b6.Pv r:=by
 refine pO func298 λr h _ _=>?_;unfold Q3 at h;refine S4 3 J<|S3 2 J<|A6 h λv1 hv1 h=>VB J (yP J jy J hv1) J J<|S2 2 J<|S3 6 J<|A6 h λv2 hv2 h=>y0 J (gP (f:=iF) hv2 J J J J o7 u5 J)<|pT (f:=iF) (v:=a0.h) hv2 J J (.inl J) u5<|yN<|S4 2 J<|b9 ?_;cases h;exact⟨J,[_],⟨oL J J J w8 s7 nl J,tr⟩,J,io⟩
theorem pf{a0}:PO prog 281 [.I a0] (dV a0) λr=>.tup [.I r.1,.I r.2]:=by
 refine pO func281 λr h _ _=>?_;refine S4 2 J<|l5<|S3 1 J<|cA h aH J J λv1 _ h=>yN ?_;refine cN h (λhc h=>?_) λhc h=>?_
 .refine S4 2 J ?_;refine b9 ?_;cases h;exact f2
 .refine e6 ?_;refine l5<|S4 2 J ?_;refine cN h (λhc h=>?_) λhc h=>?_
  .refine S4 2 J ?_;refine b9 ?_;cases h;exact f2
  .refine e6 ?_;refine S4 4 J<|b9 ?_;cases h;exact f2
theorem AB{a0}:PO prog 197 [.I a0] (sK a0) λr=>.tup [.I r.1,.I r.2]:=by
 refine pO func197 λr h _ _=>?_;refine S4 2 J<|S3 1 J<|cA h pf J J λv1 _ h=>S2 5 J<|S4 4 J<|b9 ?_;cases h;exact f2
theorem rk{a0}:PO prog 196 [.I a0] (db a0) λr=>.I r:=by
 refine pO func196 λr h _ _=>?_;refine S4 1 J<|S3 1 J<|cA h AB J J λv1 _ h=>S2 5 J<|l5<|S4 2 J ?_;refine cN h (λhc h=>?_) λhc h=>?_
 .refine S4 2 J ?_;refine b9 ?_;cases h;exact f1
 .refine e6 ?_;refine S4 2 J<|b9 ?_;cases h;exact f1
theorem dF{a0 a1}:PO prog 189 [b6.Pv a0,.I a1,.fn (.func 196) []] (N8 a0 a1) λr=>b6.Pv r:=by
 refine pO func189 λr h _ _=>?_;refine S4 2 J<|S3 3 J<|cF h B8 J J λv1 _ h=>S2 6 J<|l5<|S4 2 J ?_;refine cN h (λhc h=>?_) λhc h=>?_
 .refine S3 3 J ?_;refine cA h rk J J λv2 _ h=>S2 2 J<|S5 4 J<|cF h bl J J λv3 _ h=>S2 5 J<|S4 2 J<|b9 ?_;cases h;exact⟨J,[_],⟨oL J J J w8 s7 nl J,tr⟩,J,io⟩
 .refine e6 ?_;refine S4 2 J<|b9 ?_;cases h;exact⟨J,[_],⟨oL J J J w8 s7 nl J,tr⟩,J,io⟩
theorem Z4{a0 a1}:PO prog 123 [b6.Pv a0,.I a1] (C8 a0 a1) λr=>b6.Pv r:=by
 refine pO func123 λr h _ _=>?_;refine S4 2 J<|S3 2 J<|cF h dF J J λv1 _ h=>S2 1 J<|b9 ?_;cases h;exact⟨J,[_],⟨oL J J J w8 s7 nl J,tr⟩,J,io⟩
theorem bV{a0 a1 a2 a3}:PO prog 257 [b6.Pv a0,.I a1,.I a2,.abs (Rm 298 [H9.Pv a3])] (F2 a0 a1 a2 a3) λr=>b6.Pv r:=by
 refine pO func257 λr h _ _=>?_;refine S4 2 J<|S3 3 J<|cF h dc J J λv1 _ h=>A6 h λv2 hv2 h=>Ck (xs:=[b6.Pv v1]) J J Oq J (mO.2 _ hv2)<|S1 1 J<|cF h Z4 J J λv3 _ h=>S2 1 J<|b9 ?_;cases h;exact⟨J,[_],⟨oL J J J w8 s7 nl J,tr⟩,J,io⟩
theorem ln{a0 a1 a2}:PO prog 205 [b6.Pv a0,.I a1,.I a2] (bc a0 a1 a2) λr=>.tup [b6.Pv r.1,.I r.2]:=by
 refine pO func205 λr h _ _=>?_;refine S4 3 J<|l5<|S3 3 J<|p9 J (λhg=>mI J)<|p9 J (λhg=>oF J Cx J)<|p9 J (λhg=>oS (ct hg) J J Eo J)<|p9 J (λhg=>nw (f:=iF) (ct hg) o7)<|p9 J (λhg=>I3 (ct hg) (ct hg) J)<|y0 J (K1 J J J (λq=>mL q))<|yN ?_;refine cN h (λhc h=>?_) λhc h=>?_
 .refine S4 3 J ?_;refine b9 ?_;cases h;exact⟨J,[_,_],⟨oL J J J w8 s7 nl J,⟨J,tr⟩⟩,J,io⟩
 .refine e6 ?_;refine l5<|S3 2 J<|cA h W4 J J λv1 _ h=>S2 1 J ?_;refine cN h (λhc h=>?_) λhc h=>?_
  .refine S4 3 J ?_;refine b9 ?_;cases h;exact⟨J,[_,_],⟨oL J J J w8 s7 nl J,⟨J,tr⟩⟩,J,io⟩
  .refine e6 ?_;refine dr [] y6 (by kernel_rfl) (by kernel_rfl)<|S7 4 J<|A6 h λv2 hv2 h=>d0 J (F5 (f:=iF) (cs:=[.I v2]) hv2 J J o7 u5 J J) J<|S7 4 J<|d7 J (λ_ hN=>w9 (cs:=[.I a1,.I a2]) J OE OP J J J) J<|d7 J (λ_ hN=>tp (d:=.agg [.I a1,.I a2]) J) J<|A6 h λv3 hv3 h=>mK J (C2 J bV J hv3) J<|E2 (x':=b6.Pv v3) (cl':=true) J J (.inr J) s7<|S8 1 J<|b9 ?_;cases h;exact⟨J,[_,_],⟨oL J J J w8 s7 nl J,⟨J,tr⟩⟩,J,io⟩
theorem H0{a0 a1 a2}:PO prog 177 [u3.Pv a0,.I a1,.I a2] (B6 a0 a1 a2) λr=>.tup [b6.Pv r.1,.I r.2]:=by
 refine pO func177 λr h _ _=>?_;refine S4 3 J<|l5<|S4 2 J ?_;refine cN h (λhc h=>?_) λhc h=>?_
 .refine S4 5 J ?_;refine b9 ?_;cases h;exact⟨J,[_,_],⟨oL J J J w8 s7 nl J,⟨J,tr⟩⟩,J,io⟩
 .refine e6 ?_;refine S3 6 J<|cF h ln J J λv1 _ h=>S2 4 J<|b9 ?_;cases h;exact⟨J,[_,_],⟨oL J J J w8 s7 nl J,⟨J,tr⟩⟩,J,io⟩
theorem de{a0}:PO prog 97 [u3.Pv a0] (V1 a0) λr=>.tup [b6.Pv r.1,.I r.2]:=by
 refine pO func97 λr h _ _=>?_;refine S4 3 J<|S3 9 J<|cF h yd J J λv1 _ h=>S2 8 J<|l5<|S4 2 J ?_;refine cN h (λhc h=>?_) λhc h=>?_
 .refine S4 5 J ?_;refine b9 ?_;cases h;exact⟨J,[_,_],⟨oL J J J w8 s7 nl J,⟨J,tr⟩⟩,J,io⟩
 .refine e6 ?_;refine S4 4 J<|S3 2 J<|cF h H0 J J λv2 _ h=>S2 4 J<|b9 ?_;cases h;exact⟨J,[_,_],⟨oL J J J w8 s7 nl J,⟨J,tr⟩⟩,J,io⟩
theorem bo{a0}:PO prog 98 [u3.Pv a0] (I2 a0) λr=>.tup [b6.Pv r.1,.I r.2]:=by
 refine pO func98 λr h _ _=>?_;unfold I2 at h;refine S4 3 J<|dr [] y6 (by kernel_rfl) (by kernel_rfl)<|S7 6 J<|A6 h λv1 hv1 h=>d2 J (T0 J N9 J hv1) J<|A6 h λv2 hv2 h=>mK J (C2 J H0 J hv2) J<|S7 2 J<|E2 (x':=b6.Pv v2.1) (cl':=true) J J (.inr J) s7<|S8 1 J<|b9 ?_;cases h;exact⟨J,[_,_],⟨oL J J J w8 s7 nl J,⟨J,tr⟩⟩,J,io⟩
theorem eX{a0}:PO prog 99 [u3.Pv a0] (aB a0) λr=>.tup [b6.Pv r.1,.I r.2]:=by
 refine pO func99 λr h _ _=>?_;refine S4 3 J<|S3 1 J<|cF h H0 J J λv1 _ h=>S2 4 J<|b9 ?_;cases h;exact⟨J,[_,_],⟨oL J J J w8 s7 nl J,⟨J,tr⟩⟩,J,io⟩
theorem S9{a0 a1}:PO prog 178 [b6.Pv a0,.I a1] (M6 a0 a1) λr=>.tup [.I r.1,.I r.2]:=by
 refine pO func178 λr h _ _=>?_;refine S4 3 J<|S3 2 J<|cA h N9 J J λv1 _ h=>S2 1 J<|l5<|S4 2 J ?_;refine cN h (λhc h=>?_) λhc h=>?_
 .refine S4 2 J ?_;refine b9 ?_;cases h;exact f2
 .refine e6 ?_;refine S4 3 J<|b9 ?_;cases h;exact f2
theorem xz{a0 a1}:PO prog 326 [.L iF a0,.I a1] (mh a0 a1) λr=>.bool r:=by
 refine pO func326 λr h _ _=>?_;unfold mh at h;refine S4 1 J<|S3 3 J<|p9 J (λhg=>mI J)<|p9 J (λhg=>om (d:=.L iF a0) J)<|p9 J (λhg=>nw (f:=iF) (ct hg) o7)<|p9 J (λhg=>I3 (ct hg) (ct hg) J)<|y0 J (E7 J J J (λq=>mM q))<|S2 1 J<|b9 ?_;cases h;exact f1
theorem JD{a0 a1}:PO prog 255 [.L iF a0,.I a1] (nZ a0 a1) λr=>.tup [.I r.1,.I r.2]:=by
 refine pO func255 λr h _ _=>?_;refine S4 2 J<|l5<|S3 2 J<|cA h xz J J λv1 _ h=>S2 1 J ?_;refine cN h (λhc h=>?_) λhc h=>?_
 .refine S4 2 J ?_;refine b9 ?_;cases h;exact f2
 .refine e6 ?_;refine S3 2 J<|iL h J J o7 u5 λv2 _ h=>S2 3 J<|b9 ?_;cases h;exact f2
theorem nU{a0 a1 a2}:PO prog 179 [a7.Pv a0,.I a1,.I a2] (T8 a0 a1 a2) λr=>.tup [.I r.1,.I r.2]:=by
 refine pO func179 λr h _ _=>?_;refine S4 3 J<|S3 2 J<|cF h B8 J J λv1 _ h=>S2 6 J<|l5<|S4 2 J ?_;refine cN h (λhc h=>?_) λhc h=>?_
 .refine S4 3 J ?_;refine b9 ?_;cases h;exact f2
 .refine e6 ?_;refine S3 3 J<|cA h JD J J λv2 _ h=>S2 4 J<|b9 ?_;cases h;exact f2
theorem eY{a0}:PO prog 100 [u3.Pv a0] (aC a0) λr=>.tup [b6.Pv r.1,.I r.2]:=by
 refine pO func100 λr h _ _=>?_;refine S4 3 J<|S3 5 J<|cA h S9 J J λv1 _ h=>S2 5 J<|l5<|S4 2 J ?_;refine cN h (λhc h=>?_) λhc h=>?_
 .refine S4 5 J ?_;refine b9 ?_;cases h;exact⟨J,[_,_],⟨oL J J J w8 s7 nl J,⟨J,tr⟩⟩,J,io⟩
 .refine e6 ?_;refine dr [] y6 (by kernel_rfl) (by kernel_rfl)<|S7 8 J<|A6 h λv2 hv2 h=>d2 J (T0 J nU J hv2) J<|S7 2 J<|A6 h λv3 hv3 h=>mK J (C2 J H0 J hv3) J<|S7 2 J<|E2 (x':=b6.Pv v3.1) (cl':=true) J J (.inr J) s7<|S8 1 J<|b9 ?_;cases h;exact⟨J,[_,_],⟨oL J J J w8 s7 nl J,⟨J,tr⟩⟩,J,io⟩
theorem Ec{a0 a1 a2}:PO prog 368 [.L iF a0,.I a1,.I a2] (xy a0 a1 a2) λr=>.tup [.L iF r.1,.I r.2]:=by
 refine pO func368 λr h _ _=>?_;refine S4 2 J<|l5<|S3 2 J<|cA h xz J J λv1 _ h=>S2 1 J ?_;refine cN h (λhc h=>?_) λhc h=>?_
 .refine S4 3 J ?_;refine b9 ?_;cases h;exact f2
 .refine e6 ?_;refine S3 1 J<|nL J o7<|A6 h λv2 hv2 h=>y1 J (wH (f:=iF) hv2 J J J o7 u5 F8 X5 J J J) J<|S2 1 J<|S3 2 J<|A6 h λv3 hv3 h=>Vp (f:=iF) hv3 J J J (.inl ⟨_,J,J⟩) o7 u5 (λ_=>J) (by decide)<|yN<|S3 3 J<|A6 h λv4 hv4 h=>y0 J (gP (f:=iF) hv4 J J J J o7 u5 J)<|pT (f:=iF) (v:=a2) hv4 J J (.inl J) u5<|yN<|S4 3 J<|b9 ?_;cases h;exact f2
theorem BZ{a0 a1 a2 a3}:PO prog 328 [a7.Pv a0,.I a1,.I a2,.I a3] (oX a0 a1 a2 a3) λr=>.tup [a7.Pv r.1,.I r.2]:=by
 refine pO func328 λr h _ _=>?_;refine S4 3 J<|S3 2 J<|cF h B8 J J λv1 _ h=>S2 6 J<|l5<|S4 2 J ?_;refine cN h (λhc h=>?_) λhc h=>?_
 .refine S4 4 J ?_;refine b9 ?_;cases h;exact⟨J,[_,_],⟨oL J J J kI kL nl J,⟨J,tr⟩⟩,J,io⟩
 .refine e6 ?_;refine l5<|S3 4 J<|cF h Ec J J λv2 _ h=>S2 6 J<|S4 2 J ?_;refine cN h (λhc h=>?_) λhc h=>?_
  .refine S4 4 J ?_;refine b9 ?_;cases h;exact⟨J,[_,_],⟨oL J J J kI kL nl J,⟨J,tr⟩⟩,J,io⟩
  .refine e6 ?_;refine S3 3 J<|cF h bl J J λv3 _ h=>S2 4 J<|b9 ?_;cases h;exact⟨J,[_,_],⟨oL J J J kI kL nl J,⟨J,tr⟩⟩,J,io⟩
theorem lr{a0 a1}:PO prog 258 [G7.Pv a0,b6.Pv a1] (bq a0 a1) λr=>b6.Pv r:=by
 refine pO func258 λr h _ _=>?_;refine S4 3 J<|S3 8 J<|cF h BZ J J λv1 _ h=>S2 5 J<|S4 2 J<|b9 ?_;cases h;exact⟨J,[_],⟨oL J J J w8 s7 nl J,tr⟩,J,io⟩
theorem bD{a0 a1 a2 a3}:PO prog 257 [b6.Pv a0,.I a1,.I a2,.abs (Rm 258 [G7.Pv a3])] (I0 a0 a1 a2 a3) λr=>b6.Pv r:=by
 refine pO func257 λr h _ _=>?_;refine S4 2 J<|S3 3 J<|cF h dc J J λv1 _ h=>A6 h λv2 hv2 h=>Ck (xs:=[b6.Pv v1]) J J Ol J (lr.2 _ hv2)<|S1 1 J<|cF h Z4 J J λv3 _ h=>S2 1 J<|b9 ?_;cases h;exact⟨J,[_],⟨oL J J J w8 s7 nl J,tr⟩,J,io⟩
theorem xU{a0 a1 a2 a3}:PO prog 180 [b6.Pv a0,.I a1,.I a2,.I a3] (aJ a0 a1 a2 a3) λr=>.tup [b6.Pv r.1,.I r.2]:=by
 refine pO func180 λr h _ _=>?_;refine S4 3 J<|S3 4 J<|cA h nU J J λv1 _ h=>S2 5 J<|l5<|S4 2 J ?_;refine cN h (λhc h=>?_) λhc h=>?_
 .refine S4 4 J ?_;refine b9 ?_;cases h;exact⟨J,[_,_],⟨oL J J J w8 s7 nl J,⟨J,tr⟩⟩,J,io⟩
 .refine e6 ?_;refine l5<|S3 2 J<|cA h W4 J J λv2 _ h=>S2 1 J ?_;refine cN h (λhc h=>?_) λhc h=>?_
  .refine S4 3 J ?_;refine b9 ?_;cases h;exact⟨J,[_,_],⟨oL J J J w8 s7 nl J,⟨J,tr⟩⟩,J,io⟩
  .refine e6 ?_;refine S3 6 J<|y0 J (w9 (cs:=[.I a1,.I a2,.I a3]) J OB OM J J J)<|y0 J (tp (d:=.agg [.I a1,.I a2,.I a3]) J)<|cF h bD J J λv3 _ h=>S2 2 J<|b9 ?_;cases h;exact⟨J,[_,_],⟨oL J J J w8 s7 nl J,⟨J,tr⟩⟩,J,io⟩
theorem dL{a0}:PO prog 101 [u3.Pv a0] (Y2 a0) λr=>.tup [b6.Pv r.1,.I r.2]:=by
 refine pO func101 λr h _ _=>?_;refine S4 3 J<|S3 5 J<|cA h S9 J J λv1 _ h=>S2 5 J<|l5<|S4 2 J ?_;refine cN h (λhc h=>?_) λhc h=>?_
 .refine S4 5 J ?_;refine b9 ?_;cases h;exact⟨J,[_,_],⟨oL J J J w8 s7 nl J,⟨J,tr⟩⟩,J,io⟩
 .refine e6 ?_;refine dr [] y6 (by kernel_rfl) (by kernel_rfl)<|S7 11 J<|A6 h λv2 hv2 h=>d2 J (T0 J N9 J hv2) J<|A6 h λv3 hv3 h=>mK J (C2 J xU J hv3) J<|S7 2 J<|E2 (x':=b6.Pv v3.1) (cl':=true) J J (.inr J) s7<|S8 1 J<|b9 ?_;cases h;exact⟨J,[_,_],⟨oL J J J w8 s7 nl J,⟨J,tr⟩⟩,J,io⟩
theorem FV{a0 a1}:PO prog 329 [k7.Pv a0,.I a1] (vq a0 a1) λr=>.fn (.func 369) [.rptr (k7.Pc r.1),.rptr [.I r.2]]:=by
 refine pO func329 λr h _ _=>?_;unfold vq at h;refine S4 3 J<|S4 2 J<|b9 ?_;cases h;exact f1
theorem ye{a0 a1}:PO prog 259 [k7.Pv a0,.I a1] (il a0 a1) λr=>.bool r:=by
 refine pO func259 λr h _ _=>?_;refine S4 3 J ?_;refine jq h (λ_=>St.of [(4,.ptr 2001 0 0)] [(2001,vR (.bool false) 1)]) (λq7 h=>?_) λκ6 h=>?_
 .refine S4 1 J ?_;refine b9 ?_;cases h;exact⟨J,[_],⟨oS J J J yi J,tr⟩,J,io⟩
 .refine S3 1 J ?_;refine cF h FV J J λv8 _ h=>yN<|n0<|cy (vC (λl=>if l=2003 then 4 else if l=2004 then 3 else l) [(3,.ptr 2004 0 0),(4,.ptr 2003 0 0),(7,.fn (.func 369) [.rptr (k7.Pc v8.1),.rptr [.I v8.2]])] [(2003,vR (.bool false) 1),(2004,vR (.I a1) 1)]) ?_;refine dm (fn:=Tryz.f369) (N1:=24) J func369 J J nl J Ou J J (λl16 e17 o18 hR19=>?_);refine S3 2 J<|nL J mU<|S2 1 J<|n0<|lq h (λs10=>St.of [(1000003,.ptr 2004 0 0),(1000004,.ptr 2003 0 0),(1000007,.fn (.func 369) [.rptr (k7.Pc v8.1),.rptr [.I v8.2]]),(0,.fn (.yield l16) []),(2,.rptr [.I v8.2]),(7,.L l7.Pv v8.1.L),(8,.I (v8.1.L.length:Int)),(9,.I s10)] [(2003,vR (.bool false) 1),(2004,vR (.I a1) 1)]) W λs10 x11 h hx22=>S4 1 J<|l5 ?_;refine cN h (λhc h=>?_) λhc h=>?_
  .refine e6 ?_;refine l5<|n0<|sR<|iL h J J mU N3 λv12 _ h=>S2 3 J<|S3 5 J<|p9 J (λhg=>om (d:=.fn (.yield l16) []) J)<|p9 J (λhg=>oL J J J cM N3 nl J) ?_;rcases zar ((v12.Kind==v8.2)==true) with hg24 | hg24
   .have h:=NR h hg24;refine N2 (WE [(1000003,.ptr 2004 0 0),(1000004,.ptr 2003 0 0),(1000007,.fn (.func 369) [.rptr (k7.Pc v8.1),.rptr [.I v8.2]]),(0,.fn (.yield l16) []),(2,.rptr [.I v8.2]),(7,.L l7.Pv v8.1.L),(8,.I (v8.1.L.length:Int)),(9,.I s10),(17,.bool (v12.Kind==v8.2)),(18,.fn (.yield l16) []),(19,l7.Pv v12)] [(2003,vR (.bool false) 1),(2004,vR (.I a1) 1)]) ?_;refine mj hR19 (or some hg24) J J J J J (λe25 o26 o27=>?_);refine S6 2 J ?_;refine⟨J,?_⟩;refine n0<|S4 4 J ?_;refine cN h (λhc h=>?_) λhc h=>?_
    .refine S4 1 J ?_;refine b9 ?_;refine⟨J,?_⟩;refine N2 (WE [(1000003,.ptr 2004 0 0),(1000004,.ptr 2003 0 0),(1000007,.fn (.func 369) [.rptr (k7.Pc v8.1),.rptr [.I v8.2]]),(0,.fn (.yield l16) []),(2,.rptr [.I v8.2]),(7,.L l7.Pv v8.1.L),(8,.I (v8.1.L.length:Int)),(9,.I s10),(17,.bool (v12.Kind==v8.2)),(20,.bool false)] [(2003,vR (.bool true) 1),(2004,vR (.I a1) 1)])<|y0 (or some hg24) (fH J J)<|y0 J (lE J J hg24)<|yN ?_;refine F3 true J (λ_=>?_) (λq=>nomatch q);refine b9 ?_;refine .inr ⟨.ret,J,Px ?_⟩;have h:=xL hx22 h;cases h;exact⟨J,[_],⟨oS J J J yi J,tr⟩,J,io⟩
    .refine e6 ?_;refine⟨J,?_⟩;refine N2 (WE [(1000003,.ptr 2004 0 0),(1000004,.ptr 2003 0 0),(1000007,.fn (.func 369) [.rptr (k7.Pc v8.1),.rptr [.I v8.2]]),(0,.fn (.yield l16) []),(2,.rptr [.I v8.2]),(7,.L l7.Pv v8.1.L),(8,.I (v8.1.L.length:Int)),(9,.I s10),(17,.bool (v12.Kind==v8.2)),(20,.bool true)] [(2003,vR (.bool false) 1),(2004,vR (.I a1) 1)])<|y0 (or some hg24) (fH J J)<|y0 J (lE J J hg24)<|yN ?_;refine F3 false J (λq=>nomatch q) (λ_=>?_);refine e6<|S6 2 J ?_;exact eL h W
   .have h:=NQ h hg24;refine cc (or some hg24)<|cc (or some hg24)<|y0 J (oK J J hg24)<|yN ?_;refine F3 false J (λq=>nomatch q) (λ_=>?_);refine e6<|S6 2 J ?_;exact eL h W
  .refine y2 ?_;refine l4<|l4<|r8 ?_;refine .inl ⟨J,?_⟩;have h:=xL hx22 h;exact eJ h (WP (λl=>if l=2001 then 2003 else l))
theorem uu{a0 a1}:PO prog 263 [.L j5.Pv a0,.I a1] (kD a0 a1) λr=>.bool r:=by
 refine pO func263 λr h _ _=>?_;unfold kD at h;refine S4 1 J<|S3 3 J<|p9 J (λhg=>mI J)<|p9 J (λhg=>om (d:=.L j5.Pv a0) J)<|p9 J (λhg=>nw (f:=j5.Pv) (ct hg) ah)<|p9 J (λhg=>I3 (ct hg) (ct hg) J)<|y0 J (E7 J J J (λq=>mM q))<|S2 1 J<|b9 ?_;cases h;exact f1
theorem mE{a0}:Sk prog 275 [.L j5.Pv a0] (aV a0) λr=>⟨List.map j5.Pv r,0,true,3,true⟩:=by
 refine WK func275 λr h _ _=>?_;unfold aV at h;refine S4 1 J<|S3 1 J<|nL J ah<|A6 h λv1 hv1 h=>y1 J (wH (f:=j5.Pv) hv1 J J J ah aw Av Gj J J J) J<|S2 1 J<|S3 2 J<|A6 h λv2 hv2 h=>Vp (f:=j5.Pv) hv2 J J J (.inl ⟨_,J,J⟩) ah aw (λ_=>J) (by decide)<|yN<|S4 2 J<|b9 ?_;cases h;exact⟨J,_,_,J,J,J,J⟩
theorem Eh{a0 a1 a2 a3}:PO prog 260 [.L j5.Pv a0,.I a1,.I a2,.I a3] (sz a0 a1 a2 a3) λr=>.tup [.L j5.Pv r.1,.I r.2.1,.I r.2.2]:=by
 refine pO func260 λr h _ _=>?_;refine S4 3 J<|l5<|S3 2 J<|cA h uu J J λv1 _ h=>S2 1 J ?_;refine cN h (λhc h=>?_) λhc h=>?_
 .refine S4 4 J ?_;refine b9 ?_;cases h;exact f3
 .refine e6 ?_;refine S3 1 J<|A6 h λv2 hv2 h=>VB J (yP J mE J hv2) J J<|S2 1 J<|S3 6 J<|y0 J (w9 (cs:=[.I a2,.bool (a2 != 0),.I a3]) J OA Av J J J)<|A6 h λv3 hv3 h=>y0 J (gP (f:=j5.Pv) hv3 J J J J ah aw J)<|pT (f:=j5.Pv) (v:=(⟨a2,(a2 != 0),a3⟩:j5)) hv3 J J (.inl J) aw<|yN<|dr [] y6 (by kernel_rfl) (by kernel_rfl)<|S7 3 J<|A6 h λv4 hv4 h=>d0 J (F5 (f:=j5.Pv) (cs:=j5.Pc v4) hv4 J J ah aw J J) J<|S8 5 J<|b9 ?_;cases h;exact f3
theorem nq{a0 a1 a2}:PO prog 262 [b6.Pv a0,.I a1,.I a2] (cv a0 a1 a2) λr=>b6.Pv r:=by
 refine pO func262 λr h _ _=>?_;refine S4 2 J<|S3 4 J<|cA h I5 J J λv1 _ h=>S2 5 J<|l5<|S4 2 J ?_;refine cN h (λhc h=>?_) λhc h=>?_
 .refine S3 5 J ?_;refine iL h J J V7 U8 λv2 _ h=>S2 4 J<|S4 6 J<|S5 4 J<|cF h bl J J λv3 _ h=>S2 5 J<|S4 2 J<|b9 ?_;cases h;exact⟨J,[_],⟨oL J J J w8 s7 nl J,tr⟩,J,io⟩
 .refine e6 ?_;refine S4 2 J<|b9 ?_;cases h;exact⟨J,[_],⟨oL J J J w8 s7 nl J,tr⟩,J,io⟩
theorem dz{a0 a1}:PO prog 195 [c5.Pv a0,.I a1] (O7 a0 a1) λr=>.tup [c5.Pv r.1,.I r.2]:=by
 refine pO func195 λr h _ _=>?_;refine S4 3 J<|S3 2 J<|cA h I5 J J λv1 _ h=>S2 5 J<|l5<|S4 2 J ?_;refine cN h (λhc h=>?_) λhc h=>?_
 .refine S4 4 J ?_;refine b9 ?_;cases h;exact⟨J,[_,_],⟨oL J J J fq cS nl J,⟨J,tr⟩⟩,J,io⟩
 .refine e6 ?_;refine S3 3 J<|iL h J J V7 U8 λv2 _ h=>S2 3 J<|l5<|S4 4 J ?_;refine cN h (λhc h=>?_) λhc h=>?_
  .refine S3 3 J ?_;refine y0 J (w9 (cs:=[.I 3,.I v2.Gen,.I 0,.I 0,.I 0,.I 0,.bool false,.nl]) J uP oe J J J)<|cF h I6 J J λv3 _ h=>S2 2 J<|b9 ?_;cases h;exact⟨J,[_,_],⟨oL J J J fq cS nl J,⟨J,tr⟩⟩,J,io⟩
  .refine e6 ?_;refine S3 4 J<|y0 J (w9 (cs:=[.I 0,.I (z8 (v2.Gen+1)),.I 0,.I 0,.I 0,.I 0,.bool false,.nl]) J uP oe J J J)<|cF h I6 J J λv4 _ h=>S2 2 J<|b9 ?_;cases h;exact⟨J,[_,_],⟨oL J J J fq cS nl J,⟨J,tr⟩⟩,J,io⟩
theorem sW{a0 a1}:PO prog 261 [b6.Pv a0,.I a1] (eG a0 a1) λr=>b6.Pv r:=by
 refine pO func261 λr h _ _=>?_;refine S4 2 J<|S3 2 J<|cF h nq J J λv1 _ h=>S2 1 J<|S3 4 J<|cA h I5 J J λv2 _ h=>S2 5 J<|l5<|S4 2 J ?_;refine cN h (λhc h=>?_) λhc h=>?_
 .refine S4 2 J ?_;refine b9 ?_;cases h;exact⟨J,[_],⟨oL J J J w8 s7 nl J,tr⟩,J,io⟩
 .refine e6 ?_;refine l5<|S3 5 J<|iL h J J V7 U8 λv3 _ h=>S2 3 J<|S3 4 J<|p9 J (λhg=>oF J Iq J)<|p9 J (λhg=>oF (ct hg) Im J)<|p9 J (λhg=>oS (ct hg) J J V6 J)<|p9 J (λhg=>I3 (ct hg) J J)<|y0 J (E7 J J J (λq=>mM q))<|yN ?_;refine cN h (λhc h=>?_) λhc h=>?_
  .refine S5 4 J ?_;refine cF h dz J J λv4 _ h=>S2 6 J<|S4 2 J<|b9 ?_;cases h;exact⟨J,[_],⟨oL J J J w8 s7 nl J,tr⟩,J,io⟩
  .refine e6 ?_;refine S4 2 J<|b9 ?_;cases h;exact⟨J,[_],⟨oL J J J w8 s7 nl J,tr⟩,J,io⟩
theorem rl{a0 a1 a2 a3}:PO prog 181 [b6.Pv a0,.I a1,.I a2,.I a3] (W2 a0 a1 a2 a3) λr=>.tup [b6.Pv r.1,.I r.2]:=by
 refine pO func181 λr h _ _=>?_;unfold W2 at h;refine S4 3 J<|l5<|S3 3 J<|p9 J (λhg=>mI J)<|p9 J (λhg=>oF J JM J)<|p9 J (λhg=>oS (ct hg) J J Sp J)<|p9 J (λhg=>nw (f:=j5.Pv) (ct hg) ah)<|p9 J (λhg=>I3 (ct hg) (ct hg) J)<|y0 J (K1 J J J (λq=>mL q))<|S1 1 J<|p9 J (λhg=>oF J JN J)<|p9 J (λhg=>oL (ct hg) J J jh cT nl J)<|p9 J (λhg=>mI J)<|A6 h λv1 hv1 h=>p9 J (λhg=>T0 J ye (dJ (ct hg) (dJ (ct hg) J)) (O5 hv1 hg))<|y0 J (K1 J J J (λq=>mL q))<|yN ?_;refine cN h (λhc h=>?_) λhc h=>?_
 .refine S4 3 J ?_;refine b9 ?_;cases h;exact⟨J,[_,_],⟨oL J J J w8 s7 nl J,⟨J,tr⟩⟩,J,io⟩
 .refine e6 ?_;refine l5<|S3 2 J<|cA h W4 J J λv2 _ h=>S2 1 J ?_;refine cN h (λhc h=>?_) λhc h=>?_
  .refine S4 3 J ?_;refine b9 ?_;cases h;exact⟨J,[_,_],⟨oL J J J w8 s7 nl J,⟨J,tr⟩⟩,J,io⟩
  .refine e6 ?_;refine S3 5 J<|cF h Eh J J λv3 _ h=>S2 7 J<|S4 3 J<|S3 2 J<|cF h nq J J λv4 _ h=>S1 1 J<|cF h sW J J λv5 _ h=>S2 2 J<|b9 ?_;cases h;exact⟨J,[_,_],⟨oL J J J w8 s7 nl J,⟨J,tr⟩⟩,J,io⟩
theorem df{a0}:PO prog 102 [u3.Pv a0] (V2 a0) λr=>.tup [b6.Pv r.1,.I r.2]:=by
 refine pO func102 λr h _ _=>?_;refine S4 3 J<|l5<|S4 4 J ?_;refine cN h (λhc h=>?_) λhc h=>?_
 .refine S3 8 J ?_;refine cF h rl J J λv1 _ h=>S2 4 J<|b9 ?_;cases h;exact⟨J,[_,_],⟨oL J J J w8 s7 nl J,⟨J,tr⟩⟩,J,io⟩
 .refine e6 ?_;refine S3 5 J<|cA h S9 J J λv2 _ h=>S2 5 J<|l5<|S4 2 J ?_;refine cN h (λhc h=>?_) λhc h=>?_
  .refine S4 5 J ?_;refine b9 ?_;cases h;exact⟨J,[_,_],⟨oL J J J w8 s7 nl J,⟨J,tr⟩⟩,J,io⟩
  .refine e6 ?_;refine S3 9 J<|cF h rl J J λv3 _ h=>S2 4 J<|b9 ?_;cases h;exact⟨J,[_,_],⟨oL J J J w8 s7 nl J,⟨J,tr⟩⟩,J,io⟩
theorem Ch{a0 a1}:PO prog 182 [.L j5.Pv a0,.I a1] (kB a0 a1) λr=>.tup [.I r.1,.I r.2]:=by
 refine pO func182 λr h _ _=>?_;refine S4 2 J<|l5<|S3 2 J<|cA h uu J J λv1 _ h=>S2 1 J ?_;refine cN h (λhc h=>?_) λhc h=>?_
 .refine S4 2 J ?_;refine b9 ?_;cases h;exact f2
 .refine e6 ?_;refine l5<|S3 2 J<|iL h J J ah aw λv2 hv2 h=>S1 4 J<|p9 J (λhg=>om (d:=.L j5.Pv a0) J)<|p9 J (λhg=>mI J)<|p9 J (λhg=>F5 (f:=j5.Pv) (cs:=j5.Pc v2) hv2 (ct hg) (ct hg) ah aw J J)<|p9 J (λhg=>rB (ct hg) Ip J)<|p9 J (λhg=>E8 (ct hg) yi J)<|p9 J (λhg=>fH (ct hg) J)<|y0 J (K1 J J J (λq=>mL q))<|yN ?_;refine cN h (λhc h=>?_) λhc h=>?_
  .refine S4 2 J ?_;refine b9 ?_;cases h;exact f2
  .refine e6 ?_;refine S3 2 J<|y0 J (F5 (f:=j5.Pv) (cs:=j5.Pc v2) hv2 J J ah aw J J)<|S2 4 J<|b9 ?_;cases h;exact f2
theorem gN{a0}:PO prog 103 [u3.Pv a0] (Z5 a0) λr=>.tup [b6.Pv r.1,.I r.2]:=by
 refine pO func103 λr h _ _=>?_;unfold Z5 at h;refine S4 3 J<|dr [] y6 (by kernel_rfl) (by kernel_rfl)<|S7 7 J<|A6 h λv1 hv1 h=>d2 J (T0 J Ch J hv1) J<|S7 2 J<|A6 h λv2 hv2 h=>mK J (C2 J H0 J hv2) J<|S7 2 J<|E2 (x':=b6.Pv v2.1) (cl':=true) J J (.inr J) s7<|S8 1 J<|b9 ?_;cases h;exact⟨J,[_,_],⟨oL J J J w8 s7 nl J,⟨J,tr⟩⟩,J,io⟩
theorem ri{a0 a1}:PO prog 334 [.I a0,.I a1] (gi a0 a1) λr=>.fn (.func 370) [.rptr [.I r.1],.rptr [.I r.2]]:=by
 refine pO func334 λr h _ _=>?_;unfold gi at h;refine S4 3 J<|S4 2 J<|b9 ?_;cases h;exact f1
theorem ra{a0 a1}:PO prog 371 [.I a0,.I a1] (bb a0 a1) λr=>.I r:=by
 refine pO func371 λr h _ _=>?_;refine S4 1 J<|l5<|S4 2 J ?_;refine cN h (λhc h=>?_) λhc h=>?_
 .refine S4 1 J ?_;refine b9 ?_;cases h;exact f1
 .refine e6 ?_;refine S3 4 J<|A6 h λv1 hv1 h=>y0 J (wG J J hv1)<|S2 1 J<|l5<|S4 2 J ?_;refine cN h (λhc h=>?_) λhc h=>?_
  .refine S6 4 J ?_;refine S4 2 J<|b9 ?_;cases h;exact f1
  .refine e6 ?_;refine S4 2 J<|b9 ?_;cases h;exact f1
theorem lj{a0 a1}:PO prog 277 [.L b8.Pv a0,.I a1] (aa a0 a1) λr=>.I r:=by
 refine pO func277 λr h _ _=>?_;refine S4 3 J ?_;refine jq h (λ_=>St.of [(4,.ptr 2001 0 0)] [(2001,vR (.I 0) 1)]) (λq9 h=>?_) λκ8 h=>?_
 .refine S4 1 J ?_;refine b9 ?_;cases h;exact⟨J,[_],⟨oS J J J V6 J,tr⟩,J,io⟩
 .refine S3 1 J ?_;refine nL J bO<|S1 1 J<|cF h ri J J λv10 _ h=>yN<|n0<|cy (vC (λl=>if l=2004 then 4 else if l=2005 then 3 else if l=2006 then 2 else l) [(2,.ptr 2006 0 0),(3,.ptr 2005 0 0),(4,.ptr 2004 0 0),(9,.fn (.func 370) [.rptr [.I v10.1],.rptr [.I v10.2]])] [(2004,vR (.I 0) 1),(2005,vR (.I a1) 1),(2006,vR (.L b8.Pv a0) 1)]) ?_;refine dm (fn:=Tryz.f370) (N1:=20) J func370 J J nl J Gq J J (λl17 e18 o19 hR20=>?_);refine S4 2 J<|n0<|lq h (λs12=>St.of [(1000002,.ptr 2006 0 0),(1000003,.ptr 2005 0 0),(1000004,.ptr 2004 0 0),(1000009,.fn (.func 370) [.rptr [.I v10.1],.rptr [.I v10.2]]),(0,.fn (.yield l17) []),(1,.rptr [.I v10.1]),(2,.rptr [.I v10.2]),(5,.I v10.1),(6,.I s12)] [(2004,vR (.I 0) 1),(2005,vR (.I a1) 1),(2006,vR (.L b8.Pv a0) 1)]) W λs12 x13 h hx23=>S4 1 J<|l5 ?_;refine cN h (λhc h=>?_) λhc h=>?_
  .refine e6 ?_;refine l5<|n0<|S4 2 J<|Yn [] 8 y6 (by kernel_rfl) (by kernel_rfl) (by kernel_rfl) (by kernel_rfl) nl<|S7 3 J<|A6 h λv14 hv24 h=>d2 J (T0 J ra J hv24) J<|S7 3 J<|A6 h λv15 hv25 h=>d7 J (λ_ hN=>wG J J hv25) J<|bC<|Mi (WE [(1000002,.ptr 2006 0 0),(1000003,.ptr 2005 0 0),(1000004,.ptr 2004 0 0),(1000009,.fn (.func 370) [.rptr [.I v10.1],.rptr [.I v10.2]]),(0,.fn (.yield l17) []),(1,.rptr [.I v10.1]),(2,.rptr [.I v10.2]),(5,.I v10.1),(6,.I s12),(9,.fn (.yield l17) []),(16,.I v15)] [(2004,vR (.I 0) 1),(2005,vR (.I a1) 1),(2006,vR (.L b8.Pv a0) 1)]) ?_;refine xE J hR20 J J J J J J (λe26 o27 o28=>?_);refine S6 1 J ?_;refine⟨J,?_⟩;refine n0<|l5<|S3 2 J<|iL h J J bO bK λv16 hv29 h=>S2 3 J ?_;refine cN h (λhc h=>?_) λhc h=>?_
   .refine y2 ?_;refine l4<|aY (by decide) ?_;refine⟨J,?_⟩;refine⟨_,sA [(1000002,.ptr 2006 0 0),(1000003,.ptr 2005 0 0),(1000004,.ptr 2004 0 0),(1000009,.fn (.func 370) [.rptr [.I v10.1],.rptr [.I v10.2]]),(0,.fn (.yield l17) []),(1,.rptr [.I v10.1]),(2,.rptr [.I v10.2]),(5,.I v10.1),(6,.I s12),(17,.bool false)] [(2004,vR (.I 0) 1),(2005,vR (.I a1) 1),(2006,vR (.L b8.Pv a0) 1)] ⟨J,J,J,J,J,J,J,J,J,J,J,J,J,J,J,J,J,J,J,J,J,J,J,J,J,J,J,J,J,J,tr⟩ ⟨rS,rS,rS,tr⟩,?_⟩;refine S8 1 J ?_;refine F3 true J (λ_=>?_) (λq=>nomatch q);refine b9 ?_;refine .inr ⟨.exit 0,J,XZ ?_⟩;refine r8 ?_;have h:=xL hx23 h;exact eJ h (WP (λl=>if l=2001 then 2004 else l))
   .refine e6 ?_;refine dr [] y6 (by kernel_rfl) (by kernel_rfl)<|S7 2 J<|d0 J (F5 (f:=b8.Pv) (cs:=b8.Pc v16) hv29 J J bO bK J J) J<|S7 4 J<|yv J (λhg=>oS J J J An J) J<|qO J (λhg _ hN=>mI J) J ?_;refine yv J (λhg=>F5 (f:=b8.Pv) (cs:=b8.Pc v16) hv29 (ct hg) (ct hg) bO bK J J) J<|qO J (λhg _ hN=>rB (ct hg) Ir J) J ?_;refine yv J (λhg=>E8 (ct hg) V6 J) J<|yv J (λhg=>oS J J J V6 J) J<|qO J (λhg _ hN=>I3 (ct hg) (ct hg) J) J<|d7 J (λ_ hN=>E7 J J J (λq=>mM q)) J<|bC ?_;refine cN h (λhc h=>?_) λhc h=>?_
    .refine S4 2 J ?_;refine b9 ?_;refine⟨J,?_⟩;refine⟨_,sA [(1000002,.ptr 2006 0 0),(1000003,.ptr 2005 0 0),(1000004,.ptr 2004 0 0),(1000009,.fn (.func 370) [.rptr [.I v10.1],.rptr [.I v10.2]]),(0,.fn (.yield l17) []),(1,.rptr [.I v10.1]),(2,.rptr [.I v10.2]),(5,.I v10.1),(6,.I s12),(17,.bool false)] [(2004,vR (.I v15) 1),(2005,vR (.I a1) 1),(2006,vR (.L b8.Pv a0) 1)] ⟨J,J,J,J,J,J,J,J,J,J,J,J,J,J,J,J,J,J,J,J,J,J,J,J,J,J,J,J,J,J,tr⟩ ⟨rS,rS,rS,tr⟩,?_⟩;refine S8 1 J ?_;refine F3 true J (λ_=>?_) (λq=>nomatch q);refine b9 ?_;refine .inr ⟨.ret,J,Px ?_⟩;have h:=xL hx23 h;cases h;exact⟨J,[_],⟨oS J J J V6 J,tr⟩,J,io⟩
    .refine e6 ?_;refine⟨J,?_⟩;refine⟨_,sA [(1000002,.ptr 2006 0 0),(1000003,.ptr 2005 0 0),(1000004,.ptr 2004 0 0),(1000009,.fn (.func 370) [.rptr [.I v10.1],.rptr [.I v10.2]]),(0,.fn (.yield l17) []),(1,.rptr [.I v10.1]),(2,.rptr [.I v10.2]),(5,.I v10.1),(6,.I s12),(17,.bool true)] [(2004,vR (.I 0) 1),(2005,vR (.I a1) 1),(2006,vR (.L b8.Pv a0) 1)] ⟨J,J,J,J,J,J,J,J,J,J,J,J,J,J,J,J,J,J,J,J,J,J,J,J,J,J,J,J,J,J,tr⟩ ⟨rS,rS,rS,tr⟩,?_⟩;refine S8 1 J ?_;refine F3 false J (λq=>nomatch q) (λ_=>?_);refine e6<|S6 2 J ?_;exact eL h W
  .refine y2 ?_;refine l4<|l4<|r8 ?_;refine .inl ⟨J,?_⟩;have h:=xL hx23 h;exact eJ h (WP (λl=>if l=2001 then 2004 else l))
theorem iN{a0 a1}:PO prog 266 [.L b8.Pv a0,.I a1] (M4 a0 a1) λr=>.tup [.I r.1,.I r.2]:=by
 refine pO func266 λr h _ _=>?_;refine S4 2 J<|S3 2 J<|cA h lj J J λv1 _ h=>S2 1 J<|l5<|S4 2 J ?_;refine cN h (λhc h=>?_) λhc h=>?_
 .refine S4 2 J ?_;refine b9 ?_;cases h;exact f2
 .refine e6 ?_;refine S3 2 J<|iL h J J bO bK λv2 _ h=>S2 4 J<|b9 ?_;cases h;exact f2
theorem aS{a0}:Sk prog 335 [.L b8.Pv a0] (D9 a0) λr=>⟨List.map b8.Pv r,0,true,3,true⟩:=by
 refine WK func335 λr h _ _=>?_;unfold D9 at h;refine S4 1 J<|l5<|S3 1 J<|Cm J bO λb hb=>yN ?_;refine F3 b J (λhc=>?_) (λhc=>?_)
 .obtain rfl:a0 = []:=by simpa using hb hc
  refine S4 1 J<|cy (Y7 (t:=2) (l:=920000) (z:=3) J J)<|b9 ?_;cases h;exact⟨J,_,_,J,J,J,J⟩
 .refine e6 ?_;refine sR<|y0 J (wI J bO bK)<|S1 1 J<|y1 J (Dk (f:=b8.Pv) h J J (.inl ⟨_,J,J⟩) bO bK Gl uQ J (λ_=>J)) J<|S2 1 J<|b9 ?_;exact⟨J,_,_,J,J,J,J⟩
theorem lk{a0 a1 a2}:PO prog 278 [.L b8.Pv a0,.I a1,b8.Pv a2] (cr a0 a1 a2) λr=>.L b8.Pv r:=by
 refine pO func278 λr h _ _=>?_;unfold cr at h;refine S4 2 J<|S3 1 J<|A6 h λv1 hv1 h=>VB J (yP J aS J hv1) J J<|S2 1 J<|S3 3 J<|A6 h λv2 hv2 h=>y0 J (gP (f:=b8.Pv) hv2 J J J J bO bK J)<|pT (f:=b8.Pv) (v:=a2) hv2 J J (.inl J) bK<|yN<|S4 2 J<|b9 ?_;cases h;exact f1
theorem qZ{a0 a1}:PO prog 193 [.L b8.Pv a0,.I a1] (Z9 a0 a1) λr=>.tup [.L b8.Pv r.1,.I r.2.1,.I r.2.2]:=by
 refine pO func193 λr h _ _=>?_;refine S4 3 J<|S3 2 J<|cA h lj J J λv1 _ h=>S2 1 J<|l5<|S4 2 J ?_;refine cN h (λhc h=>?_) λhc h=>?_
 .refine S4 4 J ?_;refine b9 ?_;cases h;exact f3
 .refine e6 ?_;refine dr [] y6 (by kernel_rfl) (by kernel_rfl)<|S7 2 J<|d7 J (λ_ hN=>w9 (cs:=[.I 2,.I 0,.I 0]) J Gu uQ J J J) J<|A6 h λv2 hv2 h=>mK J (C2 J lk J hv2) J<|S7 2 J<|A6 h λv3 hv3 h=>d0 J (F5 (f:=b8.Pv) (cs:=b8.Pc v3) hv3 J J bO bK J J) J<|S8 5 J<|b9 ?_;cases h;exact f3
theorem CQ{a0 a1 a2}:PO prog 330 [.L b8.Pv a0,.I a1,.I a2] (gJ a0 a1 a2) λr=>.tup [.L b8.Pv r.1,.I r.2]:=by
 refine pO func330 λr h _ _=>?_;refine S4 3 J<|S3 2 J<|y0 J (w9 (cs:=[.I 1,.I a1,.I a2]) J Gu uQ J J J)<|S2 2 J<|l5<|S3 2 J<|cA h lj J J λv1 _ h=>S2 1 J<|S4 2 J ?_;refine cN h (λhc h=>?_) λhc h=>?_
 .refine S3 3 J ?_;refine cF h lk J J λv2 _ h=>S2 2 J<|b9 ?_;cases h;exact⟨J,[_,_],⟨oS J J J An J,⟨oS J J J vA J,tr⟩⟩,J,io⟩
 .refine e6 ?_;refine jq h (λ_=>St.of [(3,.ptr 2004 0 0),(6,.ptr 2003 0 0),(7,.ptr 2002 0 0)] [(2002,vR (.I 0) 1),(2003,vR (.nl) 1),(2004,vR (.L b8.Pv a0) 1)]) (λq12 h=>?_) λκ11 h=>?_
  .refine S4 3 J ?_;refine b9 ?_;cases h;exact⟨J,[_,_],⟨oS J J J An J,⟨oS J J J vA J,tr⟩⟩,J,io⟩
  .refine S3 1 J ?_;refine nL J bO<|S1 1 J<|cF h ri J J λv13 _ h=>yN<|n0<|cy (vC (λl=>if l=2005 then 8 else if l=2006 then 7 else if l=2007 then 6 else if l=2008 then 3 else l) [(3,.ptr 2008 0 0),(6,.ptr 2007 0 0),(7,.ptr 2006 0 0),(8,.ptr 2005 0 0),(26,.fn (.func 370) [.rptr [.I v13.1],.rptr [.I v13.2]])] [(2005,vR (.agg [.I 1,.I a1,.I a2]) 3),(2006,vR (.I 0) 1),(2007,vR (.nl) 1),(2008,vR (.L b8.Pv a0) 1)]) ?_;refine dm (fn:=Tryz.f370) (N1:=20) J func370 J J nl J Gq J J (λl20 e21 o22 hR23=>?_);refine S4 2 J<|n0<|lq h (λs15=>St.of [(1000003,.ptr 2008 0 0),(1000006,.ptr 2007 0 0),(1000007,.ptr 2006 0 0),(1000008,.ptr 2005 0 0),(1000026,.fn (.func 370) [.rptr [.I v13.1],.rptr [.I v13.2]]),(0,.fn (.yield l20) []),(1,.rptr [.I v13.1]),(2,.rptr [.I v13.2]),(5,.I v13.1),(6,.I s15)] [(2005,vR (.agg [.I 1,.I a1,.I a2]) 3),(2006,vR (.I 0) 1),(2007,vR (.nl) 1),(2008,vR (.L b8.Pv a0) 1)]) W λs15 x16 h hx26=>S4 1 J<|l5 ?_;refine cN h (λhc h=>?_) λhc h=>?_
   .refine e6 ?_;refine l5<|n0<|S4 2 J<|Yn [] 8 y6 (by kernel_rfl) (by kernel_rfl) (by kernel_rfl) (by kernel_rfl) nl<|S7 3 J<|A6 h λv17 hv27 h=>d2 J (T0 J ra J hv27) J<|S7 3 J<|A6 h λv18 hv28 h=>d7 J (λ_ hN=>wG J J hv28) J<|bC<|Mi (WE [(1000003,.ptr 2008 0 0),(1000006,.ptr 2007 0 0),(1000007,.ptr 2006 0 0),(1000008,.ptr 2005 0 0),(1000026,.fn (.func 370) [.rptr [.I v13.1],.rptr [.I v13.2]]),(0,.fn (.yield l20) []),(1,.rptr [.I v13.1]),(2,.rptr [.I v13.2]),(5,.I v13.1),(6,.I s15),(9,.fn (.yield l20) []),(16,.I v18)] [(2005,vR (.agg [.I 1,.I a1,.I a2]) 3),(2006,vR (.I 0) 1),(2007,vR (.nl) 1),(2008,vR (.L b8.Pv a0) 1)]) ?_;refine xE J hR23 J J J J J J (λe29 o30 o31=>?_);refine S6 1 J ?_;refine⟨J,?_⟩;refine n0<|S3 2 J<|iL h J J bO bK λv19 _ h=>S2 3 J ?_;refine cN h (λhc h=>?_) λhc h=>?_
    .refine S3 3 J ?_;refine cF h lk J J λv20 _ h=>S2 2 J<|b9 ?_;refine⟨J,?_⟩;refine⟨_,sA [(1000003,.ptr 2008 0 0),(1000006,.ptr 2007 0 0),(1000007,.ptr 2006 0 0),(1000008,.ptr 2005 0 0),(1000026,.fn (.func 370) [.rptr [.I v13.1],.rptr [.I v13.2]]),(0,.fn (.yield l20) []),(1,.rptr [.I v13.1]),(2,.rptr [.I v13.2]),(5,.I v13.1),(6,.I s15),(17,.bool false)] [(2005,vR (.agg [.I 1,.I a1,.I a2]) 3),(2006,vR (.I 0) 1),(2007,vR (.L b8.Pv v20) 1),(2008,vR (.L b8.Pv a0) 1)] ⟨J,J,J,J,J,J,J,J,J,J,J,J,J,J,J,J,J,J,J,J,J,J,J,J,J,J,J,J,J,J,J,J,J,tr⟩ ⟨rS,rS,rS,rS,tr⟩,?_⟩;refine S8 1 J ?_;refine F3 true J (λ_=>?_) (λq=>nomatch q);refine b9 ?_;refine .inr ⟨.ret,J,Px ?_⟩;have h:=xL hx26 h;cases h;exact⟨J,[_,_],⟨oS J J J An J,⟨oS J J J vA J,tr⟩⟩,J,io⟩
    .refine e6 ?_;refine⟨J,?_⟩;refine⟨_,sA [(1000003,.ptr 2008 0 0),(1000006,.ptr 2007 0 0),(1000007,.ptr 2006 0 0),(1000008,.ptr 2005 0 0),(1000026,.fn (.func 370) [.rptr [.I v13.1],.rptr [.I v13.2]]),(0,.fn (.yield l20) []),(1,.rptr [.I v13.1]),(2,.rptr [.I v13.2]),(5,.I v13.1),(6,.I s15),(17,.bool true)] [(2005,vR (.agg [.I 1,.I a1,.I a2]) 3),(2006,vR (.I 0) 1),(2007,vR (.nl) 1),(2008,vR (.L b8.Pv a0) 1)] ⟨J,J,J,J,J,J,J,J,J,J,J,J,J,J,J,J,J,J,J,J,J,J,J,J,J,J,J,J,J,J,J,J,J,tr⟩ ⟨rS,rS,rS,rS,tr⟩,?_⟩;refine S8 1 J ?_;refine F3 false J (λq=>nomatch q) (λ_=>?_);refine e6<|S6 2 J ?_;exact eL h W
   .refine y2 ?_;refine l4<|l4<|r8 ?_;refine .inl ⟨J,?_⟩;have h:=xL hx26 h;exact eJ h (WP (λl=>if l=2004 then 2008 else if l=2003 then 2007 else if l=2002 then 2006 else l))
theorem AN{a0 a1 a2}:PO prog 264 [.L b8.Pv a0,.I a1,.I a2] (P7 a0 a1 a2) λr=>.tup [.L b8.Pv r.1,.I r.2.1,.I r.2.2]:=by
 refine pO func264 λr h _ _=>?_;refine S4 3 J<|l5<|S4 2 J ?_;refine cN h (λhc h=>?_) λhc h=>?_
 .refine S4 4 J ?_;refine b9 ?_;cases h;exact f3
 .refine e6 ?_;refine S3 2 J<|cA h iN J J λv1 _ h=>S2 5 J<|l5<|S4 2 J ?_;refine cN h (λhc h=>?_) λhc h=>?_
  .refine S3 2 J ?_;refine cF h qZ J J λv2 _ h=>S2 7 J<|S4 5 J<|b9 ?_;cases h;exact f3
  .refine e6 ?_;refine S3 3 J<|cF h CQ J J λv3 _ h=>S2 5 J<|l5<|S4 2 J ?_;refine cN h (λhc h=>?_) λhc h=>?_
   .refine S4 5 J ?_;refine b9 ?_;cases h;exact f3
   .refine e6 ?_;refine S4 5 J<|b9 ?_;cases h;exact f3
theorem mN{a0 a1}:PO prog 265 [H8.Pv a0,b6.Pv a1] (Y0 a0 a1) λr=>b6.Pv r:=by
 refine pO func265 λr h _ _=>?_;unfold Y0 at h;refine S4 3 J<|S4 4 J<|S4 2 J<|b9 ?_;cases h;exact⟨J,[_],⟨oL J J J w8 s7 nl J,tr⟩,J,io⟩
theorem bU{a0 a1 a2 a3}:PO prog 257 [b6.Pv a0,.I a1,.I a2,.abs (Rm 265 [H8.Pv a3])] (J2 a0 a1 a2 a3) λr=>b6.Pv r:=by
 refine pO func257 λr h _ _=>?_;refine S4 2 J<|S3 3 J<|cF h dc J J λv1 _ h=>A6 h λv2 hv2 h=>Ck (xs:=[b6.Pv v1]) J J Om J (mN.2 _ hv2)<|S1 1 J<|cF h Z4 J J λv3 _ h=>S2 1 J<|b9 ?_;cases h;exact⟨J,[_],⟨oL J J J w8 s7 nl J,tr⟩,J,io⟩
end Go.Proofs.YtppgkaeodaaidaaGreatDoor.Ok
