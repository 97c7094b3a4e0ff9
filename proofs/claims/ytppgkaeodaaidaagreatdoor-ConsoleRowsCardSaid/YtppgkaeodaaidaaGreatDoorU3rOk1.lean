/- A part. -/
import Derived.Test.YtppgkaeodaaidaaGreatDoorU3rPwC
import Derived.Test.YtppgkaeodaaidaaGreatDoorU3rPwD
import Derived.Test.YtppgkaeodaaidaaGreatDoorSrt
import Derived.Test.YtppgkaeodaaidaaGreatDoorSrtI
import Derived.Test.YtppgkaeodaaidaaGreatDoorU3rPwE
import Derived.Test.YtppgkaeodaaidaaGreatDoorStr
import Derived.Test.YtppgkaeodaaidaaGreatDoorU3rSh
import Derived.Test.YtppgkaeodaaidaaGreatDoorProg
set_option linter.unusedVariables false
set_option linter.unusedSimpArgs false
set_option linter.unusedSectionVars false
namespace Go.Proofs.YtppgkaeodaaidaaGreatDoor.Ok
open Go Go.Pw Go.Sh Go.Proofs Tryz
set_option maxRecDepth 100000
set_option maxHeartbeats 4000000
abbrev _root_.Go.Sh.p7.Pc(x:p7):List PV:=[.I x.Serial,.I x.Strong,.I x.Weak,.I x.Prog,.bool x.Started,.L iF x.Fields]
abbrev _root_.Go.Sh.p7.Pv(x:p7):PV:=.agg x.Pc
abbrev _root_.Go.Sh.b7.Pc(x:b7):List PV:=[.I x.State,.I x.Gen,.I x.Val.Serial,.I x.Val.Strong,.I x.Val.Weak,.I x.Val.Prog,.bool x.Val.Started,.L iF x.Val.Fields]
abbrev _root_.Go.Sh.b7.Pv(x:b7):PV:=.agg x.Pc
abbrev _root_.Go.Sh.j5.Pc(x:j5):List PV:=[.I x.Target,.bool x.Intact,.I x.Call]
abbrev _root_.Go.Sh.j5.Pv(x:j5):PV:=.agg x.Pc
abbrev _root_.Go.Sh.b8.Pc(x:b8):List PV:=[.I x.State,.I x.Key,.I x.Val]
abbrev _root_.Go.Sh.b8.Pv(x:b8):PV:=.agg x.Pc
abbrev _root_.Go.Sh.n0.Pc(x:n0):List PV:=[.I x.Kind,.I x.At,.I x.Prog]
abbrev _root_.Go.Sh.n0.Pv(x:n0):PV:=.agg x.Pc
abbrev _root_.Go.Sh.e6.Pc(x:e6):List PV:=[.I x.Kind,.I x.A,.I x.B,.I x.C]
abbrev _root_.Go.Sh.e6.Pv(x:e6):PV:=.agg x.Pc
abbrev _root_.Go.Sh.s7.Pc(x:s7):List PV:=[.I x.start,.I x.end_]
abbrev _root_.Go.Sh.s7.Pv(x:s7):PV:=.agg x.Pc
abbrev _root_.Go.Sh.c5.Pc(x:c5):List PV:=[.L b7.Pv x.a8,.I x.Last]
abbrev _root_.Go.Sh.c5.Pv(x:c5):PV:=.agg x.Pc
abbrev _root_.Go.Sh.a7.Pc(x:a7):List PV:=[.L b7.Pv x.S.a8,.I x.S.Last,.I x.Serial]
abbrev _root_.Go.Sh.a7.Pv(x:a7):PV:=.agg x.Pc
abbrev _root_.Go.Sh.k7.Pc(x:k7):List PV:=[.L n0.Pv x.L,.I x.Cap]
abbrev _root_.Go.Sh.k7.Pv(x:k7):PV:=.agg x.Pc
abbrev _root_.Go.Sh.b6.Pc(x:b6):List PV:=[.L b7.Pv x.S.S.a8,.I x.S.S.Last,.I x.S.Serial,.L iF x.Roots,.L j5.Pv x.a8,.L b8.Pv x.T,.L n0.Pv x.Q.L,.I x.Q.Cap]
abbrev _root_.Go.Sh.b6.Pv(x:b6):PV:=.agg x.Pc
abbrev _root_.Go.Sh.s6.Pc(x:s6):List PV:=[.L b7.Pv x.X.S.S.a8,.I x.X.S.S.Last,.I x.X.S.Serial,.L iF x.X.Roots,.L j5.Pv x.X.a8,.L b8.Pv x.X.T,.L n0.Pv x.X.Q.L,.I x.X.Q.Cap,.L (Ls e6.Pv) x.Progs]
abbrev _root_.Go.Sh.s6.Pv(x:s6):PV:=.agg x.Pc
abbrev _root_.Go.Sh.c4.Pc(x:c4):List PV:=[.L b7.Pv x.g.X.S.S.a8,.I x.g.X.S.S.Last,.I x.g.X.S.Serial,.L iF x.g.X.Roots,.L j5.Pv x.g.X.a8,.L b8.Pv x.g.X.T,.L n0.Pv x.g.X.Q.L,.I x.g.X.Q.Cap,.L (Ls e6.Pv) x.g.Progs,.bool x.begun,.L (Ls e6.Pv) x.progs]
abbrev _root_.Go.Sh.c4.Pv(x:c4):PV:=.agg x.Pc
abbrev _root_.Go.Sh.c8.Pc(x:c8):List PV:=[AX x.takes,AX x.run,.bool x.early]
abbrev _root_.Go.Sh.c8.Pv(x:c8):PV:=.agg x.Pc
abbrev _root_.Go.Sh.k8.Pc(x:k8):List PV:=[ri x.part,.I x.least,.I x.most,.I x.e]
abbrev _root_.Go.Sh.k8.Pv(x:k8):PV:=.agg x.Pc
abbrev _root_.Go.Sh.u7.Pc(x:u7):List PV:=[.L b7.Pv x.x.S.S.a8,.I x.x.S.S.Last,.I x.x.S.Serial,.L iF x.x.Roots,.L j5.Pv x.x.a8,.L b8.Pv x.x.T,.L n0.Pv x.x.Q.L,.I x.x.Q.Cap,.I x.o.Kind,.I x.o.A,.I x.o.B,.I x.o.C]
abbrev _root_.Go.Sh.u7.Pv(x:u7):PV:=.agg x.Pc
abbrev _root_.Go.Sh.I1.Pc(x:I1):List PV:=[.I x.r,.I x.h]
abbrev _root_.Go.Sh.I1.Pv(x:I1):PV:=.agg x.Pc
abbrev _root_.Go.Sh.G8.Pc(x:G8):List PV:=[.I x.h,.I x.k,.I x.v]
abbrev _root_.Go.Sh.G8.Pv(x:G8):PV:=.agg x.Pc
abbrev _root_.Go.Sh.I0.Pc(x:I0):List PV:=[.L b8.Pv x.t]
abbrev _root_.Go.Sh.I0.Pv(x:I0):PV:=.agg x.Pc
abbrev _root_.Go.Sh.r9.Pc(x:r9):List PV:=[.I x.Key,.I x.Val]
abbrev _root_.Go.Sh.r9.Pv(x:r9):PV:=.agg x.Pc
abbrev _root_.Go.Sh.l7.Pc(x:l7):List PV:=[.L iF x.L,.I x.Cap]
abbrev _root_.Go.Sh.l7.Pv(x:l7):PV:=.agg x.Pc
abbrev _root_.Go.Sh.D5.Pc(x:D5):List PV:=[.I x.V,.I x.E]
abbrev _root_.Go.Sh.D5.Pv(x:D5):PV:=.agg x.Pc
def pZ(t:Nat):Nat:=if t=99 then 4 else if t=103 then 0 else if t=107 then 1 else 0
theorem R7:J1 prog 3=some false:=by kernel_rfl
theorem ym:J1 prog 4=some false:=by kernel_rfl
theorem cR:J1 prog 9=some false:=by kernel_rfl
theorem vF:J1 prog 27=some false:=by kernel_rfl
theorem kO:J1 prog 29=some true:=by kernel_rfl
theorem SC:J1 prog 38=some false:=by kernel_rfl
theorem fv:J1 prog 40=some true:=by kernel_rfl
theorem kP:J1 prog 42=some true:=by kernel_rfl
theorem Ez:J1 prog 43=some false:=by kernel_rfl
theorem SD:J1 prog 44=some false:=by kernel_rfl
theorem Av:J1 prog 45=some false:=by kernel_rfl
theorem jk:J1 prog 48=some true:=by kernel_rfl
theorem w9:J1 prog 50=some true:=by kernel_rfl
theorem mZ:J1 prog 53=some true:=by kernel_rfl
theorem cQ:J1 prog 63=some true:=by kernel_rfl
theorem Aw:J1 prog 92=some true:=by kernel_rfl
theorem Gp:J1 prog 115=some true:=by kernel_rfl
theorem Of:J1 prog 120=some true:=by kernel_rfl
theorem Og:J1 prog 121=some false:=by kernel_rfl
theorem Oi:J1 prog 124=some true:=by kernel_rfl
theorem Oj:J1 prog 142=some false:=by kernel_rfl
theorem qJ:J1 prog 168=some true:=by kernel_rfl
theorem fO:J1 prog 199=some true:=by kernel_rfl
theorem cP:J1 prog 205=some true:=by kernel_rfl
theorem Gq:J1 prog 290=some false:=by kernel_rfl
theorem ot:J1 prog 450=some true:=by kernel_rfl
theorem X5:K9 prog 3=some 8:=by kernel_rfl
theorem JQ:K9 prog 9=some 16:=by kernel_rfl
theorem SE:K9 prog 92=some 32:=by kernel_rfl
theorem Ax:K9 prog 120=some 16:=by kernel_rfl
theorem Ol:K9 prog 142=some 24:=by kernel_rfl
theorem Gr:K9 prog 202=some 24:=by kernel_rfl
theorem Om:K9 prog 205=some 24:=by kernel_rfl
theorem Gs:K9 prog 224=some 80:=by kernel_rfl
theorem Gt:K9 prog 371=some 24:=by kernel_rfl
theorem Gu:K9 prog 471=some 16:=by kernel_rfl
theorem D1:A8 prog 24=some 9:=by kernel_rfl
theorem EA:A8 prog 37=some 43:=by kernel_rfl
theorem V7:A8 prog 38=some 224:=by kernel_rfl
theorem o7:A8 prog 43=some 3:=by kernel_rfl
theorem ah:A8 prog 44=some 202:=by kernel_rfl
theorem bO:A8 prog 45=some 371:=by kernel_rfl
theorem na:A8 prog 46=some 205:=by kernel_rfl
theorem gy:A8 prog 51=some 142:=by kernel_rfl
theorem iE:A8 prog 118=some 120:=by kernel_rfl
theorem iG:A8 prog 142=some 92:=by kernel_rfl
theorem aW:A8 prog 193=some 199:=by kernel_rfl
theorem kQ:A8 prog 468=some 471:=by kernel_rfl
theorem JR:bT prog 40 0=some (0,38):=by kernel_rfl
theorem CD:bT prog 50 1=some (3,43):=by kernel_rfl
theorem JS:bT prog 50 2=some (4,44):=by kernel_rfl
theorem JT:bT prog 50 4=some (6,48):=by kernel_rfl
theorem JU:bT prog 92 0=some (0,3):=by kernel_rfl
theorem It:bT prog 124 0=some (0,121):=by kernel_rfl
theorem Iu:bT prog 124 2=some (2,4):=by kernel_rfl
theorem Iv:bT prog 168 1=some (1,3):=by kernel_rfl
theorem Iw:bT prog 168 2=some (2,3):=by kernel_rfl
theorem yn:bT prog 168 4=some (4,4):=by kernel_rfl
theorem Ix:bT prog 199 2=some (2,3):=by kernel_rfl
theorem yo:bT prog 202 0=some (0,3):=by kernel_rfl
theorem Iy:bT prog 202 1=some (1,4):=by kernel_rfl
theorem yp:bT prog 224 0=some (0,3):=by kernel_rfl
theorem Iz:bT prog 224 2=some (2,168):=by kernel_rfl
theorem IA:bT prog 371 1=some (1,3):=by kernel_rfl
theorem IB:bT prog 471 0=some (0,3):=by kernel_rfl
theorem yq:bT prog 471 1=some (1,3):=by kernel_rfl
theorem Rx:Nx prog 3=some .i64:=by kernel_rfl
theorem SF:y3 prog 21:=kC func21 J
theorem EC:y3 prog 28:=kC func28 J
theorem SG:y3 prog 69:=kC func69 J
theorem SH:y3 prog 75:=kC func75 J
theorem SI:y3 prog 76:=kC func76 J
theorem SJ:y3 prog 78:=kC func78 J
theorem SK:y3 prog 80:=kC func80 J
theorem SM:y3 prog 81:=kC func81 J
theorem SN:y3 prog 82:=kC func82 J
theorem Gv:y3 prog 119:=kC func119 J
theorem On:y3 prog 126:=kC func126 J
theorem Oo:y3 prog 127:=kC func127 J
theorem Oq:y3 prog 129:=kC func129 J
theorem Ot:y3 prog 137:=kC func137 J
theorem Ou:y3 prog 138:=kC func138 J
theorem Ov:y3 prog 212:=kC func212 J
theorem Ow:y3 prog 258:=kC func258 J
theorem Ox:y3 prog 265:=kC func265 J
theorem Oy:y3 prog 276:=kC func276 J
theorem Oz:y3 prog 287:=kC func287 J
theorem OA:y3 prog 298:=kC func298 J
theorem OB:y3 prog 367:=kC func367 J
theorem OC:y3 prog 369:=kC func369 J
theorem Gw:y3 prog 370:=kC func370 J
theorem Gx:y3 prog 373:=kC func373 J
theorem OD:y3 prog 406:=kC func406 J
theorem Gy:y3 prog 407:=kC func407 J
theorem J9:px prog 126=some (9,124):=by kernel_rfl
theorem aF:px prog 151=some (3,149):=by kernel_rfl
theorem V8:px prog 195=some (3,193):=by kernel_rfl
theorem vG:px prog 222=some (3,3):=by kernel_rfl
theorem eO:px prog 290=some (3,4):=by kernel_rfl
theorem SO:E7 prog 29=some (λi=>(#[(0,1),(1,1)]:Array (Nat × Nat))[i]?):=by kernel_rfl
theorem JV:E7 prog 40=some (λi=>(#[(0,1),(1,1)]:Array (Nat × Nat))[i]?):=by kernel_rfl
theorem JW:E7 prog 42=some (λi=>(#[(0,2),(2,1)]:Array (Nat × Nat))[i]?):=by kernel_rfl
theorem SP:E7 prog 48=some (λi=>(#[(0,1),(1,1)]:Array (Nat × Nat))[i]?):=by kernel_rfl
theorem JX:E7 prog 50=some (λi=>(#[(0,3),(3,1),(4,1),(5,1),(6,2)]:Array (Nat × Nat))[i]?):=by kernel_rfl
theorem ED:E7 prog 53=some (λi=>(#[(0,8),(8,1)]:Array (Nat × Nat))[i]?):=by kernel_rfl
theorem Az:E7 prog 92=some (λi=>(#[(0,1),(1,1),(2,1),(3,1)]:Array (Nat × Nat))[i]?):=by kernel_rfl
theorem SQ:E7 prog 99=some (λi=>(#[(0,4)]:Array (Nat × Nat))[i]?):=by kernel_rfl
theorem OE:E7 prog 103=some (λi=>(#[]:Array (Nat × Nat))[i]?):=by kernel_rfl
theorem OF:E7 prog 107=some (λi=>(#[(0,1)]:Array (Nat × Nat))[i]?):=by kernel_rfl
theorem Gz:E7 prog 120=some (λi=>(#[(0,1),(1,1)]:Array (Nat × Nat))[i]?):=by kernel_rfl
theorem ou:E7 prog 124=some (λi=>(#[(0,1),(1,1),(2,1)]:Array (Nat × Nat))[i]?):=by kernel_rfl
theorem OG:E7 prog 155=some (λi=>(#[(0,8),(8,4)]:Array (Nat × Nat))[i]?):=by kernel_rfl
theorem OH:E7 prog 168=some (λi=>(#[(0,1),(1,1),(2,1),(3,1),(4,1),(5,1)]:Array (Nat × Nat))[i]?):=by kernel_rfl
theorem cS:E7 prog 199=some (λi=>(#[(0,1),(1,1),(2,1),(3,1)]:Array (Nat × Nat))[i]?):=by kernel_rfl
theorem OI:E7 prog 202=some (λi=>(#[(0,1),(1,1),(2,1)]:Array (Nat × Nat))[i]?):=by kernel_rfl
theorem Ay:E7 prog 205=some (λi=>(#[(0,1),(1,1),(2,1)]:Array (Nat × Nat))[i]?):=by kernel_rfl
theorem uV:E7 prog 224=some (λi=>(#[(0,1),(1,1),(2,6)]:Array (Nat × Nat))[i]?):=by kernel_rfl
theorem OJ:E7 prog 348=some (λi=>(#[(0,1),(1,1),(2,1)]:Array (Nat × Nat))[i]?):=by kernel_rfl
theorem OK:E7 prog 356=some (λi=>(#[(0,1)]:Array (Nat × Nat))[i]?):=by kernel_rfl
theorem GA:E7 prog 371=some (λi=>(#[(0,1),(1,1),(2,1)]:Array (Nat × Nat))[i]?):=by kernel_rfl
theorem OL:E7 prog 376=some (λi=>(#[(0,1)]:Array (Nat × Nat))[i]?):=by kernel_rfl
theorem OM:E7 prog 388=some (λi=>(#[(0,1),(1,1)]:Array (Nat × Nat))[i]?):=by kernel_rfl
theorem ON:E7 prog 450=some (λi=>(#[(0,1),(1,1)]:Array (Nat × Nat))[i]?):=by kernel_rfl
theorem GB:E7 prog 471=some (λi=>(#[(0,1),(1,1)]:Array (Nat × Nat))[i]?):=by kernel_rfl
theorem JY:qp prog 99=true:=by kernel_rfl
theorem GC:qp prog 103=true:=by kernel_rfl
theorem GD:qp prog 107=true:=by kernel_rfl
theorem AA:Ch prog 115=some (4,3):=by kernel_rfl
theorem u5:u6 prog 3=some 1:=by kernel_rfl
theorem VR:u6 prog 4=some 1:=by kernel_rfl
theorem M3:u6 prog 9=some 1:=by kernel_rfl
theorem dQ:u6 prog 29=some 2:=by kernel_rfl
theorem cT:u6 prog 40=some 2:=by kernel_rfl
theorem kS:u6 prog 42=some 3:=by kernel_rfl
theorem AB:u6 prog 43=some 1:=by kernel_rfl
theorem JZ:u6 prog 46=some 1:=by kernel_rfl
theorem cU:u6 prog 48=some 2:=by kernel_rfl
theorem u3:u6 prog 50=some 8:=by kernel_rfl
theorem bP:u6 prog 53=some 9:=by kernel_rfl
theorem Q1:u6 prog 63=some 11:=by kernel_rfl
theorem kU:u6 prog 92=some 4:=by kernel_rfl
theorem OO:u6 prog 103=some 0:=by kernel_rfl
theorem GF:u6 prog 115=some 4:=by kernel_rfl
theorem kR:u6 prog 120=some 2:=by kernel_rfl
theorem GG:u6 prog 124=some 3:=by kernel_rfl
theorem fP:u6 prog 142=some 1:=by kernel_rfl
theorem iH:u6 prog 168=some 6:=by kernel_rfl
theorem L3:u6 prog 199=some 4:=by kernel_rfl
theorem aw:u6 prog 202=some 3:=by kernel_rfl
theorem N5:u6 prog 205=some 3:=by kernel_rfl
theorem U9:u6 prog 224=some 8:=by kernel_rfl
theorem bJ:u6 prog 371=some 3:=by kernel_rfl
theorem iI:u6 prog 450=some 2:=by kernel_rfl
theorem qK:u6 prog 471=some 2:=by kernel_rfl
theorem M4:prog.underlying 3=some (.int .i64):=by kernel_rfl
theorem VS:prog.underlying 5=some (.int .u8):=by kernel_rfl
theorem K0:prog.underlying 9=some (.string):=by kernel_rfl
theorem SS:prog.underlying 21=some (.int .i32):=by kernel_rfl
theorem F6:A5 prog 3=some ((.I 0)):=by kernel_rfl
theorem CE:A5 prog 4=some ((.bool false)):=by kernel_rfl
theorem vH:A5 prog 9=some ((.string ByteArray.empty)):=by kernel_rfl
theorem SU:A5 prog 29=some ((.agg #[(.I 0),(.I 0)])):=by kernel_rfl
theorem Ka:A5 prog 40=some ((.agg #[(.slice none 0 0),(.I 0)])):=by kernel_rfl
theorem Kb:A5 prog 42=some ((.agg #[(.slice none 0 0),(.I 0),(.I 0)])):=by kernel_rfl
theorem SV:A5 prog 48=some ((.agg #[(.slice none 0 0),(.I 0)])):=by kernel_rfl
theorem Kc:A5 prog 50=some ((.agg #[(.slice none 0 0),(.I 0),(.I 0),(.slice none 0 0),(.slice none 0 0),(.slice none 0 0),(.slice none 0 0),(.I 0)])):=by kernel_rfl
theorem EE:A5 prog 53=some ((.agg #[(.slice none 0 0),(.I 0),(.I 0),(.slice none 0 0),(.slice none 0 0),(.slice none 0 0),(.slice none 0 0),(.I 0),(.slice none 0 0)])):=by kernel_rfl
theorem sQ:A5 prog 92=some ((.agg #[(.I 0),(.I 0),(.I 0),(.I 0)])):=by kernel_rfl
theorem Kd:A5 prog 99=some ((.agg #[(.I 0),(.I 0),(.I 0),(.I 0)])):=by kernel_rfl
theorem GH:A5 prog 103=some ((.agg #[])):=by kernel_rfl
theorem GI:A5 prog 107=some ((.agg #[(.I 0)])):=by kernel_rfl
theorem kV:A5 prog 120=some ((.agg #[(.I 0),(.I 0)])):=by kernel_rfl
theorem kW:A5 prog 124=some ((.agg #[.nilFunc,.nilFunc,(.bool false)])):=by kernel_rfl
theorem OP:A5 prog 142=some ((.slice none 0 0)):=by kernel_rfl
theorem OQ:A5 prog 149=some (.nilFunc):=by kernel_rfl
theorem OR:A5 prog 155=some ((.agg #[(.slice none 0 0),(.I 0),(.I 0),(.slice none 0 0),(.slice none 0 0),(.slice none 0 0),(.slice none 0 0),(.I 0),(.I 0),(.I 0),(.I 0),(.I 0)])):=by kernel_rfl
theorem OS:A5 prog 168=some ((.agg #[(.I 0),(.I 0),(.I 0),(.I 0),(.bool false),(.slice none 0 0)])):=by kernel_rfl
theorem OT:A5 prog 193=some ((.slice none 0 0)):=by kernel_rfl
theorem J6:A5 prog 199=some ((.agg #[.nilFunc,(.I 0),(.I 0),(.I 0)])):=by kernel_rfl
theorem AD:A5 prog 202=some ((.agg #[(.I 0),(.bool false),(.I 0)])):=by kernel_rfl
theorem qL:A5 prog 205=some ((.agg #[(.I 0),(.I 0),(.I 0)])):=by kernel_rfl
theorem ov:A5 prog 224=some ((.agg #[(.I 0),(.I 0),(.I 0),(.I 0),(.I 0),(.I 0),(.bool false),(.slice none 0 0)])):=by kernel_rfl
theorem OU:A5 prog 348=some ((.agg #[(.I 0),(.I 0),(.I 0)])):=by kernel_rfl
theorem OV:A5 prog 356=some ((.agg #[(.slice none 0 0)])):=by kernel_rfl
theorem uW:A5 prog 371=some ((.agg #[(.I 0),(.I 0),(.I 0)])):=by kernel_rfl
theorem OW:A5 prog 376=some ((.agg #[.nilFunc])):=by kernel_rfl
theorem OX:A5 prog 388=some ((.agg #[(.I 0),(.I 0)])):=by kernel_rfl
theorem OY:A5 prog 450=some ((.agg #[(.slice none 0 0),(.I 0)])):=by kernel_rfl
theorem ow:A5 prog 471=some ((.agg #[(.I 0),(.I 0)])):=by kernel_rfl
theorem y5:prog.follows .mixedOrders=true:=by kernel_rfl
def tb:TB:=⟨[((29,0),(0,3)),((29,1),(1,27)),((40,0),(0,38)),((40,1),(1,3)),((42,0),(0,40)),((42,1),(2,3)),((48,0),(0,46)),((48,1),(1,3)),((50,0),(0,42)),((50,1),(3,43)),((50,2),(4,44)),((50,3),(5,45)),((50,4),(6,48)),((53,0),(0,50)),((53,1),(8,51)),((63,0),(0,53)),((63,1),(9,4)),((63,2),(10,51)),((92,0),(0,3)),((92,1),(1,3)),((92,2),(2,3)),((92,3),(3,3)),((99,0),(0,92)),((107,0),(0,3)),((120,0),(0,3)),((120,1),(1,3)),((124,1),(1,122)),((155,0),(0,50)),((155,1),(8,92)),((168,0),(0,3)),((168,1),(1,3)),((168,2),(2,3)),((168,3),(3,3)),((168,4),(4,4)),((168,5),(5,43)),((199,0),(0,197)),((199,1),(1,3)),((199,3),(3,27)),((202,0),(0,3)),((202,1),(1,4)),((202,2),(2,3)),((205,0),(0,3)),((205,1),(1,3)),((205,2),(2,3)),((224,0),(0,3)),((224,1),(1,3)),((224,2),(2,168)),((348,0),(0,3)),((348,1),(1,3)),((348,2),(2,3)),((356,0),(0,45)),((371,0),(0,3)),((371,1),(1,3)),((371,2),(2,3)),((376,0),(0,374)),((388,0),(0,3)),((388,1),(1,3)),((450,0),(0,43)),((450,1),(1,3)),((471,0),(0,3)),((471,1),(1,3))],[(3,false),(4,false),(9,false),(27,false),(29,true),(38,false),(40,true),(42,true),(43,false),(44,false),(45,false),(46,false),(48,true),(50,true),(51,false),(53,true),(63,true),(92,true),(115,true),(122,false),(142,false),(155,true),(168,true),(197,false),(199,true),(202,true),(205,true),(222,false),(224,true),(290,false),(371,true),(374,false),(376,true),(450,true),(468,false),(471,true),(479,false)],[(3,1),(4,1),(27,1),(29,2),(38,1),(40,2),(42,3),(43,1),(44,1),(45,1),(48,2),(50,8),(51,1),(53,9),(63,11),(92,4),(99,4),(107,1),(115,4),(120,2),(124,3),(155,12),(168,6),(199,4),(202,3),(205,3),(222,1),(224,8),(290,1),(371,3),(376,1),(450,2),(468,1),(471,2)],[(3,.I 0),(4,.bool false),(27,.I 0),(29,.agg [.I 0,.I 0]),(40,.agg [.lst true (List.map b7.Pv []),.I 0]),(42,.agg [.lst true (List.map b7.Pv []),.I 0,.I 0]),(43,.lst true (List.map iF [])),(45,.lst true (List.map b8.Pv [])),(48,.agg [.lst true (List.map n0.Pv []),.I 0]),(50,.agg [.lst true (List.map b7.Pv []),.I 0,.I 0,.lst true (List.map iF []),.lst true (List.map j5.Pv []),.lst true (List.map b8.Pv []),.lst true (List.map n0.Pv []),.I 0]),(53,.agg [.lst true (List.map b7.Pv []),.I 0,.I 0,.lst true (List.map iF []),.lst true (List.map j5.Pv []),.lst true (List.map b8.Pv []),.lst true (List.map n0.Pv []),.I 0,.lst true (List.map (Ls e6.Pv) [])]),(63,.agg [.lst true (List.map b7.Pv []),.I 0,.I 0,.lst true (List.map iF []),.lst true (List.map j5.Pv []),.lst true (List.map b8.Pv []),.lst true (List.map n0.Pv []),.I 0,.lst true (List.map (Ls e6.Pv) []),.bool false,.lst true (List.map (Ls e6.Pv) [])]),(92,.agg [.I 0,.I 0,.I 0,.I 0]),(99,.agg [.I 0,.I 0,.I 0,.I 0]),(103,.agg []),(107,.agg [.I 0]),(115,.agg [.I 0,.I 0,.I 0,.I 0]),(120,.agg [.I 0,.I 0]),(124,.agg [.nilfn,.nilfn,.bool false]),(168,.agg [.I 0,.I 0,.I 0,.I 0,.bool false,.lst true (List.map iF [])]),(199,.agg [.nilfn,.I 0,.I 0,.I 0]),(202,.agg [.I 0,.bool false,.I 0]),(205,.agg [.I 0,.I 0,.I 0]),(222,.abs Ew),(224,.agg [.I 0,.I 0,.I 0,.I 0,.I 0,.I 0,.bool false,.lst true (List.map iF [])]),(290,.abs Ew),(371,.agg [.I 0,.I 0,.I 0]),(376,.agg [.nilfn]),(450,.agg [.lst true (List.map iF []),.I 0]),(468,.lst true (List.map r9.Pv [])),(471,.agg [.I 0,.I 0])]⟩
theorem Tb:TB.Ok prog tb:=⟨by kernel_rfl,by kernel_rfl,by kernel_rfl,by kernel_rfl⟩
section
variable{X:Ctx}{ops:Array Oper}{K:Ctx->St->Prop}{i n:Nat}{l l':List Oper}{env env':Nat->PV}{σ σ':Nat->Option Row}{Q:PX->Ctx->St->Prop}{y:Code}{KD:St->Prop}{bar:List Nat}
theorem S1(n:Nat)(h:run tb n l env σ=some (l',env',σ'))(k:Sq X ops (i+n) l' K ⟨env',σ'⟩)(hb:TB.Ok X.P tb:=by exact Tb):Sq X ops i l K ⟨env,σ⟩:=Vc hb n h k
theorem S2(n:Nat)(h:run tb n l env σ=some ([],env',σ'))(k:K X ⟨env',σ'⟩)(hb:TB.Ok X.P tb:=by exact Tb):Sq X ops i l K ⟨env,σ⟩:=Vc hb n h (yN k)
theorem S3{id:Nat}(n:Nat)(h:run tb n l env σ=some (l',env',σ'))(k:Sq X l.toArray (0+n) l' (λX' s=>X4 X' y Q s) ⟨env',σ'⟩)(hd:eV X.N l.toArray=true:=by kernel_rfl)(hb:TB.Ok X.P tb:=by exact Tb):X4 X (.seq (.region id l.toArray false) y) Q ⟨env,σ⟩:=sr hd (Vc hb n h k)
theorem S4{id:Nat}(n:Nat)(h:run tb n l env σ=some ([],env',σ'))(k:X4 X y Q ⟨env',σ'⟩)(hd:eV X.N l.toArray=true:=by kernel_rfl)(hb:TB.Ok X.P tb:=by exact Tb):X4 X (.seq (.region id l.toArray false) y) Q ⟨env,σ⟩:=sr hd (Vc hb n h (yN k))
theorem S5{id:Nat}(n:Nat)(h:run tb n l env σ=some (l',env',σ'))(k:Sq X l.toArray (0+n) l' (Q .normal) ⟨env',σ'⟩)(hd:eV X.N l.toArray=true:=by kernel_rfl)(hb:TB.Ok X.P tb:=by exact Tb):X4 X (.region id l.toArray false) Q ⟨env,σ⟩:=Sj hd (Vc hb n h k)
theorem S6{id:Nat}(n:Nat)(h:run tb n l env σ=some ([],env',σ'))(k:Q .normal X ⟨env',σ'⟩)(hd:eV X.N l.toArray=true:=by kernel_rfl)(hb:TB.Ok X.P tb:=by exact Tb):X4 X (.region id l.toArray false) Q ⟨env,σ⟩:=Sj hd (Vc hb n h (yN k))
theorem S7(n:Nat)(h:QP tb bar n i l env σ=some (l',env',σ'))(k:Ex X.P ops bar true (i+n) l' ⟨env',σ'⟩ KD)(hb:TB.Ok X.P tb:=by exact Tb):Ex X.P ops bar true i l ⟨env,σ⟩ KD:=dG hb n h k
theorem S8(n:Nat)(h:QP tb bar n i l env σ=some ([],env',σ'))(k:KD ⟨env',σ'⟩)(hb:TB.Ok X.P tb:=by exact Tb):Ex X.P ops bar true i l ⟨env,σ⟩ KD:=dG hb n h k
end
theorem Vf:Au prog (Tryz.sortF_ren.f 6):=Jz Tryz.sortF
theorem QW:uU prog (Tryz.sortI_ren.f 5):=Ga Tryz.sortI
theorem Lz{n:Int}{r:ByteArray}(h:nV n=some r):N9 prog 28 [.I n] (.str r):=
 Qv (P:=prog) (ρ:=Tryz.itoaL_ren) Tryz.itoaL (by rw[show prog.globalNamed (DZ prog)=some Xk by kernel_rfl];exact nofun) (λw hT n h0 h1=>Any.strconv_Itoa Tryz.itoaL n h0 h1 w (cast (by kernel_rfl) hT)) h
theorem Vg{s sep:ByteArray}{xs:List ByteArray}(h:tT s sep=some xs):N9 prog 21 [.str s,.str sep] (.lst false (xs.map PV.str)):=
 Mz (P:=prog) (ρ:=Tryz.splitL_ren) Tryz.splitL (by kernel_rfl) (by kernel_rfl) h
theorem ql{a0}:PO prog 23 [.int .i32 a0] (Z1 a0) λr=>.bool r:=by
 refine pO func23 λr h _ _=>?_;unfold Z1 at h;refine S4 1 J<|S3 3 J<|r8 J (λhg=>om (d:=.int .i32 a0) J)<|r8 J (λhg=>H3 (ct hg) J J)<|y0 J (I5 J J J (λq=>ln q))<|S1 1 J<|r8 J (λhg=>om (d:=.int .i32 a0) J)<|r8 J (λhg=>H3 (ct hg) J J)<|y0 J (I5 J J J (λq=>ln q))<|S2 1 J<|b9 ?_;cases h;exact f1
theorem aS{a0}:PO prog 22 [.str a0,.fn (.func 23) []] (D6 a0) λr=>.L PV.str r:=by
 refine pO func22 λr h _ _=>?_;refine S4 1 J<|sR<|Xs (m:=32) J J nl J J iE kR kV Ax nl nl<|S2 1 J<|S4 1 J ?_;refine jq h (λq=>St.of [(0,.str a0),(5,.sl 12),(6,.I q.1)] [(12,⟨List.map s7.Pv q.2,(List.map s7.Pv q.2).length,true,2,true⟩)]) (λq12 h=>?_) λκ9 h=>?_
 .obtain⟨j10,j11⟩:=q12;refine jq h (λj15=>St.of [(0,.str a0),(5,.sl 43)] [(43,⟨List.map s7.Pv j15,(List.map s7.Pv j15).length,true,2,true⟩)]) (λj15 h=>?_) λκ14 h=>?_
  .refine S3 1 J ?_;refine y0 J (yW (f:=s7.Pv) J J J iE)<|A0 h λv16 hv10 h=>y1 J (wO (f:=PV.str) hv10 J J J D1 M3 vH JQ J J J) J<|S2 1 J ?_;refine jq h (λj26=>St.of [(9,.sl 46)] [(46,⟨List.map PV.str j26,0,true,1,true⟩)]) (λj26 h=>?_) λκ25 h=>?_
   .refine S4 2 J ?_;refine b9 ?_;cases h;exact f1
   .refine S3 1 J ?_;refine y0 J (yW (f:=s7.Pv) J J J iE)<|S2 1 J<|l6<|lq h (λq=>St.of [(0,.str a0),(9,.sl 46),(47,.sl 43),(48,.I (j15.length:Int)),(49,.I q.1)] [(43,⟨List.map s7.Pv j15,(List.map s7.Pv j15).length,true,2,true⟩),(46,⟨List.map PV.str q.2,0,true,1,true⟩)]) (Wk.trans (u4 _ [43]) W) λq31 x30 h hx20=>?_;obtain⟨s28,s29⟩:=q31;refine S4 1 J<|l5 ?_;refine cN h (λhc h=>?_) λhc h=>?_
    .refine c9 ?_;refine l5<|l6<|S3 1 J<|A0 h λv32 hv21 h=>y0 J (fg (f:=s7.Pv) hv21 J J J J iE kR J)<|y0 J (WN (f:=s7.Pv) (cs:=s7.Pc v32) hv21 J J J Of kR nl J)<|S2 3 J<|S5 7 J<|A0 h λv33 hv22 h=>y0 J (Bs hv22 J ⟨_,J⟩ ⟨_,J⟩ K0)<|A0 h λv34 hv23 h=>y0 J (fg (f:=PV.str) hv23 J J J J D1 M3 J)<|og (f:=PV.str) (v:=v33) hv23 J J (.inl J) M3<|yN<|S6 2 J ?_;exact eL h (Wk.trans (u4 _ [43]) W)
    .refine x8 ?_;refine l4<|l4<|r7 ?_;have h:=xL hx20 h;exact eJ h W
  .refine S4 2 J ?_;refine cN h (λhc h=>?_) λhc h=>?_
   .refine S5 3 J ?_;refine y0 J (Ur J K0 J)<|y0 J (x6 (cs:=[.I j10,.I (a0.size:Int)]) J Gz kV J J J)<|y0 J (Y4 (f:=s7.Pv) (l:=[(⟨j10,(a0.size:Int)⟩:s7)]) J iE kR kV J J nl J J)<|A0 h λv35 hv24 h=>bn J (aD (f:=s7.Pv) hv24 J J J J J J (.inl ⟨_,J,J⟩) iE kR Ax kV J (λ_=>J)) J J J<|S2 1 J ?_;exact eJ h (Wk.trans (u4 _ [43]) W)
   .refine c9 ?_;exact eJ h (Wk.trans (u4 _ [12]) (WP (λl=>if l=43 then 12 else l)))
 .refine S3 1 J ?_;refine NP 5000014 J J K0 J<|yN<|l6<|lq h (λq=>St.of [(0,.str a0),(1,.fn (.func 23) []),(5,.sl 12),(6,.I q.1),(14,.ptr 5000014 0 0)] [(5000014,VH a0 q.2.1),(12,⟨List.map s7.Pv q.2.2,(List.map s7.Pv q.2.2).length,true,2,true⟩)]) (Wk.trans (u4 _ [12]) W) λq41 x40 h hx27=>?_;obtain⟨s37,s38,s39⟩:=q41;refine sR ?_;refine Sy J J J (λhc28=>?_) (λhc28=>?_)
  .have h:=NX h (zA hc28);refine S2 1 J<|l5 ?_;refine F5 true J (λ_=>?_) (λq=>nomatch q);refine c9<|l6<|S4 4 J<|S3 2 J<|cA h ql J J λv42 _ h=>yN ?_;refine cN h (λhc h=>?_) λhc h=>?_
   .refine S4 2 J ?_;refine cN h (λhc h=>?_) λhc h=>?_
    .refine S3 3 J ?_;refine y0 J (x6 (cs:=[.I s37,.I ((s38:Nat):Int)]) J Gz kV J J J)<|y0 J (Y4 (f:=s7.Pv) (l:=[(⟨s37,((s38:Nat):Int)⟩:s7)]) J iE kR kV J J nl J J)<|A0 h λv43 hv30 h=>bn J (aD (f:=s7.Pv) hv30 J J J J J J (.inl ⟨_,J,J⟩) iE kR Ax kV J (λ_=>J)) J J J<|S2 1 J<|S5 1 J<|y0 J (Us J J J)<|S2 1 J ?_;exact eL h (Wk.trans (u4 _ [29]) (WP (λl=>if l=12 then 29 else l)))
    .refine c9 ?_;exact eL h (Wk.trans (u4 _ [12]) W)
   .refine S4 2 J ?_;refine cN h (λhc h=>?_) λhc h=>?_
    .refine S6 2 J ?_;exact eL h (Wk.trans (u4 _ [12]) W)
    .refine c9 ?_;exact eL h (Wk.trans (u4 _ [12]) W)
  .have h:=NW h (zI hc28);refine S2 1 J<|l5 ?_;refine F5 false J (λq=>nomatch q) (λ_=>?_);refine x8<|l4<|l4<|r7 ?_;have h:=xL hx27 h;exact eJ h (Wk.trans (u4 _ [12]) W)
theorem Q3{a0}:PO prog 77 [.I a0] (Z0 a0) λr=>.fn (.func 137) [.rptr [.I r]]:=by
 refine pO func77 λr h _ _=>?_;unfold Z0 at h;refine S4 2 J<|S4 2 J<|b9 ?_;cases h;exact f1
theorem A2{a0 a1}:PO prog 79 [.I a0,.I a1] (B5 a0 a1) λr=>c8.Pv r:=by
 refine pO func79 λr h _ _=>?_;refine S4 2 J<|S3 1 J<|cF h Q3 J J λv1 _ h=>S1 1 J<|N4 (Su 7 J)<|y0 J (x6 (cs:=[.fn (.func 137) [.rptr [.I v1]],.fn (.func 138) [.rptr [.I a0]],.bool false]) J ou kW J J J)<|N4 (Ao 8 (d':=.agg [AX (some (137,some v1)),AX (some (138,some a0)),.bool false]) J J)<|S2 1 J<|b9 ?_;cases h;exact⟨J,[_],⟨oL J J J Oi GG nl J,tr⟩,J,io⟩
theorem pj:PO prog 42 [] (dU) λr=>.abs (V6 (List.map (fU PV.str c8.Pv) r)):=by
 refine pO func42 λr h _ _=>?_;refine S4 1 J<|sR<|Aq (KT:=ByteArray) (VT:=c8) (EK:=PV.str) (E:=c8.Pv) 5000001 J J<|y0 J (x6 (cs:=[.fn (.func 75) [],.fn (.func 76) [],.bool true]) J ou kW J J J)<|N4 (Ao 2 (d':=.agg [AX (some (75,none)),AX (some (76,none)),.bool true]) J J)<|G0 (es:=[]) (k:=(p8 [112,114,111,103])) (v:=(⟨(some (75,none)),(some (76,none)),true⟩:c8)) (E:=c8.Pv) (EK:=PV.str) (.inr J) J J J J J J J9 (K3 K0)<|cF h Q3 J J λv1 _ h=>y0 J (x6 (cs:=[.fn (.func 137) [.rptr [.I v1]],.fn (.func 78) [],.bool true]) J ou kW J J J)<|N4 (Ao 4 (d':=.agg [AX (some (137,some v1)),AX (some (78,none)),.bool true]) J J)<|G0 (es:=(o5 [] (p8 [112,114,111,103]) (⟨(some (75,none)),(some (76,none)),true⟩:c8))) (k:=(p8 [104,101,97,112])) (v:=(⟨(some (137,some v1)),(some (78,none)),true⟩:c8)) (E:=c8.Pv) (EK:=PV.str) (.inr J) J J J J J J J9 (K3 K0)<|cF h A2 J J λv2 _ h=>G0 (es:=(o5 (o5 [] (p8 [112,114,111,103]) (⟨(some (75,none)),(some (76,none)),true⟩:c8)) (p8 [104,101,97,112]) (⟨(some (137,some v1)),(some (78,none)),true⟩:c8))) (k:=(p8 [110,101,119])) (v:=v2) (E:=c8.Pv) (EK:=PV.str) (.inr J) J J J J J J J9 (K3 K0)<|cF h A2 J J λv3 _ h=>G0 (es:=(o5 (o5 (o5 [] (p8 [112,114,111,103]) (⟨(some (75,none)),(some (76,none)),true⟩:c8)) (p8 [104,101,97,112]) (⟨(some (137,some v1)),(some (78,none)),true⟩:c8)) (p8 [110,101,119]) v2)) (k:=(p8 [99,111,112,121])) (v:=v3) (E:=c8.Pv) (EK:=PV.str) (.inr J) J J J J J J J9 (K3 K0)<|cF h A2 J J λv4 _ h=>G0 (es:=(o5 (o5 (o5 (o5 [] (p8 [112,114,111,103]) (⟨(some (75,none)),(some (76,none)),true⟩:c8)) (p8 [104,101,97,112]) (⟨(some (137,some v1)),(some (78,none)),true⟩:c8)) (p8 [110,101,119]) v2) (p8 [99,111,112,121]) v3)) (k:=(p8 [100,114,111,112])) (v:=v4) (E:=c8.Pv) (EK:=PV.str) (.inr J) J J J J J J J9 (K3 K0)<|cF h A2 J J λv5 _ h=>G0 (es:=(o5 (o5 (o5 (o5 (o5 [] (p8 [112,114,111,103]) (⟨(some (75,none)),(some (76,none)),true⟩:c8)) (p8 [104,101,97,112]) (⟨(some (137,some v1)),(some (78,none)),true⟩:c8)) (p8 [110,101,119]) v2) (p8 [99,111,112,121]) v3) (p8 [100,114,111,112]) v4)) (k:=(p8 [108,111,97,100])) (v:=v5) (E:=c8.Pv) (EK:=PV.str) (.inr J) J J J J J J J9 (K3 K0)<|cF h A2 J J λv6 _ h=>G0 (es:=(o5 (o5 (o5 (o5 (o5 (o5 [] (p8 [112,114,111,103]) (⟨(some (75,none)),(some (76,none)),true⟩:c8)) (p8 [104,101,97,112]) (⟨(some (137,some v1)),(some (78,none)),true⟩:c8)) (p8 [110,101,119]) v2) (p8 [99,111,112,121]) v3) (p8 [100,114,111,112]) v4) (p8 [108,111,97,100]) v5)) (k:=(p8 [115,116,111,114,101])) (v:=v6) (E:=c8.Pv) (EK:=PV.str) (.inr J) J J J J J J J9 (K3 K0)<|cF h A2 J J λv7 _ h=>G0 (es:=(o5 (o5 (o5 (o5 (o5 (o5 (o5 [] (p8 [112,114,111,103]) (⟨(some (75,none)),(some (76,none)),true⟩:c8)) (p8 [104,101,97,112]) (⟨(some (137,some v1)),(some (78,none)),true⟩:c8)) (p8 [110,101,119]) v2) (p8 [99,111,112,121]) v3) (p8 [100,114,111,112]) v4) (p8 [108,111,97,100]) v5) (p8 [115,116,111,114,101]) v6)) (k:=(p8 [119,101,97,107])) (v:=v7) (E:=c8.Pv) (EK:=PV.str) (.inr J) J J J J J J J9 (K3 K0)<|cF h A2 J J λv8 _ h=>G0 (es:=(o5 (o5 (o5 (o5 (o5 (o5 (o5 (o5 [] (p8 [112,114,111,103]) (⟨(some (75,none)),(some (76,none)),true⟩:c8)) (p8 [104,101,97,112]) (⟨(some (137,some v1)),(some (78,none)),true⟩:c8)) (p8 [110,101,119]) v2) (p8 [99,111,112,121]) v3) (p8 [100,114,111,112]) v4) (p8 [108,111,97,100]) v5) (p8 [115,116,111,114,101]) v6) (p8 [119,101,97,107]) v7)) (k:=(p8 [117,112])) (v:=v8) (E:=c8.Pv) (EK:=PV.str) (.inr J) J J J J J J J9 (K3 K0)<|cF h A2 J J λv9 _ h=>G0 (es:=(o5 (o5 (o5 (o5 (o5 (o5 (o5 (o5 (o5 [] (p8 [112,114,111,103]) (⟨(some (75,none)),(some (76,none)),true⟩:c8)) (p8 [104,101,97,112]) (⟨(some (137,some v1)),(some (78,none)),true⟩:c8)) (p8 [110,101,119]) v2) (p8 [99,111,112,121]) v3) (p8 [100,114,111,112]) v4) (p8 [108,111,97,100]) v5) (p8 [115,116,111,114,101]) v6) (p8 [119,101,97,107]) v7) (p8 [117,112]) v8)) (k:=(p8 [112,97,105,114])) (v:=v9) (E:=c8.Pv) (EK:=PV.str) (.inr J) J J J J J J J9 (K3 K0)<|cF h A2 J J λv10 _ h=>G0 (es:=(o5 (o5 (o5 (o5 (o5 (o5 (o5 (o5 (o5 (o5 [] (p8 [112,114,111,103]) (⟨(some (75,none)),(some (76,none)),true⟩:c8)) (p8 [104,101,97,112]) (⟨(some (137,some v1)),(some (78,none)),true⟩:c8)) (p8 [110,101,119]) v2) (p8 [99,111,112,121]) v3) (p8 [100,114,111,112]) v4) (p8 [108,111,97,100]) v5) (p8 [115,116,111,114,101]) v6) (p8 [119,101,97,107]) v7) (p8 [117,112]) v8) (p8 [112,97,105,114]) v9)) (k:=(p8 [103,101,116])) (v:=v10) (E:=c8.Pv) (EK:=PV.str) (.inr J) J J J J J J J9 (K3 K0)<|cF h A2 J J λv11 _ h=>G0 (es:=(o5 (o5 (o5 (o5 (o5 (o5 (o5 (o5 (o5 (o5 (o5 [] (p8 [112,114,111,103]) (⟨(some (75,none)),(some (76,none)),true⟩:c8)) (p8 [104,101,97,112]) (⟨(some (137,some v1)),(some (78,none)),true⟩:c8)) (p8 [110,101,119]) v2) (p8 [99,111,112,121]) v3) (p8 [100,114,111,112]) v4) (p8 [108,111,97,100]) v5) (p8 [115,116,111,114,101]) v6) (p8 [119,101,97,107]) v7) (p8 [117,112]) v8) (p8 [112,97,105,114]) v9) (p8 [103,101,116]) v10)) (k:=(p8 [115,97,109,101])) (v:=v11) (E:=c8.Pv) (EK:=PV.str) (.inr J) J J J J J J J9 (K3 K0) ?_;refine cF h A2 J J λv12 _ h=>G0 (es:=(o5 (o5 (o5 (o5 (o5 (o5 (o5 (o5 (o5 (o5 (o5 (o5 [] (p8 [112,114,111,103]) (⟨(some (75,none)),(some (76,none)),true⟩:c8)) (p8 [104,101,97,112]) (⟨(some (137,some v1)),(some (78,none)),true⟩:c8)) (p8 [110,101,119]) v2) (p8 [99,111,112,121]) v3) (p8 [100,114,111,112]) v4) (p8 [108,111,97,100]) v5) (p8 [115,116,111,114,101]) v6) (p8 [119,101,97,107]) v7) (p8 [117,112]) v8) (p8 [112,97,105,114]) v9) (p8 [103,101,116]) v10) (p8 [115,97,109,101]) v11)) (k:=(p8 [99,111,108,108,101,99,116])) (v:=v12) (E:=c8.Pv) (EK:=PV.str) (.inr J) J J J J J J J9 (K3 K0)<|cF h A2 J J λv13 _ h=>G0 (es:=(o5 (o5 (o5 (o5 (o5 (o5 (o5 (o5 (o5 (o5 (o5 (o5 (o5 [] (p8 [112,114,111,103]) (⟨(some (75,none)),(some (76,none)),true⟩:c8)) (p8 [104,101,97,112]) (⟨(some (137,some v1)),(some (78,none)),true⟩:c8)) (p8 [110,101,119]) v2) (p8 [99,111,112,121]) v3) (p8 [100,114,111,112]) v4) (p8 [108,111,97,100]) v5) (p8 [115,116,111,114,101]) v6) (p8 [119,101,97,107]) v7) (p8 [117,112]) v8) (p8 [112,97,105,114]) v9) (p8 [103,101,116]) v10) (p8 [115,97,109,101]) v11) (p8 [99,111,108,108,101,99,116]) v12)) (k:=(p8 [100,114,97,105,110])) (v:=v13) (E:=c8.Pv) (EK:=PV.str) (.inr J) J J J J J J J9 (K3 K0)<|cF h Q3 J J λv14 hv14 h=>y0 J (x6 (cs:=[.fn (.func 137) [.rptr [.I v14]],.fn (.func 80) [],.bool false]) J ou kW J J J)<|N4 (Ao 18 (d':=.agg [AX (some (137,some v14)),AX (some (80,none)),.bool false]) J J)<|G0 (es:=(o5 (o5 (o5 (o5 (o5 (o5 (o5 (o5 (o5 (o5 (o5 (o5 (o5 (o5 [] (p8 [112,114,111,103]) (⟨(some (75,none)),(some (76,none)),true⟩:c8)) (p8 [104,101,97,112]) (⟨(some (137,some v1)),(some (78,none)),true⟩:c8)) (p8 [110,101,119]) v2) (p8 [99,111,112,121]) v3) (p8 [100,114,111,112]) v4) (p8 [108,111,97,100]) v5) (p8 [115,116,111,114,101]) v6) (p8 [119,101,97,107]) v7) (p8 [117,112]) v8) (p8 [112,97,105,114]) v9) (p8 [103,101,116]) v10) (p8 [115,97,109,101]) v11) (p8 [99,111,108,108,101,99,116]) v12) (p8 [100,114,97,105,110]) v13)) (k:=(p8 [108,105,118,101,115])) (v:=(⟨(some (137,some v14)),(some (80,none)),false⟩:c8)) (E:=c8.Pv) (EK:=PV.str) (.inr J) J J J J J J J9 (K3 K0)<|yc J (B9 J Q3 J hv14)<|y0 J (x6 (cs:=[.fn (.func 137) [.rptr [.I v14]],.fn (.func 81) [],.bool false]) J ou kW J J J)<|N4 (Ao 20 (d':=.agg [AX (some (137,some v14)),AX (some (81,none)),.bool false]) J J)<|G0 (es:=(o5 (o5 (o5 (o5 (o5 (o5 (o5 (o5 (o5 (o5 (o5 (o5 (o5 (o5 (o5 [] (p8 [112,114,111,103]) (⟨(some (75,none)),(some (76,none)),true⟩:c8)) (p8 [104,101,97,112]) (⟨(some (137,some v1)),(some (78,none)),true⟩:c8)) (p8 [110,101,119]) v2) (p8 [99,111,112,121]) v3) (p8 [100,114,111,112]) v4) (p8 [108,111,97,100]) v5) (p8 [115,116,111,114,101]) v6) (p8 [119,101,97,107]) v7) (p8 [117,112]) v8) (p8 [112,97,105,114]) v9) (p8 [103,101,116]) v10) (p8 [115,97,109,101]) v11) (p8 [99,111,108,108,101,99,116]) v12) (p8 [100,114,97,105,110]) v13) (p8 [108,105,118,101,115]) (⟨(some (137,some v14)),(some (80,none)),false⟩:c8))) (k:=(p8 [114,111,111,116,115])) (v:=(⟨(some (137,some v14)),(some (81,none)),false⟩:c8)) (E:=c8.Pv) (EK:=PV.str) (.inr J) J J J J J J J9 (K3 K0)<|yc J (B9 J Q3 J hv14)<|y0 J (x6 (cs:=[.fn (.func 137) [.rptr [.I v14]],.fn (.func 82) [],.bool false]) J ou kW J J J)<|N4 (Ao 22 (d':=.agg [AX (some (137,some v14)),AX (some (82,none)),.bool false]) J J)<|G0 (es:=(o5 (o5 (o5 (o5 (o5 (o5 (o5 (o5 (o5 (o5 (o5 (o5 (o5 (o5 (o5 (o5 [] (p8 [112,114,111,103]) (⟨(some (75,none)),(some (76,none)),true⟩:c8)) (p8 [104,101,97,112]) (⟨(some (137,some v1)),(some (78,none)),true⟩:c8)) (p8 [110,101,119]) v2) (p8 [99,111,112,121]) v3) (p8 [100,114,111,112]) v4) (p8 [108,111,97,100]) v5) (p8 [115,116,111,114,101]) v6) (p8 [119,101,97,107]) v7) (p8 [117,112]) v8) (p8 [112,97,105,114]) v9) (p8 [103,101,116]) v10) (p8 [115,97,109,101]) v11) (p8 [99,111,108,108,101,99,116]) v12) (p8 [100,114,97,105,110]) v13) (p8 [108,105,118,101,115]) (⟨(some (137,some v14)),(some (80,none)),false⟩:c8)) (p8 [114,111,111,116,115]) (⟨(some (137,some v14)),(some (81,none)),false⟩:c8))) (k:=(p8 [116,97,108,108,121])) (v:=(⟨(some (137,some v14)),(some (82,none)),false⟩:c8)) (E:=c8.Pv) (EK:=PV.str) (.inr J) J J J J J J J9 (K3 K0)<|S2 2 J<|cC (Cq 0 5000001 J J)<|b9 ?_;cases h;exact f1
theorem qT{a0}:PO prog 13 [.str a0] (aG a0) λr=>.tup [.I r.1,.bool r.2]:=by
 refine pO func13 λr h _ _=>?_;refine S4 2 J<|xa<|S4 3 J<|l5<|wZ ?_;refine jq h (λq=>St.of [(4,.I q.1),(5,.I q.2.1),(6,.I q.2.2)] []) (λq12 h=>?_) λκ8 h=>?_
 .obtain⟨j9,j10,j11⟩:=q12;refine l5<|S4 2 J ?_;refine cN h (λhc h=>?_) λhc h=>?_
  .refine S4 2 J ?_;refine b9 ?_;cases h;exact f2
  .refine c9 ?_;refine S4 5 J<|b9 ?_;cases h;exact f2
 .refine S3 1 J ?_;refine NP 5000010 J J K0 J<|yN<|l6<|lq h (λq=>St.of [(4,.I q.1),(5,.I q.2.1),(6,.I q.2.2.1),(10,.ptr 5000010 0 0)] [(5000010,VH a0 q.2.2.2)]) W λq19 x18 h hx8=>?_;obtain⟨s14,s15,s16,s17⟩:=q19;refine sR ?_;refine Sy J J J (λhc9=>?_) (λhc9=>?_)
  .have h:=NX h (zA hc9);refine S2 1 J<|l5 ?_;refine F5 true J (λ_=>?_) (λq=>nomatch q);refine c9<|l6<|S4 4 J<|l5<|l6<|S3 3 J<|r8 J (λhg=>om (d:=.int .i32 ((dec a0 s17).1:Int)) J)<|r8 J (λhg=>H3 (ct hg) J J)<|y0 J (F0 J J J (λq=>mX q))<|S2 1 J ?_;refine cN h (λhc h=>?_) λhc h=>?_
   .refine S4 1 J ?_;refine x8<|aX (by decide)<|l4<|r7 ?_;exact eL h W
   .refine S3 3 J ?_;refine r8 J (λhg=>om (d:=.int .i32 ((dec a0 s17).1:Int)) J)<|r8 J (λhg=>H3 (ct hg) J J)<|y0 J (I5 J J J (λq=>ln q))<|S1 1 J<|r8 J (λhg=>mI J)<|r8 J (λhg=>H3 (ct hg) J J)<|y0 J (I5 J J J (λq=>ln q))<|S2 1 J ?_;refine cN h (λhc h=>?_) λhc h=>?_
    .refine S4 1 J ?_;refine x8<|aX (by decide)<|l4<|aX (by decide)<|l4<|r7 ?_;have h:=xL hx8 h;exact eJ h W
    .refine c9 ?_;refine S3 4 J<|y0 J (Ma J SS Rx J)<|S2 2 J<|S6 3 J ?_;exact eL h W
  .have h:=NW h (zI hc9);refine S2 1 J<|l5 ?_;refine F5 false J (λq=>nomatch q) (λ_=>?_);refine x8<|l4<|l4<|r7 ?_;have h:=xL hx8 h;exact eJ h W
theorem nh{a0}:PO prog 43 [.L PV.str a0] (ay a0) λr=>.tup [.L iF r.1,.bool r.2]:=by
 refine pO func43 λr h _ _=>?_;refine S4 2 J<|S4 1 J ?_;refine jq h (λj10=>St.of [(4,.sl 910004)] [(910004,⟨List.map iF j10,(List.map iF j10).length,true,1,true⟩)]) (λj10 h=>?_) λκ9 h=>?_
 .refine S4 3 J ?_;refine b9 ?_;cases h;exact f2
 .refine S3 1 J ?_;refine nL J D1<|S2 1 J<|l6<|lq h (λq=>St.of [(4,.sl 910004),(9,.L PV.str a0),(10,.I (a0.length:Int)),(11,.I q.1)] [(910004,⟨List.map iF q.2,(List.map iF q.2).length,true,1,true⟩)]) (Wk.trans (Y8 (t:=4) (l:=920004) (z:=1) J J) (WP (λl=>if l=910004 then 920004 else l))) λq15 x14 h hx10=>?_;obtain⟨s12,s13⟩:=q15;refine S4 1 J<|l5 ?_;refine cN h (λhc h=>?_) λhc h=>?_
  .refine c9 ?_;refine l5<|l6<|sR<|iL h J J D1 M3 λv16 _ h=>S2 2 J<|S3 1 J<|cA h qT J J λv17 _ h=>S2 5 J<|l5<|S4 2 J ?_;refine cN h (λhc h=>?_) λhc h=>?_
   .refine S4 2 J ?_;refine b9 ?_;have h:=xL hx10 h;cases h;exact f2
   .refine c9 ?_;refine S5 2 J<|y0 J (Y4 (f:=iF) (l:=[v17.1]) J o7 u5 F6 J J nl J J)<|A0 h λv18 hv13 h=>bn J (aD (f:=iF) hv13 J J J J J J (.inl ⟨_,J,J⟩) o7 u5 X5 F6 J (λ_=>J)) J J J<|S2 1 J<|S6 2 J ?_;exact eL h (Wk.trans (u4 _ [25]) (WP (λl=>if l=910004 then 25 else l)))
  .refine x8 ?_;refine l4<|l4<|r7 ?_;have h:=xL hx10 h;exact eJ h (Wk.trans (u4 _ [910004]) W)
theorem mQ{a0}:PO prog 75 [.I a0] (bQ a0) λr=>.bool r:=by
 refine pO func75 λr h _ _=>?_;unfold bQ at h;refine S4 1 J<|S3 1 J<|A0 h λv1 hv1 h=>y0 J (gR J J hv1)<|S2 2 J<|b9 ?_;cases h;exact f1
theorem ng{a0 a1}:PO prog 137 [.I a0,.rptr [.I a1]] (cX a0 a1) λr=>.bool r:=by
 refine pO func137 λr h _ _=>?_;unfold cX at h;refine S4 1 J<|S4 4 J<|b9 ?_;cases h;exact f1
theorem Fc{f:Fw}{a0:Int}{r:Bool}(h:oH f a0=some r):∃n cap,VG f = .fn (.func n) cap/\XF cap/\y3 prog n/\N9 prog n ([.I a0]++cap) (.bool r):=by
 unfold oH at h;match f,h with
 | none,h=>cases h
 | some (n,none),h=>
  dsimp only at h;by_cases e75:n=75
  .rw[zb e75] at h;subst e75;exact⟨75,_,J,.inl J,SH,mQ.2 _ h⟩
  rw[za e75] at h;cases h
 | some (n,some c),h=>
  dsimp only at h;by_cases e137:n=137
  .rw[zb e137] at h;subst e137;exact⟨137,_,J,.inr ⟨c,J⟩,Ot,ng.2 _ h⟩
  rw[za e137] at h;cases h
theorem N7{a0}:PO prog 27 [.I a0] (B8 a0) λr=>.str r:=by
 refine pO func27 λr h _ _=>?_;unfold B8 at h;refine S4 1 J<|S3 1 J<|A0 h λv1 hv1 h=>y0 J (tA J EC J (Lz hv1))<|A0 h λv2 hv2 h=>y0 J (fE hv2 J J K0)<|S2 1 J<|b9 ?_;cases h;exact f1
theorem xS{a0}:PO prog 55 [e6.Pv a0] (dR a0) λr=>.bool r:=by
 refine pO func55 λr h _ _=>?_;unfold dR at h;refine S4 2 J<|S3 4 J<|r8 J (λhg=>oF J JU J)<|r8 J (λhg=>oS (ct hg) J J R7 J)<|r8 J (λhg=>H3 (ct hg) J J)<|y0 J (F0 J J J (λq=>mX q))<|S2 1 J<|b9 ?_;cases h;exact f1
theorem A7:PO prog 168 [.fn (.func 169) []] (ak) λr=>k8.Pv r:=by
 refine pO func168 λr h _ _=>?_;unfold ak at h;refine S4 1 J<|S3 1 J<|y0 J (x6 (cs:=[.fn (.func 169) [],.I 0,.I 5,.I 6]) J cS J6 J J J)<|N4 (mO 4 (d':=.agg [ri (some 169),.I 0,.I 5,.I 6]) J)<|S2 1 J<|b9 ?_;cases h;exact⟨J,[_],⟨oL J J J fO L3 nl J,tr⟩,J,io⟩
theorem ax:PO prog 171 [.fn (.func 172) []] (U3) λr=>k8.Pv r:=by
 refine pO func171 λr h _ _=>?_;unfold U3 at h;refine S4 1 J<|S3 1 J<|y0 J (x6 (cs:=[.fn (.func 172) [],.I (-1),.I 5,.I 13]) J cS J6 J J J)<|N4 (mO 4 (d':=.agg [ri (some 172),.I (-1),.I 5,.I 13]) J)<|S2 1 J<|b9 ?_;cases h;exact⟨J,[_],⟨oL J J J fO L3 nl J,tr⟩,J,io⟩
theorem E5{a0}:PO prog 167 [.L k8.Pv a0] (J2 a0) λr=>.L k8.Pv r:=by
 refine pO func167 λr h _ _=>?_;unfold J2 at h;refine S4 1 J<|S4 2 J<|b9 ?_;cases h;exact f1
theorem L5:PO prog 168 [.fn (.func 170) []] (al) λr=>k8.Pv r:=by
 refine pO func168 λr h _ _=>?_;unfold al at h;refine S4 1 J<|S3 1 J<|y0 J (x6 (cs:=[.fn (.func 170) [],.I 0,.I 5,.I 6]) J cS J6 J J J)<|N4 (mO 4 (d':=.agg [ri (some 170),.I 0,.I 5,.I 6]) J)<|S2 1 J<|b9 ?_;cases h;exact⟨J,[_],⟨oL J J J fO L3 nl J,tr⟩,J,io⟩
theorem iA:PO prog 173 [.fn (.func 172) []] (X9) λr=>k8.Pv r:=by
 refine pO func173 λr h _ _=>?_;unfold X9 at h;refine S4 1 J<|S3 1 J<|y0 J (x6 (cs:=[.fn (.func 172) [],.I 0,.I 3,.I 5]) J cS J6 J J J)<|N4 (mO 4 (d':=.agg [ri (some 172),.I 0,.I 3,.I 5]) J)<|S2 1 J<|b9 ?_;cases h;exact⟨J,[_],⟨oL J J J fO L3 nl J,tr⟩,J,io⟩
theorem iz:PO prog 173 [.fn (.func 170) []] (X8) λr=>k8.Pv r:=by
 refine pO func173 λr h _ _=>?_;unfold X8 at h;refine S4 1 J<|S3 1 J<|y0 J (x6 (cs:=[.fn (.func 170) [],.I 0,.I 3,.I 5]) J cS J6 J J J)<|N4 (mO 4 (d':=.agg [ri (some 170),.I 0,.I 3,.I 5]) J)<|S2 1 J<|b9 ?_;cases h;exact⟨J,[_],⟨oL J J J fO L3 nl J,tr⟩,J,io⟩
theorem dT:PO prog 174 [.fn (.func 172) []] (P2) λr=>k8.Pv r:=by
 refine pO func174 λr h _ _=>?_;unfold P2 at h;refine S4 1 J<|S3 1 J<|y0 J (x6 (cs:=[.fn (.func 172) [],.I (-1),.I 5,.I 6]) J cS J6 J J J)<|N4 (mO 4 (d':=.agg [ri (some 172),.I (-1),.I 5,.I 6]) J)<|S2 1 J<|b9 ?_;cases h;exact⟨J,[_],⟨oL J J J fO L3 nl J,tr⟩,J,io⟩
theorem jm:PO prog 175 [.fn (.func 169) []] (ai) λr=>k8.Pv r:=by
 refine pO func175 λr h _ _=>?_;unfold ai at h;refine S4 1 J<|S3 1 J<|y0 J (x6 (cs:=[.fn (.func 169) [],.I 0,.I 5,.I 7]) J cS J6 J J J)<|N4 (mO 4 (d':=.agg [ri (some 169),.I 0,.I 5,.I 7]) J)<|S2 1 J<|b9 ?_;cases h;exact⟨J,[_],⟨oL J J J fO L3 nl J,tr⟩,J,io⟩
theorem V9:PO prog 174 [.fn (.func 170) []] (P1) λr=>k8.Pv r:=by
 refine pO func174 λr h _ _=>?_;unfold P1 at h;refine S4 1 J<|S3 1 J<|y0 J (x6 (cs:=[.fn (.func 170) [],.I (-1),.I 5,.I 6]) J cS J6 J J J)<|N4 (mO 4 (d':=.agg [ri (some 170),.I (-1),.I 5,.I 6]) J)<|S2 1 J<|b9 ?_;cases h;exact⟨J,[_],⟨oL J J J fO L3 nl J,tr⟩,J,io⟩
theorem jo:PO prog 175 [.fn (.func 170) []] (aj) λr=>k8.Pv r:=by
 refine pO func175 λr h _ _=>?_;unfold aj at h;refine S4 1 J<|S3 1 J<|y0 J (x6 (cs:=[.fn (.func 170) [],.I 0,.I 5,.I 7]) J cS J6 J J J)<|N4 (mO 4 (d':=.agg [ri (some 170),.I 0,.I 5,.I 7]) J)<|S2 1 J<|b9 ?_;cases h;exact⟨J,[_],⟨oL J J J fO L3 nl J,tr⟩,J,io⟩
theorem uF:PO prog 94 [] (ld) λr=>.abs (V6 (List.map (fU iF (Ls k8.Pv)) r)):=by
 refine pO func94 λr h _ _=>?_;refine S4 1 J<|sR<|Aq (KT:=Int) (VT:=List k8) (EK:=iF) (E:=(Ls k8.Pv)) 5000001 J J<|cF h A7 J J λv1 hv1 h=>y0 J (x6 (cs:=[.fn (.func 170) [],.I 0,.I 4,.I 1]) J cS J6 J J J)<|N4 (mO 3 (d':=.agg [ri (some 170),.I 0,.I 4,.I 1]) J)<|cF h ax J J λv2 hv2 h=>y0 J (Y4 (f:=k8.Pv) (l:=[v1,(⟨(some 170),0,4,1⟩:k8),v2]) J aW L3 J6 J J nl J J)<|cF h E5 J J λv3 _ h=>G0 (es:=[]) (k:=1) (v:=v3) (E:=(Ls k8.Pv)) (EK:=iF) (.inr J) J J J J J J V8 (B1 M4)<|yc J (B9 J A7 J hv1)<|cF h L5 J J λv4 hv4 h=>y0 J (Y4 (f:=k8.Pv) (l:=[v1,v4]) J aW L3 J6 J J nl J J)<|cF h E5 J J λv5 hv5 h=>G0 (es:=(o5 [] 1 v3)) (k:=2) (v:=v5) (E:=(Ls k8.Pv)) (EK:=iF) (.inr J) J J J J J J V8 (B1 M4)<|yc J (B9 J A7 J hv1)<|y0 J (Y4 (f:=k8.Pv) (l:=[v1]) J aW L3 J6 J J nl J J)<|cF h E5 J J λv6 _ h=>G0 (es:=(o5 (o5 [] 1 v3) 2 v5)) (k:=3) (v:=v6) (E:=(Ls k8.Pv)) (EK:=iF) (.inr J) J J J J J J V8 (B1 M4)<|yc J (B9 J A7 J hv1)<|yc J (B9 J L5 J hv4)<|cF h iA J J λv7 _ h=>y0 J (Y4 (f:=k8.Pv) (l:=[v1,v4,v7]) J aW L3 J6 J J nl J J)<|cF h E5 J J λv8 _ h=>G0 (es:=(o5 (o5 (o5 [] 1 v3) 2 v5) 3 v6)) (k:=4) (v:=v8) (E:=(Ls k8.Pv)) (EK:=iF) (.inr J) J J J J J J V8 (B1 M4)<|yc J (B9 J A7 J hv1)<|cF h iz J J λv9 _ h=>cF h dT J J λv10 _ h=>y0 J (Y4 (f:=k8.Pv) (l:=[v1,v9,v10]) J aW L3 J6 J J nl J J)<|cF h E5 J J λv11 _ h=>?_;refine G0 (es:=(o5 (o5 (o5 (o5 [] 1 v3) 2 v5) 3 v6) 4 v8)) (k:=5) (v:=v11) (E:=(Ls k8.Pv)) (EK:=iF) (.inr J) J J J J J J V8 (B1 M4)<|cF h jm J J λv12 _ h=>cF h V9 J J λv13 hv13 h=>yc J (B9 J ax J hv2)<|y0 J (Y4 (f:=k8.Pv) (l:=[v12,v13,v2]) J aW L3 J6 J J nl J J)<|cF h E5 J J λv14 _ h=>G0 (es:=(o5 (o5 (o5 (o5 (o5 [] 1 v3) 2 v5) 3 v6) 4 v8) 5 v11)) (k:=6) (v:=v14) (E:=(Ls k8.Pv)) (EK:=iF) (.inr J) J J J J J J V8 (B1 M4)<|yc J (B9 J A7 J hv1)<|cF h jo J J λv15 _ h=>y0 J (Y4 (f:=k8.Pv) (l:=[v1,v15]) J aW L3 J6 J J nl J J)<|cF h E5 J J λv16 _ h=>G0 (es:=(o5 (o5 (o5 (o5 (o5 (o5 [] 1 v3) 2 v5) 3 v6) 4 v8) 5 v11) 6 v14)) (k:=7) (v:=v16) (E:=(Ls k8.Pv)) (EK:=iF) (.inr J) J J J J J J V8 (B1 M4)<|yc J (B9 J A7 J hv1)<|yc J (B9 J V9 J hv13)<|y0 J (Y4 (f:=k8.Pv) (l:=[v1,v13]) J aW L3 J6 J J nl J J)<|cF h E5 J J λv17 _ h=>G0 (es:=(o5 (o5 (o5 (o5 (o5 (o5 (o5 [] 1 v3) 2 v5) 3 v6) 4 v8) 5 v11) 6 v14) 7 v16)) (k:=8) (v:=v17) (E:=(Ls k8.Pv)) (EK:=iF) (.inr J) J J J J J J V8 (B1 M4)<|yc J (B9 J A7 J hv1)<|yc J (B9 J L5 J hv4)<|y0 J (Y4 (f:=k8.Pv) (l:=[v1,v4]) J aW L3 J6 J J nl J J)<|yc J (B9 J E5 J hv5)<|G0 (es:=(o5 (o5 (o5 (o5 (o5 (o5 (o5 (o5 [] 1 v3) 2 v5) 3 v6) 4 v8) 5 v11) 6 v14) 7 v16) 8 v17)) (k:=9) (v:=v5) (E:=(Ls k8.Pv)) (EK:=iF) (.inr J) J J J J J J V8 (B1 M4)<|yc J (B9 J A7 J hv1)<|yc J (B9 J L5 J hv4)<|y0 J (Y4 (f:=k8.Pv) (l:=[v1,v4]) J aW L3 J6 J J nl J J)<|yc J (B9 J E5 J hv5)<|G0 (es:=(o5 (o5 (o5 (o5 (o5 (o5 (o5 (o5 (o5 [] 1 v3) 2 v5) 3 v6) 4 v8) 5 v11) 6 v14) 7 v16) 8 v17) 9 v5)) (k:=10) (v:=v5) (E:=(Ls k8.Pv)) (EK:=iF) (.inr J) J J J J J J V8 (B1 M4)<|cF h E5 J J λv18 _ h=>G0 (es:=(o5 (o5 (o5 (o5 (o5 (o5 (o5 (o5 (o5 (o5 [] 1 v3) 2 v5) 3 v6) 4 v8) 5 v11) 6 v14) 7 v16) 8 v17) 9 v5) 10 v5)) (k:=11) (v:=v18) (E:=(Ls k8.Pv)) (EK:=iF) (.inr J) J J J J J J V8 (B1 M4)<|y0 J (x6 (cs:=[.fn (.func 169) [],.I 0,.I 200,.I 12]) J cS J6 J J J) ?_;refine N4 (mO 46 (d':=.agg [ri (some 169),.I 0,.I 200,.I 12]) J)<|y0 J (Y4 (f:=k8.Pv) (l:=[(⟨(some 169),0,200,12⟩:k8)]) J aW L3 J6 J J nl J J)<|cF h E5 J J λv19 _ h=>G0 (es:=(o5 (o5 (o5 (o5 (o5 (o5 (o5 (o5 (o5 (o5 (o5 [] 1 v3) 2 v5) 3 v6) 4 v8) 5 v11) 6 v14) 7 v16) 8 v17) 9 v5) 10 v5) 11 v18)) (k:=12) (v:=v19) (E:=(Ls k8.Pv)) (EK:=iF) (.inr J) J J J J J J V8 (B1 M4)<|S2 2 J<|cC (Cq 0 5000001 J J)<|b9 ?_;cases h;exact f1
theorem pC{a0}:PO prog 169 [e6.Pv a0] (qg a0) λr=>.I r:=by
 refine pO func169 λr h _ _=>?_;unfold qg at h;refine S4 2 J<|S4 3 J<|b9 ?_;cases h;exact f1
theorem pD{a0}:PO prog 170 [e6.Pv a0] (qh a0) λr=>.I r:=by
 refine pO func170 λr h _ _=>?_;unfold qh at h;refine S4 2 J<|S4 3 J<|b9 ?_;cases h;exact f1
theorem pE{a0}:PO prog 172 [e6.Pv a0] (qi a0) λr=>.I r:=by
 refine pO func172 λr h _ _=>?_;unfold qi at h;refine S4 2 J<|S4 3 J<|b9 ?_;cases h;exact f1
theorem Fa{f:Fv}{a0:e6}{r:Int}(h:rj f a0=some r):∃n,f=some n/\y3 prog n/\N9 prog n [e6.Pv a0] (.I r):=by
 unfold rj at h;by_cases e169:f=some 169
 .rw[zb e169] at h;exact⟨169,e169,(@pC a0).1,(@pC a0).2 _ h⟩
 rw[za e169] at h;by_cases e170:f=some 170
 .rw[zb e170] at h;exact⟨170,e170,(@pD a0).1,(@pD a0).2 _ h⟩
 rw[za e170] at h;by_cases e172:f=some 172
 .rw[zb e172] at h;exact⟨172,e172,(@pE a0).1,(@pE a0).2 _ h⟩
 rw[za e172] at h;cases h
theorem jl{a0}:PO prog 56 [e6.Pv a0] (U2 a0) λr=>.I r:=by
 refine pO func56 λr h _ _=>?_;unfold U2 at h;refine S4 2 J<|dr [] y5 (by kernel_rfl) (by kernel_rfl)<|A0 h λv1 hv1 h=>mR J (B9 J uF J hv1) J<|S7 2 J<|d4 J (Ds (es:=v1) (k:=a0.Kind) (E:=(Ls k8.Pv)) (EK:=iF) (d:=.tup [.L k8.Pv ((z7 v1 a0.Kind).getD ([]:List k8)),.bool ((z7 v1 a0.Kind).isSome)]) J J V8 (B1 M4) OT J (Yo _ _ ([]:List k8))) J<|S8 5 J<|l5<|S4 2 J ?_;refine cN h (λhc h=>?_) λhc h=>?_
 .refine S4 1 J ?_;refine b9 ?_;cases h;exact f1
 .refine c9 ?_;refine jq h (λ_=>St.of [] []) (λq9 h=>?_) λκ8 h=>?_
  .refine S4 1 J ?_;refine b9 ?_;cases h;exact f1
  .refine S3 1 J ?_;refine nL J aW<|S2 1 J<|l6<|lq h (λs11=>St.of [(1,.ptr 1 0 0),(17,.L k8.Pv ((z7 v1 a0.Kind).getD ([]:List k8))),(18,.I (((z7 v1 a0.Kind).getD ([]:List k8)).length:Int)),(19,.I s11)] [(1,vR (e6.Pv a0) 4)]) W λs11 x12 h hx13=>S4 1 J<|l5 ?_;refine cN h (λhc h=>?_) λhc h=>?_
   .refine c9 ?_;refine l5<|l6<|sR<|iL h J J aW L3 λv13 _ h=>S2 3 J<|S3 3 J ?_;obtain⟨v14,hv15,h⟩:=C6 h;obtain⟨n15,he16,hk17,hp18⟩:=Fa hv15;refine N4 (Ss 24 J he16)<|y0 J (tA J hk17 J hp18)<|S2 1 J<|S3 5 J<|r8 J (λhg=>mI J)<|r8 J (λhg=>oF J Ix J)<|r8 J (λhg=>oS (ct hg) J J R7 J)<|r8 J (λhg=>H3 (ct hg) (ct hg) J)<|y0 J (I5 J J J (λq=>ln q))<|yN ?_;refine cN h (λhc h=>?_) λhc h=>?_
    .refine S4 3 J ?_;refine b9 ?_;have h:=xL hx13 h;cases h;exact f1
    .refine c9 ?_;refine S6 2 J ?_;exact eL h W
   .refine x8 ?_;refine l4<|l4<|r7 ?_;have h:=xL hx13 h;exact eJ h W
theorem pB{a0}:PO prog 30 [.L (Ls e6.Pv) a0] (dS a0) λr=>.bool r:=by
 refine pO func30 λr h _ _=>?_;refine S4 1 J<|l5<|S3 1 J<|nL J gy<|S2 1 J ?_;refine cN h (λhc h=>?_) λhc h=>?_
 .refine S4 1 J ?_;refine b9 ?_;cases h;exact f1
 .refine c9 ?_;refine jq h (λ_=>St.of [] []) (λq21 h=>?_) λκ20 h=>?_
  .refine S4 1 J ?_;refine b9 ?_;cases h;exact f1
  .refine S3 1 J ?_;refine nL J gy<|S2 1 J<|l6<|lq h (λs23=>St.of [(10,.L (Ls e6.Pv) a0),(11,.I (a0.length:Int)),(12,.I s23)] []) W λs23 x24 h hx22=>S4 1 J<|l5 ?_;refine cN h (λhc h=>?_) λhc h=>?_
   .refine c9 ?_;refine jq h (λ_=>St.of [(10,.L (Ls e6.Pv) a0),(11,.I (a0.length:Int)),(12,.I s23)] []) (λq33 h=>?_) λκ32 h=>?_
    .refine S6 2 J ?_;exact eL h W
    .refine l6 ?_;refine sR<|iL h J J gy fP λv34 _ h=>S2 2 J<|l5<|S3 1 J<|nL J iG<|S2 1 J ?_;refine cN h (λhc h=>?_) λhc h=>?_
     .refine S4 1 J ?_;refine b9 ?_;have h:=xL hx22 h;cases h;exact f1
     .refine c9 ?_;refine S3 1 J<|nL J iG<|S2 1 J<|l6<|lq h (λs36=>St.of [(10,.L (Ls e6.Pv) a0),(11,.I (a0.length:Int)),(12,.I s23),(19,.L e6.Pv v34),(20,.I (v34.length:Int)),(21,.I s36)] []) W λs36 x37 h hx34=>S4 1 J<|l5 ?_;refine cN h (λhc h=>?_) λhc h=>?_
      .refine c9 ?_;refine l5<|l6<|sR<|iL h J J iG kU λv38 _ h=>S2 3 J<|S3 1 J<|cA h xS J J λv39 _ h=>S1 2 J<|r8 J (λhg=>oL J J J Aw kU nl J)<|A0 h λv40 hv37 h=>r8 J (λhg=>U5 J jl (eR (ct hg) J) (O7 hv37 hg))<|r8 J (λhg=>H3 (ct hg) J J)<|y0 J (I5 J J J (λq=>ln q))<|yN ?_;refine cN h (λhc h=>?_) λhc h=>?_
       .refine S4 1 J ?_;refine b9 ?_;have h:=xL hx34 h;have h:=xL hx22 h;cases h;exact f1
       .refine c9 ?_;refine S6 2 J ?_;exact eL h W
      .refine x8 ?_;refine l4<|l4<|r7 ?_;have h:=xL hx34 h;exact eJ h W
   .refine x8 ?_;refine l4<|l4<|r7 ?_;have h:=xL hx22 h;exact eJ h W
theorem gA{a0 a1}:PO prog 76 [c4.Pv a0,.L iF a1] (N6 a0 a1) λr=>.tup [c4.Pv r.1,.str r.2]:=by
 refine pO func76 λr h _ _=>?_;refine S4 3 J<|S3 1 J<|iL h J J o7 u5 λv1 _ h=>S2 2 J<|l5<|S3 3 J<|r8 J (λhg=>mI J)<|r8 J (λhg=>H3 (ct hg) J J)<|y0 J (I5 J J J (λq=>ln q))<|yN ?_;refine cN h (λhc h=>?_) λhc h=>?_
 .refine dr [] y5 (by kernel_rfl) (by kernel_rfl) ?_;refine S7 1 J<|A0 h λv2 hv2 h=>d2 J (U5 J N7 J hv2) J<|E4 (x':=c4.Pv a0) (cl':=true) J J (.inr J) Q1<|S8 1 J<|b9 ?_;cases h;exact⟨J,[_,_],⟨oL J J J cQ Q1 nl J,⟨J,tr⟩⟩,J,io⟩
 .refine c9 ?_;refine S3 4 J<|nL J gy<|y0 J (Hq J J J)<|A0 h λv3 hv3 h=>y1 J (wO (f:=(Ls e6.Pv)) hv3 J J J gy fP OP Ol J J J) J<|S2 1 J<|S3 3 J<|A0 h λv4 hv4 h=>Vy (f:=(Ls e6.Pv)) hv4 J J J (.inl ⟨_,J,J⟩) gy fP (λ_=>J) (by decide)<|yN<|S3 2 J<|A0 h λv5 hv5 h=>y0 J (fg (f:=(Ls e6.Pv)) hv5 J J J J gy fP J)<|Rt (f:=(Ls e6.Pv)) 930026 4 hv5 J J J fP J J J J<|yN ?_;refine jq h (λj19=>St.of [(2,.ptr 2 0 0),(4,.ptr 4 0 0),(7,.sl 26)] [(26,⟨qq (Ls e6.Pv) v4 ((v1).toNat) 930026,0,true,1,false⟩),(930026,⟨List.map e6.Pv j19,(List.map e6.Pv j19).length,true,4,true⟩),(4,vR (.agg [.nl,.I 0,.I 0,.nl,.nl,.nl,.nl,.I 0,.nl,.bool false,.nl]) 11),(2,vR (c4.Pv a0) 11)]) (λj19 h=>?_) λκ18 h=>?_
  .refine l5 ?_;refine cC (Vu (l:=26) (r:=930026) (f:=(Ls e6.Pv)) (gE:=e6.Pv) (v:=j19) J (Wt hv5) J J J J (λ_=>J) J)<|S3 1 J<|cA h pB J J λv20 _ h=>S2 1 J ?_;refine cN h (λhc h=>?_) λhc h=>?_
   .refine dr [] y5 (by kernel_rfl) (by kernel_rfl) ?_;refine S7 1 J<|A0 h λv21 hv18 h=>d2 J (U5 J N7 J hv18) J<|E4 (x':=c4.Pv a0) (cl':=true) J J (.inr J) Q1<|S8 1 J<|b9 ?_;cases h;exact⟨J,[_,_],⟨oL J J J cQ Q1 nl J,⟨J,tr⟩⟩,J,io⟩
   .refine c9 ?_;refine S4 3 J<|S4 3 J<|b9 ?_;cases h;exact⟨J,[_,_],⟨oL J J J cQ Q1 nl J,⟨J,tr⟩⟩,J,io⟩
  .refine S3 1 J ?_;obtain⟨v22,hv19,h⟩:=C6 h;refine y0 J (Br (f:=iF) hv19 J ⟨_,J⟩ J o7 u5 (λ_=>J))<|S2 1 J<|l6<|lq h (λq=>St.of [(2,.ptr 2 0 0),(4,.ptr 4 0 0),(6,.I v1),(7,.sl 26),(8,.L iF q.1)] [(26,⟨qq (Ls e6.Pv) v4 ((v1).toNat) 930026,0,true,1,false⟩),(930026,⟨List.map e6.Pv q.2,(List.map e6.Pv q.2).length,true,4,true⟩),(4,vR (.agg [.nl,.I 0,.I 0,.nl,.nl,.nl,.nl,.I 0,.nl,.bool false,.nl]) 11),(2,vR (c4.Pv a0) 11)]) (Wk.trans (u4 _ [930026]) (sK _ _ ⟨J,J,J,J,J,J,J,J,J,J,J,J,J,J,J,tr⟩ ⟨tM J J J (λ_=>J) J J J J (λ_=>J) (λ_=>J) (λ_=>J),rS,rS,rS,tr⟩)) λq27 x26 h hx22=>?_;obtain⟨s24,s25⟩:=q27;refine l5<|S3 1 J<|nL J o7<|S2 1 J ?_;refine cN h (λhc h=>?_) λhc h=>?_
   .refine c9 ?_;refine l5<|l6<|wY [] y5 (by kernel_rfl) (by kernel_rfl)<|S7 4 J<|d0 J (RZ (f:=(Ls e6.Pv)) hv5 J J J J gy fP J) J<|d0 J (WO (f:=(Ls e6.Pv)) hv5 J J J Oj) J<|S7 1 J<|A0 h λv28 hv23 h=>d0 J (E6 (f:=iF) (cs:=[.I v28]) hv23 J J o7 u5 J J) J<|S7 2 J<|A0 h λv29 hv24 h=>d0 J (E6 (f:=iF) (cs:=[.I v29]) hv24 J J o7 u5 J J) J<|S7 2 J<|A0 h λv30 hv25 h=>d0 J (E6 (f:=iF) (cs:=[.I v30]) hv25 J J o7 u5 J J) J<|S7 2 J<|A0 h λv31 hv26 h=>d0 J (E6 (f:=iF) (cs:=[.I v31]) hv26 J J o7 u5 J J) J<|S7 1 J<|d7 J (λ_ hN=>x6 (cs:=[.I v28,.I v29,.I v30,.I v31]) J Az sQ J J J) J<|XU J (Y4 (f:=e6.Pv) (l:=[(⟨v28,v29,v30,v31⟩:e6)]) J iG kU sQ J J nl J J) J<|A0 h λv32 hv27 h=>Yy J (aD (f:=e6.Pv) hv27 J J J J J J (.inl ⟨_,J,J⟩) iG kU SE sQ J (λ_=>J)) J J J J J<|d0 J (RZ (f:=(Ls e6.Pv)) hv5 J J J J gy fP J) J<|VZ (f:=(Ls e6.Pv)) hv5 J J J fP J<|bC<|S5 1 J<|A0 h λv33 hv28 h=>y0 J (Br (f:=iF) hv28 J ⟨_,J⟩ J o7 u5 (λ_=>J))<|S2 1 J ?_;exact eL h (Wk.trans (u4 _ [61]) (Gi (λl=>if l=930026 then 61 else l) _ _ ⟨J,J,J,J,J,J,J,J,J,J,J,J,J,J,J,tr⟩ ⟨tM J J J (λ_=>J) J J J J (λ_=>J) (λ_=>J) (λ_=>J),rN,rN,rN,tr⟩ J))
   .refine x8 ?_;refine l4<|l4<|r7 ?_;have h:=xL hx22 h;exact eJ h (Wk.trans (u4 _ [930026]) (sK _ _ ⟨J,J,J,J,J,J,J,J,J,tr⟩ ⟨tM J J J (λ_=>J) J J J J (λ_=>J) (λ_=>J) (λ_=>J),rS,rS,rS,tr⟩))
theorem mV{a0 a1}:PO prog 95 [.I a0,.I a1] (Y6 a0 a1) λr=>c5.Pv r:=by
 refine pO func95 λr h _ _=>?_;refine S4 1 J<|l5<|S3 3 J<|r8 J (λhg=>mI J)<|r8 J (λhg=>H3 (ct hg) J J)<|y0 J (I5 J J J (λq=>ln q))<|S1 1 J<|r8 J (λhg=>mI J)<|r8 J (λhg=>H3 (ct hg) J J)<|y0 J (I5 J J J (λq=>ln q))<|S1 1 J<|r8 J (λhg=>mI J)<|r8 J (λhg=>H3 (ct hg) J J)<|y0 J (I5 J J J (λq=>ln q))<|yN ?_;refine cN h (λhc h=>?_) λhc h=>?_
 .refine sR ?_;refine y0 J (x6 (cs:=[.nl,.I 0]) J JV Ka J J J)<|oi (x':=.agg [.nl,.I 0]) (cl':=true) J J (.inl J) cT<|yN<|b9 ?_;cases h;exact⟨J,[_],⟨oL J J J fv cT nl J,tr⟩,J,io⟩
 .refine c9 ?_;refine S3 1 J<|A0 h λv1 hv1 h=>y1 J (wO (f:=b7.Pv) hv1 J J J V7 U9 ov Gs J J J) J<|S1 1 J<|y0 J (x6 (cs:=[.sl 21,.I a1]) J JV Ka J J J)<|S2 1 J<|b9 ?_;cases h;exact⟨J,[_],⟨oL J J J fv cT nl J,tr⟩,J,io⟩
theorem Cd{a0 a1}:PO prog 57 [.I a0,.I a1] (gw a0 a1) λr=>a7.Pv r:=by
 refine pO func57 λr h _ _=>?_;refine S4 1 J<|S3 2 J<|cF h mV J J λv1 _ h=>y0 J (x6 (cs:=[.L b7.Pv v1.a8,.I v1.Last,.I 0]) J JW Kb J J J)<|S2 1 J<|b9 ?_;cases h;exact⟨J,[_],⟨oL J J J kP kS nl J,tr⟩,J,io⟩
theorem En{a0}:PO prog 58 [.I a0] (Em a0) λr=>.L j5.Pv r:=by
 refine pO func58 λr h _ _=>?_;refine S4 1 J<|l5<|S3 3 J<|r8 J (λhg=>mI J)<|r8 J (λhg=>H3 (ct hg) J J)<|y0 J (I5 J J J (λq=>ln q))<|yN ?_;refine cN h (λhc h=>?_) λhc h=>?_
 .refine S4 1 J ?_;refine b9 ?_;cases h;exact f1
 .refine c9 ?_;refine S3 1 J<|A0 h λv1 hv1 h=>y1 J (wO (f:=j5.Pv) hv1 J J J ah aw AD Gr J J J) J<|S2 1 J ?_;refine jq h (λj9=>St.of [(3,.sl 12)] [(12,⟨List.map j5.Pv j9,0,true,3,true⟩)]) (λj9 h=>?_) λκ8 h=>?_
  .refine S4 2 J ?_;refine b9 ?_;cases h;exact f1
  .refine S3 1 J ?_;refine y0 J (yW (f:=j5.Pv) J J J ah)<|S2 1 J<|l6<|lq h (λq=>St.of [(3,.sl 12),(14,.I (v1.length:Int)),(15,.I q.1)] [(12,⟨List.map j5.Pv q.2,0,true,3,true⟩)]) W λq14 x13 h hx9=>?_;obtain⟨s11,s12⟩:=q14;refine S4 1 J<|l5 ?_;refine cN h (λhc h=>?_) λhc h=>?_
   .refine c9 ?_;refine l5<|l6<|S4 2 J<|S5 2 J<|A0 h λv15 hv10 h=>y0 J (fg (f:=j5.Pv) hv10 J J J J ah aw J)<|S1 1 J<|og (f:=j5.Pv) (v:=(⟨v15.Target,v15.Intact,(-1)⟩:j5)) hv10 J J (.inl J) u5<|yN<|S6 2 J ?_;exact eL h W
   .refine x8 ?_;refine l4<|l4<|r7 ?_;have h:=xL hx9 h;exact eJ h W
theorem CW{a0}:PO prog 59 [.I a0] (rq a0) λr=>.L b8.Pv r:=by
 refine pO func59 λr h _ _=>?_;refine S4 1 J<|l5<|S3 3 J<|r8 J (λhg=>mI J)<|r8 J (λhg=>H3 (ct hg) J J)<|y0 J (I5 J J J (λq=>ln q))<|yN ?_;refine cN h (λhc h=>?_) λhc h=>?_
 .refine S4 1 J ?_;refine b9 ?_;cases h;exact f1
 .refine c9 ?_;refine S3 1 J<|A0 h λv1 hv1 h=>y1 J (wO (f:=b8.Pv) hv1 J J J bO bJ uW Gt J J J) J<|S2 1 J<|b9 ?_;cases h;exact f1
theorem lQ{a0}:PO prog 96 [.I a0] (bt a0) λr=>k7.Pv r:=by
 refine pO func96 λr h _ _=>?_;unfold bt at h;refine S4 1 J<|S3 1 J<|y0 J (x6 (cs:=[.nl,.I a0]) J SP SV J J J)<|oi (x':=.agg [.nl,.I a0]) (cl':=true) J J (.inl J) cU<|yN<|b9 ?_;cases h;exact⟨J,[_],⟨oL J J J jk cU nl J,tr⟩,J,io⟩
theorem Eb:PO prog 60 [] (Ea) λr=>k7.Pv r:=by
 refine pO func60 λr h _ _=>?_;refine S4 1 J<|sR<|cF h lQ J J λv1 _ h=>S2 1 J<|b9 ?_;cases h;exact⟨J,[_],⟨oL J J J jk cU nl J,tr⟩,J,io⟩
theorem CY{a0 a1 a2}:PO prog 31 [.I a0,.I a1,.I a2] (jP a0 a1 a2) λr=>b6.Pv r:=by
 refine pO func31 λr h _ _=>?_;refine S4 1 J<|l5<|S3 3 J<|r8 J (λhg=>mI J)<|r8 J (λhg=>H3 (ct hg) J J)<|y0 J (I5 J J J (λq=>ln q))<|S1 1 J<|r8 J (λhg=>mI J)<|r8 J (λhg=>H3 (ct hg) J J)<|y0 J (I5 J J J (λq=>ln q))<|S1 1 J<|r8 J (λhg=>mI J)<|r8 J (λhg=>H3 (ct hg) J J)<|y0 J (I5 J J J (λq=>ln q))<|S1 1 J<|r8 J (λhg=>mI J)<|r8 J (λhg=>H3 (ct hg) J J)<|y0 J (I5 J J J (λq=>ln q))<|S1 1 J<|r8 J (λhg=>mI J)<|r8 J (λhg=>H3 (ct hg) J J)<|y0 J (I5 J J J (λq=>ln q))<|yN ?_;refine cN h (λhc h=>?_) λhc h=>?_
 .refine sR ?_;refine y0 J (x6 (cs:=[.nl,.I 0,.I 0,.nl,.nl,.nl,.nl,.I 0]) J JX Kc J J J)<|oi (x':=.agg [.nl,.I 0,.I 0,.nl,.nl,.nl,.nl,.I 0]) (cl':=true) J J (.inl J) u3<|yN<|b9 ?_;cases h;exact⟨J,[_],⟨oL J J J w9 u3 nl J,tr⟩,J,io⟩
 .refine c9 ?_;refine dr [] y5 (by kernel_rfl) (by kernel_rfl)<|S7 2 J<|A0 h λv1 hv1 h=>mR J (B9 J Cd J hv1) J<|A0 h λv2 hv2 h=>d1 J (wO (f:=iF) hv2 J J J o7 u5 F6 X5 J J J) J J J<|A0 h λv3 hv3 h=>mR J (B9 J En J hv3) J<|S7 1 J<|A0 h λv4 hv4 h=>mR J (B9 J CW J hv4) J<|A0 h λv5 hv5 h=>mR J (B9 J Eb J hv5) J<|d7 J (λ_ hN=>x6 (cs:=[.L b7.Pv v1.S.a8,.I v1.S.Last,.I v1.Serial,.sl 33,.L j5.Pv v3,.L b8.Pv v4,.L n0.Pv v5.L,.I v5.Cap]) J JX Kc J J J) J<|E4 (x':=.agg [.L b7.Pv v1.S.a8,.I v1.S.Last,.I v1.Serial,.sl 33,.L j5.Pv v3,.L b8.Pv v4,.L n0.Pv v5.L,.I v5.Cap]) (cl':=false) J J (.inr J) u3<|bC<|b9 ?_;cases h;exact⟨J,[_],⟨oL J J J w9 u3 nl J,tr⟩,J,io⟩
theorem pJ{a0 a1 a2 a3}:PO prog 17 [.I a0,.I a1,.I a2,.L (Ls e6.Pv) a3] (H0 a0 a1 a2 a3) λr=>.tup [s6.Pv r.1,.I r.2]:=by
 refine pO func17 λr h _ _=>?_;refine S4 2 J<|l5<|S3 1 J<|cA h pB J J λv1 _ h=>S2 1 J ?_;refine cN h (λhc h=>?_) λhc h=>?_
 .refine sR ?_;refine y0 J (x6 (cs:=[.nl,.I 0,.I 0,.nl,.nl,.nl,.nl,.I 0,.nl]) J ED EE J J J)<|oi (x':=.agg [.nl,.I 0,.I 0,.nl,.nl,.nl,.nl,.I 0,.nl]) (cl':=true) J J (.inl J) bP<|S2 1 J<|b9 ?_;cases h;exact⟨J,[_,_],⟨oL J J J mZ bP nl J,⟨J,tr⟩⟩,J,io⟩
 .refine c9 ?_;refine S3 3 J<|cF h CY J J λv2 _ h=>S2 2 J<|l5<|S3 2 J<|nL J o7<|S2 1 J ?_;refine cN h (λhc h=>?_) λhc h=>?_
  .refine sR ?_;refine y0 J (x6 (cs:=[.nl,.I 0,.I 0,.nl,.nl,.nl,.nl,.I 0,.nl]) J ED EE J J J)<|oi (x':=.agg [.nl,.I 0,.I 0,.nl,.nl,.nl,.nl,.I 0,.nl]) (cl':=true) J J (.inl J) bP<|S2 1 J<|b9 ?_;cases h;exact⟨J,[_,_],⟨oL J J J mZ bP nl J,⟨J,tr⟩⟩,J,io⟩
  .refine c9 ?_;refine S3 2 J<|y0 J (x6 (cs:=[.L b7.Pv v2.S.S.a8,.I v2.S.S.Last,.I v2.S.Serial,.L iF v2.Roots,.L j5.Pv v2.a8,.L b8.Pv v2.T,.L n0.Pv v2.Q.L,.I v2.Q.Cap,.L (Ls e6.Pv) a3]) J ED EE J J J)<|S2 2 J<|b9 ?_;cases h;exact⟨J,[_,_],⟨oL J J J mZ bP nl J,⟨J,tr⟩⟩,J,io⟩
theorem jH{a0 a1}:PO prog 78 [c4.Pv a0,.L iF a1] (M5 a0 a1) λr=>.tup [c4.Pv r.1,.str r.2]:=by
 refine pO func78 λr h _ _=>?_;unfold M5 at h;refine S4 3 J<|dr [] y5 (by kernel_rfl) (by kernel_rfl)<|S7 1 J<|A0 h λv1 hv1 h=>d0 J (E6 (f:=iF) (cs:=[.I v1]) hv1 J J o7 u5 J J) J<|S7 2 J<|A0 h λv2 hv2 h=>d0 J (E6 (f:=iF) (cs:=[.I v2]) hv2 J J o7 u5 J J) J<|S7 2 J<|A0 h λv3 hv3 h=>d0 J (E6 (f:=iF) (cs:=[.I v3]) hv3 J J o7 u5 J J) J<|S7 3 J<|A0 h λv4 hv4 h=>mR J (B9 J pJ J hv4) J<|S7 4 J<|E4 (x':=s6.Pv v4.1) (cl':=true) J J (.inr J) bP<|S8 1 J<|l5<|S4 2 J ?_;refine cN h (λhc h=>?_) λhc h=>?_
 .refine dr [] y5 (by kernel_rfl) (by kernel_rfl) ?_;refine S7 2 J<|A0 h λv5 hv5 h=>d2 J (U5 J N7 J hv5) J<|E4 (x':=c4.Pv a0) (cl':=true) J J (.inr J) Q1<|S8 1 J<|b9 ?_;cases h;exact⟨J,[_,_],⟨oL J J J cQ Q1 nl J,⟨J,tr⟩⟩,J,io⟩
 .refine c9 ?_;refine S4 5 J<|S4 3 J<|b9 ?_;cases h;exact⟨J,[_,_],⟨oL J J J cQ Q1 nl J,⟨J,tr⟩⟩,J,io⟩
theorem ns{a0 a1}:PO prog 125 [.I a0,.I a1] (cr a0 a1) λr=>.I r:=by
 refine pO func125 λr h _ _=>?_;refine S4 1 J<|l5<|S3 3 J<|r8 J (λhg=>mI J)<|r8 J (λhg=>H3 (ct hg) J J)<|y0 J (I5 J J J (λq=>ln q))<|S1 1 J<|r8 J (λhg=>mI J)<|r8 J (λhg=>H3 (ct hg) J J)<|y0 J (I5 J J J (λq=>ln q))<|S1 1 J<|r8 J (λhg=>mI J)<|r8 J (λhg=>H3 (ct hg) J J)<|y0 J (I5 J J J (λq=>ln q))<|yN ?_;refine cN h (λhc h=>?_) λhc h=>?_
 .refine S4 1 J ?_;refine b9 ?_;cases h;exact f1
 .refine c9 ?_;refine S4 7 J<|b9 ?_;cases h;exact f1
theorem jF{a0}:PO prog 202 [.I a0] (cmp_isNaN_int a0) λr=>.bool r:=by
 refine pO func202 λr h _ _=>?_;unfold cmp_isNaN_int at h;refine S4 1 J<|S4 4 J<|b9 ?_;cases h;exact f1
theorem qf{a0 a1}:PO prog 128 [.I a0,.I a1] (bK a0 a1) λr=>.I r:=by
 refine pO func128 λr h _ _=>?_;refine S4 1 J<|S3 1 J<|cA h jF J J λv1 _ h=>S2 1 J<|S3 1 J<|cA h jF J J λv2 _ h=>S2 1 J<|l5<|S4 1 J ?_;refine cN h (λhc h=>?_) λhc h=>?_
 .refine l5 ?_;refine S4 1 J ?_;refine cN h (λhc h=>?_) λhc h=>?_
  .refine S4 1 J ?_;refine b9 ?_;cases h;exact f1
  .refine c9 ?_;refine S4 1 J<|b9 ?_;cases h;exact f1
 .refine c9 ?_;refine l5<|S4 1 J ?_;refine cN h (λhc h=>?_) λhc h=>?_
  .refine S4 1 J ?_;refine b9 ?_;cases h;exact f1
  .refine c9 ?_;refine l5<|S4 3 J ?_;refine cN h (λhc h=>?_) λhc h=>?_
   .refine S4 1 J ?_;refine b9 ?_;cases h;exact f1
   .refine c9 ?_;refine l5<|S4 3 J ?_;refine cN h (λhc h=>?_) λhc h=>?_
    .refine S4 1 J ?_;refine b9 ?_;cases h;exact f1
    .refine c9 ?_;refine S4 1 J<|b9 ?_;cases h;exact f1
theorem uP{a0 a1 a2}:PO prog 127 [.I a0,.I a1,.rptr [.abs (V6 (List.map (fU iF iF) a2))]] (dC a0 a1 a2) λr=>.I r:=by
 refine pO func127 λr h _ _=>?_;refine S4 1 J<|S3 2 J<|y0 J (Ds (es:=a2) (k:=a0) (E:=iF) (EK:=iF) (d:=.I ((z7 a2 a0).getD (0:Int))) J J vG (B1 M4) F6 J (TZ _ _ _))<|S1 2 J<|y0 J (Ds (es:=a2) (k:=a1) (E:=iF) (EK:=iF) (d:=.I ((z7 a2 a1).getD (0:Int))) J J vG (B1 M4) F6 J (TZ _ _ _))<|cA h qf J J λv1 _ h=>S2 1 J<|b9 ?_;cases h;exact f1
theorem M2{a0}:PO prog 68 [a7.Pv a0] (E3 a0) λr=>.L iF r:=by
 refine pO func68 λr h _ _=>?_;refine S4 2 J<|S4 1 J<|sR<|Aq (KT:=Int) (VT:=Int) (EK:=iF) (E:=iF) 5000008 J J<|S2 2 J ?_;refine jq h (λq=>St.of [(3,.sl 910003),(4,.ptr 4 0 0)] [(4,vS (.mp 5000008) 1),(5000008,⟨[.mapc (List.map (fU iF iF) q.1)],0,false,0,false⟩),(910003,⟨List.map iF q.2,0,true,1,true⟩)]) (λq20 h=>?_) λκ17 h=>?_
 .obtain⟨j18,j19⟩:=q20;refine S3 2 J<|N4 (Wk.trans (Rq 5000008 nl J) (Vw 4 0 5000008 J J J J))<|A0 h λv21 hv12 h=>VB hv12 (DY (λh=>(z7 j18 h).getD 0) (λx y=>by unfold dC bK cmp_isNaN_int;simp only[YK,za0,zm,zZ];exact XS _ _)) J J On Vf J J J Oo J J J J J (λp q r h=>uP.2 r h)<|yN<|S4 2 J<|b9 ?_;cases h;exact f1
 .refine S3 3 J ?_;refine nL J V7<|S2 1 J<|l6<|lq h (λq=>St.of [(3,.sl 910003),(4,.ptr 4 0 0),(11,.L b7.Pv a0.S.a8),(12,.I (a0.S.a8.length:Int)),(13,.I q.1)] [(4,vS (.mp 5000008) 1),(5000008,⟨[.mapc (List.map (fU iF iF) q.2.1)],0,false,0,false⟩),(910003,⟨List.map iF q.2.2,0,true,1,true⟩)]) (Wk.trans (Y8 (t:=3) (l:=920003) (z:=1) J J) (WP (λl=>if l=910003 then 920003 else l))) λq27 x26 h hx15=>?_;obtain⟨s23,s24,s25⟩:=q27;refine S4 1 J<|l5 ?_;refine cN h (λhc h=>?_) λhc h=>?_
  .refine c9 ?_;refine jq h (λq=>St.of [(3,.sl 33),(4,.ptr 4 0 0),(11,.L b7.Pv a0.S.a8),(12,.I (a0.S.a8.length:Int)),(13,.I s23)] [(4,vS (.mp 5000008) 1),(5000008,⟨[.mapc (List.map (fU iF iF) q.1)],0,false,0,false⟩),(33,⟨List.map iF q.2,0,true,1,true⟩)]) (λq34 h=>?_) λκ31 h=>?_
   .obtain⟨j32,j33⟩:=q34;refine S6 2 J ?_;exact eL h (WP (λl=>if l=910003 then 33 else l))
   .refine l6 ?_;refine S3 1 J<|iL h J J V7 U9 λv35 _ h=>S2 4 J<|S4 3 J ?_;refine cN h (λhc h=>?_) λhc h=>?_
    .refine S3 3 J ?_;refine cA h ns J J λv36 _ h=>S2 1 J<|S3 5 J<|G0 (es:=s24) (k:=v36) (v:=v35.Val.Serial) (E:=iF) (EK:=iF) (.inl J) J J J J J J vG (B1 M4)<|yN<|S5 2 J<|y0 J (Y4 (f:=iF) (l:=[v36]) J o7 u5 F6 J J nl J J)<|A0 h λv37 hv22 h=>Sx (f:=iF) (b:=8) [(4,.ptr 4 0 0),(11,.L b7.Pv a0.S.a8),(12,.I (a0.S.a8.length:Int)),(13,.I s23),(14,.bool (decide (s23<(a0.S.a8.length:Int)))),(15,.I s23),(16,.rptr (b7.Pc v35)),(17,b7.Pv v35),(6,.ptr 6 0 0),(5,.I s23),(18,.ptr 6 0 0),(19,.I v35.State),(20,.bool (v35.State==1)),(21,.I s23),(22,.ptr 6 0 1),(23,.I v35.Gen),(24,.I v36),(7,.I v36),(25,.mp 5000008),(26,.I v36),(27,.ptr 6 0 2),(28,.ptr 6 0 2),(29,.I v35.Val.Serial),(31,.I v36),(32,.lst true (List.map iF [v36]))] [(6,vR (b7.Pv v35) 8),(5000008,⟨[.mapc (List.map (fU iF iF) (o5 s24 v36 v35.Val.Serial))],0,false,0,false⟩),(4,vS (.mp 5000008) 1)] J hv22 ⟨J,J,J,J,J,J,J,J,J,J,J,J,J,J,J,J,J,J,J,J,J,J,J,J,J,J,J,J,J,J,J,J,J,J,J,J,J,J,J,J,J,J,J,J,J,J,J,J,J,J,J,J,J,J,J,J,J,J,J,J,J,J,J,J,J,J,J,J,J,J,J,J,J,J,J,tr⟩ ⟨rS,ef J J J (λq=>nomatch q) J J J J,ef J J J (λq=>nomatch q) J J J J,tr⟩ J J J J (.inl ⟨_,J,J⟩) o7 u5 X5 F6 J (λ_=>J)<|S2 1 J ?_;exact eJ h W
    .refine c9 ?_;exact eJ h (WP (λl=>if l=33 then 910003 else l))
  .refine x8 ?_;refine l4<|l4<|r7 ?_;have h:=xL hx15 h;exact eJ h W
theorem mG{a0}:PO prog 336 [.I a0] (dc a0) λr=>.tup [.I r.1,.I r.2.1,.bool r.2.2]:=by
 refine pO func336 λr h _ _=>?_;refine S4 3 J<|l5<|S4 2 J ?_;refine cN h (λhc h=>?_) λhc h=>?_
 .refine S4 3 J ?_;refine b9 ?_;cases h;exact f3
 .refine c9 ?_;refine S3 2 J<|A0 h λv1 hv1 h=>y0 J (gR J J hv1)<|A0 h λv2 hv2 h=>y0 J (gR J J hv2)<|S1 2 J<|A0 h λv3 hv3 h=>y0 J (gR J J hv3)<|S2 2 J<|l5<|S3 3 J<|r8 J (λhg=>mI J)<|r8 J (λhg=>H3 (ct hg) J J)<|y0 J (I5 J J J (λq=>ln q))<|yN ?_;refine cN h (λhc h=>?_) λhc h=>?_
  .refine S4 3 J ?_;refine b9 ?_;cases h;exact f3
  .refine c9 ?_;refine S4 5 J<|b9 ?_;cases h;exact f3
theorem nt{a0}:PO prog 279 [.I a0] (eX a0) λr=>.I r:=by
 refine pO func279 λr h _ _=>?_;refine S4 1 J<|S3 1 J<|cA h mG J J λv1 _ h=>S2 7 J<|S4 2 J<|b9 ?_;cases h;exact f1
theorem pM{a0}:PO prog 280 [.I a0] (gJ a0) λr=>.I r:=by
 refine pO func280 λr h _ _=>?_;refine S4 1 J<|S3 1 J<|cA h mG J J λv1 _ h=>S2 7 J<|S4 2 J<|b9 ?_;cases h;exact f1
theorem I7{a0 a1}:PO prog 267 [c5.Pv a0,.I a1] (w7 a0 a1) λr=>.tup [.I r.1,.I r.2]:=by
 refine pO func267 λr h _ _=>?_;refine S4 3 J<|l5<|S4 2 J ?_;refine cN h (λhc h=>?_) λhc h=>?_
 .refine S4 2 J ?_;refine b9 ?_;cases h;exact f2
 .refine c9 ?_;refine S3 1 J<|cA h nt J J λv1 _ h=>S2 1 J<|l5<|S3 3 J<|r8 J (λhg=>mI J)<|r8 J (λhg=>oF J JR J)<|r8 J (λhg=>oS (ct hg) J J SC J)<|r8 J (λhg=>nB (f:=b7.Pv) (ct hg) V7)<|r8 J (λhg=>H3 (ct hg) (ct hg) J)<|y0 J (I5 J J J (λq=>ln q))<|yN ?_;refine cN h (λhc h=>?_) λhc h=>?_
  .refine S4 2 J ?_;refine b9 ?_;cases h;exact f2
  .refine c9 ?_;refine S3 3 J<|iL h J J V7 U9 λv2 _ h=>S2 3 J<|l5<|dr [] y5 (by kernel_rfl) (by kernel_rfl)<|S7 3 J<|A0 h λv3 hv3 h=>d2 J (U5 J pM J hv3) J<|S7 2 J<|qV J (λhg _ hN=>oF J yp J) J ?_;refine yy J (λhg=>oS (ct hg) J J R7 J) J<|qV J (λhg _ hN=>H3 (ct hg) J J) J<|qV J (λhg _ hN=>om (d:=.bool (v2.State != 1)) (ct hg)) J<|qV (ND J J J) (λhg _ hN=>oF J yp J) J ?_;refine yy (ND J J J) (λhg=>oS (ct hg) J J R7 J) J<|qV (ND J J J) (λhg _ hN=>H3 (ct hg) J J) J<|qV J (λhg _ hN=>F0 (ct hg) J J (λq=>XJ hg (mX q))) J<|d7 J (λ_ hN=>I5 J J J (λq=>ln q)) J<|bC ?_;refine cN h (λhc h=>?_) λhc h=>?_
   .refine S4 2 J ?_;refine b9 ?_;cases h;exact f2
   .refine c9 ?_;refine S4 3 J<|b9 ?_;cases h;exact f2
theorem dM{a0 a1}:PO prog 185 [c5.Pv a0,.I a1] (C5 a0 a1) λr=>.tup [p7.Pv r.1,.I r.2]:=by
 refine pO func185 λr h _ _=>?_;refine S4 3 J<|S4 1 J<|S3 2 J<|cA h I7 J J λv1 _ h=>S2 5 J<|l5<|S4 2 J ?_;refine cN h (λhc h=>?_) λhc h=>?_
 .refine S3 2 J ?_;refine oi (x':=.agg [.I 0,.I 0,.I 0,.I 0,.bool false,.nl]) (cl':=true) J J (.inl J) iH<|S2 1 J<|b9 ?_;cases h;exact⟨J,[_,_],⟨oL J J J qJ iH nl J,⟨J,tr⟩⟩,J,io⟩
 .refine c9 ?_;refine l5<|S3 3 J<|iL h J J V7 U9 λv2 hv2 h=>S2 3 J ?_;refine cN h (λhc h=>?_) λhc h=>?_
  .refine S3 1 J ?_;refine oi (x':=.agg [.I 0,.I 0,.I 0,.I 0,.bool false,.nl]) (cl':=true) J J (.inl J) iH<|S2 1 J<|b9 ?_;cases h;exact⟨J,[_,_],⟨oL J J J qJ iH nl J,⟨J,tr⟩⟩,J,io⟩
  .refine c9 ?_;refine S3 3 J<|y0 J (E6 (f:=b7.Pv) (cs:=b7.Pc v2) hv2 J J V7 U9 J J)<|S2 4 J<|b9 ?_;cases h;exact⟨J,[_,_],⟨oL J J J qJ iH nl J,⟨J,tr⟩⟩,J,io⟩
theorem C1{a0 a1}:PO prog 108 [a7.Pv a0,.I a1] (y4 a0 a1) λr=>.tup [p7.Pv r.1,.I r.2]:=by
 refine pO func108 λr h _ _=>?_;refine S4 3 J<|S3 3 J<|cF h dM J J λv1 _ h=>S2 4 J<|b9 ?_;cases h;exact⟨J,[_,_],⟨oL J J J qJ iH nl J,⟨J,tr⟩⟩,J,io⟩
theorem iT{a0 a1}:PO prog 186 [b6.Pv a0,.I a1] (aM a0 a1) λr=>.I r:=by
 refine pO func186 λr h _ _=>?_;refine S4 2 J<|S3 3 J<|cF h C1 J J λv1 _ h=>S2 6 J<|S4 3 J<|b9 ?_;cases h;exact f1
theorem uH{a0}:PO prog 141 [s6.Pv a0] (fS a0) λr=>.L iF r:=by
 refine pO func141 λr h _ _=>?_;refine S4 2 J<|S4 1 J ?_;refine jq h (λj11=>St.of [(3,.sl 910003)] [(910003,⟨List.map iF j11,0,true,1,true⟩)]) (λj11 h=>?_) λκ10 h=>?_
 .refine S3 1 J ?_;obtain⟨v12,hv9,h⟩:=C6 h;refine Rr hv9 J J Ov QW J J<|yN<|S4 2 J<|b9 ?_;cases h;exact f1
 .refine S3 3 J ?_;refine cF h M2 J J λv13 _ h=>nL J o7<|S2 1 J<|l6<|lq h (λq=>St.of [(1,.ptr 1 0 0),(3,.sl 910003),(9,.L iF v13),(10,.I (v13.length:Int)),(11,.I q.1)] [(1,vR (s6.Pv a0) 9),(910003,⟨List.map iF q.2,0,true,1,true⟩)]) (Wk.trans (Y8 (t:=3) (l:=920003) (z:=1) J J) (WP (λl=>if l=910003 then 920003 else l))) λq18 x17 h hx13=>?_;obtain⟨s15,s16⟩:=q18;refine S4 1 J<|l5 ?_;refine cN h (λhc h=>?_) λhc h=>?_
  .refine c9 ?_;refine l5<|l6<|sR<|iL h J J o7 u5 λv19 _ h=>S2 2 J<|S5 4 J<|cA h iT J J λv20 _ h=>y0 J (Y4 (f:=iF) (l:=[v20]) J o7 u5 F6 J J nl J J)<|A0 h λv21 hv16 h=>Sx (f:=iF) (b:=8) [(1,.ptr 1 0 0),(9,.L iF v13),(10,.I (v13.length:Int)),(11,.I s15),(12,.bool (decide (s15<(v13.length:Int)))),(13,.rptr [.I v19]),(14,.I v19),(5,.I v19),(16,.ptr 1 0 0),(17,b6.Pv a0.X),(18,.I v19),(19,.I v20),(20,.lst true (List.map iF [v20]))] [(1,vR (s6.Pv a0) 9)] J hv16 ⟨J,J,J,J,J,J,J,J,J,J,J,J,J,J,J,J,J,J,J,J,J,J,J,J,J,J,J,J,J,J,J,J,J,J,J,J,J,J,J,tr⟩ ⟨rS,tr⟩ J J J J (.inl ⟨_,J,J⟩) o7 u5 X5 F6 J (λ_=>J)<|S2 1 J<|S6 2 J ?_;exact eL h (WP (λl=>if l=910003 then 21 else l))
  .refine x8 ?_;refine l4<|l4<|r7 ?_;have h:=xL hx13 h;exact eJ h W
theorem cY{a0 a1}:PO prog 140 [.str a0,.L iF a1] (W0 a0 a1) λr=>.str r:=by
 refine pO func140 λr h _ _=>?_;refine S4 1 J ?_;refine jq h (λj11=>St.of [(0,.str j11)] []) (λj11 h=>?_) λκ10 h=>?_
 .refine S4 2 J ?_;refine b9 ?_;cases h;exact f1
 .refine S3 1 J ?_;refine nL J o7<|S2 1 J<|l6<|lq h (λq=>St.of [(0,.str q.1),(7,.L iF a1),(8,.I (a1.length:Int)),(9,.I q.2)] []) W λq16 x15 h hx11=>?_;obtain⟨s13,s14⟩:=q16;refine S4 1 J<|l5 ?_;refine cN h (λhc h=>?_) λhc h=>?_
  .refine c9 ?_;refine l5<|l6<|sR<|iL h J J o7 u5 λv17 _ h=>S2 2 J<|S5 2 J<|A0 h λv18 hv13 h=>y0 J (tA J EC J (Lz hv13))<|A0 h λv19 hv14 h=>y0 J (fE hv14 J J K0)<|A0 h λv20 hv15 h=>y0 J (fE hv15 J J K0)<|S2 1 J<|S6 2 J ?_;exact eL h W
  .refine x8 ?_;refine l4<|l4<|r7 ?_;have h:=xL hx11 h;exact eJ h W
theorem jr{a0 a1}:PO prog 80 [c4.Pv a0,.L iF a1] (K1 a0 a1) λr=>.tup [c4.Pv r.1,.str r.2]:=by
 refine pO func80 λr h _ _=>?_;unfold K1 at h;refine S4 3 J<|dr [] y5 (by kernel_rfl) (by kernel_rfl)<|S7 3 J<|A0 h λv1 hv1 h=>mR J (B9 J uH J hv1) J<|A0 h λv2 hv2 h=>d2 J (U5 J cY J hv2) J<|E4 (x':=c4.Pv a0) (cl':=true) J J (.inr J) Q1<|S8 1 J<|b9 ?_;cases h;exact⟨J,[_,_],⟨oL J J J cQ Q1 nl J,⟨J,tr⟩⟩,J,io⟩
theorem O1{a0 a1}:PO prog 111 [b6.Pv a0,.I a1] (L9 a0 a1) λr=>.I r:=by
 refine pO func111 λr h _ _=>?_;refine S4 2 J<|l5<|S3 3 J<|r8 J (λhg=>mI J)<|r8 J (λhg=>oF J CD J)<|r8 J (λhg=>oS (ct hg) J J Ez J)<|r8 J (λhg=>nB (f:=iF) (ct hg) o7)<|r8 J (λhg=>H3 (ct hg) (ct hg) J)<|y0 J (I5 J J J (λq=>ln q))<|yN ?_;refine cN h (λhc h=>?_) λhc h=>?_
 .refine S4 1 J ?_;refine b9 ?_;cases h;exact f1
 .refine c9 ?_;refine S3 3 J<|iL h J J o7 u5 λv1 _ h=>S2 2 J<|b9 ?_;cases h;exact f1
theorem eH{a0 a1}:PO prog 110 [b6.Pv a0,.I a1] (aL a0 a1) λr=>.I r:=by
 refine pO func110 λr h _ _=>?_;unfold aL at h;refine S4 2 J<|dr [] y5 (by kernel_rfl) (by kernel_rfl)<|S7 3 J<|A0 h λv1 hv1 h=>d2 J (U5 J O1 J hv1) J<|A0 h λv2 hv2 h=>d2 J (U5 J iT J hv2) J<|S8 1 J<|b9 ?_;cases h;exact f1
theorem js{a0 a1}:PO prog 81 [c4.Pv a0,.L iF a1] (K2 a0 a1) λr=>.tup [c4.Pv r.1,.str r.2]:=by
 refine pO func81 λr h _ _=>?_;unfold K2 at h;refine S4 3 J<|sR<|A0 h λv1 hv1 h=>y1 J (wO (f:=iF) hv1 J J J o7 u5 F6 X5 J J J) J<|S2 1 J ?_;refine jq h (λj10=>St.of [(2,.ptr 2 0 0),(4,.ptr 4 0 0),(6,.sl 8)] [(8,⟨List.map iF j10,0,true,1,true⟩),(4,vR (.agg [.nl,.I 0,.I 0,.nl,.nl,.nl,.nl,.I 0,.nl,.bool false,.nl]) 11),(2,vR (c4.Pv a0) 11)]) (λj10 h=>?_) λκ9 h=>?_
 .refine dr [] y5 (by kernel_rfl) (by kernel_rfl) ?_;refine S7 2 J<|A0 h λv11 hv8 h=>d2 J (U5 J cY J hv8) J<|E4 (x':=c4.Pv a0) (cl':=true) J J (.inr J) Q1<|S8 1 J<|b9 ?_;cases h;exact⟨J,[_,_],⟨oL J J J cQ Q1 nl J,⟨J,tr⟩⟩,J,io⟩
 .refine S3 1 J ?_;refine y0 J (yW (f:=iF) J J J o7)<|S2 1 J<|l6<|lq h (λq=>St.of [(2,.ptr 2 0 0),(4,.ptr 4 0 0),(6,.sl 8),(10,.I (v1.length:Int)),(11,.I q.1)] [(8,⟨List.map iF q.2,0,true,1,true⟩),(4,vR (.agg [.nl,.I 0,.I 0,.nl,.nl,.nl,.nl,.I 0,.nl,.bool false,.nl]) 11),(2,vR (c4.Pv a0) 11)]) W λq16 x15 h hx11=>?_;obtain⟨s13,s14⟩:=q16;refine S4 1 J<|l5 ?_;refine cN h (λhc h=>?_) λhc h=>?_
  .refine c9 ?_;refine l5<|l6<|S4 2 J<|S5 6 J<|cA h eH J J λv17 _ h=>A0 h λv18 hv13 h=>y0 J (fg (f:=iF) hv13 J J J J o7 u5 J)<|og (f:=iF) (v:=v17) hv13 J J (.inl J) u5<|yN<|S6 2 J ?_;exact eL h W
  .refine x8 ?_;refine l4<|l4<|r7 ?_;have h:=xL hx11 h;exact eJ h W
theorem ky{a0}:PO prog 71 [c5.Pv a0] (T6 a0) λr=>A4.Pv r:=by
 refine pO func71 λr h _ _=>?_;refine S4 2 J<|S4 1 J ?_;refine jq h (λj9=>St.of [(2,.ptr 2 0 0),(3,.ptr 3 0 0)] [(3,vR (A4.Pv j9) 4),(2,vR (.agg [.I 0,.I 0,.I 0,.I 0]) 4)]) (λj9 h=>?_) λκ8 h=>?_
 .refine S4 2 J ?_;refine b9 ?_;cases h;exact⟨J,[_],⟨oL J J J Gp GF nl J,tr⟩,J,io⟩
 .refine S3 2 J ?_;refine nL J V7<|S2 1 J<|l6<|lq h (λq=>St.of [(2,.ptr 2 0 0),(3,.ptr 3 0 0),(7,.L b7.Pv a0.a8),(8,.I (a0.a8.length:Int)),(9,.I q.1)] [(3,vR (A4.Pv q.2) 4),(2,vR (.agg [.I 0,.I 0,.I 0,.I 0]) 4)]) W λq14 x13 h hx9=>?_;obtain⟨s11,s12⟩:=q14;refine S4 1 J<|l5 ?_;refine cN h (λhc h=>?_) λhc h=>?_
  .refine c9 ?_;refine l5<|l6<|sR<|iL h J J V7 U9 λv15 _ h=>S2 3 J<|S5 2 J<|A0 h λv16 hv11 h=>y0 J (RY hv11 J J AA u5)<|y0 J (oS J J J R7 (A4.get hv11))<|S1 1 J<|y0 J (RY hv11 J J AA u5)<|Xu hv11 J J (.inl J) J u5<|yN<|S6 2 J ?_;exact eL h W
  .refine x8 ?_;refine l4<|l4<|r7 ?_;have h:=xL hx9 h;exact eJ h W
theorem uI{a0}:PO prog 40 [s6.Pv a0] (fT a0) λr=>A4.Pv r:=by
 refine pO func40 λr h _ _=>?_;refine S4 2 J<|S3 4 J<|cA h ky J J λv1 _ h=>S2 1 J<|b9 ?_;cases h;exact⟨J,[_],⟨oL J J J Gp GF nl J,tr⟩,J,io⟩
theorem jt{a0 a1}:PO prog 82 [c4.Pv a0,.L iF a1] (R3 a0 a1) λr=>.tup [c4.Pv r.1,.str r.2]:=by
 refine pO func82 λr h _ _=>?_;refine S4 3 J<|S3 2 J<|cA h uI J J λv1 _ h=>S2 2 J<|cC (Su 6 J)<|dr [] y5 (by kernel_rfl) (by kernel_rfl)<|S7 1 J<|d0 J (WT (xs:=[v1.a,v1.b,v1.c,v1.d]) J J AA J u5) J<|A0 h λv2 hv2 h=>d2 J (U5 J cY J hv2) J<|E4 (x':=c4.Pv a0) (cl':=true) J J (.inr J) Q1<|S8 1 J<|b9 ?_;cases h;exact⟨J,[_,_],⟨oL J J J cQ Q1 nl J,⟨J,tr⟩⟩,J,io⟩
theorem vO{a0}:PO prog 32 [.L iF a0] (X6 a0) λr=>.tup [e6.Pv r.1,.I r.2]:=by
 refine pO func32 λr h _ _=>?_;refine S4 2 J<|l5<|S3 1 J<|nL J o7<|S2 1 J ?_;refine cN h (λhc h=>?_) λhc h=>?_
 .refine sR ?_;refine y0 J (x6 (cs:=[.I 0,.I 0,.I 0,.I 0]) J Az sQ J J J)<|S2 2 J<|b9 ?_;cases h;exact⟨J,[_,_],⟨oL J J J Aw kU nl J,⟨J,tr⟩⟩,J,io⟩
 .refine c9 ?_;refine dr [] y5 (by kernel_rfl) (by kernel_rfl)<|S7 1 J<|A0 h λv1 hv1 h=>d0 J (E6 (f:=iF) (cs:=[.I v1]) hv1 J J o7 u5 J J) J<|S7 2 J<|A0 h λv2 hv2 h=>d0 J (E6 (f:=iF) (cs:=[.I v2]) hv2 J J o7 u5 J J) J<|S7 2 J<|A0 h λv3 hv3 h=>d0 J (E6 (f:=iF) (cs:=[.I v3]) hv3 J J o7 u5 J J) J<|S7 2 J<|A0 h λv4 hv4 h=>d0 J (E6 (f:=iF) (cs:=[.I v4]) hv4 J J o7 u5 J J) J<|S7 1 J<|d7 J (λ_ hN=>x6 (cs:=[.I v1,.I v2,.I v3,.I v4]) J Az sQ J J J) J<|S7 1 J<|E4 (x':=.agg [.I v1,.I v2,.I v3,.I v4]) (cl':=true) J J (.inl J) kU<|bC<|l5<|S3 1 J<|cA h jl J J λv5 _ h=>S2 1 J<|S4 2 J ?_;refine cN h (λhc h=>?_) λhc h=>?_
  .refine sR ?_;refine y0 J (x6 (cs:=[.I 0,.I 0,.I 0,.I 0]) J Az sQ J J J)<|S2 3 J<|b9 ?_;cases h;exact⟨J,[_,_],⟨oL J J J Aw kU nl J,⟨J,tr⟩⟩,J,io⟩
  .refine c9 ?_;refine S4 3 J<|b9 ?_;cases h;exact⟨J,[_,_],⟨oL J J J Aw kU nl J,⟨J,tr⟩⟩,J,io⟩
theorem uJ{a0}:PO prog 33 [e6.Pv a0] (ll a0) λr=>Wq pZ r:=by
 refine pO func33 λr h _ _=>?_;refine S4 2 J<|l5<|S4 2 J<|l6<|S4 2 J ?_;refine cN h (λhc h=>?_) λhc h=>?_
 .refine sR ?_;refine y0 J (x6 (cs:=[]) J OE GH J J J)<|y0 J (FA (n:=pZ) (T:=103) (xs:=[]) J GC J)<|S2 1 J<|b9 ?_;cases h;exact f1
 .refine S4 2 J ?_;refine cN h (λhc h=>?_) λhc h=>?_
  .refine S3 2 J ?_;refine y0 J (x6 (cs:=[.I a0.A]) J OF GI J J J)<|y0 J (FA (n:=pZ) (T:=107) (xs:=[a0.A]) J GD J)<|S2 1 J<|b9 ?_;cases h;exact f1
  .refine c9 ?_;refine S3 1 J<|y0 J (x6 (cs:=[.I a0.Kind,.I a0.A,.I a0.B,.I a0.C]) J SQ Kd J J J)<|y0 J (FA (n:=pZ) (T:=99) (xs:=[a0.Kind,a0.A,a0.B,a0.C]) J JY J)<|S2 1 J<|b9 ?_;cases h;exact f1
theorem tn:PO prog 61 [] (eI) λr=>.abs (V6 (List.map (fU iF ri) r)):=by
 refine pO func61 λr h _ _=>?_;unfold eI at h;refine S4 1 J<|sR<|Aq (KT:=Int) (VT:=Fv) (EK:=iF) (E:=ri) 5000001 J J<|jD (es:=[]) (k:=1) (v:=(some 97)) (E:=ri) (EK:=iF) (.inr J) J J J J J J aF (B1 M4)<|jD (es:=(o5 [] 1 (some 97))) (k:=2) (v:=(some 98)) (E:=ri) (EK:=iF) (.inr J) J J J J J J aF (B1 M4)<|jD (es:=(o5 (o5 [] 1 (some 97)) 2 (some 98))) (k:=3) (v:=(some 99)) (E:=ri) (EK:=iF) (.inr J) J J J J J J aF (B1 M4)<|jD (es:=(o5 (o5 (o5 [] 1 (some 97)) 2 (some 98)) 3 (some 99))) (k:=4) (v:=(some 100)) (E:=ri) (EK:=iF) (.inr J) J J J J J J aF (B1 M4)<|jD (es:=(o5 (o5 (o5 (o5 [] 1 (some 97)) 2 (some 98)) 3 (some 99)) 4 (some 100))) (k:=5) (v:=(some 101)) (E:=ri) (EK:=iF) (.inr J) J J J J J J aF (B1 M4)<|jD (es:=(o5 (o5 (o5 (o5 (o5 [] 1 (some 97)) 2 (some 98)) 3 (some 99)) 4 (some 100)) 5 (some 101))) (k:=6) (v:=(some 102)) (E:=ri) (EK:=iF) (.inr J) J J J J J J aF (B1 M4)<|jD (es:=(o5 (o5 (o5 (o5 (o5 (o5 [] 1 (some 97)) 2 (some 98)) 3 (some 99)) 4 (some 100)) 5 (some 101)) 6 (some 102))) (k:=7) (v:=(some 103)) (E:=ri) (EK:=iF) (.inr J) J J J J J J aF (B1 M4)<|jD (es:=(o5 (o5 (o5 (o5 (o5 (o5 (o5 [] 1 (some 97)) 2 (some 98)) 3 (some 99)) 4 (some 100)) 5 (some 101)) 6 (some 102)) 7 (some 103))) (k:=8) (v:=(some 104)) (E:=ri) (EK:=iF) (.inr J) J J J J J J aF (B1 M4)<|jD (es:=(o5 (o5 (o5 (o5 (o5 (o5 (o5 (o5 [] 1 (some 97)) 2 (some 98)) 3 (some 99)) 4 (some 100)) 5 (some 101)) 6 (some 102)) 7 (some 103)) 8 (some 104))) (k:=9) (v:=(some 105)) (E:=ri) (EK:=iF) (.inr J) J J J J J J aF (B1 M4)<|jD (es:=(o5 (o5 (o5 (o5 (o5 (o5 (o5 (o5 (o5 [] 1 (some 97)) 2 (some 98)) 3 (some 99)) 4 (some 100)) 5 (some 101)) 6 (some 102)) 7 (some 103)) 8 (some 104)) 9 (some 105))) (k:=10) (v:=(some 106)) (E:=ri) (EK:=iF) (.inr J) J J J J J J aF (B1 M4)<|S2 2 J<|cC (Cq 0 5000001 J J)<|b9 ?_;cases h;exact f1
theorem Gf{a0}:PO prog 252 [.I a0] (sH a0) λr=>.tup [.L iF r.1,.I r.2]:=by
 refine pO func252 λr h _ _=>?_;refine S4 2 J<|l5<|S3 3 J<|r8 J (λhg=>mI J)<|r8 J (λhg=>H3 (ct hg) J J)<|y0 J (I5 J J J (λq=>ln q))<|yN ?_;refine cN h (λhc h=>?_) λhc h=>?_
 .refine S4 2 J ?_;refine b9 ?_;cases h;exact f2
 .refine c9 ?_;refine S3 1 J<|A0 h λv1 hv1 h=>y1 J (wO (f:=iF) hv1 J J J o7 u5 F6 X5 J J J) J<|S2 2 J<|b9 ?_;cases h;exact f2
theorem nZ{a0}:PO prog 253 [.I a0] (T9 a0) λr=>.bool r:=by
 refine pO func253 λr h _ _=>?_;unfold T9 at h;refine S4 1 J<|S3 3 J<|r8 J (λhg=>mI J)<|r8 J (λhg=>H3 (ct hg) J J)<|y0 J (F0 J J J (λq=>mX q))<|S2 1 J<|b9 ?_;cases h;exact f1
theorem mj{a0}:PO prog 325 [c5.Pv a0] (P0 a0) λr=>.fn (.func 367) [.rptr (c5.Pc r)]:=by
 refine pO func325 λr h _ _=>?_;unfold P0 at h;refine S4 2 J<|S4 2 J<|b9 ?_;cases h;exact f1
theorem N3{a0}:Sz prog 331 [.L b7.Pv a0] (y8 a0) λr=>⟨List.map b7.Pv r,0,true,8,true⟩:=by
 refine WU func331 λr h _ _=>?_;unfold y8 at h;refine S4 1 J<|l5<|S3 1 J<|Ct J V7 λb hb=>yN ?_;refine F5 b J (λhc=>?_) (λhc=>?_)
 .obtain rfl:a0 = []:=by simpa using hb hc
  refine S4 1 J<|cC (Y8 (t:=2) (l:=920000) (z:=8) J J)<|b9 ?_;cases h;exact⟨J,_,_,J,J,J,J⟩
 .refine c9 ?_;refine sR<|y0 J (wP J V7 U9)<|S1 1 J<|y1 J (Dr (f:=b7.Pv) h J J (.inl ⟨_,J,J⟩) V7 U9 Gs ov J (λ_=>J)) J<|S2 1 J<|b9 ?_;exact⟨J,_,_,J,J,J,J⟩
theorem I8{a0 a1 a2}:PO prog 268 [c5.Pv a0,.I a1,b7.Pv a2] (D0 a0 a1 a2) λr=>c5.Pv r:=by
 refine pO func268 λr h _ _=>?_;unfold D0 at h;refine S4 3 J<|S3 2 J<|A0 h λv1 hv1 h=>VL J (yV J N3 J hv1) J J<|S2 2 J<|S3 4 J<|A0 h λv2 hv2 h=>y0 J (fg (f:=b7.Pv) hv2 J J J J V7 U9 J)<|og (f:=b7.Pv) (v:=a2) hv2 J J (.inr J) U9<|yN<|S4 2 J<|b9 ?_;cases h;exact⟨J,[_],⟨oL J J J fv cT nl J,tr⟩,J,io⟩
theorem mi{a0 a1}:PO prog 254 [c5.Pv a0,p7.Pv a1] (E9 a0 a1) λr=>.tup [c5.Pv r.1,.I r.2.1,.I r.2.2]:=by
 refine pO func254 λr h _ _=>?_;refine S4 5 J ?_;refine jq h (λ_=>St.of [(2,.ptr 2005 0 0),(4,.ptr 2003 0 0),(5,.ptr 2002 0 0),(6,.ptr 2001 0 0)] [(2001,vR (.I 0) 1),(2002,vR (.I 0) 1),(2003,vR (.agg [.nl,.I 0]) 2),(2005,vR (c5.Pv a0) 2)]) (λq10 h=>?_) λκ9 h=>?_
 .refine S4 4 J ?_;refine b9 ?_;cases h;exact⟨J,[_,_,_],⟨oL J J J fv cT nl J,⟨oS J J J R7 J,⟨oS J J J vF J,tr⟩⟩⟩,J,io⟩
 .refine S3 1 J ?_;refine cF h mj J J λv11 _ h=>yN<|l6<|cC (vI (λl=>if l=2006 then 6 else if l=2007 then 5 else if l=2008 then 4 else if l=2009 then 3 else if l=2010 then 2 else l) [(2,.ptr 2010 0 0),(3,.ptr 2009 0 0),(4,.ptr 2008 0 0),(5,.ptr 2007 0 0),(6,.ptr 2006 0 0),(10,.fn (.func 367) [.rptr (c5.Pc v11)])] [(2006,vR (.I 0) 1),(2007,vR (.I 0) 1),(2008,vR (.agg [.nl,.I 0]) 2),(2009,vR (p7.Pv a1) 6),(2010,vR (c5.Pv a0) 2)]) ?_;refine dq (fn:=Tryz.f367) (N1:=23) J func367 J J nl J OB J J (λl19 e20 o21 hR22=>?_);refine S3 2 J<|nL J V7<|S2 1 J<|l6<|lq h (λs13=>St.of [(1000002,.ptr 2010 0 0),(1000003,.ptr 2009 0 0),(1000004,.ptr 2008 0 0),(1000005,.ptr 2007 0 0),(1000006,.ptr 2006 0 0),(1000010,.fn (.func 367) [.rptr (c5.Pc v11)]),(0,.fn (.yield l19) []),(6,.L b7.Pv v11.a8),(7,.I (v11.a8.length:Int)),(8,.I s13)] [(2006,vR (.I 0) 1),(2007,vR (.I 0) 1),(2008,vR (.agg [.nl,.I 0]) 2),(2009,vR (p7.Pv a1) 6),(2010,vR (c5.Pv a0) 2)]) W λs13 x14 h hx25=>S4 1 J<|l5 ?_;refine cN h (λhc h=>?_) λhc h=>?_
  .refine c9 ?_;refine l5<|l6<|S3 1 J<|iL h J J V7 U9 λv15 _ h=>S2 4 J<|S3 4 J<|r8 J (λhg=>om (d:=.fn (.yield l19) []) J)<|r8 J (λhg=>mI J) ?_;rcases zav ((v15.State==0)==true) with hg27 | hg27
   .have h:=NX h hg27;refine N4 (WE [(1000002,.ptr 2010 0 0),(1000003,.ptr 2009 0 0),(1000004,.ptr 2008 0 0),(1000005,.ptr 2007 0 0),(1000006,.ptr 2006 0 0),(1000010,.fn (.func 367) [.rptr (c5.Pc v11)]),(0,.fn (.yield l19) []),(6,.L b7.Pv v11.a8),(7,.I (v11.a8.length:Int)),(8,.I s13),(16,.bool (v15.State==0)),(17,.fn (.yield l19) []),(18,.I s13)] [(2006,vR (.I 0) 1),(2007,vR (.I 0) 1),(2008,vR (.agg [.nl,.I 0]) 2),(2009,vR (p7.Pv a1) 6),(2010,vR (c5.Pv a0) 2)]) ?_;refine mC hR22 (zaa some hg27) J J J J J (λe28 o29 o30=>?_);refine S6 1 J ?_;refine⟨J,?_⟩;refine l6<|S3 3 J<|iL h J J V7 U9 λv16 _ h=>S2 3 J<|S3 4 J<|y0 J (x6 (cs:=[.I 1,.I v16.Gen,.I a1.Serial,.I a1.Strong,.I a1.Weak,.I a1.Prog,.bool a1.Started,.L iF a1.Fields]) J uV ov J J J)<|cF h I8 J J λv17 _ h=>S1 2 J<|cA h ns J J λv18 _ h=>S2 3 J<|b9 ?_;refine⟨J,?_⟩;refine N4 (WE [(1000002,.ptr 2010 0 0),(1000003,.ptr 2009 0 0),(1000004,.ptr 2008 0 0),(1000005,.ptr 2007 0 0),(1000006,.ptr 2006 0 0),(1000010,.fn (.func 367) [.rptr (c5.Pc v11)]),(0,.fn (.yield l19) []),(6,.L b7.Pv v11.a8),(7,.I (v11.a8.length:Int)),(8,.I s13),(16,.bool (v15.State==0)),(19,.bool false)] [(2006,vR (.I 0) 1),(2007,vR (.I v18) 1),(2008,vR (c5.Pv v17) 2),(2009,vR (p7.Pv a1) 6),(2010,vR (c5.Pv a0) 2)])<|y0 (zaa some hg27) (fL J J)<|y0 J (lM J J hg27)<|yN ?_;refine F5 true J (λ_=>?_) (λq=>nomatch q);refine b9 ?_;refine .inr ⟨.ret,J,PG ?_⟩;have h:=xL hx25 h;cases h;exact⟨J,[_,_,_],⟨oL J J J fv cT nl J,⟨oS J J J R7 J,⟨oS J J J vF J,tr⟩⟩⟩,J,io⟩
   .have h:=NW h hg27;refine bA (zaa some hg27)<|bA (zaa some hg27)<|y0 J (oP J J hg27)<|yN ?_;refine F5 false J (λq=>nomatch q) (λ_=>?_);refine c9<|S6 2 J ?_;exact eL h W
  .refine x8 ?_;refine l4<|l4<|r7 ?_;refine .inl ⟨J,?_⟩;have h:=xL hx25 h;exact eJ h (WP (λl=>if l=2005 then 2010 else if l=2003 then 2008 else if l=2002 then 2007 else if l=2001 then 2006 else l))
theorem yh{a0 a1 a2}:PO prog 176 [a7.Pv a0,.I a1,.I a2] (O2 a0 a1 a2) λr=>.tup [a7.Pv r.1,.I r.2.1,.I r.2.2]:=by
 refine pO func176 λr h _ _=>?_;refine S4 4 J<|S3 1 J<|cF h Gf J J λv1 _ h=>S2 5 J<|l5<|S4 2 J ?_;refine cN h (λhc h=>?_) λhc h=>?_
 .refine S4 5 J ?_;refine b9 ?_;cases h;exact⟨J,[_,_,_],⟨oL J J J kP kS nl J,⟨J,⟨J,tr⟩⟩⟩,J,io⟩
 .refine c9 ?_;refine l5<|S3 1 J<|cA h nZ J J λv2 _ h=>S2 1 J ?_;refine cN h (λhc h=>?_) λhc h=>?_
  .refine S4 4 J ?_;refine b9 ?_;cases h;exact⟨J,[_,_,_],⟨oL J J J kP kS nl J,⟨J,⟨J,tr⟩⟩⟩,J,io⟩
  .refine c9 ?_;refine S3 7 J<|y0 J (x6 (cs:=[.I (z6 (a0.Serial+1)),.I 0,.I 0,.I a2,.bool false,.L iF v1.1]) J OH OS J J J)<|cF h mi J J λv3 _ h=>S2 8 J<|l5<|S4 2 J ?_;refine cN h (λhc h=>?_) λhc h=>?_
   .refine S4 5 J ?_;refine b9 ?_;cases h;exact⟨J,[_,_,_],⟨oL J J J kP kS nl J,⟨J,⟨J,tr⟩⟩⟩,J,io⟩
   .refine c9 ?_;refine S3 4 J<|y0 J (x6 (cs:=[.L b7.Pv v3.1.a8,.I v3.1.Last,.I (z6 (a0.Serial+1))]) J JW Kb J J J)<|S2 4 J<|b9 ?_;cases h;exact⟨J,[_,_,_],⟨oL J J J kP kS nl J,⟨J,⟨J,tr⟩⟩⟩,J,io⟩
theorem wy{a0 a1}:PO prog 327 [b6.Pv a0,.I a1] (iQ a0 a1) λr=>.bool r:=by
 refine pO func327 λr h _ _=>?_;refine S4 2 J<|S3 3 J<|cF h C1 J J λv1 _ h=>S2 6 J<|S4 3 J<|b9 ?_;cases h;exact f1
theorem W4{a0 a1}:PO prog 256 [b6.Pv a0,.I a1] (L6 a0 a1) λr=>.bool r:=by
 refine pO func256 λr h _ _=>?_;unfold L6 at h;refine S4 2 J<|S3 3 J<|r8 J (λhg=>oL J J J w9 u3 nl J)<|r8 J (λhg=>mI J)<|A0 h λv1 hv1 h=>r8 J (λhg=>U5 J wy (eR (ct hg) (eR (ct hg) J)) (O7 hv1 hg))<|y0 J (I5 J J J (λq=>ln q))<|S2 1 J<|b9 ?_;cases h;exact f1
theorem aH{a0}:PO prog 332 [.I a0] (G2 a0) λr=>.bool r:=by
 refine pO func332 λr h _ _=>?_;unfold G2 at h;refine S4 1 J<|S4 3 J<|b9 ?_;cases h;exact f1
theorem qU{a0}:PO prog 271 [.I a0] (gC a0) λr=>.tup [.I r.1,.I r.2]:=by
 refine pO func271 λr h _ _=>?_;refine S4 2 J<|l5<|S3 1 J<|cA h aH J J λv1 _ h=>yN ?_;refine cN h (λhc h=>?_) λhc h=>?_
 .refine S4 2 J ?_;refine b9 ?_;cases h;exact f2
 .refine c9 ?_;refine S3 1 J<|y0 J (Hq J J J)<|S2 3 J<|b9 ?_;cases h;exact f2
theorem AJ{a0}:PO prog 190 [.I a0] (oy a0) λr=>.I r:=by
 refine pO func190 λr h _ _=>?_;refine S4 1 J<|S3 1 J<|cA h qU J J λv1 _ h=>S2 5 J<|S4 2 J<|b9 ?_;cases h;exact f1
theorem mW{a0 a1 a2}:PO prog 187 [c5.Pv a0,.I a1,p7.Pv a2] (K7 a0 a1 a2) λr=>.tup [c5.Pv r.1,.I r.2]:=by
 refine pO func187 λr h _ _=>?_;refine S4 4 J<|S3 2 J<|cA h I7 J J λv1 _ h=>S2 5 J<|l5<|S4 2 J ?_;refine cN h (λhc h=>?_) λhc h=>?_
 .refine S4 4 J ?_;refine b9 ?_;cases h;exact⟨J,[_,_],⟨oL J J J fv cT nl J,⟨J,tr⟩⟩,J,io⟩
 .refine c9 ?_;refine S3 3 J<|iL h J J V7 U9 λv2 _ h=>S2 3 J<|S4 3 J<|S3 3 J<|cF h I8 J J λv3 _ h=>S2 2 J<|b9 ?_;cases h;exact⟨J,[_,_],⟨oL J J J fv cT nl J,⟨J,tr⟩⟩,J,io⟩
theorem bk{a0 a1 a2}:PO prog 114 [a7.Pv a0,.I a1,p7.Pv a2] (K8 a0 a1 a2) λr=>.tup [a7.Pv r.1,.I r.2]:=by
 refine pO func114 λr h _ _=>?_;refine S4 4 J<|S4 1 J<|S3 4 J<|cF h mW J J λv1 _ h=>S2 6 J<|S4 4 J<|b9 ?_;cases h;exact⟨J,[_,_],⟨oL J J J kP kS nl J,⟨J,tr⟩⟩,J,io⟩
theorem gM{a0 a1}:PO prog 189 [b6.Pv a0,.I a1,.fn (.func 190) []] (W3 a0 a1) λr=>b6.Pv r:=by
 refine pO func189 λr h _ _=>?_;refine S4 2 J<|S3 3 J<|cF h C1 J J λv1 _ h=>S2 6 J<|l5<|S4 2 J ?_;refine cN h (λhc h=>?_) λhc h=>?_
 .refine S3 3 J ?_;refine cA h AJ J J λv2 _ h=>S2 2 J<|S5 4 J<|cF h bk J J λv3 _ h=>S2 5 J<|S4 2 J<|b9 ?_;cases h;exact⟨J,[_],⟨oL J J J w9 u3 nl J,tr⟩,J,io⟩
 .refine c9 ?_;refine S4 2 J<|b9 ?_;cases h;exact⟨J,[_],⟨oL J J J w9 u3 nl J,tr⟩,J,io⟩
theorem de{a0 a1}:PO prog 116 [b6.Pv a0,.I a1] (aK a0 a1) λr=>b6.Pv r:=by
 refine pO func116 λr h _ _=>?_;refine S4 2 J<|S3 2 J<|cF h gM J J λv1 _ h=>S2 1 J<|b9 ?_;cases h;exact⟨J,[_],⟨oL J J J w9 u3 nl J,tr⟩,J,io⟩
theorem jB{a0}:Sz prog 347 [.L iF a0] (N2 a0) λr=>⟨List.map iF r,0,true,1,true⟩:=by
 refine WU func347 λr h _ _=>?_;unfold N2 at h;refine S4 1 J<|l5<|S3 1 J<|Ct J o7 λb hb=>yN ?_;refine F5 b J (λhc=>?_) (λhc=>?_)
 .obtain rfl:a0 = []:=by simpa using hb hc
  refine S4 1 J<|cC (Y8 (t:=2) (l:=920000) (z:=1) J J)<|b9 ?_;cases h;exact⟨J,_,_,J,J,J,J⟩
 .refine c9 ?_;refine sR<|y0 J (wP J o7 u5)<|S1 1 J<|y1 J (Dr (f:=iF) h J J (.inl ⟨_,J,J⟩) o7 u5 X5 F6 J (λ_=>J)) J<|S2 1 J<|b9 ?_;exact⟨J,_,_,J,J,J,J⟩
theorem mT{a0 a1}:PO prog 298 [I1.Pv a0,b6.Pv a1] (Q6 a0 a1) λr=>b6.Pv r:=by
 refine pO func298 λr h _ _=>?_;unfold Q6 at h;refine S4 3 J<|S3 2 J<|A0 h λv1 hv1 h=>VL J (yV J jB J hv1) J J<|S2 2 J<|S3 6 J<|A0 h λv2 hv2 h=>y0 J (fg (f:=iF) hv2 J J J J o7 u5 J)<|og (f:=iF) (v:=a0.h) hv2 J J (.inl J) u5<|yN<|S4 2 J<|b9 ?_;cases h;exact⟨J,[_],⟨oL J J J w9 u3 nl J,tr⟩,J,io⟩
theorem pk{a0}:PO prog 281 [.I a0] (dV a0) λr=>.tup [.I r.1,.I r.2]:=by
 refine pO func281 λr h _ _=>?_;refine S4 2 J<|l5<|S3 1 J<|cA h aH J J λv1 _ h=>yN ?_;refine cN h (λhc h=>?_) λhc h=>?_
 .refine S4 2 J ?_;refine b9 ?_;cases h;exact f2
 .refine c9 ?_;refine l5<|S4 2 J ?_;refine cN h (λhc h=>?_) λhc h=>?_
  .refine S4 2 J ?_;refine b9 ?_;cases h;exact f2
  .refine c9 ?_;refine S4 4 J<|b9 ?_;cases h;exact f2
theorem AI{a0}:PO prog 197 [.I a0] (sU a0) λr=>.tup [.I r.1,.I r.2]:=by
 refine pO func197 λr h _ _=>?_;refine S4 2 J<|S3 1 J<|cA h pk J J λv1 _ h=>S2 5 J<|S4 4 J<|b9 ?_;cases h;exact f2
theorem ry{a0}:PO prog 196 [.I a0] (dd a0) λr=>.I r:=by
 refine pO func196 λr h _ _=>?_;refine S4 1 J<|S3 1 J<|cA h AI J J λv1 _ h=>S2 5 J<|l5<|S4 2 J ?_;refine cN h (λhc h=>?_) λhc h=>?_
 .refine S4 2 J ?_;refine b9 ?_;cases h;exact f1
 .refine c9 ?_;refine S4 2 J<|b9 ?_;cases h;exact f1
theorem dH{a0 a1}:PO prog 189 [b6.Pv a0,.I a1,.fn (.func 196) []] (O0 a0 a1) λr=>b6.Pv r:=by
 refine pO func189 λr h _ _=>?_;refine S4 2 J<|S3 3 J<|cF h C1 J J λv1 _ h=>S2 6 J<|l5<|S4 2 J ?_;refine cN h (λhc h=>?_) λhc h=>?_
 .refine S3 3 J ?_;refine cA h ry J J λv2 _ h=>S2 2 J<|S5 4 J<|cF h bk J J λv3 _ h=>S2 5 J<|S4 2 J<|b9 ?_;cases h;exact⟨J,[_],⟨oL J J J w9 u3 nl J,tr⟩,J,io⟩
 .refine c9 ?_;refine S4 2 J<|b9 ?_;cases h;exact⟨J,[_],⟨oL J J J w9 u3 nl J,tr⟩,J,io⟩
theorem Z2{a0 a1}:PO prog 123 [b6.Pv a0,.I a1] (C9 a0 a1) λr=>b6.Pv r:=by
 refine pO func123 λr h _ _=>?_;refine S4 2 J<|S3 2 J<|cF h dH J J λv1 _ h=>S2 1 J<|b9 ?_;cases h;exact⟨J,[_],⟨oL J J J w9 u3 nl J,tr⟩,J,io⟩
theorem bV{a0 a1 a2 a3}:PO prog 257 [b6.Pv a0,.I a1,.I a2,.abs (Ru 298 [I1.Pv a3])] (F4 a0 a1 a2 a3) λr=>b6.Pv r:=by
 refine pO func257 λr h _ _=>?_;refine S4 2 J<|S3 3 J<|cF h de J J λv1 _ h=>A0 h λv2 hv2 h=>Cs (xs:=[b6.Pv v1]) J J OA J (mT.2 _ hv2)<|S1 1 J<|cF h Z2 J J λv3 _ h=>S2 1 J<|b9 ?_;cases h;exact⟨J,[_],⟨oL J J J w9 u3 nl J,tr⟩,J,io⟩
theorem lC{a0 a1 a2}:PO prog 205 [b6.Pv a0,.I a1,.I a2] (ba a0 a1 a2) λr=>.tup [b6.Pv r.1,.I r.2]:=by
 refine pO func205 λr h _ _=>?_;refine S4 3 J<|l5<|S3 3 J<|r8 J (λhg=>mI J)<|r8 J (λhg=>oF J CD J)<|r8 J (λhg=>oS (ct hg) J J Ez J)<|r8 J (λhg=>nB (f:=iF) (ct hg) o7)<|r8 J (λhg=>H3 (ct hg) (ct hg) J)<|y0 J (I5 J J J (λq=>ln q))<|yN ?_;refine cN h (λhc h=>?_) λhc h=>?_
 .refine S4 3 J ?_;refine b9 ?_;cases h;exact⟨J,[_,_],⟨oL J J J w9 u3 nl J,⟨J,tr⟩⟩,J,io⟩
 .refine c9 ?_;refine l5<|S3 2 J<|cA h W4 J J λv1 _ h=>S2 1 J ?_;refine cN h (λhc h=>?_) λhc h=>?_
  .refine S4 3 J ?_;refine b9 ?_;cases h;exact⟨J,[_,_],⟨oL J J J w9 u3 nl J,⟨J,tr⟩⟩,J,io⟩
  .refine c9 ?_;refine dr [] y5 (by kernel_rfl) (by kernel_rfl)<|S7 4 J<|A0 h λv2 hv2 h=>d0 J (E6 (f:=iF) (cs:=[.I v2]) hv2 J J o7 u5 J J) J<|S7 4 J<|d7 J (λ_ hN=>x6 (cs:=[.I a1,.I a2]) J OM OX J J J) J<|d7 J (λ_ hN=>tB (d:=.agg [.I a1,.I a2]) J) J<|A0 h λv3 hv3 h=>mR J (B9 J bV J hv3) J<|E4 (x':=b6.Pv v3) (cl':=true) J J (.inr J) u3<|S8 1 J<|b9 ?_;cases h;exact⟨J,[_,_],⟨oL J J J w9 u3 nl J,⟨J,tr⟩⟩,J,io⟩
theorem H2{a0 a1 a2}:PO prog 177 [u7.Pv a0,.I a1,.I a2] (B7 a0 a1 a2) λr=>.tup [b6.Pv r.1,.I r.2]:=by
 refine pO func177 λr h _ _=>?_;refine S4 3 J<|l5<|S4 2 J ?_;refine cN h (λhc h=>?_) λhc h=>?_
 .refine S4 5 J ?_;refine b9 ?_;cases h;exact⟨J,[_,_],⟨oL J J J w9 u3 nl J,⟨J,tr⟩⟩,J,io⟩
 .refine c9 ?_;refine S3 6 J<|cF h lC J J λv1 _ h=>S2 4 J<|b9 ?_;cases h;exact⟨J,[_,_],⟨oL J J J w9 u3 nl J,⟨J,tr⟩⟩,J,io⟩
theorem dh{a0}:PO prog 97 [u7.Pv a0] (V2 a0) λr=>.tup [b6.Pv r.1,.I r.2]:=by
 refine pO func97 λr h _ _=>?_;refine S4 3 J<|S3 9 J<|cF h yh J J λv1 _ h=>S2 8 J<|l5<|S4 2 J ?_;refine cN h (λhc h=>?_) λhc h=>?_
 .refine S4 5 J ?_;refine b9 ?_;cases h;exact⟨J,[_,_],⟨oL J J J w9 u3 nl J,⟨J,tr⟩⟩,J,io⟩
 .refine c9 ?_;refine S4 4 J<|S3 2 J<|cF h H2 J J λv2 _ h=>S2 4 J<|b9 ?_;cases h;exact⟨J,[_,_],⟨oL J J J w9 u3 nl J,⟨J,tr⟩⟩,J,io⟩
theorem bm{a0}:PO prog 98 [u7.Pv a0] (I4 a0) λr=>.tup [b6.Pv r.1,.I r.2]:=by
 refine pO func98 λr h _ _=>?_;unfold I4 at h;refine S4 3 J<|dr [] y5 (by kernel_rfl) (by kernel_rfl)<|S7 6 J<|A0 h λv1 hv1 h=>d2 J (U5 J O1 J hv1) J<|A0 h λv2 hv2 h=>mR J (B9 J H2 J hv2) J<|S7 2 J<|E4 (x':=b6.Pv v2.1) (cl':=true) J J (.inr J) u3<|S8 1 J<|b9 ?_;cases h;exact⟨J,[_,_],⟨oL J J J w9 u3 nl J,⟨J,tr⟩⟩,J,io⟩
theorem eZ{a0}:PO prog 99 [u7.Pv a0] (aA a0) λr=>.tup [b6.Pv r.1,.I r.2]:=by
 refine pO func99 λr h _ _=>?_;refine S4 3 J<|S3 1 J<|cF h H2 J J λv1 _ h=>S2 4 J<|b9 ?_;cases h;exact⟨J,[_,_],⟨oL J J J w9 u3 nl J,⟨J,tr⟩⟩,J,io⟩
theorem T3{a0 a1}:PO prog 178 [b6.Pv a0,.I a1] (M8 a0 a1) λr=>.tup [.I r.1,.I r.2]:=by
 refine pO func178 λr h _ _=>?_;refine S4 3 J<|S3 2 J<|cA h O1 J J λv1 _ h=>S2 1 J<|l5<|S4 2 J ?_;refine cN h (λhc h=>?_) λhc h=>?_
 .refine S4 2 J ?_;refine b9 ?_;cases h;exact f2
 .refine c9 ?_;refine S4 3 J<|b9 ?_;cases h;exact f2
theorem xE{a0 a1}:PO prog 326 [.L iF a0,.I a1] (mz a0 a1) λr=>.bool r:=by
 refine pO func326 λr h _ _=>?_;unfold mz at h;refine S4 1 J<|S3 3 J<|r8 J (λhg=>mI J)<|r8 J (λhg=>om (d:=.L iF a0) J)<|r8 J (λhg=>nB (f:=iF) (ct hg) o7)<|r8 J (λhg=>H3 (ct hg) (ct hg) J)<|y0 J (F0 J J J (λq=>mX q))<|S2 1 J<|b9 ?_;cases h;exact f1
theorem JI{a0 a1}:PO prog 255 [.L iF a0,.I a1] (oe a0 a1) λr=>.tup [.I r.1,.I r.2]:=by
 refine pO func255 λr h _ _=>?_;refine S4 2 J<|l5<|S3 2 J<|cA h xE J J λv1 _ h=>S2 1 J ?_;refine cN h (λhc h=>?_) λhc h=>?_
 .refine S4 2 J ?_;refine b9 ?_;cases h;exact f2
 .refine c9 ?_;refine S3 2 J<|iL h J J o7 u5 λv2 _ h=>S2 3 J<|b9 ?_;cases h;exact f2
theorem nY{a0 a1 a2}:PO prog 179 [a7.Pv a0,.I a1,.I a2] (T8 a0 a1 a2) λr=>.tup [.I r.1,.I r.2]:=by
 refine pO func179 λr h _ _=>?_;refine S4 3 J<|S3 2 J<|cF h C1 J J λv1 _ h=>S2 6 J<|l5<|S4 2 J ?_;refine cN h (λhc h=>?_) λhc h=>?_
 .refine S4 3 J ?_;refine b9 ?_;cases h;exact f2
 .refine c9 ?_;refine S3 3 J<|cA h JI J J λv2 _ h=>S2 4 J<|b9 ?_;cases h;exact f2
theorem fe{a0}:PO prog 100 [u7.Pv a0] (aB a0) λr=>.tup [b6.Pv r.1,.I r.2]:=by
 refine pO func100 λr h _ _=>?_;refine S4 3 J<|S3 5 J<|cA h T3 J J λv1 _ h=>S2 5 J<|l5<|S4 2 J ?_;refine cN h (λhc h=>?_) λhc h=>?_
 .refine S4 5 J ?_;refine b9 ?_;cases h;exact⟨J,[_,_],⟨oL J J J w9 u3 nl J,⟨J,tr⟩⟩,J,io⟩
 .refine c9 ?_;refine dr [] y5 (by kernel_rfl) (by kernel_rfl)<|S7 8 J<|A0 h λv2 hv2 h=>d2 J (U5 J nY J hv2) J<|S7 2 J<|A0 h λv3 hv3 h=>mR J (B9 J H2 J hv3) J<|S7 2 J<|E4 (x':=b6.Pv v3.1) (cl':=true) J J (.inr J) u3<|S8 1 J<|b9 ?_;cases h;exact⟨J,[_,_],⟨oL J J J w9 u3 nl J,⟨J,tr⟩⟩,J,io⟩
theorem Ei{a0 a1 a2}:PO prog 368 [.L iF a0,.I a1,.I a2] (xD a0 a1 a2) λr=>.tup [.L iF r.1,.I r.2]:=by
 refine pO func368 λr h _ _=>?_;refine S4 2 J<|l5<|S3 2 J<|cA h xE J J λv1 _ h=>S2 1 J ?_;refine cN h (λhc h=>?_) λhc h=>?_
 .refine S4 3 J ?_;refine b9 ?_;cases h;exact f2
 .refine c9 ?_;refine S3 1 J<|nL J o7<|A0 h λv2 hv2 h=>y1 J (wO (f:=iF) hv2 J J J o7 u5 F6 X5 J J J) J<|S2 1 J<|S3 2 J<|A0 h λv3 hv3 h=>Vy (f:=iF) hv3 J J J (.inl ⟨_,J,J⟩) o7 u5 (λ_=>J) (by decide)<|yN<|S3 3 J<|A0 h λv4 hv4 h=>y0 J (fg (f:=iF) hv4 J J J J o7 u5 J)<|og (f:=iF) (v:=a2) hv4 J J (.inl J) u5<|yN<|S4 3 J<|b9 ?_;cases h;exact f2
theorem Ce{a0 a1 a2 a3}:PO prog 328 [a7.Pv a0,.I a1,.I a2,.I a3] (oZ a0 a1 a2 a3) λr=>.tup [a7.Pv r.1,.I r.2]:=by
 refine pO func328 λr h _ _=>?_;refine S4 3 J<|S3 2 J<|cF h C1 J J λv1 _ h=>S2 6 J<|l5<|S4 2 J ?_;refine cN h (λhc h=>?_) λhc h=>?_
 .refine S4 4 J ?_;refine b9 ?_;cases h;exact⟨J,[_,_],⟨oL J J J kP kS nl J,⟨J,tr⟩⟩,J,io⟩
 .refine c9 ?_;refine l5<|S3 4 J<|cF h Ei J J λv2 _ h=>S2 6 J<|S4 2 J ?_;refine cN h (λhc h=>?_) λhc h=>?_
  .refine S4 4 J ?_;refine b9 ?_;cases h;exact⟨J,[_,_],⟨oL J J J kP kS nl J,⟨J,tr⟩⟩,J,io⟩
  .refine c9 ?_;refine S3 3 J<|cF h bk J J λv3 _ h=>S2 4 J<|b9 ?_;cases h;exact⟨J,[_,_],⟨oL J J J kP kS nl J,⟨J,tr⟩⟩,J,io⟩
theorem lD{a0 a1}:PO prog 258 [G8.Pv a0,b6.Pv a1] (bp a0 a1) λr=>b6.Pv r:=by
 refine pO func258 λr h _ _=>?_;refine S4 3 J<|S3 8 J<|cF h Ce J J λv1 _ h=>S2 5 J<|S4 2 J<|b9 ?_;cases h;exact⟨J,[_],⟨oL J J J w9 u3 nl J,tr⟩,J,io⟩
theorem bD{a0 a1 a2 a3}:PO prog 257 [b6.Pv a0,.I a1,.I a2,.abs (Ru 258 [G8.Pv a3])] (I2 a0 a1 a2 a3) λr=>b6.Pv r:=by
 refine pO func257 λr h _ _=>?_;refine S4 2 J<|S3 3 J<|cF h de J J λv1 _ h=>A0 h λv2 hv2 h=>Cs (xs:=[b6.Pv v1]) J J Ow J (lD.2 _ hv2)<|S1 1 J<|cF h Z2 J J λv3 _ h=>S2 1 J<|b9 ?_;cases h;exact⟨J,[_],⟨oL J J J w9 u3 nl J,tr⟩,J,io⟩
theorem xY{a0 a1 a2 a3}:PO prog 180 [b6.Pv a0,.I a1,.I a2,.I a3] (aJ a0 a1 a2 a3) λr=>.tup [b6.Pv r.1,.I r.2]:=by
 refine pO func180 λr h _ _=>?_;refine S4 3 J<|S3 4 J<|cA h nY J J λv1 _ h=>S2 5 J<|l5<|S4 2 J ?_;refine cN h (λhc h=>?_) λhc h=>?_
 .refine S4 4 J ?_;refine b9 ?_;cases h;exact⟨J,[_,_],⟨oL J J J w9 u3 nl J,⟨J,tr⟩⟩,J,io⟩
 .refine c9 ?_;refine l5<|S3 2 J<|cA h W4 J J λv2 _ h=>S2 1 J ?_;refine cN h (λhc h=>?_) λhc h=>?_
  .refine S4 3 J ?_;refine b9 ?_;cases h;exact⟨J,[_,_],⟨oL J J J w9 u3 nl J,⟨J,tr⟩⟩,J,io⟩
  .refine c9 ?_;refine S3 6 J<|y0 J (x6 (cs:=[.I a1,.I a2,.I a3]) J OJ OU J J J)<|y0 J (tB (d:=.agg [.I a1,.I a2,.I a3]) J)<|cF h bD J J λv3 _ h=>S2 2 J<|b9 ?_;cases h;exact⟨J,[_,_],⟨oL J J J w9 u3 nl J,⟨J,tr⟩⟩,J,io⟩
theorem dL{a0}:PO prog 101 [u7.Pv a0] (Y3 a0) λr=>.tup [b6.Pv r.1,.I r.2]:=by
 refine pO func101 λr h _ _=>?_;refine S4 3 J<|S3 5 J<|cA h T3 J J λv1 _ h=>S2 5 J<|l5<|S4 2 J ?_;refine cN h (λhc h=>?_) λhc h=>?_
 .refine S4 5 J ?_;refine b9 ?_;cases h;exact⟨J,[_,_],⟨oL J J J w9 u3 nl J,⟨J,tr⟩⟩,J,io⟩
 .refine c9 ?_;refine dr [] y5 (by kernel_rfl) (by kernel_rfl)<|S7 11 J<|A0 h λv2 hv2 h=>d2 J (U5 J O1 J hv2) J<|A0 h λv3 hv3 h=>mR J (B9 J xY J hv3) J<|S7 2 J<|E4 (x':=b6.Pv v3.1) (cl':=true) J J (.inr J) u3<|S8 1 J<|b9 ?_;cases h;exact⟨J,[_,_],⟨oL J J J w9 u3 nl J,⟨J,tr⟩⟩,J,io⟩
theorem Gc{a0 a1}:PO prog 329 [k7.Pv a0,.I a1] (vz a0 a1) λr=>.fn (.func 369) [.rptr (k7.Pc r.1),.rptr [.I r.2]]:=by
 refine pO func329 λr h _ _=>?_;unfold vz at h;refine S4 3 J<|S4 2 J<|b9 ?_;cases h;exact f1
theorem yi{a0 a1}:PO prog 259 [k7.Pv a0,.I a1] (iq a0 a1) λr=>.bool r:=by
 refine pO func259 λr h _ _=>?_;refine S4 3 J ?_;refine jq h (λ_=>St.of [(4,.ptr 2001 0 0)] [(2001,vR (.bool false) 1)]) (λq7 h=>?_) λκ6 h=>?_
 .refine S4 1 J ?_;refine b9 ?_;cases h;exact⟨J,[_],⟨oS J J J ym J,tr⟩,J,io⟩
 .refine S3 1 J ?_;refine cF h Gc J J λv8 _ h=>yN<|l6<|cC (vI (λl=>if l=2003 then 4 else if l=2004 then 3 else l) [(3,.ptr 2004 0 0),(4,.ptr 2003 0 0),(7,.fn (.func 369) [.rptr (k7.Pc v8.1),.rptr [.I v8.2]])] [(2003,vR (.bool false) 1),(2004,vR (.I a1) 1)]) ?_;refine dq (fn:=Tryz.f369) (N1:=24) J func369 J J nl J OC J J (λl16 e17 o18 hR19=>?_);refine S3 2 J<|nL J na<|S2 1 J<|l6<|lq h (λs10=>St.of [(1000003,.ptr 2004 0 0),(1000004,.ptr 2003 0 0),(1000007,.fn (.func 369) [.rptr (k7.Pc v8.1),.rptr [.I v8.2]]),(0,.fn (.yield l16) []),(2,.rptr [.I v8.2]),(7,.L n0.Pv v8.1.L),(8,.I (v8.1.L.length:Int)),(9,.I s10)] [(2003,vR (.bool false) 1),(2004,vR (.I a1) 1)]) W λs10 x11 h hx22=>S4 1 J<|l5 ?_;refine cN h (λhc h=>?_) λhc h=>?_
  .refine c9 ?_;refine l5<|l6<|sR<|iL h J J na N5 λv12 _ h=>S2 3 J<|S3 5 J<|r8 J (λhg=>om (d:=.fn (.yield l16) []) J)<|r8 J (λhg=>oL J J J cP N5 nl J) ?_;rcases zav ((v12.Kind==v8.2)==true) with hg24 | hg24
   .have h:=NX h hg24;refine N4 (WE [(1000003,.ptr 2004 0 0),(1000004,.ptr 2003 0 0),(1000007,.fn (.func 369) [.rptr (k7.Pc v8.1),.rptr [.I v8.2]]),(0,.fn (.yield l16) []),(2,.rptr [.I v8.2]),(7,.L n0.Pv v8.1.L),(8,.I (v8.1.L.length:Int)),(9,.I s10),(17,.bool (v12.Kind==v8.2)),(18,.fn (.yield l16) []),(19,n0.Pv v12)] [(2003,vR (.bool false) 1),(2004,vR (.I a1) 1)]) ?_;refine mC hR19 (zaa some hg24) J J J J J (λe25 o26 o27=>?_);refine S6 2 J ?_;refine⟨J,?_⟩;refine l6<|S4 4 J ?_;refine cN h (λhc h=>?_) λhc h=>?_
    .refine S4 1 J ?_;refine b9 ?_;refine⟨J,?_⟩;refine N4 (WE [(1000003,.ptr 2004 0 0),(1000004,.ptr 2003 0 0),(1000007,.fn (.func 369) [.rptr (k7.Pc v8.1),.rptr [.I v8.2]]),(0,.fn (.yield l16) []),(2,.rptr [.I v8.2]),(7,.L n0.Pv v8.1.L),(8,.I (v8.1.L.length:Int)),(9,.I s10),(17,.bool (v12.Kind==v8.2)),(20,.bool false)] [(2003,vR (.bool true) 1),(2004,vR (.I a1) 1)])<|y0 (zaa some hg24) (fL J J)<|y0 J (lM J J hg24)<|yN ?_;refine F5 true J (λ_=>?_) (λq=>nomatch q);refine b9 ?_;refine .inr ⟨.ret,J,PG ?_⟩;have h:=xL hx22 h;cases h;exact⟨J,[_],⟨oS J J J ym J,tr⟩,J,io⟩
    .refine c9 ?_;refine⟨J,?_⟩;refine N4 (WE [(1000003,.ptr 2004 0 0),(1000004,.ptr 2003 0 0),(1000007,.fn (.func 369) [.rptr (k7.Pc v8.1),.rptr [.I v8.2]]),(0,.fn (.yield l16) []),(2,.rptr [.I v8.2]),(7,.L n0.Pv v8.1.L),(8,.I (v8.1.L.length:Int)),(9,.I s10),(17,.bool (v12.Kind==v8.2)),(20,.bool true)] [(2003,vR (.bool false) 1),(2004,vR (.I a1) 1)])<|y0 (zaa some hg24) (fL J J)<|y0 J (lM J J hg24)<|yN ?_;refine F5 false J (λq=>nomatch q) (λ_=>?_);refine c9<|S6 2 J ?_;exact eL h W
   .have h:=NW h hg24;refine bA (zaa some hg24)<|bA (zaa some hg24)<|y0 J (oP J J hg24)<|yN ?_;refine F5 false J (λq=>nomatch q) (λ_=>?_);refine c9<|S6 2 J ?_;exact eL h W
  .refine x8 ?_;refine l4<|l4<|r7 ?_;refine .inl ⟨J,?_⟩;have h:=xL hx22 h;exact eJ h (WP (λl=>if l=2001 then 2003 else l))
theorem uA{a0 a1}:PO prog 263 [.L j5.Pv a0,.I a1] (kJ a0 a1) λr=>.bool r:=by
 refine pO func263 λr h _ _=>?_;unfold kJ at h;refine S4 1 J<|S3 3 J<|r8 J (λhg=>mI J)<|r8 J (λhg=>om (d:=.L j5.Pv a0) J)<|r8 J (λhg=>nB (f:=j5.Pv) (ct hg) ah)<|r8 J (λhg=>H3 (ct hg) (ct hg) J)<|y0 J (F0 J J J (λq=>mX q))<|S2 1 J<|b9 ?_;cases h;exact f1
theorem mN{a0}:Sz prog 275 [.L j5.Pv a0] (aU a0) λr=>⟨List.map j5.Pv r,0,true,3,true⟩:=by
 refine WU func275 λr h _ _=>?_;unfold aU at h;refine S4 1 J<|S3 1 J<|nL J ah<|A0 h λv1 hv1 h=>y1 J (wO (f:=j5.Pv) hv1 J J J ah aw AD Gr J J J) J<|S2 1 J<|S3 2 J<|A0 h λv2 hv2 h=>Vy (f:=j5.Pv) hv2 J J J (.inl ⟨_,J,J⟩) ah aw (λ_=>J) (by decide)<|yN<|S4 2 J<|b9 ?_;cases h;exact⟨J,_,_,J,J,J,J⟩
theorem Eo{a0 a1 a2 a3}:PO prog 260 [.L j5.Pv a0,.I a1,.I a2,.I a3] (sJ a0 a1 a2 a3) λr=>.tup [.L j5.Pv r.1,.I r.2.1,.I r.2.2]:=by
 refine pO func260 λr h _ _=>?_;refine S4 3 J<|l5<|S3 2 J<|cA h uA J J λv1 _ h=>S2 1 J ?_;refine cN h (λhc h=>?_) λhc h=>?_
 .refine S4 4 J ?_;refine b9 ?_;cases h;exact f3
 .refine c9 ?_;refine S3 1 J<|A0 h λv2 hv2 h=>VL J (yV J mN J hv2) J J<|S2 1 J<|S3 6 J<|y0 J (x6 (cs:=[.I a2,.bool (a2 != 0),.I a3]) J OI AD J J J)<|A0 h λv3 hv3 h=>y0 J (fg (f:=j5.Pv) hv3 J J J J ah aw J)<|og (f:=j5.Pv) (v:=(⟨a2,(a2 != 0),a3⟩:j5)) hv3 J J (.inl J) aw<|yN<|dr [] y5 (by kernel_rfl) (by kernel_rfl)<|S7 3 J<|A0 h λv4 hv4 h=>d0 J (E6 (f:=j5.Pv) (cs:=j5.Pc v4) hv4 J J ah aw J J) J<|S8 5 J<|b9 ?_;cases h;exact f3
theorem nv{a0 a1 a2}:PO prog 262 [b6.Pv a0,.I a1,.I a2] (cy a0 a1 a2) λr=>b6.Pv r:=by
 refine pO func262 λr h _ _=>?_;refine S4 2 J<|S3 4 J<|cA h I7 J J λv1 _ h=>S2 5 J<|l5<|S4 2 J ?_;refine cN h (λhc h=>?_) λhc h=>?_
 .refine S3 5 J ?_;refine iL h J J V7 U9 λv2 _ h=>S2 4 J<|S4 6 J<|S5 4 J<|cF h bk J J λv3 _ h=>S2 5 J<|S4 2 J<|b9 ?_;cases h;exact⟨J,[_],⟨oL J J J w9 u3 nl J,tr⟩,J,io⟩
 .refine c9 ?_;refine S4 2 J<|b9 ?_;cases h;exact⟨J,[_],⟨oL J J J w9 u3 nl J,tr⟩,J,io⟩
theorem dA{a0 a1}:PO prog 195 [c5.Pv a0,.I a1] (O9 a0 a1) λr=>.tup [c5.Pv r.1,.I r.2]:=by
 refine pO func195 λr h _ _=>?_;refine S4 3 J<|S3 2 J<|cA h I7 J J λv1 _ h=>S2 5 J<|l5<|S4 2 J ?_;refine cN h (λhc h=>?_) λhc h=>?_
 .refine S4 4 J ?_;refine b9 ?_;cases h;exact⟨J,[_,_],⟨oL J J J fv cT nl J,⟨J,tr⟩⟩,J,io⟩
 .refine c9 ?_;refine S3 3 J<|iL h J J V7 U9 λv2 _ h=>S2 3 J<|l5<|S4 4 J ?_;refine cN h (λhc h=>?_) λhc h=>?_
  .refine S3 3 J ?_;refine y0 J (x6 (cs:=[.I 3,.I v2.Gen,.I 0,.I 0,.I 0,.I 0,.bool false,.nl]) J uV ov J J J)<|cF h I8 J J λv3 _ h=>S2 2 J<|b9 ?_;cases h;exact⟨J,[_,_],⟨oL J J J fv cT nl J,⟨J,tr⟩⟩,J,io⟩
  .refine c9 ?_;refine S3 4 J<|y0 J (x6 (cs:=[.I 0,.I (z6 (v2.Gen+1)),.I 0,.I 0,.I 0,.I 0,.bool false,.nl]) J uV ov J J J)<|cF h I8 J J λv4 _ h=>S2 2 J<|b9 ?_;cases h;exact⟨J,[_,_],⟨oL J J J fv cT nl J,⟨J,tr⟩⟩,J,io⟩
theorem tg{a0 a1}:PO prog 261 [b6.Pv a0,.I a1] (eF a0 a1) λr=>b6.Pv r:=by
 refine pO func261 λr h _ _=>?_;refine S4 2 J<|S3 2 J<|cF h nv J J λv1 _ h=>S2 1 J<|S3 4 J<|cA h I7 J J λv2 _ h=>S2 5 J<|l5<|S4 2 J ?_;refine cN h (λhc h=>?_) λhc h=>?_
 .refine S4 2 J ?_;refine b9 ?_;cases h;exact⟨J,[_],⟨oL J J J w9 u3 nl J,tr⟩,J,io⟩
 .refine c9 ?_;refine l5<|S3 5 J<|iL h J J V7 U9 λv3 _ h=>S2 3 J<|S3 4 J<|r8 J (λhg=>oF J Iz J)<|r8 J (λhg=>oF (ct hg) Iw J)<|r8 J (λhg=>oS (ct hg) J J R7 J)<|r8 J (λhg=>H3 (ct hg) J J)<|y0 J (F0 J J J (λq=>mX q))<|yN ?_;refine cN h (λhc h=>?_) λhc h=>?_
  .refine S5 4 J ?_;refine cF h dA J J λv4 _ h=>S2 6 J<|S4 2 J<|b9 ?_;cases h;exact⟨J,[_],⟨oL J J J w9 u3 nl J,tr⟩,J,io⟩
  .refine c9 ?_;refine S4 2 J<|b9 ?_;cases h;exact⟨J,[_],⟨oL J J J w9 u3 nl J,tr⟩,J,io⟩
theorem rz{a0 a1 a2 a3}:PO prog 181 [b6.Pv a0,.I a1,.I a2,.I a3] (W2 a0 a1 a2 a3) λr=>.tup [b6.Pv r.1,.I r.2]:=by
 refine pO func181 λr h _ _=>?_;unfold W2 at h;refine S4 3 J<|l5<|S3 3 J<|r8 J (λhg=>mI J)<|r8 J (λhg=>oF J JS J)<|r8 J (λhg=>oS (ct hg) J J SD J)<|r8 J (λhg=>nB (f:=j5.Pv) (ct hg) ah)<|r8 J (λhg=>H3 (ct hg) (ct hg) J)<|y0 J (I5 J J J (λq=>ln q))<|S1 1 J<|r8 J (λhg=>oF J JT J)<|r8 J (λhg=>oL (ct hg) J J jk cU nl J)<|r8 J (λhg=>mI J)<|A0 h λv1 hv1 h=>r8 J (λhg=>U5 J yi (eR (ct hg) (eR (ct hg) J)) (O7 hv1 hg))<|y0 J (I5 J J J (λq=>ln q))<|yN ?_;refine cN h (λhc h=>?_) λhc h=>?_
 .refine S4 3 J ?_;refine b9 ?_;cases h;exact⟨J,[_,_],⟨oL J J J w9 u3 nl J,⟨J,tr⟩⟩,J,io⟩
 .refine c9 ?_;refine l5<|S3 2 J<|cA h W4 J J λv2 _ h=>S2 1 J ?_;refine cN h (λhc h=>?_) λhc h=>?_
  .refine S4 3 J ?_;refine b9 ?_;cases h;exact⟨J,[_,_],⟨oL J J J w9 u3 nl J,⟨J,tr⟩⟩,J,io⟩
  .refine c9 ?_;refine S3 5 J<|cF h Eo J J λv3 _ h=>S2 7 J<|S4 3 J<|S3 2 J<|cF h nv J J λv4 _ h=>S1 1 J<|cF h tg J J λv5 _ h=>S2 2 J<|b9 ?_;cases h;exact⟨J,[_,_],⟨oL J J J w9 u3 nl J,⟨J,tr⟩⟩,J,io⟩
theorem dj{a0}:PO prog 102 [u7.Pv a0] (V3 a0) λr=>.tup [b6.Pv r.1,.I r.2]:=by
 refine pO func102 λr h _ _=>?_;refine S4 3 J<|l5<|S4 4 J ?_;refine cN h (λhc h=>?_) λhc h=>?_
 .refine S3 8 J ?_;refine cF h rz J J λv1 _ h=>S2 4 J<|b9 ?_;cases h;exact⟨J,[_,_],⟨oL J J J w9 u3 nl J,⟨J,tr⟩⟩,J,io⟩
 .refine c9 ?_;refine S3 5 J<|cA h T3 J J λv2 _ h=>S2 5 J<|l5<|S4 2 J ?_;refine cN h (λhc h=>?_) λhc h=>?_
  .refine S4 5 J ?_;refine b9 ?_;cases h;exact⟨J,[_,_],⟨oL J J J w9 u3 nl J,⟨J,tr⟩⟩,J,io⟩
  .refine c9 ?_;refine S3 9 J<|cF h rz J J λv3 _ h=>S2 4 J<|b9 ?_;cases h;exact⟨J,[_,_],⟨oL J J J w9 u3 nl J,⟨J,tr⟩⟩,J,io⟩
theorem Cp{a0 a1}:PO prog 182 [.L j5.Pv a0,.I a1] (kI a0 a1) λr=>.tup [.I r.1,.I r.2]:=by
 refine pO func182 λr h _ _=>?_;refine S4 2 J<|l5<|S3 2 J<|cA h uA J J λv1 _ h=>S2 1 J ?_;refine cN h (λhc h=>?_) λhc h=>?_
 .refine S4 2 J ?_;refine b9 ?_;cases h;exact f2
 .refine c9 ?_;refine l5<|S3 2 J<|iL h J J ah aw λv2 hv2 h=>S1 4 J<|r8 J (λhg=>om (d:=.L j5.Pv a0) J)<|r8 J (λhg=>mI J)<|r8 J (λhg=>E6 (f:=j5.Pv) (cs:=j5.Pc v2) hv2 (ct hg) (ct hg) ah aw J J)<|r8 J (λhg=>rK (ct hg) Iy J)<|r8 J (λhg=>D8 (ct hg) ym J)<|r8 J (λhg=>fL (ct hg) J)<|y0 J (I5 J J J (λq=>ln q))<|yN ?_;refine cN h (λhc h=>?_) λhc h=>?_
  .refine S4 2 J ?_;refine b9 ?_;cases h;exact f2
  .refine c9 ?_;refine S3 2 J<|y0 J (E6 (f:=j5.Pv) (cs:=j5.Pc v2) hv2 J J ah aw J J)<|S2 4 J<|b9 ?_;cases h;exact f2
theorem gP{a0}:PO prog 103 [u7.Pv a0] (Z3 a0) λr=>.tup [b6.Pv r.1,.I r.2]:=by
 refine pO func103 λr h _ _=>?_;unfold Z3 at h;refine S4 3 J<|dr [] y5 (by kernel_rfl) (by kernel_rfl)<|S7 7 J<|A0 h λv1 hv1 h=>d2 J (U5 J Cp J hv1) J<|S7 2 J<|A0 h λv2 hv2 h=>mR J (B9 J H2 J hv2) J<|S7 2 J<|E4 (x':=b6.Pv v2.1) (cl':=true) J J (.inr J) u3<|S8 1 J<|b9 ?_;cases h;exact⟨J,[_,_],⟨oL J J J w9 u3 nl J,⟨J,tr⟩⟩,J,io⟩
theorem ru{a0 a1}:PO prog 334 [.I a0,.I a1] (gm a0 a1) λr=>.fn (.func 370) [.rptr [.I r.1],.rptr [.I r.2]]:=by
 refine pO func334 λr h _ _=>?_;unfold gm at h;refine S4 3 J<|S4 2 J<|b9 ?_;cases h;exact f1
theorem rn{a0 a1}:PO prog 371 [.I a0,.I a1] (aZ a0 a1) λr=>.I r:=by
 refine pO func371 λr h _ _=>?_;refine S4 1 J<|l5<|S4 2 J ?_;refine cN h (λhc h=>?_) λhc h=>?_
 .refine S4 1 J ?_;refine b9 ?_;cases h;exact f1
 .refine c9 ?_;refine S3 4 J<|A0 h λv1 hv1 h=>y0 J (gR J J hv1)<|S2 1 J<|l5<|S4 2 J ?_;refine cN h (λhc h=>?_) λhc h=>?_
  .refine S6 4 J ?_;refine S4 2 J<|b9 ?_;cases h;exact f1
  .refine c9 ?_;refine S4 2 J<|b9 ?_;cases h;exact f1
theorem lz{a0 a1}:PO prog 277 [.L b8.Pv a0,.I a1] (aa a0 a1) λr=>.I r:=by
 refine pO func277 λr h _ _=>?_;refine S4 3 J ?_;refine jq h (λ_=>St.of [(4,.ptr 2001 0 0)] [(2001,vR (.I 0) 1)]) (λq9 h=>?_) λκ8 h=>?_
 .refine S4 1 J ?_;refine b9 ?_;cases h;exact⟨J,[_],⟨oS J J J R7 J,tr⟩,J,io⟩
 .refine S3 1 J ?_;refine nL J bO<|S1 1 J<|cF h ru J J λv10 _ h=>yN<|l6<|cC (vI (λl=>if l=2004 then 4 else if l=2005 then 3 else if l=2006 then 2 else l) [(2,.ptr 2006 0 0),(3,.ptr 2005 0 0),(4,.ptr 2004 0 0),(9,.fn (.func 370) [.rptr [.I v10.1],.rptr [.I v10.2]])] [(2004,vR (.I 0) 1),(2005,vR (.I a1) 1),(2006,vR (.L b8.Pv a0) 1)]) ?_;refine dq (fn:=Tryz.f370) (N1:=20) J func370 J J nl J Gw J J (λl17 e18 o19 hR20=>?_);refine S4 2 J<|l6<|lq h (λs12=>St.of [(1000002,.ptr 2006 0 0),(1000003,.ptr 2005 0 0),(1000004,.ptr 2004 0 0),(1000009,.fn (.func 370) [.rptr [.I v10.1],.rptr [.I v10.2]]),(0,.fn (.yield l17) []),(1,.rptr [.I v10.1]),(2,.rptr [.I v10.2]),(5,.I v10.1),(6,.I s12)] [(2004,vR (.I 0) 1),(2005,vR (.I a1) 1),(2006,vR (.L b8.Pv a0) 1)]) W λs12 x13 h hx23=>S4 1 J<|l5 ?_;refine cN h (λhc h=>?_) λhc h=>?_
  .refine c9 ?_;refine l5<|l6<|S4 2 J<|Yz [] 8 y5 (by kernel_rfl) (by kernel_rfl) (by kernel_rfl) (by kernel_rfl) nl<|S7 3 J<|A0 h λv14 hv24 h=>d2 J (U5 J rn J hv24) J<|S7 3 J<|A0 h λv15 hv25 h=>d7 J (λ_ hN=>gR J J hv25) J<|bC<|Mq (WE [(1000002,.ptr 2006 0 0),(1000003,.ptr 2005 0 0),(1000004,.ptr 2004 0 0),(1000009,.fn (.func 370) [.rptr [.I v10.1],.rptr [.I v10.2]]),(0,.fn (.yield l17) []),(1,.rptr [.I v10.1]),(2,.rptr [.I v10.2]),(5,.I v10.1),(6,.I s12),(9,.fn (.yield l17) []),(16,.I v15)] [(2004,vR (.I 0) 1),(2005,vR (.I a1) 1),(2006,vR (.L b8.Pv a0) 1)]) ?_;refine xJ J hR20 J J J J J J (λe26 o27 o28=>?_);refine S6 1 J ?_;refine⟨J,?_⟩;refine l6<|l5<|S3 2 J<|iL h J J bO bJ λv16 hv29 h=>S2 3 J ?_;refine cN h (λhc h=>?_) λhc h=>?_
   .refine x8 ?_;refine l4<|aX (by decide) ?_;refine⟨J,?_⟩;refine⟨_,sK [(1000002,.ptr 2006 0 0),(1000003,.ptr 2005 0 0),(1000004,.ptr 2004 0 0),(1000009,.fn (.func 370) [.rptr [.I v10.1],.rptr [.I v10.2]]),(0,.fn (.yield l17) []),(1,.rptr [.I v10.1]),(2,.rptr [.I v10.2]),(5,.I v10.1),(6,.I s12),(17,.bool false)] [(2004,vR (.I 0) 1),(2005,vR (.I a1) 1),(2006,vR (.L b8.Pv a0) 1)] ⟨J,J,J,J,J,J,J,J,J,J,J,J,J,J,J,J,J,J,J,J,J,J,J,J,J,J,J,J,J,J,tr⟩ ⟨rS,rS,rS,tr⟩,?_⟩;refine S8 1 J ?_;refine F5 true J (λ_=>?_) (λq=>nomatch q);refine b9 ?_;refine .inr ⟨.exit 0,J,Yl ?_⟩;refine r7 ?_;have h:=xL hx23 h;exact eJ h (WP (λl=>if l=2001 then 2004 else l))
   .refine c9 ?_;refine dr [] y5 (by kernel_rfl) (by kernel_rfl)<|S7 2 J<|d0 J (E6 (f:=b8.Pv) (cs:=b8.Pc v16) hv29 J J bO bJ J J) J<|S7 4 J<|yy J (λhg=>oS J J J Av J) J<|qV J (λhg _ hN=>mI J) J ?_;refine yy J (λhg=>E6 (f:=b8.Pv) (cs:=b8.Pc v16) hv29 (ct hg) (ct hg) bO bJ J J) J<|qV J (λhg _ hN=>rK (ct hg) IA J) J ?_;refine yy J (λhg=>D8 (ct hg) R7 J) J<|yy J (λhg=>oS J J J R7 J) J<|qV J (λhg _ hN=>H3 (ct hg) (ct hg) J) J<|d7 J (λ_ hN=>F0 J J J (λq=>mX q)) J<|bC ?_;refine cN h (λhc h=>?_) λhc h=>?_
    .refine S4 2 J ?_;refine b9 ?_;refine⟨J,?_⟩;refine⟨_,sK [(1000002,.ptr 2006 0 0),(1000003,.ptr 2005 0 0),(1000004,.ptr 2004 0 0),(1000009,.fn (.func 370) [.rptr [.I v10.1],.rptr [.I v10.2]]),(0,.fn (.yield l17) []),(1,.rptr [.I v10.1]),(2,.rptr [.I v10.2]),(5,.I v10.1),(6,.I s12),(17,.bool false)] [(2004,vR (.I v15) 1),(2005,vR (.I a1) 1),(2006,vR (.L b8.Pv a0) 1)] ⟨J,J,J,J,J,J,J,J,J,J,J,J,J,J,J,J,J,J,J,J,J,J,J,J,J,J,J,J,J,J,tr⟩ ⟨rS,rS,rS,tr⟩,?_⟩;refine S8 1 J ?_;refine F5 true J (λ_=>?_) (λq=>nomatch q);refine b9 ?_;refine .inr ⟨.ret,J,PG ?_⟩;have h:=xL hx23 h;cases h;exact⟨J,[_],⟨oS J J J R7 J,tr⟩,J,io⟩
    .refine c9 ?_;refine⟨J,?_⟩;refine⟨_,sK [(1000002,.ptr 2006 0 0),(1000003,.ptr 2005 0 0),(1000004,.ptr 2004 0 0),(1000009,.fn (.func 370) [.rptr [.I v10.1],.rptr [.I v10.2]]),(0,.fn (.yield l17) []),(1,.rptr [.I v10.1]),(2,.rptr [.I v10.2]),(5,.I v10.1),(6,.I s12),(17,.bool true)] [(2004,vR (.I 0) 1),(2005,vR (.I a1) 1),(2006,vR (.L b8.Pv a0) 1)] ⟨J,J,J,J,J,J,J,J,J,J,J,J,J,J,J,J,J,J,J,J,J,J,J,J,J,J,J,J,J,J,tr⟩ ⟨rS,rS,rS,tr⟩,?_⟩;refine S8 1 J ?_;refine F5 false J (λq=>nomatch q) (λ_=>?_);refine c9<|S6 2 J ?_;exact eL h W
  .refine x8 ?_;refine l4<|l4<|r7 ?_;refine .inl ⟨J,?_⟩;have h:=xL hx23 h;exact eJ h (WP (λl=>if l=2001 then 2004 else l))
theorem iP{a0 a1}:PO prog 266 [.L b8.Pv a0,.I a1] (M6 a0 a1) λr=>.tup [.I r.1,.I r.2]:=by
 refine pO func266 λr h _ _=>?_;refine S4 2 J<|S3 2 J<|cA h lz J J λv1 _ h=>S2 1 J<|l5<|S4 2 J ?_;refine cN h (λhc h=>?_) λhc h=>?_
 .refine S4 2 J ?_;refine b9 ?_;cases h;exact f2
 .refine c9 ?_;refine S3 2 J<|iL h J J bO bJ λv2 _ h=>S2 4 J<|b9 ?_;cases h;exact f2
theorem aQ{a0}:Sz prog 335 [.L b8.Pv a0] (E2 a0) λr=>⟨List.map b8.Pv r,0,true,3,true⟩:=by
 refine WU func335 λr h _ _=>?_;unfold E2 at h;refine S4 1 J<|l5<|S3 1 J<|Ct J bO λb hb=>yN ?_;refine F5 b J (λhc=>?_) (λhc=>?_)
 .obtain rfl:a0 = []:=by simpa using hb hc
  refine S4 1 J<|cC (Y8 (t:=2) (l:=920000) (z:=3) J J)<|b9 ?_;cases h;exact⟨J,_,_,J,J,J,J⟩
 .refine c9 ?_;refine sR<|y0 J (wP J bO bJ)<|S1 1 J<|y1 J (Dr (f:=b8.Pv) h J J (.inl ⟨_,J,J⟩) bO bJ Gt uW J (λ_=>J)) J<|S2 1 J<|b9 ?_;exact⟨J,_,_,J,J,J,J⟩
theorem lA{a0 a1 a2}:PO prog 278 [.L b8.Pv a0,.I a1,b8.Pv a2] (cu a0 a1 a2) λr=>.L b8.Pv r:=by
 refine pO func278 λr h _ _=>?_;unfold cu at h;refine S4 2 J<|S3 1 J<|A0 h λv1 hv1 h=>VL J (yV J aQ J hv1) J J<|S2 1 J<|S3 3 J<|A0 h λv2 hv2 h=>y0 J (fg (f:=b8.Pv) hv2 J J J J bO bJ J)<|og (f:=b8.Pv) (v:=a2) hv2 J J (.inl J) bJ<|yN<|S4 2 J<|b9 ?_;cases h;exact f1
theorem rm{a0 a1}:PO prog 193 [.L b8.Pv a0,.I a1] (Z9 a0 a1) λr=>.tup [.L b8.Pv r.1,.I r.2.1,.I r.2.2]:=by
 refine pO func193 λr h _ _=>?_;refine S4 3 J<|S3 2 J<|cA h lz J J λv1 _ h=>S2 1 J<|l5<|S4 2 J ?_;refine cN h (λhc h=>?_) λhc h=>?_
 .refine S4 4 J ?_;refine b9 ?_;cases h;exact f3
 .refine c9 ?_;refine dr [] y5 (by kernel_rfl) (by kernel_rfl)<|S7 2 J<|d7 J (λ_ hN=>x6 (cs:=[.I 2,.I 0,.I 0]) J GA uW J J J) J<|A0 h λv2 hv2 h=>mR J (B9 J lA J hv2) J<|S7 2 J<|A0 h λv3 hv3 h=>d0 J (E6 (f:=b8.Pv) (cs:=b8.Pc v3) hv3 J J bO bJ J J) J<|S8 5 J<|b9 ?_;cases h;exact f3
theorem CX{a0 a1 a2}:PO prog 330 [.L b8.Pv a0,.I a1,.I a2] (gL a0 a1 a2) λr=>.tup [.L b8.Pv r.1,.I r.2]:=by
 refine pO func330 λr h _ _=>?_;refine S4 3 J<|S3 2 J<|y0 J (x6 (cs:=[.I 1,.I a1,.I a2]) J GA uW J J J)<|S2 2 J<|l5<|S3 2 J<|cA h lz J J λv1 _ h=>S2 1 J<|S4 2 J ?_;refine cN h (λhc h=>?_) λhc h=>?_
 .refine S3 3 J ?_;refine cF h lA J J λv2 _ h=>S2 2 J<|b9 ?_;cases h;exact⟨J,[_,_],⟨oS J J J Av J,⟨oS J J J vF J,tr⟩⟩,J,io⟩
 .refine c9 ?_;refine jq h (λ_=>St.of [(3,.ptr 2004 0 0),(6,.ptr 2003 0 0),(7,.ptr 2002 0 0)] [(2002,vR (.I 0) 1),(2003,vR (.nl) 1),(2004,vR (.L b8.Pv a0) 1)]) (λq12 h=>?_) λκ11 h=>?_
  .refine S4 3 J ?_;refine b9 ?_;cases h;exact⟨J,[_,_],⟨oS J J J Av J,⟨oS J J J vF J,tr⟩⟩,J,io⟩
  .refine S3 1 J ?_;refine nL J bO<|S1 1 J<|cF h ru J J λv13 _ h=>yN<|l6<|cC (vI (λl=>if l=2005 then 8 else if l=2006 then 7 else if l=2007 then 6 else if l=2008 then 3 else l) [(3,.ptr 2008 0 0),(6,.ptr 2007 0 0),(7,.ptr 2006 0 0),(8,.ptr 2005 0 0),(26,.fn (.func 370) [.rptr [.I v13.1],.rptr [.I v13.2]])] [(2005,vR (.agg [.I 1,.I a1,.I a2]) 3),(2006,vR (.I 0) 1),(2007,vR (.nl) 1),(2008,vR (.L b8.Pv a0) 1)]) ?_;refine dq (fn:=Tryz.f370) (N1:=20) J func370 J J nl J Gw J J (λl20 e21 o22 hR23=>?_);refine S4 2 J<|l6<|lq h (λs15=>St.of [(1000003,.ptr 2008 0 0),(1000006,.ptr 2007 0 0),(1000007,.ptr 2006 0 0),(1000008,.ptr 2005 0 0),(1000026,.fn (.func 370) [.rptr [.I v13.1],.rptr [.I v13.2]]),(0,.fn (.yield l20) []),(1,.rptr [.I v13.1]),(2,.rptr [.I v13.2]),(5,.I v13.1),(6,.I s15)] [(2005,vR (.agg [.I 1,.I a1,.I a2]) 3),(2006,vR (.I 0) 1),(2007,vR (.nl) 1),(2008,vR (.L b8.Pv a0) 1)]) W λs15 x16 h hx26=>S4 1 J<|l5 ?_;refine cN h (λhc h=>?_) λhc h=>?_
   .refine c9 ?_;refine l5<|l6<|S4 2 J<|Yz [] 8 y5 (by kernel_rfl) (by kernel_rfl) (by kernel_rfl) (by kernel_rfl) nl<|S7 3 J<|A0 h λv17 hv27 h=>d2 J (U5 J rn J hv27) J<|S7 3 J<|A0 h λv18 hv28 h=>d7 J (λ_ hN=>gR J J hv28) J<|bC<|Mq (WE [(1000003,.ptr 2008 0 0),(1000006,.ptr 2007 0 0),(1000007,.ptr 2006 0 0),(1000008,.ptr 2005 0 0),(1000026,.fn (.func 370) [.rptr [.I v13.1],.rptr [.I v13.2]]),(0,.fn (.yield l20) []),(1,.rptr [.I v13.1]),(2,.rptr [.I v13.2]),(5,.I v13.1),(6,.I s15),(9,.fn (.yield l20) []),(16,.I v18)] [(2005,vR (.agg [.I 1,.I a1,.I a2]) 3),(2006,vR (.I 0) 1),(2007,vR (.nl) 1),(2008,vR (.L b8.Pv a0) 1)]) ?_;refine xJ J hR23 J J J J J J (λe29 o30 o31=>?_);refine S6 1 J ?_;refine⟨J,?_⟩;refine l6<|S3 2 J<|iL h J J bO bJ λv19 _ h=>S2 3 J ?_;refine cN h (λhc h=>?_) λhc h=>?_
    .refine S3 3 J ?_;refine cF h lA J J λv20 _ h=>S2 2 J<|b9 ?_;refine⟨J,?_⟩;refine⟨_,sK [(1000003,.ptr 2008 0 0),(1000006,.ptr 2007 0 0),(1000007,.ptr 2006 0 0),(1000008,.ptr 2005 0 0),(1000026,.fn (.func 370) [.rptr [.I v13.1],.rptr [.I v13.2]]),(0,.fn (.yield l20) []),(1,.rptr [.I v13.1]),(2,.rptr [.I v13.2]),(5,.I v13.1),(6,.I s15),(17,.bool false)] [(2005,vR (.agg [.I 1,.I a1,.I a2]) 3),(2006,vR (.I 0) 1),(2007,vR (.L b8.Pv v20) 1),(2008,vR (.L b8.Pv a0) 1)] ⟨J,J,J,J,J,J,J,J,J,J,J,J,J,J,J,J,J,J,J,J,J,J,J,J,J,J,J,J,J,J,J,J,J,tr⟩ ⟨rS,rS,rS,rS,tr⟩,?_⟩;refine S8 1 J ?_;refine F5 true J (λ_=>?_) (λq=>nomatch q);refine b9 ?_;refine .inr ⟨.ret,J,PG ?_⟩;have h:=xL hx26 h;cases h;exact⟨J,[_,_],⟨oS J J J Av J,⟨oS J J J vF J,tr⟩⟩,J,io⟩
    .refine c9 ?_;refine⟨J,?_⟩;refine⟨_,sK [(1000003,.ptr 2008 0 0),(1000006,.ptr 2007 0 0),(1000007,.ptr 2006 0 0),(1000008,.ptr 2005 0 0),(1000026,.fn (.func 370) [.rptr [.I v13.1],.rptr [.I v13.2]]),(0,.fn (.yield l20) []),(1,.rptr [.I v13.1]),(2,.rptr [.I v13.2]),(5,.I v13.1),(6,.I s15),(17,.bool true)] [(2005,vR (.agg [.I 1,.I a1,.I a2]) 3),(2006,vR (.I 0) 1),(2007,vR (.nl) 1),(2008,vR (.L b8.Pv a0) 1)] ⟨J,J,J,J,J,J,J,J,J,J,J,J,J,J,J,J,J,J,J,J,J,J,J,J,J,J,J,J,J,J,J,J,J,tr⟩ ⟨rS,rS,rS,rS,tr⟩,?_⟩;refine S8 1 J ?_;refine F5 false J (λq=>nomatch q) (λ_=>?_);refine c9<|S6 2 J ?_;exact eL h W
   .refine x8 ?_;refine l4<|l4<|r7 ?_;refine .inl ⟨J,?_⟩;have h:=xL hx26 h;exact eJ h (WP (λl=>if l=2004 then 2008 else if l=2003 then 2007 else if l=2002 then 2006 else l))
theorem AS{a0 a1 a2}:PO prog 264 [.L b8.Pv a0,.I a1,.I a2] (P9 a0 a1 a2) λr=>.tup [.L b8.Pv r.1,.I r.2.1,.I r.2.2]:=by
 refine pO func264 λr h _ _=>?_;refine S4 3 J<|l5<|S4 2 J ?_;refine cN h (λhc h=>?_) λhc h=>?_
 .refine S4 4 J ?_;refine b9 ?_;cases h;exact f3
 .refine c9 ?_;refine S3 2 J<|cA h iP J J λv1 _ h=>S2 5 J<|l5<|S4 2 J ?_;refine cN h (λhc h=>?_) λhc h=>?_
  .refine S3 2 J ?_;refine cF h rm J J λv2 _ h=>S2 7 J<|S4 5 J<|b9 ?_;cases h;exact f3
  .refine c9 ?_;refine S3 3 J<|cF h CX J J λv3 _ h=>S2 5 J<|l5<|S4 2 J ?_;refine cN h (λhc h=>?_) λhc h=>?_
   .refine S4 5 J ?_;refine b9 ?_;cases h;exact f3
   .refine c9 ?_;refine S4 5 J<|b9 ?_;cases h;exact f3
theorem mS{a0 a1}:PO prog 265 [I0.Pv a0,b6.Pv a1] (Y1 a0 a1) λr=>b6.Pv r:=by
 refine pO func265 λr h _ _=>?_;unfold Y1 at h;refine S4 3 J<|S4 4 J<|S4 2 J<|b9 ?_;cases h;exact⟨J,[_],⟨oL J J J w9 u3 nl J,tr⟩,J,io⟩
theorem bU{a0 a1 a2 a3}:PO prog 257 [b6.Pv a0,.I a1,.I a2,.abs (Ru 265 [I0.Pv a3])] (J4 a0 a1 a2 a3) λr=>b6.Pv r:=by
 refine pO func257 λr h _ _=>?_;refine S4 2 J<|S3 3 J<|cF h de J J λv1 _ h=>A0 h λv2 hv2 h=>Cs (xs:=[b6.Pv v1]) J J Ox J (mS.2 _ hv2)<|S1 1 J<|cF h Z2 J J λv3 _ h=>S2 1 J<|b9 ?_;cases h;exact⟨J,[_],⟨oL J J J w9 u3 nl J,tr⟩,J,io⟩
end Go.Proofs.YtppgkaeodaaidaaGreatDoor.Ok
