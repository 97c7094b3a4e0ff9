/- A part. -/
import Derived.Test.YtppgkaeodaaidaaGreatDoorU3mPwC
import Derived.Test.YtppgkaeodaaidaaGreatDoorU3mPwD
import Derived.Test.YtppgkaeodaaidaaGreatDoorSrt
import Derived.Test.YtppgkaeodaaidaaGreatDoorSrtI
import Derived.Test.YtppgkaeodaaidaaGreatDoorU3mPwE
import Derived.Test.YtppgkaeodaaidaaGreatDoorStr
import Derived.Test.YtppgkaeodaaidaaGreatDoorU3mSh
import Derived.Test.YtppgkaeodaaidaaGreatDoorProg
set_option linter.unusedVariables false
set_option linter.unusedSimpArgs false
set_option linter.unusedSectionVars false
namespace Go.Proofs.YtppgkaeodaaidaaGreatDoor.Ok
open Go Go.Pw Go.Sh Go.Proofs Tryz
set_option maxRecDepth 100000
set_option maxHeartbeats 4000000
abbrev _root_.Go.Sh.p7.Pc(x:p7):List PV:=[.I x.Serial,.I x.Strong,.I x.Weak,.I x.Prog,.bool x.Started,.L iF x.Fields]
abbrev _root_.Go.Sh.p7.Pv(x:p7):PV:=.agg x.Pc
abbrev _root_.Go.Sh.b7.Pc(x:b7):List PV:=[.I x.State,.I x.Gen,.I x.Val.Serial,.I x.Val.Strong,.I x.Val.Weak,.I x.Val.Prog,.bool x.Val.Started,.L iF x.Val.Fields]
abbrev _root_.Go.Sh.b7.Pv(x:b7):PV:=.agg x.Pc
abbrev _root_.Go.Sh.k7.Pc(x:k7):List PV:=[.I x.Target,.bool x.Intact,.I x.Call]
abbrev _root_.Go.Sh.k7.Pv(x:k7):PV:=.agg x.Pc
abbrev _root_.Go.Sh.b8.Pc(x:b8):List PV:=[.I x.State,.I x.Key,.I x.Val]
abbrev _root_.Go.Sh.b8.Pv(x:b8):PV:=.agg x.Pc
abbrev _root_.Go.Sh.o0.Pc(x:o0):List PV:=[.I x.Kind,.I x.At,.I x.Prog]
abbrev _root_.Go.Sh.o0.Pv(x:o0):PV:=.agg x.Pc
abbrev _root_.Go.Sh.c9.Pc(x:c9):List PV:=[.I x.Kind,.I x.A,.I x.B,.I x.C]
abbrev _root_.Go.Sh.c9.Pv(x:c9):PV:=.agg x.Pc
abbrev _root_.Go.Sh.s7.Pc(x:s7):List PV:=[.I x.start,.I x.end_]
abbrev _root_.Go.Sh.s7.Pv(x:s7):PV:=.agg x.Pc
abbrev _root_.Go.Sh.c5.Pc(x:c5):List PV:=[.L b7.Pv x.a8,.I x.Last]
abbrev _root_.Go.Sh.c5.Pv(x:c5):PV:=.agg x.Pc
abbrev _root_.Go.Sh.a7.Pc(x:a7):List PV:=[.L b7.Pv x.S.a8,.I x.S.Last,.I x.Serial]
abbrev _root_.Go.Sh.a7.Pv(x:a7):PV:=.agg x.Pc
abbrev _root_.Go.Sh.k8.Pc(x:k8):List PV:=[.L o0.Pv x.L,.I x.Cap]
abbrev _root_.Go.Sh.k8.Pv(x:k8):PV:=.agg x.Pc
abbrev _root_.Go.Sh.b6.Pc(x:b6):List PV:=[.L b7.Pv x.S.S.a8,.I x.S.S.Last,.I x.S.Serial,.L iF x.Roots,.L k7.Pv x.a8,.L b8.Pv x.T,.L o0.Pv x.Q.L,.I x.Q.Cap]
abbrev _root_.Go.Sh.b6.Pv(x:b6):PV:=.agg x.Pc
abbrev _root_.Go.Sh.w9.Pc(x:w9):List PV:=[.L b7.Pv x.X.S.S.a8,.I x.X.S.S.Last,.I x.X.S.Serial,.L iF x.X.Roots,.L k7.Pv x.X.a8,.L b8.Pv x.X.T,.L o0.Pv x.X.Q.L,.I x.X.Q.Cap,.L (Ls c9.Pv) x.Progs]
abbrev _root_.Go.Sh.w9.Pv(x:w9):PV:=.agg x.Pc
abbrev _root_.Go.Sh.c4.Pc(x:c4):List PV:=[.L b7.Pv x.g.X.S.S.a8,.I x.g.X.S.S.Last,.I x.g.X.S.Serial,.L iF x.g.X.Roots,.L k7.Pv x.g.X.a8,.L b8.Pv x.g.X.T,.L o0.Pv x.g.X.Q.L,.I x.g.X.Q.Cap,.L (Ls c9.Pv) x.g.Progs,.bool x.begun,.L (Ls c9.Pv) x.progs]
abbrev _root_.Go.Sh.c4.Pv(x:c4):PV:=.agg x.Pc
abbrev _root_.Go.Sh.c8.Pc(x:c8):List PV:=[AU x.takes,AU x.run,.bool x.early]
abbrev _root_.Go.Sh.c8.Pv(x:c8):PV:=.agg x.Pc
abbrev _root_.Go.Sh.l4.Pc(x:l4):List PV:=[qU x.part,.I x.least,.I x.most,.I x.e]
abbrev _root_.Go.Sh.l4.Pv(x:l4):PV:=.agg x.Pc
abbrev _root_.Go.Sh.u4.Pc(x:u4):List PV:=[.L b7.Pv x.x.S.S.a8,.I x.x.S.S.Last,.I x.x.S.Serial,.L iF x.x.Roots,.L k7.Pv x.x.a8,.L b8.Pv x.x.T,.L o0.Pv x.x.Q.L,.I x.x.Q.Cap,.I x.o.Kind,.I x.o.A,.I x.o.B,.I x.o.C]
abbrev _root_.Go.Sh.u4.Pv(x:u4):PV:=.agg x.Pc
abbrev _root_.Go.Sh.I0.Pc(x:I0):List PV:=[.I x.r,.I x.h]
abbrev _root_.Go.Sh.I0.Pv(x:I0):PV:=.agg x.Pc
abbrev _root_.Go.Sh.G6.Pc(x:G6):List PV:=[.I x.h,.I x.k,.I x.v]
abbrev _root_.Go.Sh.G6.Pv(x:G6):PV:=.agg x.Pc
abbrev _root_.Go.Sh.H9.Pc(x:H9):List PV:=[.L b8.Pv x.t]
abbrev _root_.Go.Sh.H9.Pv(x:H9):PV:=.agg x.Pc
abbrev _root_.Go.Sh.r9.Pc(x:r9):List PV:=[.I x.Key,.I x.Val]
abbrev _root_.Go.Sh.r9.Pv(x:r9):PV:=.agg x.Pc
abbrev _root_.Go.Sh.l7.Pc(x:l7):List PV:=[.L iF x.L,.I x.Cap]
abbrev _root_.Go.Sh.l7.Pv(x:l7):PV:=.agg x.Pc
abbrev _root_.Go.Sh.D3.Pc(x:D3):List PV:=[.I x.V,.I x.E]
abbrev _root_.Go.Sh.D3.Pv(x:D3):PV:=.agg x.Pc
def pT(t:Nat):Nat:=if t=99 then 4 else if t=103 then 0 else if t=107 then 1 else 0
theorem V7:J0 prog 3=some false:=by kernel_rfl
theorem yj:J0 prog 4=some false:=by kernel_rfl
theorem cQ:J0 prog 9=some false:=by kernel_rfl
theorem vx:J0 prog 27=some false:=by kernel_rfl
theorem kI:J0 prog 29=some true:=by kernel_rfl
theorem Sf:J0 prog 38=some false:=by kernel_rfl
theorem fq:J0 prog 40=some true:=by kernel_rfl
theorem kJ:J0 prog 42=some true:=by kernel_rfl
theorem Eo:J0 prog 43=some false:=by kernel_rfl
theorem Sg:J0 prog 44=some false:=by kernel_rfl
theorem Ao:J0 prog 45=some false:=by kernel_rfl
theorem jd:J0 prog 48=some true:=by kernel_rfl
theorem w8:J0 prog 50=some true:=by kernel_rfl
theorem mS:J0 prog 53=some true:=by kernel_rfl
theorem cP:J0 prog 63=some true:=by kernel_rfl
theorem Ap:J0 prog 92=some true:=by kernel_rfl
theorem Gf:J0 prog 115=some true:=by kernel_rfl
theorem NR:J0 prog 120=some true:=by kernel_rfl
theorem NS:J0 prog 121=some false:=by kernel_rfl
theorem NT:J0 prog 124=some true:=by kernel_rfl
theorem NU:J0 prog 142=some false:=by kernel_rfl
theorem qB:J0 prog 168=some true:=by kernel_rfl
theorem fJ:J0 prog 199=some true:=by kernel_rfl
theorem cM:J0 prog 205=some true:=by kernel_rfl
theorem Gg:J0 prog 290=some false:=by kernel_rfl
theorem nZ:J0 prog 450=some true:=by kernel_rfl
theorem X6:K8 prog 3=some 8:=by kernel_rfl
theorem Rj:K8 prog 9=some 16:=by kernel_rfl
theorem Si:K8 prog 92=some 32:=by kernel_rfl
theorem Aq:K8 prog 120=some 16:=by kernel_rfl
theorem NV:K8 prog 142=some 24:=by kernel_rfl
theorem Gi:K8 prog 202=some 24:=by kernel_rfl
theorem NW:K8 prog 205=some 24:=by kernel_rfl
theorem Gj:K8 prog 224=some 80:=by kernel_rfl
theorem Gk:K8 prog 371=some 24:=by kernel_rfl
theorem Gl:K8 prog 471=some 16:=by kernel_rfl
theorem D5:B1 prog 24=some 9:=by kernel_rfl
theorem V8:B1 prog 38=some 224:=by kernel_rfl
theorem o8:B1 prog 43=some 3:=by kernel_rfl
theorem ah:B1 prog 44=some 202:=by kernel_rfl
theorem bO:B1 prog 45=some 371:=by kernel_rfl
theorem mT:B1 prog 46=some 205:=by kernel_rfl
theorem gr:B1 prog 51=some 142:=by kernel_rfl
theorem iy:B1 prog 118=some 120:=by kernel_rfl
theorem iz:B1 prog 142=some 92:=by kernel_rfl
theorem aW:B1 prog 193=some 199:=by kernel_rfl
theorem kK:B1 prog 468=some 471:=by kernel_rfl
theorem JK:bT prog 40 0=some (0,38):=by kernel_rfl
theorem CA:bT prog 50 1=some (3,43):=by kernel_rfl
theorem JL:bT prog 50 2=some (4,44):=by kernel_rfl
theorem JM:bT prog 50 4=some (6,48):=by kernel_rfl
theorem JN:bT prog 92 0=some (0,3):=by kernel_rfl
theorem Ik:bT prog 124 0=some (0,121):=by kernel_rfl
theorem Il:bT prog 124 2=some (2,4):=by kernel_rfl
theorem Im:bT prog 168 1=some (1,3):=by kernel_rfl
theorem Io:bT prog 168 2=some (2,3):=by kernel_rfl
theorem yk:bT prog 168 4=some (4,4):=by kernel_rfl
theorem Ip:bT prog 199 2=some (2,3):=by kernel_rfl
theorem yl:bT prog 202 0=some (0,3):=by kernel_rfl
theorem Iq:bT prog 202 1=some (1,4):=by kernel_rfl
theorem ym:bT prog 224 0=some (0,3):=by kernel_rfl
theorem Ir:bT prog 224 2=some (2,168):=by kernel_rfl
theorem It:bT prog 371 1=some (1,3):=by kernel_rfl
theorem Iu:bT prog 471 0=some (0,3):=by kernel_rfl
theorem yn:bT prog 471 1=some (1,3):=by kernel_rfl
theorem VB:Nl prog 3=some .i64:=by kernel_rfl
theorem Sj:y2 prog 21:=kC func21 J
theorem Ep:y2 prog 28:=kC func28 J
theorem Sk:y2 prog 69:=kC func69 J
theorem Sl:y2 prog 75:=kC func75 J
theorem Sn:y2 prog 76:=kC func76 J
theorem Sp:y2 prog 78:=kC func78 J
theorem Sr:y2 prog 80:=kC func80 J
theorem Ss:y2 prog 81:=kC func81 J
theorem Su:y2 prog 82:=kC func82 J
theorem Gm:y2 prog 119:=kC func119 J
theorem NX:y2 prog 126:=kC func126 J
theorem NY:y2 prog 127:=kC func127 J
theorem NZ:y2 prog 129:=kC func129 J
theorem Oa:y2 prog 137:=kC func137 J
theorem Ob:y2 prog 138:=kC func138 J
theorem Oc:y2 prog 212:=kC func212 J
theorem Od:y2 prog 258:=kC func258 J
theorem Oe:y2 prog 265:=kC func265 J
theorem Of:y2 prog 276:=kC func276 J
theorem Og:y2 prog 287:=kC func287 J
theorem Oi:y2 prog 298:=kC func298 J
theorem Oj:y2 prog 367:=kC func367 J
theorem Ol:y2 prog 369:=kC func369 J
theorem Gp:y2 prog 370:=kC func370 J
theorem Gq:y2 prog 373:=kC func373 J
theorem Om:y2 prog 406:=kC func406 J
theorem Gr:y2 prog 407:=kC func407 J
theorem J9:pk prog 126=some (9,124):=by kernel_rfl
theorem aE:pk prog 151=some (3,149):=by kernel_rfl
theorem V9:pk prog 195=some (3,193):=by kernel_rfl
theorem vy:pk prog 222=some (3,3):=by kernel_rfl
theorem eO:pk prog 290=some (3,4):=by kernel_rfl
theorem Sw:E4 prog 29=some (λi=>(#[(0,1),(1,1)]:Array (Nat × Nat))[i]?):=by kernel_rfl
theorem JO:E4 prog 40=some (λi=>(#[(0,1),(1,1)]:Array (Nat × Nat))[i]?):=by kernel_rfl
theorem JP:E4 prog 42=some (λi=>(#[(0,2),(2,1)]:Array (Nat × Nat))[i]?):=by kernel_rfl
theorem Sx:E4 prog 48=some (λi=>(#[(0,1),(1,1)]:Array (Nat × Nat))[i]?):=by kernel_rfl
theorem JQ:E4 prog 50=some (λi=>(#[(0,3),(3,1),(4,1),(5,1),(6,2)]:Array (Nat × Nat))[i]?):=by kernel_rfl
theorem Es:E4 prog 53=some (λi=>(#[(0,8),(8,1)]:Array (Nat × Nat))[i]?):=by kernel_rfl
theorem Au:E4 prog 92=some (λi=>(#[(0,1),(1,1),(2,1),(3,1)]:Array (Nat × Nat))[i]?):=by kernel_rfl
theorem Sy:E4 prog 99=some (λi=>(#[(0,4)]:Array (Nat × Nat))[i]?):=by kernel_rfl
theorem On:E4 prog 103=some (λi=>(#[]:Array (Nat × Nat))[i]?):=by kernel_rfl
theorem Oo:E4 prog 107=some (λi=>(#[(0,1)]:Array (Nat × Nat))[i]?):=by kernel_rfl
theorem Gs:E4 prog 120=some (λi=>(#[(0,1),(1,1)]:Array (Nat × Nat))[i]?):=by kernel_rfl
theorem oa:E4 prog 124=some (λi=>(#[(0,1),(1,1),(2,1)]:Array (Nat × Nat))[i]?):=by kernel_rfl
theorem Oq:E4 prog 155=some (λi=>(#[(0,8),(8,4)]:Array (Nat × Nat))[i]?):=by kernel_rfl
theorem Ot:E4 prog 168=some (λi=>(#[(0,1),(1,1),(2,1),(3,1),(4,1),(5,1)]:Array (Nat × Nat))[i]?):=by kernel_rfl
theorem cR:E4 prog 199=some (λi=>(#[(0,1),(1,1),(2,1),(3,1)]:Array (Nat × Nat))[i]?):=by kernel_rfl
theorem Ou:E4 prog 202=some (λi=>(#[(0,1),(1,1),(2,1)]:Array (Nat × Nat))[i]?):=by kernel_rfl
theorem As:E4 prog 205=some (λi=>(#[(0,1),(1,1),(2,1)]:Array (Nat × Nat))[i]?):=by kernel_rfl
theorem uL:E4 prog 224=some (λi=>(#[(0,1),(1,1),(2,6)]:Array (Nat × Nat))[i]?):=by kernel_rfl
theorem Ov:E4 prog 348=some (λi=>(#[(0,1),(1,1),(2,1)]:Array (Nat × Nat))[i]?):=by kernel_rfl
theorem Ow:E4 prog 356=some (λi=>(#[(0,1)]:Array (Nat × Nat))[i]?):=by kernel_rfl
theorem Gt:E4 prog 371=some (λi=>(#[(0,1),(1,1),(2,1)]:Array (Nat × Nat))[i]?):=by kernel_rfl
theorem Ox:E4 prog 376=some (λi=>(#[(0,1)]:Array (Nat × Nat))[i]?):=by kernel_rfl
theorem Oy:E4 prog 388=some (λi=>(#[(0,1),(1,1)]:Array (Nat × Nat))[i]?):=by kernel_rfl
theorem Oz:E4 prog 450=some (λi=>(#[(0,1),(1,1)]:Array (Nat × Nat))[i]?):=by kernel_rfl
theorem Gu:E4 prog 471=some (λi=>(#[(0,1),(1,1)]:Array (Nat × Nat))[i]?):=by kernel_rfl
theorem JR:qi prog 99=true:=by kernel_rfl
theorem Gv:qi prog 103=true:=by kernel_rfl
theorem Gw:qi prog 107=true:=by kernel_rfl
theorem Av:Cf prog 115=some (4,3):=by kernel_rfl
theorem u6:u3 prog 3=some 1:=by kernel_rfl
theorem VC:u3 prog 4=some 1:=by kernel_rfl
theorem Q1:u3 prog 9=some 1:=by kernel_rfl
theorem dQ:u3 prog 29=some 2:=by kernel_rfl
theorem cS:u3 prog 40=some 2:=by kernel_rfl
theorem kM:u3 prog 42=some 3:=by kernel_rfl
theorem Et:u3 prog 43=some 1:=by kernel_rfl
theorem JS:u3 prog 46=some 1:=by kernel_rfl
theorem cT:u3 prog 48=some 2:=by kernel_rfl
theorem u0:u3 prog 50=some 8:=by kernel_rfl
theorem bP:u3 prog 53=some 9:=by kernel_rfl
theorem Q0:u3 prog 63=some 11:=by kernel_rfl
theorem kN:u3 prog 92=some 4:=by kernel_rfl
theorem OA:u3 prog 103=some 0:=by kernel_rfl
theorem Gx:u3 prog 115=some 4:=by kernel_rfl
theorem kL:u3 prog 120=some 2:=by kernel_rfl
theorem Gy:u3 prog 124=some 3:=by kernel_rfl
theorem fK:u3 prog 142=some 1:=by kernel_rfl
theorem iA:u3 prog 168=some 6:=by kernel_rfl
theorem L2:u3 prog 199=some 4:=by kernel_rfl
theorem aw:u3 prog 202=some 3:=by kernel_rfl
theorem N4:u3 prog 205=some 3:=by kernel_rfl
theorem U9:u3 prog 224=some 8:=by kernel_rfl
theorem bJ:u3 prog 371=some 3:=by kernel_rfl
theorem iB:u3 prog 450=some 2:=by kernel_rfl
theorem qC:u3 prog 471=some 2:=by kernel_rfl
theorem M3:prog.underlying 3=some (.int .i64):=by kernel_rfl
theorem H7:prog.underlying 9=some (.string):=by kernel_rfl
theorem Sz:prog.underlying 21=some (.int .i32):=by kernel_rfl
theorem F7:A3 prog 3=some ((.I 0)):=by kernel_rfl
theorem CB:A3 prog 4=some ((.bool false)):=by kernel_rfl
theorem JW:A3 prog 9=some ((.string ByteArray.empty)):=by kernel_rfl
theorem SA:A3 prog 29=some ((.agg #[(.I 0),(.I 0)])):=by kernel_rfl
theorem JT:A3 prog 40=some ((.agg #[(.slice none 0 0),(.I 0)])):=by kernel_rfl
theorem JU:A3 prog 42=some ((.agg #[(.slice none 0 0),(.I 0),(.I 0)])):=by kernel_rfl
theorem SC:A3 prog 48=some ((.agg #[(.slice none 0 0),(.I 0)])):=by kernel_rfl
theorem JV:A3 prog 50=some ((.agg #[(.slice none 0 0),(.I 0),(.I 0),(.slice none 0 0),(.slice none 0 0),(.slice none 0 0),(.slice none 0 0),(.I 0)])):=by kernel_rfl
theorem Eu:A3 prog 53=some ((.agg #[(.slice none 0 0),(.I 0),(.I 0),(.slice none 0 0),(.slice none 0 0),(.slice none 0 0),(.slice none 0 0),(.I 0),(.slice none 0 0)])):=by kernel_rfl
theorem sF:A3 prog 92=some ((.agg #[(.I 0),(.I 0),(.I 0),(.I 0)])):=by kernel_rfl
theorem JX:A3 prog 99=some ((.agg #[(.I 0),(.I 0),(.I 0),(.I 0)])):=by kernel_rfl
theorem Gz:A3 prog 103=some ((.agg #[])):=by kernel_rfl
theorem GA:A3 prog 107=some ((.agg #[(.I 0)])):=by kernel_rfl
theorem kO:A3 prog 120=some ((.agg #[(.I 0),(.I 0)])):=by kernel_rfl
theorem kP:A3 prog 124=some ((.agg #[.nilFunc,.nilFunc,(.bool false)])):=by kernel_rfl
theorem OB:A3 prog 142=some ((.slice none 0 0)):=by kernel_rfl
theorem OC:A3 prog 149=some (.nilFunc):=by kernel_rfl
theorem OD:A3 prog 155=some ((.agg #[(.slice none 0 0),(.I 0),(.I 0),(.slice none 0 0),(.slice none 0 0),(.slice none 0 0),(.slice none 0 0),(.I 0),(.I 0),(.I 0),(.I 0),(.I 0)])):=by kernel_rfl
theorem OE:A3 prog 168=some ((.agg #[(.I 0),(.I 0),(.I 0),(.I 0),(.bool false),(.slice none 0 0)])):=by kernel_rfl
theorem OF:A3 prog 193=some ((.slice none 0 0)):=by kernel_rfl
theorem J7:A3 prog 199=some ((.agg #[.nilFunc,(.I 0),(.I 0),(.I 0)])):=by kernel_rfl
theorem Aw:A3 prog 202=some ((.agg #[(.I 0),(.bool false),(.I 0)])):=by kernel_rfl
theorem qD:A3 prog 205=some ((.agg #[(.I 0),(.I 0),(.I 0)])):=by kernel_rfl
theorem oc:A3 prog 224=some ((.agg #[(.I 0),(.I 0),(.I 0),(.I 0),(.I 0),(.I 0),(.bool false),(.slice none 0 0)])):=by kernel_rfl
theorem OG:A3 prog 348=some ((.agg #[(.I 0),(.I 0),(.I 0)])):=by kernel_rfl
theorem OH:A3 prog 356=some ((.agg #[(.slice none 0 0)])):=by kernel_rfl
theorem uM:A3 prog 371=some ((.agg #[(.I 0),(.I 0),(.I 0)])):=by kernel_rfl
theorem OI:A3 prog 376=some ((.agg #[.nilFunc])):=by kernel_rfl
theorem OJ:A3 prog 388=some ((.agg #[(.I 0),(.I 0)])):=by kernel_rfl
theorem OK:A3 prog 450=some ((.agg #[(.slice none 0 0),(.I 0)])):=by kernel_rfl
theorem od:A3 prog 471=some ((.agg #[(.I 0),(.I 0)])):=by kernel_rfl
theorem y7:prog.follows .mixedOrders=true:=by kernel_rfl
def tb:TB:=⟨[((29,0),(0,3)),((29,1),(1,27)),((40,0),(0,38)),((40,1),(1,3)),((42,0),(0,40)),((42,1),(2,3)),((48,0),(0,46)),((48,1),(1,3)),((50,0),(0,42)),((50,1),(3,43)),((50,2),(4,44)),((50,3),(5,45)),((50,4),(6,48)),((53,0),(0,50)),((53,1),(8,51)),((63,0),(0,53)),((63,1),(9,4)),((63,2),(10,51)),((92,0),(0,3)),((92,1),(1,3)),((92,2),(2,3)),((92,3),(3,3)),((99,0),(0,92)),((107,0),(0,3)),((120,0),(0,3)),((120,1),(1,3)),((124,1),(1,122)),((155,0),(0,50)),((155,1),(8,92)),((168,0),(0,3)),((168,1),(1,3)),((168,2),(2,3)),((168,3),(3,3)),((168,4),(4,4)),((168,5),(5,43)),((199,0),(0,197)),((199,1),(1,3)),((199,3),(3,27)),((202,0),(0,3)),((202,1),(1,4)),((202,2),(2,3)),((205,0),(0,3)),((205,1),(1,3)),((205,2),(2,3)),((224,0),(0,3)),((224,1),(1,3)),((224,2),(2,168)),((348,0),(0,3)),((348,1),(1,3)),((348,2),(2,3)),((356,0),(0,45)),((371,0),(0,3)),((371,1),(1,3)),((371,2),(2,3)),((376,0),(0,374)),((388,0),(0,3)),((388,1),(1,3)),((450,0),(0,43)),((450,1),(1,3)),((471,0),(0,3)),((471,1),(1,3))],[(3,false),(4,false),(9,false),(27,false),(29,true),(38,false),(40,true),(42,true),(43,false),(44,false),(45,false),(46,false),(48,true),(50,true),(51,false),(53,true),(63,true),(92,true),(115,true),(122,false),(142,false),(155,true),(168,true),(197,false),(199,true),(202,true),(205,true),(222,false),(224,true),(290,false),(371,true),(374,false),(376,true),(450,true),(468,false),(471,true),(479,false)],[(3,1),(4,1),(27,1),(29,2),(38,1),(40,2),(42,3),(43,1),(44,1),(45,1),(48,2),(50,8),(51,1),(53,9),(63,11),(92,4),(99,4),(107,1),(115,4),(120,2),(124,3),(155,12),(168,6),(199,4),(202,3),(205,3),(222,1),(224,8),(290,1),(371,3),(376,1),(450,2),(468,1),(471,2)],[(3,.I 0),(4,.bool false),(27,.I 0),(29,.agg [.I 0,.I 0]),(40,.agg [.G7 true (List.map b7.Pv []),.I 0]),(42,.agg [.G7 true (List.map b7.Pv []),.I 0,.I 0]),(43,.G7 true (List.map iF [])),(45,.G7 true (List.map b8.Pv [])),(48,.agg [.G7 true (List.map o0.Pv []),.I 0]),(50,.agg [.G7 true (List.map b7.Pv []),.I 0,.I 0,.G7 true (List.map iF []),.G7 true (List.map k7.Pv []),.G7 true (List.map b8.Pv []),.G7 true (List.map o0.Pv []),.I 0]),(53,.agg [.G7 true (List.map b7.Pv []),.I 0,.I 0,.G7 true (List.map iF []),.G7 true (List.map k7.Pv []),.G7 true (List.map b8.Pv []),.G7 true (List.map o0.Pv []),.I 0,.G7 true (List.map (Ls c9.Pv) [])]),(63,.agg [.G7 true (List.map b7.Pv []),.I 0,.I 0,.G7 true (List.map iF []),.G7 true (List.map k7.Pv []),.G7 true (List.map b8.Pv []),.G7 true (List.map o0.Pv []),.I 0,.G7 true (List.map (Ls c9.Pv) []),.bool false,.G7 true (List.map (Ls c9.Pv) [])]),(92,.agg [.I 0,.I 0,.I 0,.I 0]),(99,.agg [.I 0,.I 0,.I 0,.I 0]),(103,.agg []),(107,.agg [.I 0]),(115,.agg [.I 0,.I 0,.I 0,.I 0]),(120,.agg [.I 0,.I 0]),(124,.agg [.nilfn,.nilfn,.bool false]),(168,.agg [.I 0,.I 0,.I 0,.I 0,.bool false,.G7 true (List.map iF [])]),(199,.agg [.nilfn,.I 0,.I 0,.I 0]),(202,.agg [.I 0,.bool false,.I 0]),(205,.agg [.I 0,.I 0,.I 0]),(222,.abs Em),(224,.agg [.I 0,.I 0,.I 0,.I 0,.I 0,.I 0,.bool false,.G7 true (List.map iF [])]),(290,.abs Em),(371,.agg [.I 0,.I 0,.I 0]),(376,.agg [.nilfn]),(450,.agg [.G7 true (List.map iF []),.I 0]),(468,.G7 true (List.map r9.Pv [])),(471,.agg [.I 0,.I 0])]⟩
theorem Tb:TB.Ok prog tb:=⟨by kernel_rfl,by kernel_rfl,by kernel_rfl,by kernel_rfl⟩
section
variable{X:Ctx}{ops:Array Oper}{K:Ctx->St->Prop}{i n:Nat}{l l':List Oper}{env env':Nat->PV}{σ σ':Nat->Option Row}{Q:PX->Ctx->St->Prop}{y:Code}{KD:St->Prop}{bar:List Nat}
theorem S1(n:Nat)(h:run tb n l env σ=some (l',env',σ'))(k:Sq X ops (i+n) l' K ⟨env',σ'⟩)(hb:TB.Ok X.P tb:=by exact Tb):Sq X ops i l K ⟨env,σ⟩:=UL hb n h k
theorem S2(n:Nat)(h:run tb n l env σ=some ([],env',σ'))(k:K X ⟨env',σ'⟩)(hb:TB.Ok X.P tb:=by exact Tb):Sq X ops i l K ⟨env,σ⟩:=UL hb n h (yN k)
theorem S3{id:Nat}(n:Nat)(h:run tb n l env σ=some (l',env',σ'))(k:Sq X l.toArray (0+n) l' (λX' s=>X5 X' y Q s) ⟨env',σ'⟩)(hd:eU X.N l.toArray=true:=by kernel_rfl)(hb:TB.Ok X.P tb:=by exact Tb):X5 X (.seq (.region id l.toArray false) y) Q ⟨env,σ⟩:=sr hd (UL hb n h k)
theorem S4{id:Nat}(n:Nat)(h:run tb n l env σ=some ([],env',σ'))(k:X5 X y Q ⟨env',σ'⟩)(hd:eU X.N l.toArray=true:=by kernel_rfl)(hb:TB.Ok X.P tb:=by exact Tb):X5 X (.seq (.region id l.toArray false) y) Q ⟨env,σ⟩:=sr hd (UL hb n h (yN k))
theorem S5{id:Nat}(n:Nat)(h:run tb n l env σ=some (l',env',σ'))(k:Sq X l.toArray (0+n) l' (Q .normal) ⟨env',σ'⟩)(hd:eU X.N l.toArray=true:=by kernel_rfl)(hb:TB.Ok X.P tb:=by exact Tb):X5 X (.region id l.toArray false) Q ⟨env,σ⟩:=RT hd (UL hb n h k)
theorem S6{id:Nat}(n:Nat)(h:run tb n l env σ=some ([],env',σ'))(k:Q .normal X ⟨env',σ'⟩)(hd:eU X.N l.toArray=true:=by kernel_rfl)(hb:TB.Ok X.P tb:=by exact Tb):X5 X (.region id l.toArray false) Q ⟨env,σ⟩:=RT hd (UL hb n h (yN k))
theorem S7(n:Nat)(h:QD tb bar n i l env σ=some (l',env',σ'))(k:Ex X.P ops bar true (i+n) l' ⟨env',σ'⟩ KD)(hb:TB.Ok X.P tb:=by exact Tb):Ex X.P ops bar true i l ⟨env,σ⟩ KD:=dG hb n h k
theorem S8(n:Nat)(h:QD tb bar n i l env σ=some ([],env',σ'))(k:KD ⟨env',σ'⟩)(hb:TB.Ok X.P tb:=by exact Tb):Ex X.P ops bar true i l ⟨env,σ⟩ KD:=dG hb n h k
end
theorem UP:An prog (Tryz.sortF_ren.f 6):=Jt Tryz.sortF
theorem QJ:uK prog (Tryz.sortI_ren.f 5):=FR Tryz.sortI
theorem Lr{n:Int}{r:ByteArray}(h:nO n=some r):N9 prog 28 [.I n] (.str r):=
 Qh (P:=prog) (ρ:=Tryz.itoaL_ren) Tryz.itoaL (by rw[show prog.globalNamed (DU prog)=some WT by kernel_rfl];exact nofun) (λw hT n h0 h1=>Any.strconv_Itoa Tryz.itoaL n h0 h1 w (cast (by kernel_rfl) hT)) h
theorem UQ{s sep:ByteArray}{xs:List ByteArray}(h:tH s sep=some xs):N9 prog 21 [.str s,.str sep] (.G7 false (xs.map PV.str)):=
 Mr (P:=prog) (ρ:=Tryz.splitL_ren) Tryz.splitL (by kernel_rfl) (by kernel_rfl) h
theorem qf{a0}:PO prog 23 [.int .i32 a0] (Z3 a0) λr=>.bool r:=by
 refine pO func23 λr h _ _=>?_;unfold Z3 at h;refine S4 1 J<|S3 3 J<|r7 J (λhg=>om (d:=.int .i32 a0) J)<|r7 J (λhg=>H4 (ct hg) J J)<|y0 J (J2 J J J (λq=>mn q))<|S1 1 J<|r7 J (λhg=>om (d:=.int .i32 a0) J)<|r7 J (λhg=>H4 (ct hg) J J)<|y0 J (J2 J J J (λq=>mn q))<|S2 1 J<|b9 ?_;cases h;exact f1
theorem aT{a0}:PO prog 22 [.str a0,.fn (.func 23) []] (D4 a0) λr=>.L PV.str r:=by
 refine pO func22 λr h _ _=>?_;refine S4 1 J<|sR<|Xa (m:=32) J J nl J J iy kL kO Aq nl nl<|S2 1 J<|S4 1 J ?_;refine jq h (λq=>St.of [(0,.str a0),(5,.sl 12),(6,.I q.1)] [(12,⟨List.map s7.Pv q.2,(List.map s7.Pv q.2).length,true,2,true⟩)]) (λq12 h=>?_) λκ9 h=>?_
 .obtain⟨j10,j11⟩:=q12;refine jq h (λj15=>St.of [(0,.str a0),(5,.sl 43)] [(43,⟨List.map s7.Pv j15,(List.map s7.Pv j15).length,true,2,true⟩)]) (λj15 h=>?_) λκ14 h=>?_
  .refine S3 1 J ?_;refine y0 J (yR (f:=s7.Pv) J J J iy)<|A2 h λv16 hv10 h=>y1 J (wF (f:=PV.str) hv10 J J J D5 Q1 JW Rj J J J) J<|S2 1 J ?_;refine jq h (λj26=>St.of [(9,.sl 46)] [(46,⟨List.map PV.str j26,0,true,1,true⟩)]) (λj26 h=>?_) λκ25 h=>?_
   .refine S4 2 J ?_;refine b9 ?_;cases h;exact f1
   .refine S3 1 J ?_;refine y0 J (yR (f:=s7.Pv) J J J iy)<|S2 1 J<|n0<|lq h (λq=>St.of [(0,.str a0),(9,.sl 46),(47,.sl 43),(48,.I (j15.length:Int)),(49,.I q.1)] [(43,⟨List.map s7.Pv j15,(List.map s7.Pv j15).length,true,2,true⟩),(46,⟨List.map PV.str q.2,0,true,1,true⟩)]) (Wk.trans (u5 _ [43]) W) λq31 x30 h hx20=>?_;obtain⟨s28,s29⟩:=q31;refine S4 1 J<|l6 ?_;refine cN h (λhc h=>?_) λhc h=>?_
    .refine j5 ?_;refine l6<|n0<|S3 1 J<|A2 h λv32 hv21 h=>y0 J (gM (f:=s7.Pv) hv21 J J J J iy kL J)<|y0 J (Wu (f:=s7.Pv) (cs:=s7.Pc v32) hv21 J J J NR kL nl J)<|S2 3 J<|S5 7 J<|A2 h λv33 hv22 h=>y0 J (Fo hv22 J ⟨_,J⟩ ⟨_,J⟩ H7)<|A2 h λv34 hv23 h=>y0 J (gM (f:=PV.str) hv23 J J J J D5 Q1 J)<|pS (f:=PV.str) (v:=v33) hv23 J J (.inl J) Q1<|yN<|S6 2 J ?_;exact eL h (Wk.trans (u5 _ [43]) W)
    .refine y3 ?_;refine l5<|l5<|r8 ?_;have h:=xL hx20 h;exact eJ h W
  .refine S4 2 J ?_;refine cN h (λhc h=>?_) λhc h=>?_
   .refine S5 3 J ?_;refine y0 J (Bq J H7 J)<|y0 J (x6 (cs:=[.I j10,.I (a0.size:Int)]) J Gs kO J J J)<|y0 J (aN (f:=s7.Pv) (l:=[(⟨j10,(a0.size:Int)⟩:s7)]) J iy kL kO J J nl J J)<|A2 h λv35 hv24 h=>bI J (aM (f:=s7.Pv) hv24 J J J J J J (.inl ⟨_,J,J⟩) iy kL Aq kO J (λ_=>J)) J J J<|S2 1 J ?_;exact eJ h (Wk.trans (u5 _ [43]) W)
   .refine j5 ?_;exact eJ h (Wk.trans (u5 _ [12]) (WP (λl=>if l=43 then 12 else l)))
 .refine S3 1 J ?_;refine NC 5000014 J J H7 J<|yN<|n0<|lq h (λq=>St.of [(0,.str a0),(1,.fn (.func 23) []),(5,.sl 12),(6,.I q.1),(14,.ptr 5000014 0 0)] [(5000014,Vq a0 q.2.1),(12,⟨List.map s7.Pv q.2.2,(List.map s7.Pv q.2.2).length,true,2,true⟩)]) (Wk.trans (u5 _ [12]) W) λq41 x40 h hx27=>?_;obtain⟨s37,s38,s39⟩:=q41;refine sR ?_;refine Sc J J J (λhc28=>?_) (λhc28=>?_)
  .have h:=NL h (zA hc28);refine S2 1 J<|l6 ?_;refine F3 true J (λ_=>?_) (λq=>nomatch q);refine j5<|n0<|S4 4 J<|S3 2 J<|cA h qf J J λv42 _ h=>yN ?_;refine cN h (λhc h=>?_) λhc h=>?_
   .refine S4 2 J ?_;refine cN h (λhc h=>?_) λhc h=>?_
    .refine S3 3 J ?_;refine y0 J (x6 (cs:=[.I s37,.I ((s38:Nat):Int)]) J Gs kO J J J)<|y0 J (aN (f:=s7.Pv) (l:=[(⟨s37,((s38:Nat):Int)⟩:s7)]) J iy kL kO J J nl J J)<|A2 h λv43 hv30 h=>bI J (aM (f:=s7.Pv) hv30 J J J J J J (.inl ⟨_,J,J⟩) iy kL Aq kO J (λ_=>J)) J J J<|S2 1 J<|S5 1 J<|y0 J (Uc J J J)<|S2 1 J ?_;exact eL h (Wk.trans (u5 _ [29]) (WP (λl=>if l=12 then 29 else l)))
    .refine j5 ?_;exact eL h (Wk.trans (u5 _ [12]) W)
   .refine S4 2 J ?_;refine cN h (λhc h=>?_) λhc h=>?_
    .refine S6 2 J ?_;exact eL h (Wk.trans (u5 _ [12]) W)
    .refine j5 ?_;exact eL h (Wk.trans (u5 _ [12]) W)
  .have h:=NK h (zK hc28);refine S2 1 J<|l6 ?_;refine F3 false J (λq=>nomatch q) (λ_=>?_);refine y3<|l5<|l5<|r8 ?_;have h:=xL hx27 h;exact eJ h (Wk.trans (u5 _ [12]) W)
theorem Q3{a0}:PO prog 77 [.I a0] (Z2 a0) λr=>.fn (.func 137) [.rptr [.I r]]:=by
 refine pO func77 λr h _ _=>?_;unfold Z2 at h;refine S4 2 J<|S4 2 J<|b9 ?_;cases h;exact f1
theorem z7{a0 a1}:PO prog 79 [.I a0,.I a1] (B4 a0 a1) λr=>c8.Pv r:=by
 refine pO func79 λr h _ _=>?_;refine S4 2 J<|S3 1 J<|cF h Q3 J J λv1 _ h=>S1 1 J<|N3 (RZ 7 J)<|y0 J (x6 (cs:=[.fn (.func 137) [.rptr [.I v1]],.fn (.func 138) [.rptr [.I a0]],.bool false]) J oa kP J J J)<|N3 (Aj 8 (d':=.agg [AU (some (137,some v1)),AU (some (138,some a0)),.bool false]) J J)<|S2 1 J<|b9 ?_;cases h;exact⟨J,[_],⟨oL J J J NT Gy nl J,tr⟩,J,io⟩
theorem pb:PO prog 42 [] (dU) λr=>.abs (V6 (List.map (fP PV.str c8.Pv) r)):=by
 refine pO func42 λr h _ _=>?_;refine S4 1 J<|sR<|Al (KT:=ByteArray) (VT:=c8) (EK:=PV.str) (E:=c8.Pv) 5000001 J J<|y0 J (x6 (cs:=[.fn (.func 75) [],.fn (.func 76) [],.bool true]) J oa kP J J J)<|N3 (Aj 2 (d':=.agg [AU (some (75,none)),AU (some (76,none)),.bool true]) J J)<|G0 (es:=[]) (k:=(s6 [112,114,111,103])) (v:=(⟨(some (75,none)),(some (76,none)),true⟩:c8)) (E:=c8.Pv) (EK:=PV.str) (.inr J) J J J J J J J9 (K2 H7)<|cF h Q3 J J λv1 _ h=>y0 J (x6 (cs:=[.fn (.func 137) [.rptr [.I v1]],.fn (.func 78) [],.bool true]) J oa kP J J J)<|N3 (Aj 4 (d':=.agg [AU (some (137,some v1)),AU (some (78,none)),.bool true]) J J)<|G0 (es:=(o5 [] (s6 [112,114,111,103]) (⟨(some (75,none)),(some (76,none)),true⟩:c8))) (k:=(s6 [104,101,97,112])) (v:=(⟨(some (137,some v1)),(some (78,none)),true⟩:c8)) (E:=c8.Pv) (EK:=PV.str) (.inr J) J J J J J J J9 (K2 H7)<|cF h z7 J J λv2 _ h=>G0 (es:=(o5 (o5 [] (s6 [112,114,111,103]) (⟨(some (75,none)),(some (76,none)),true⟩:c8)) (s6 [104,101,97,112]) (⟨(some (137,some v1)),(some (78,none)),true⟩:c8))) (k:=(s6 [110,101,119])) (v:=v2) (E:=c8.Pv) (EK:=PV.str) (.inr J) J J J J J J J9 (K2 H7)<|cF h z7 J J λv3 _ h=>G0 (es:=(o5 (o5 (o5 [] (s6 [112,114,111,103]) (⟨(some (75,none)),(some (76,none)),true⟩:c8)) (s6 [104,101,97,112]) (⟨(some (137,some v1)),(some (78,none)),true⟩:c8)) (s6 [110,101,119]) v2)) (k:=(s6 [99,111,112,121])) (v:=v3) (E:=c8.Pv) (EK:=PV.str) (.inr J) J J J J J J J9 (K2 H7)<|cF h z7 J J λv4 _ h=>G0 (es:=(o5 (o5 (o5 (o5 [] (s6 [112,114,111,103]) (⟨(some (75,none)),(some (76,none)),true⟩:c8)) (s6 [104,101,97,112]) (⟨(some (137,some v1)),(some (78,none)),true⟩:c8)) (s6 [110,101,119]) v2) (s6 [99,111,112,121]) v3)) (k:=(s6 [100,114,111,112])) (v:=v4) (E:=c8.Pv) (EK:=PV.str) (.inr J) J J J J J J J9 (K2 H7)<|cF h z7 J J λv5 _ h=>G0 (es:=(o5 (o5 (o5 (o5 (o5 [] (s6 [112,114,111,103]) (⟨(some (75,none)),(some (76,none)),true⟩:c8)) (s6 [104,101,97,112]) (⟨(some (137,some v1)),(some (78,none)),true⟩:c8)) (s6 [110,101,119]) v2) (s6 [99,111,112,121]) v3) (s6 [100,114,111,112]) v4)) (k:=(s6 [108,111,97,100])) (v:=v5) (E:=c8.Pv) (EK:=PV.str) (.inr J) J J J J J J J9 (K2 H7)<|cF h z7 J J λv6 _ h=>G0 (es:=(o5 (o5 (o5 (o5 (o5 (o5 [] (s6 [112,114,111,103]) (⟨(some (75,none)),(some (76,none)),true⟩:c8)) (s6 [104,101,97,112]) (⟨(some (137,some v1)),(some (78,none)),true⟩:c8)) (s6 [110,101,119]) v2) (s6 [99,111,112,121]) v3) (s6 [100,114,111,112]) v4) (s6 [108,111,97,100]) v5)) (k:=(s6 [115,116,111,114,101])) (v:=v6) (E:=c8.Pv) (EK:=PV.str) (.inr J) J J J J J J J9 (K2 H7)<|cF h z7 J J λv7 _ h=>G0 (es:=(o5 (o5 (o5 (o5 (o5 (o5 (o5 [] (s6 [112,114,111,103]) (⟨(some (75,none)),(some (76,none)),true⟩:c8)) (s6 [104,101,97,112]) (⟨(some (137,some v1)),(some (78,none)),true⟩:c8)) (s6 [110,101,119]) v2) (s6 [99,111,112,121]) v3) (s6 [100,114,111,112]) v4) (s6 [108,111,97,100]) v5) (s6 [115,116,111,114,101]) v6)) (k:=(s6 [119,101,97,107])) (v:=v7) (E:=c8.Pv) (EK:=PV.str) (.inr J) J J J J J J J9 (K2 H7)<|cF h z7 J J λv8 _ h=>G0 (es:=(o5 (o5 (o5 (o5 (o5 (o5 (o5 (o5 [] (s6 [112,114,111,103]) (⟨(some (75,none)),(some (76,none)),true⟩:c8)) (s6 [104,101,97,112]) (⟨(some (137,some v1)),(some (78,none)),true⟩:c8)) (s6 [110,101,119]) v2) (s6 [99,111,112,121]) v3) (s6 [100,114,111,112]) v4) (s6 [108,111,97,100]) v5) (s6 [115,116,111,114,101]) v6) (s6 [119,101,97,107]) v7)) (k:=(s6 [117,112])) (v:=v8) (E:=c8.Pv) (EK:=PV.str) (.inr J) J J J J J J J9 (K2 H7)<|cF h z7 J J λv9 _ h=>G0 (es:=(o5 (o5 (o5 (o5 (o5 (o5 (o5 (o5 (o5 [] (s6 [112,114,111,103]) (⟨(some (75,none)),(some (76,none)),true⟩:c8)) (s6 [104,101,97,112]) (⟨(some (137,some v1)),(some (78,none)),true⟩:c8)) (s6 [110,101,119]) v2) (s6 [99,111,112,121]) v3) (s6 [100,114,111,112]) v4) (s6 [108,111,97,100]) v5) (s6 [115,116,111,114,101]) v6) (s6 [119,101,97,107]) v7) (s6 [117,112]) v8)) (k:=(s6 [112,97,105,114])) (v:=v9) (E:=c8.Pv) (EK:=PV.str) (.inr J) J J J J J J J9 (K2 H7)<|cF h z7 J J λv10 _ h=>G0 (es:=(o5 (o5 (o5 (o5 (o5 (o5 (o5 (o5 (o5 (o5 [] (s6 [112,114,111,103]) (⟨(some (75,none)),(some (76,none)),true⟩:c8)) (s6 [104,101,97,112]) (⟨(some (137,some v1)),(some (78,none)),true⟩:c8)) (s6 [110,101,119]) v2) (s6 [99,111,112,121]) v3) (s6 [100,114,111,112]) v4) (s6 [108,111,97,100]) v5) (s6 [115,116,111,114,101]) v6) (s6 [119,101,97,107]) v7) (s6 [117,112]) v8) (s6 [112,97,105,114]) v9)) (k:=(s6 [103,101,116])) (v:=v10) (E:=c8.Pv) (EK:=PV.str) (.inr J) J J J J J J J9 (K2 H7)<|cF h z7 J J λv11 _ h=>G0 (es:=(o5 (o5 (o5 (o5 (o5 (o5 (o5 (o5 (o5 (o5 (o5 [] (s6 [112,114,111,103]) (⟨(some (75,none)),(some (76,none)),true⟩:c8)) (s6 [104,101,97,112]) (⟨(some (137,some v1)),(some (78,none)),true⟩:c8)) (s6 [110,101,119]) v2) (s6 [99,111,112,121]) v3) (s6 [100,114,111,112]) v4) (s6 [108,111,97,100]) v5) (s6 [115,116,111,114,101]) v6) (s6 [119,101,97,107]) v7) (s6 [117,112]) v8) (s6 [112,97,105,114]) v9) (s6 [103,101,116]) v10)) (k:=(s6 [115,97,109,101])) (v:=v11) (E:=c8.Pv) (EK:=PV.str) (.inr J) J J J J J J J9 (K2 H7) ?_;refine cF h z7 J J λv12 _ h=>G0 (es:=(o5 (o5 (o5 (o5 (o5 (o5 (o5 (o5 (o5 (o5 (o5 (o5 [] (s6 [112,114,111,103]) (⟨(some (75,none)),(some (76,none)),true⟩:c8)) (s6 [104,101,97,112]) (⟨(some (137,some v1)),(some (78,none)),true⟩:c8)) (s6 [110,101,119]) v2) (s6 [99,111,112,121]) v3) (s6 [100,114,111,112]) v4) (s6 [108,111,97,100]) v5) (s6 [115,116,111,114,101]) v6) (s6 [119,101,97,107]) v7) (s6 [117,112]) v8) (s6 [112,97,105,114]) v9) (s6 [103,101,116]) v10) (s6 [115,97,109,101]) v11)) (k:=(s6 [99,111,108,108,101,99,116])) (v:=v12) (E:=c8.Pv) (EK:=PV.str) (.inr J) J J J J J J J9 (K2 H7)<|cF h z7 J J λv13 _ h=>G0 (es:=(o5 (o5 (o5 (o5 (o5 (o5 (o5 (o5 (o5 (o5 (o5 (o5 (o5 [] (s6 [112,114,111,103]) (⟨(some (75,none)),(some (76,none)),true⟩:c8)) (s6 [104,101,97,112]) (⟨(some (137,some v1)),(some (78,none)),true⟩:c8)) (s6 [110,101,119]) v2) (s6 [99,111,112,121]) v3) (s6 [100,114,111,112]) v4) (s6 [108,111,97,100]) v5) (s6 [115,116,111,114,101]) v6) (s6 [119,101,97,107]) v7) (s6 [117,112]) v8) (s6 [112,97,105,114]) v9) (s6 [103,101,116]) v10) (s6 [115,97,109,101]) v11) (s6 [99,111,108,108,101,99,116]) v12)) (k:=(s6 [100,114,97,105,110])) (v:=v13) (E:=c8.Pv) (EK:=PV.str) (.inr J) J J J J J J J9 (K2 H7)<|cF h Q3 J J λv14 hv14 h=>y0 J (x6 (cs:=[.fn (.func 137) [.rptr [.I v14]],.fn (.func 80) [],.bool false]) J oa kP J J J)<|N3 (Aj 18 (d':=.agg [AU (some (137,some v14)),AU (some (80,none)),.bool false]) J J)<|G0 (es:=(o5 (o5 (o5 (o5 (o5 (o5 (o5 (o5 (o5 (o5 (o5 (o5 (o5 (o5 [] (s6 [112,114,111,103]) (⟨(some (75,none)),(some (76,none)),true⟩:c8)) (s6 [104,101,97,112]) (⟨(some (137,some v1)),(some (78,none)),true⟩:c8)) (s6 [110,101,119]) v2) (s6 [99,111,112,121]) v3) (s6 [100,114,111,112]) v4) (s6 [108,111,97,100]) v5) (s6 [115,116,111,114,101]) v6) (s6 [119,101,97,107]) v7) (s6 [117,112]) v8) (s6 [112,97,105,114]) v9) (s6 [103,101,116]) v10) (s6 [115,97,109,101]) v11) (s6 [99,111,108,108,101,99,116]) v12) (s6 [100,114,97,105,110]) v13)) (k:=(s6 [108,105,118,101,115])) (v:=(⟨(some (137,some v14)),(some (80,none)),false⟩:c8)) (E:=c8.Pv) (EK:=PV.str) (.inr J) J J J J J J J9 (K2 H7)<|yc J (C0 J Q3 J hv14)<|y0 J (x6 (cs:=[.fn (.func 137) [.rptr [.I v14]],.fn (.func 81) [],.bool false]) J oa kP J J J)<|N3 (Aj 20 (d':=.agg [AU (some (137,some v14)),AU (some (81,none)),.bool false]) J J)<|G0 (es:=(o5 (o5 (o5 (o5 (o5 (o5 (o5 (o5 (o5 (o5 (o5 (o5 (o5 (o5 (o5 [] (s6 [112,114,111,103]) (⟨(some (75,none)),(some (76,none)),true⟩:c8)) (s6 [104,101,97,112]) (⟨(some (137,some v1)),(some (78,none)),true⟩:c8)) (s6 [110,101,119]) v2) (s6 [99,111,112,121]) v3) (s6 [100,114,111,112]) v4) (s6 [108,111,97,100]) v5) (s6 [115,116,111,114,101]) v6) (s6 [119,101,97,107]) v7) (s6 [117,112]) v8) (s6 [112,97,105,114]) v9) (s6 [103,101,116]) v10) (s6 [115,97,109,101]) v11) (s6 [99,111,108,108,101,99,116]) v12) (s6 [100,114,97,105,110]) v13) (s6 [108,105,118,101,115]) (⟨(some (137,some v14)),(some (80,none)),false⟩:c8))) (k:=(s6 [114,111,111,116,115])) (v:=(⟨(some (137,some v14)),(some (81,none)),false⟩:c8)) (E:=c8.Pv) (EK:=PV.str) (.inr J) J J J J J J J9 (K2 H7)<|yc J (C0 J Q3 J hv14)<|y0 J (x6 (cs:=[.fn (.func 137) [.rptr [.I v14]],.fn (.func 82) [],.bool false]) J oa kP J J J)<|N3 (Aj 22 (d':=.agg [AU (some (137,some v14)),AU (some (82,none)),.bool false]) J J)<|G0 (es:=(o5 (o5 (o5 (o5 (o5 (o5 (o5 (o5 (o5 (o5 (o5 (o5 (o5 (o5 (o5 (o5 [] (s6 [112,114,111,103]) (⟨(some (75,none)),(some (76,none)),true⟩:c8)) (s6 [104,101,97,112]) (⟨(some (137,some v1)),(some (78,none)),true⟩:c8)) (s6 [110,101,119]) v2) (s6 [99,111,112,121]) v3) (s6 [100,114,111,112]) v4) (s6 [108,111,97,100]) v5) (s6 [115,116,111,114,101]) v6) (s6 [119,101,97,107]) v7) (s6 [117,112]) v8) (s6 [112,97,105,114]) v9) (s6 [103,101,116]) v10) (s6 [115,97,109,101]) v11) (s6 [99,111,108,108,101,99,116]) v12) (s6 [100,114,97,105,110]) v13) (s6 [108,105,118,101,115]) (⟨(some (137,some v14)),(some (80,none)),false⟩:c8)) (s6 [114,111,111,116,115]) (⟨(some (137,some v14)),(some (81,none)),false⟩:c8))) (k:=(s6 [116,97,108,108,121])) (v:=(⟨(some (137,some v14)),(some (82,none)),false⟩:c8)) (E:=c8.Pv) (EK:=PV.str) (.inr J) J J J J J J J9 (K2 H7)<|S2 2 J<|cy (Cm 0 5000001 J J)<|b9 ?_;cases h;exact f1
theorem qK{a0}:PO prog 13 [.str a0] (aF a0) λr=>.tup [.I r.1,.bool r.2]:=by
 refine pO func13 λr h _ _=>?_;refine S4 2 J<|wN<|S4 3 J<|l6<|wM ?_;refine jq h (λq=>St.of [(4,.I q.1),(5,.I q.2.1),(6,.I q.2.2)] []) (λq12 h=>?_) λκ8 h=>?_
 .obtain⟨j9,j10,j11⟩:=q12;refine l6<|S4 2 J ?_;refine cN h (λhc h=>?_) λhc h=>?_
  .refine S4 2 J ?_;refine b9 ?_;cases h;exact f2
  .refine j5 ?_;refine S4 5 J<|b9 ?_;cases h;exact f2
 .refine S3 1 J ?_;refine NC 5000010 J J H7 J<|yN<|n0<|lq h (λq=>St.of [(4,.I q.1),(5,.I q.2.1),(6,.I q.2.2.1),(10,.ptr 5000010 0 0)] [(5000010,Vq a0 q.2.2.2)]) W λq19 x18 h hx8=>?_;obtain⟨s14,s15,s16,s17⟩:=q19;refine sR ?_;refine Sc J J J (λhc9=>?_) (λhc9=>?_)
  .have h:=NL h (zA hc9);refine S2 1 J<|l6 ?_;refine F3 true J (λ_=>?_) (λq=>nomatch q);refine j5<|n0<|S4 4 J<|l6<|n0<|S3 3 J<|r7 J (λhg=>om (d:=.int .i32 ((dec a0 s17).1:Int)) J)<|r7 J (λhg=>H4 (ct hg) J J)<|y0 J (E7 J J J (λq=>mL q))<|S2 1 J ?_;refine cN h (λhc h=>?_) λhc h=>?_
   .refine S4 1 J ?_;refine y3<|aX (by decide)<|l5<|r8 ?_;exact eL h W
   .refine S3 3 J ?_;refine r7 J (λhg=>om (d:=.int .i32 ((dec a0 s17).1:Int)) J)<|r7 J (λhg=>H4 (ct hg) J J)<|y0 J (J2 J J J (λq=>mn q))<|S1 1 J<|r7 J (λhg=>mI J)<|r7 J (λhg=>H4 (ct hg) J J)<|y0 J (J2 J J J (λq=>mn q))<|S2 1 J ?_;refine cN h (λhc h=>?_) λhc h=>?_
    .refine S4 1 J ?_;refine y3<|aX (by decide)<|l5<|aX (by decide)<|l5<|r8 ?_;have h:=xL hx8 h;exact eJ h W
    .refine j5 ?_;refine S3 4 J<|y0 J (TY J Sz VB J)<|S2 2 J<|S6 3 J ?_;exact eL h W
  .have h:=NK h (zK hc9);refine S2 1 J<|l6 ?_;refine F3 false J (λq=>nomatch q) (λ_=>?_);refine y3<|l5<|l5<|r8 ?_;have h:=xL hx8 h;exact eJ h W
theorem mY{a0}:PO prog 43 [.L PV.str a0] (ay a0) λr=>.tup [.L iF r.1,.bool r.2]:=by
 refine pO func43 λr h _ _=>?_;refine S4 2 J<|S4 1 J ?_;refine jq h (λj10=>St.of [(4,.sl 910004)] [(910004,⟨List.map iF j10,(List.map iF j10).length,true,1,true⟩)]) (λj10 h=>?_) λκ9 h=>?_
 .refine S4 3 J ?_;refine b9 ?_;cases h;exact f2
 .refine S3 1 J ?_;refine nL J D5<|S2 1 J<|n0<|lq h (λq=>St.of [(4,.sl 910004),(9,.L PV.str a0),(10,.I (a0.length:Int)),(11,.I q.1)] [(910004,⟨List.map iF q.2,(List.map iF q.2).length,true,1,true⟩)]) (Wk.trans (Y8 (t:=4) (l:=920004) (z:=1) J J) (WP (λl=>if l=910004 then 920004 else l))) λq15 x14 h hx10=>?_;obtain⟨s12,s13⟩:=q15;refine S4 1 J<|l6 ?_;refine cN h (λhc h=>?_) λhc h=>?_
  .refine j5 ?_;refine l6<|n0<|sR<|iL h J J D5 Q1 λv16 _ h=>S2 2 J<|S3 1 J<|cA h qK J J λv17 _ h=>S2 5 J<|l6<|S4 2 J ?_;refine cN h (λhc h=>?_) λhc h=>?_
   .refine S4 2 J ?_;refine b9 ?_;have h:=xL hx10 h;cases h;exact f2
   .refine j5 ?_;refine S5 2 J<|y0 J (aN (f:=iF) (l:=[v17.1]) J o8 u6 F7 J J nl J J)<|A2 h λv18 hv13 h=>bI J (aM (f:=iF) hv13 J J J J J J (.inl ⟨_,J,J⟩) o8 u6 X6 F7 J (λ_=>J)) J J J<|S2 1 J<|S6 2 J ?_;exact eL h (Wk.trans (u5 _ [25]) (WP (λl=>if l=910004 then 25 else l)))
  .refine y3 ?_;refine l5<|l5<|r8 ?_;have h:=xL hx10 h;exact eJ h (Wk.trans (u5 _ [910004]) W)
theorem mJ{a0}:PO prog 75 [.I a0] (bQ a0) λr=>.bool r:=by
 refine pO func75 λr h _ _=>?_;unfold bQ at h;refine S4 1 J<|S3 1 J<|A2 h λv1 hv1 h=>y0 J (wD J J hv1)<|S2 2 J<|b9 ?_;cases h;exact f1
theorem mX{a0 a1}:PO prog 137 [.I a0,.rptr [.I a1]] (cW a0 a1) λr=>.bool r:=by
 refine pO func137 λr h _ _=>?_;unfold cW at h;refine S4 1 J<|S4 4 J<|b9 ?_;cases h;exact f1
theorem EV{f:Fw}{a0:Int}{r:Bool}(h:oA f a0=some r):∃n cap,Vp f = .fn (.func n) cap/\Xm cap/\y2 prog n/\N9 prog n ([.I a0]++cap) (.bool r):=by
 unfold oA at h;match f,h with
 | none,h=>cases h
 | some (n,none),h=>
  dsimp only at h;by_cases e75:n=75
  .rw[zb e75] at h;subst e75;exact⟨75,_,J,.inl J,Sl,mJ.2 _ h⟩
  rw[za e75] at h;cases h
 | some (n,some c),h=>
  dsimp only at h;by_cases e137:n=137
  .rw[zb e137] at h;subst e137;exact⟨137,_,J,.inr ⟨c,J⟩,Oa,mX.2 _ h⟩
  rw[za e137] at h;cases h
theorem N6{a0}:PO prog 27 [.I a0] (B7 a0) λr=>.str r:=by
 refine pO func27 λr h _ _=>?_;unfold B7 at h;refine S4 1 J<|S3 1 J<|A2 h λv1 hv1 h=>y0 J (th J Ep J (Lr hv1))<|A2 h λv2 hv2 h=>y0 J (jt hv2 J J H7)<|S2 1 J<|b9 ?_;cases h;exact f1
theorem xM{a0}:PO prog 55 [c9.Pv a0] (dR a0) λr=>.bool r:=by
 refine pO func55 λr h _ _=>?_;unfold dR at h;refine S4 2 J<|S3 4 J<|r7 J (λhg=>oF J JN J)<|r7 J (λhg=>oS (ct hg) J J V7 J)<|r7 J (λhg=>H4 (ct hg) J J)<|y0 J (E7 J J J (λq=>mL q))<|S2 1 J<|b9 ?_;cases h;exact f1
theorem A6:PO prog 168 [.fn (.func 169) []] (ak) λr=>l4.Pv r:=by
 refine pO func168 λr h _ _=>?_;unfold ak at h;refine S4 1 J<|S3 1 J<|y0 J (x6 (cs:=[.fn (.func 169) [],.I 0,.I 5,.I 6]) J cR J7 J J J)<|N3 (mG 4 (d':=.agg [qU (some 169),.I 0,.I 5,.I 6]) J)<|S2 1 J<|b9 ?_;cases h;exact⟨J,[_],⟨oL J J J fJ L2 nl J,tr⟩,J,io⟩
theorem ax:PO prog 171 [.fn (.func 172) []] (U5) λr=>l4.Pv r:=by
 refine pO func171 λr h _ _=>?_;unfold U5 at h;refine S4 1 J<|S3 1 J<|y0 J (x6 (cs:=[.fn (.func 172) [],.I (-1),.I 5,.I 13]) J cR J7 J J J)<|N3 (mG 4 (d':=.agg [qU (some 172),.I (-1),.I 5,.I 13]) J)<|S2 1 J<|b9 ?_;cases h;exact⟨J,[_],⟨oL J J J fJ L2 nl J,tr⟩,J,io⟩
theorem E3{a0}:PO prog 167 [.L l4.Pv a0] (J1 a0) λr=>.L l4.Pv r:=by
 refine pO func167 λr h _ _=>?_;unfold J1 at h;refine S4 1 J<|S4 2 J<|b9 ?_;cases h;exact f1
theorem L4:PO prog 168 [.fn (.func 170) []] (al) λr=>l4.Pv r:=by
 refine pO func168 λr h _ _=>?_;unfold al at h;refine S4 1 J<|S3 1 J<|y0 J (x6 (cs:=[.fn (.func 170) [],.I 0,.I 5,.I 6]) J cR J7 J J J)<|N3 (mG 4 (d':=.agg [qU (some 170),.I 0,.I 5,.I 6]) J)<|S2 1 J<|b9 ?_;cases h;exact⟨J,[_],⟨oL J J J fJ L2 nl J,tr⟩,J,io⟩
theorem ir:PO prog 173 [.fn (.func 172) []] (X9) λr=>l4.Pv r:=by
 refine pO func173 λr h _ _=>?_;unfold X9 at h;refine S4 1 J<|S3 1 J<|y0 J (x6 (cs:=[.fn (.func 172) [],.I 0,.I 3,.I 5]) J cR J7 J J J)<|N3 (mG 4 (d':=.agg [qU (some 172),.I 0,.I 3,.I 5]) J)<|S2 1 J<|b9 ?_;cases h;exact⟨J,[_],⟨oL J J J fJ L2 nl J,tr⟩,J,io⟩
theorem iq:PO prog 173 [.fn (.func 170) []] (X8) λr=>l4.Pv r:=by
 refine pO func173 λr h _ _=>?_;unfold X8 at h;refine S4 1 J<|S3 1 J<|y0 J (x6 (cs:=[.fn (.func 170) [],.I 0,.I 3,.I 5]) J cR J7 J J J)<|N3 (mG 4 (d':=.agg [qU (some 170),.I 0,.I 3,.I 5]) J)<|S2 1 J<|b9 ?_;cases h;exact⟨J,[_],⟨oL J J J fJ L2 nl J,tr⟩,J,io⟩
theorem dT:PO prog 174 [.fn (.func 172) []] (P2) λr=>l4.Pv r:=by
 refine pO func174 λr h _ _=>?_;unfold P2 at h;refine S4 1 J<|S3 1 J<|y0 J (x6 (cs:=[.fn (.func 172) [],.I (-1),.I 5,.I 6]) J cR J7 J J J)<|N3 (mG 4 (d':=.agg [qU (some 172),.I (-1),.I 5,.I 6]) J)<|S2 1 J<|b9 ?_;cases h;exact⟨J,[_],⟨oL J J J fJ L2 nl J,tr⟩,J,io⟩
theorem jf:PO prog 175 [.fn (.func 169) []] (ai) λr=>l4.Pv r:=by
 refine pO func175 λr h _ _=>?_;unfold ai at h;refine S4 1 J<|S3 1 J<|y0 J (x6 (cs:=[.fn (.func 169) [],.I 0,.I 5,.I 7]) J cR J7 J J J)<|N3 (mG 4 (d':=.agg [qU (some 169),.I 0,.I 5,.I 7]) J)<|S2 1 J<|b9 ?_;cases h;exact⟨J,[_],⟨oL J J J fJ L2 nl J,tr⟩,J,io⟩
theorem W0:PO prog 174 [.fn (.func 170) []] (P1) λr=>l4.Pv r:=by
 refine pO func174 λr h _ _=>?_;unfold P1 at h;refine S4 1 J<|S3 1 J<|y0 J (x6 (cs:=[.fn (.func 170) [],.I (-1),.I 5,.I 6]) J cR J7 J J J)<|N3 (mG 4 (d':=.agg [qU (some 170),.I (-1),.I 5,.I 6]) J)<|S2 1 J<|b9 ?_;cases h;exact⟨J,[_],⟨oL J J J fJ L2 nl J,tr⟩,J,io⟩
theorem jg:PO prog 175 [.fn (.func 170) []] (aj) λr=>l4.Pv r:=by
 refine pO func175 λr h _ _=>?_;unfold aj at h;refine S4 1 J<|S3 1 J<|y0 J (x6 (cs:=[.fn (.func 170) [],.I 0,.I 5,.I 7]) J cR J7 J J J)<|N3 (mG 4 (d':=.agg [qU (some 170),.I 0,.I 5,.I 7]) J)<|S2 1 J<|b9 ?_;cases h;exact⟨J,[_],⟨oL J J J fJ L2 nl J,tr⟩,J,io⟩
theorem uv:PO prog 94 [] (kV) λr=>.abs (V6 (List.map (fP iF (Ls l4.Pv)) r)):=by
 refine pO func94 λr h _ _=>?_;refine S4 1 J<|sR<|Al (KT:=Int) (VT:=List l4) (EK:=iF) (E:=(Ls l4.Pv)) 5000001 J J<|cF h A6 J J λv1 hv1 h=>y0 J (x6 (cs:=[.fn (.func 170) [],.I 0,.I 4,.I 1]) J cR J7 J J J)<|N3 (mG 3 (d':=.agg [qU (some 170),.I 0,.I 4,.I 1]) J)<|cF h ax J J λv2 hv2 h=>y0 J (aN (f:=l4.Pv) (l:=[v1,(⟨(some 170),0,4,1⟩:l4),v2]) J aW L2 J7 J J nl J J)<|cF h E3 J J λv3 _ h=>G0 (es:=[]) (k:=1) (v:=v3) (E:=(Ls l4.Pv)) (EK:=iF) (.inr J) J J J J J J V9 (A9 M3)<|yc J (C0 J A6 J hv1)<|cF h L4 J J λv4 hv4 h=>y0 J (aN (f:=l4.Pv) (l:=[v1,v4]) J aW L2 J7 J J nl J J)<|cF h E3 J J λv5 hv5 h=>G0 (es:=(o5 [] 1 v3)) (k:=2) (v:=v5) (E:=(Ls l4.Pv)) (EK:=iF) (.inr J) J J J J J J V9 (A9 M3)<|yc J (C0 J A6 J hv1)<|y0 J (aN (f:=l4.Pv) (l:=[v1]) J aW L2 J7 J J nl J J)<|cF h E3 J J λv6 _ h=>G0 (es:=(o5 (o5 [] 1 v3) 2 v5)) (k:=3) (v:=v6) (E:=(Ls l4.Pv)) (EK:=iF) (.inr J) J J J J J J V9 (A9 M3)<|yc J (C0 J A6 J hv1)<|yc J (C0 J L4 J hv4)<|cF h ir J J λv7 _ h=>y0 J (aN (f:=l4.Pv) (l:=[v1,v4,v7]) J aW L2 J7 J J nl J J)<|cF h E3 J J λv8 _ h=>G0 (es:=(o5 (o5 (o5 [] 1 v3) 2 v5) 3 v6)) (k:=4) (v:=v8) (E:=(Ls l4.Pv)) (EK:=iF) (.inr J) J J J J J J V9 (A9 M3)<|yc J (C0 J A6 J hv1)<|cF h iq J J λv9 _ h=>cF h dT J J λv10 _ h=>y0 J (aN (f:=l4.Pv) (l:=[v1,v9,v10]) J aW L2 J7 J J nl J J)<|cF h E3 J J λv11 _ h=>?_;refine G0 (es:=(o5 (o5 (o5 (o5 [] 1 v3) 2 v5) 3 v6) 4 v8)) (k:=5) (v:=v11) (E:=(Ls l4.Pv)) (EK:=iF) (.inr J) J J J J J J V9 (A9 M3)<|cF h jf J J λv12 _ h=>cF h W0 J J λv13 hv13 h=>yc J (C0 J ax J hv2)<|y0 J (aN (f:=l4.Pv) (l:=[v12,v13,v2]) J aW L2 J7 J J nl J J)<|cF h E3 J J λv14 _ h=>G0 (es:=(o5 (o5 (o5 (o5 (o5 [] 1 v3) 2 v5) 3 v6) 4 v8) 5 v11)) (k:=6) (v:=v14) (E:=(Ls l4.Pv)) (EK:=iF) (.inr J) J J J J J J V9 (A9 M3)<|yc J (C0 J A6 J hv1)<|cF h jg J J λv15 _ h=>y0 J (aN (f:=l4.Pv) (l:=[v1,v15]) J aW L2 J7 J J nl J J)<|cF h E3 J J λv16 _ h=>G0 (es:=(o5 (o5 (o5 (o5 (o5 (o5 [] 1 v3) 2 v5) 3 v6) 4 v8) 5 v11) 6 v14)) (k:=7) (v:=v16) (E:=(Ls l4.Pv)) (EK:=iF) (.inr J) J J J J J J V9 (A9 M3)<|yc J (C0 J A6 J hv1)<|yc J (C0 J W0 J hv13)<|y0 J (aN (f:=l4.Pv) (l:=[v1,v13]) J aW L2 J7 J J nl J J)<|cF h E3 J J λv17 _ h=>G0 (es:=(o5 (o5 (o5 (o5 (o5 (o5 (o5 [] 1 v3) 2 v5) 3 v6) 4 v8) 5 v11) 6 v14) 7 v16)) (k:=8) (v:=v17) (E:=(Ls l4.Pv)) (EK:=iF) (.inr J) J J J J J J V9 (A9 M3)<|yc J (C0 J A6 J hv1)<|yc J (C0 J L4 J hv4)<|y0 J (aN (f:=l4.Pv) (l:=[v1,v4]) J aW L2 J7 J J nl J J)<|yc J (C0 J E3 J hv5)<|G0 (es:=(o5 (o5 (o5 (o5 (o5 (o5 (o5 (o5 [] 1 v3) 2 v5) 3 v6) 4 v8) 5 v11) 6 v14) 7 v16) 8 v17)) (k:=9) (v:=v5) (E:=(Ls l4.Pv)) (EK:=iF) (.inr J) J J J J J J V9 (A9 M3)<|yc J (C0 J A6 J hv1)<|yc J (C0 J L4 J hv4)<|y0 J (aN (f:=l4.Pv) (l:=[v1,v4]) J aW L2 J7 J J nl J J)<|yc J (C0 J E3 J hv5)<|G0 (es:=(o5 (o5 (o5 (o5 (o5 (o5 (o5 (o5 (o5 [] 1 v3) 2 v5) 3 v6) 4 v8) 5 v11) 6 v14) 7 v16) 8 v17) 9 v5)) (k:=10) (v:=v5) (E:=(Ls l4.Pv)) (EK:=iF) (.inr J) J J J J J J V9 (A9 M3)<|cF h E3 J J λv18 _ h=>G0 (es:=(o5 (o5 (o5 (o5 (o5 (o5 (o5 (o5 (o5 (o5 [] 1 v3) 2 v5) 3 v6) 4 v8) 5 v11) 6 v14) 7 v16) 8 v17) 9 v5) 10 v5)) (k:=11) (v:=v18) (E:=(Ls l4.Pv)) (EK:=iF) (.inr J) J J J J J J V9 (A9 M3)<|y0 J (x6 (cs:=[.fn (.func 169) [],.I 0,.I 200,.I 12]) J cR J7 J J J) ?_;refine N3 (mG 46 (d':=.agg [qU (some 169),.I 0,.I 200,.I 12]) J)<|y0 J (aN (f:=l4.Pv) (l:=[(⟨(some 169),0,200,12⟩:l4)]) J aW L2 J7 J J nl J J)<|cF h E3 J J λv19 _ h=>G0 (es:=(o5 (o5 (o5 (o5 (o5 (o5 (o5 (o5 (o5 (o5 (o5 [] 1 v3) 2 v5) 3 v6) 4 v8) 5 v11) 6 v14) 7 v16) 8 v17) 9 v5) 10 v5) 11 v18)) (k:=12) (v:=v19) (E:=(Ls l4.Pv)) (EK:=iF) (.inr J) J J J J J J V9 (A9 M3)<|S2 2 J<|cy (Cm 0 5000001 J J)<|b9 ?_;cases h;exact f1
theorem pw{a0}:PO prog 169 [c9.Pv a0] (pY a0) λr=>.I r:=by
 refine pO func169 λr h _ _=>?_;unfold pY at h;refine S4 2 J<|S4 3 J<|b9 ?_;cases h;exact f1
theorem px{a0}:PO prog 170 [c9.Pv a0] (pZ a0) λr=>.I r:=by
 refine pO func170 λr h _ _=>?_;unfold pZ at h;refine S4 2 J<|S4 3 J<|b9 ?_;cases h;exact f1
theorem py{a0}:PO prog 172 [c9.Pv a0] (qc a0) λr=>.I r:=by
 refine pO func172 λr h _ _=>?_;unfold qc at h;refine S4 2 J<|S4 3 J<|b9 ?_;cases h;exact f1
theorem ET{f:Fv}{a0:c9}{r:Int}(h:qV f a0=some r):∃n,f=some n/\y2 prog n/\N9 prog n [c9.Pv a0] (.I r):=by
 unfold qV at h;by_cases e169:f=some 169
 .rw[zb e169] at h;exact⟨169,e169,(@pw a0).1,(@pw a0).2 _ h⟩
 rw[za e169] at h;by_cases e170:f=some 170
 .rw[zb e170] at h;exact⟨170,e170,(@px a0).1,(@px a0).2 _ h⟩
 rw[za e170] at h;by_cases e172:f=some 172
 .rw[zb e172] at h;exact⟨172,e172,(@py a0).1,(@py a0).2 _ h⟩
 rw[za e172] at h;cases h
theorem je{a0}:PO prog 56 [c9.Pv a0] (U4 a0) λr=>.I r:=by
 refine pO func56 λr h _ _=>?_;unfold U4 at h;refine S4 2 J<|dr [] y7 (by kernel_rfl) (by kernel_rfl)<|A2 h λv1 hv1 h=>mK J (C0 J uv J hv1) J<|S7 2 J<|d4 J (Dm (es:=v1) (k:=a0.Kind) (E:=(Ls l4.Pv)) (EK:=iF) (d:=.tup [.L l4.Pv ((z6 v1 a0.Kind).getD ([]:List l4)),.bool ((z6 v1 a0.Kind).isSome)]) J J V9 (A9 M3) OF J (XX _ _ ([]:List l4))) J<|S8 5 J<|l6<|S4 2 J ?_;refine cN h (λhc h=>?_) λhc h=>?_
 .refine S4 1 J ?_;refine b9 ?_;cases h;exact f1
 .refine j5 ?_;refine jq h (λ_=>St.of [] []) (λq9 h=>?_) λκ8 h=>?_
  .refine S4 1 J ?_;refine b9 ?_;cases h;exact f1
  .refine S3 1 J ?_;refine nL J aW<|S2 1 J<|n0<|lq h (λs11=>St.of [(1,.ptr 1 0 0),(17,.L l4.Pv ((z6 v1 a0.Kind).getD ([]:List l4))),(18,.I (((z6 v1 a0.Kind).getD ([]:List l4)).length:Int)),(19,.I s11)] [(1,vR (c9.Pv a0) 4)]) W λs11 x12 h hx13=>S4 1 J<|l6 ?_;refine cN h (λhc h=>?_) λhc h=>?_
   .refine j5 ?_;refine l6<|n0<|sR<|iL h J J aW L2 λv13 _ h=>S2 3 J<|S3 3 J ?_;obtain⟨v14,hv15,h⟩:=C4 h;obtain⟨n15,he16,hk17,hp18⟩:=ET hv15;refine N3 (RY 24 J he16)<|y0 J (th J hk17 J hp18)<|S2 1 J<|S3 5 J<|r7 J (λhg=>mI J)<|r7 J (λhg=>oF J Ip J)<|r7 J (λhg=>oS (ct hg) J J V7 J)<|r7 J (λhg=>H4 (ct hg) (ct hg) J)<|y0 J (J2 J J J (λq=>mn q))<|yN ?_;refine cN h (λhc h=>?_) λhc h=>?_
    .refine S4 3 J ?_;refine b9 ?_;have h:=xL hx13 h;cases h;exact f1
    .refine j5 ?_;refine S6 2 J ?_;exact eL h W
   .refine y3 ?_;refine l5<|l5<|r8 ?_;have h:=xL hx13 h;exact eJ h W
theorem pv{a0}:PO prog 30 [.L (Ls c9.Pv) a0] (dS a0) λr=>.bool r:=by
 refine pO func30 λr h _ _=>?_;refine S4 1 J<|l6<|S3 1 J<|nL J gr<|S2 1 J ?_;refine cN h (λhc h=>?_) λhc h=>?_
 .refine S4 1 J ?_;refine b9 ?_;cases h;exact f1
 .refine j5 ?_;refine jq h (λ_=>St.of [] []) (λq21 h=>?_) λκ20 h=>?_
  .refine S4 1 J ?_;refine b9 ?_;cases h;exact f1
  .refine S3 1 J ?_;refine nL J gr<|S2 1 J<|n0<|lq h (λs23=>St.of [(10,.L (Ls c9.Pv) a0),(11,.I (a0.length:Int)),(12,.I s23)] []) W λs23 x24 h hx22=>S4 1 J<|l6 ?_;refine cN h (λhc h=>?_) λhc h=>?_
   .refine j5 ?_;refine jq h (λ_=>St.of [(10,.L (Ls c9.Pv) a0),(11,.I (a0.length:Int)),(12,.I s23)] []) (λq33 h=>?_) λκ32 h=>?_
    .refine S6 2 J ?_;exact eL h W
    .refine n0 ?_;refine sR<|iL h J J gr fK λv34 _ h=>S2 2 J<|l6<|S3 1 J<|nL J iz<|S2 1 J ?_;refine cN h (λhc h=>?_) λhc h=>?_
     .refine S4 1 J ?_;refine b9 ?_;have h:=xL hx22 h;cases h;exact f1
     .refine j5 ?_;refine S3 1 J<|nL J iz<|S2 1 J<|n0<|lq h (λs36=>St.of [(10,.L (Ls c9.Pv) a0),(11,.I (a0.length:Int)),(12,.I s23),(19,.L c9.Pv v34),(20,.I (v34.length:Int)),(21,.I s36)] []) W λs36 x37 h hx34=>S4 1 J<|l6 ?_;refine cN h (λhc h=>?_) λhc h=>?_
      .refine j5 ?_;refine l6<|n0<|sR<|iL h J J iz kN λv38 _ h=>S2 3 J<|S3 1 J<|cA h xM J J λv39 _ h=>S1 2 J<|r7 J (λhg=>oL J J J Ap kN nl J)<|A2 h λv40 hv37 h=>r7 J (λhg=>T4 J je (cV (ct hg) J) (N7 hv37 hg))<|r7 J (λhg=>H4 (ct hg) J J)<|y0 J (J2 J J J (λq=>mn q))<|yN ?_;refine cN h (λhc h=>?_) λhc h=>?_
       .refine S4 1 J ?_;refine b9 ?_;have h:=xL hx34 h;have h:=xL hx22 h;cases h;exact f1
       .refine j5 ?_;refine S6 2 J ?_;exact eL h W
      .refine y3 ?_;refine l5<|l5<|r8 ?_;have h:=xL hx34 h;exact eJ h W
   .refine y3 ?_;refine l5<|l5<|r8 ?_;have h:=xL hx22 h;exact eJ h W
theorem gv{a0 a1}:PO prog 76 [c4.Pv a0,.L iF a1] (N5 a0 a1) λr=>.tup [c4.Pv r.1,.str r.2]:=by
 refine pO func76 λr h _ _=>?_;refine S4 3 J<|S3 1 J<|iL h J J o8 u6 λv1 _ h=>S2 2 J<|l6<|S3 3 J<|r7 J (λhg=>mI J)<|r7 J (λhg=>H4 (ct hg) J J)<|y0 J (J2 J J J (λq=>mn q))<|yN ?_;refine cN h (λhc h=>?_) λhc h=>?_
 .refine dr [] y7 (by kernel_rfl) (by kernel_rfl) ?_;refine S7 1 J<|A2 h λv2 hv2 h=>d2 J (T4 J N6 J hv2) J<|E2 (x':=c4.Pv a0) (cl':=true) J J (.inr J) Q0<|S8 1 J<|b9 ?_;cases h;exact⟨J,[_,_],⟨oL J J J cP Q0 nl J,⟨J,tr⟩⟩,J,io⟩
 .refine j5 ?_;refine S3 4 J<|nL J gr<|y0 J (Hi J J J)<|A2 h λv3 hv3 h=>y1 J (wF (f:=(Ls c9.Pv)) hv3 J J J gr fK OB NV J J J) J<|S2 1 J<|S3 3 J<|A2 h λv4 hv4 h=>Vj (f:=(Ls c9.Pv)) hv4 J J J (.inl ⟨_,J,J⟩) gr fK (λ_=>J) (by decide)<|yN<|S3 2 J<|A2 h λv5 hv5 h=>y0 J (gM (f:=(Ls c9.Pv)) hv5 J J J J gr fK J)<|Rf (f:=(Ls c9.Pv)) 930026 4 hv5 J J J fK J J J J<|yN ?_;refine jq h (λj19=>St.of [(2,.ptr 2 0 0),(4,.ptr 4 0 0),(7,.sl 26)] [(26,⟨qj (Ls c9.Pv) v4 ((v1).toNat) 930026,0,true,1,false⟩),(930026,⟨List.map c9.Pv j19,(List.map c9.Pv j19).length,true,4,true⟩),(4,vR (.agg [.nl,.I 0,.I 0,.nl,.nl,.nl,.nl,.I 0,.nl,.bool false,.nl]) 11),(2,vR (c4.Pv a0) 11)]) (λj19 h=>?_) λκ18 h=>?_
  .refine l6 ?_;refine cy (Vf (l:=26) (r:=930026) (f:=(Ls c9.Pv)) (gE:=c9.Pv) (v:=j19) J (Wc hv5) J J J J (λ_=>J) J)<|S3 1 J<|cA h pv J J λv20 _ h=>S2 1 J ?_;refine cN h (λhc h=>?_) λhc h=>?_
   .refine dr [] y7 (by kernel_rfl) (by kernel_rfl) ?_;refine S7 1 J<|A2 h λv21 hv18 h=>d2 J (T4 J N6 J hv18) J<|E2 (x':=c4.Pv a0) (cl':=true) J J (.inr J) Q0<|S8 1 J<|b9 ?_;cases h;exact⟨J,[_,_],⟨oL J J J cP Q0 nl J,⟨J,tr⟩⟩,J,io⟩
   .refine j5 ?_;refine S4 3 J<|S4 3 J<|b9 ?_;cases h;exact⟨J,[_,_],⟨oL J J J cP Q0 nl J,⟨J,tr⟩⟩,J,io⟩
  .refine S3 1 J ?_;obtain⟨v22,hv19,h⟩:=C4 h;refine y0 J (wE (f:=iF) hv19 J ⟨_,J⟩ J o8 u6 (λ_=>J))<|S2 1 J<|n0<|lq h (λq=>St.of [(2,.ptr 2 0 0),(4,.ptr 4 0 0),(6,.I v1),(7,.sl 26),(8,.L iF q.1)] [(26,⟨qj (Ls c9.Pv) v4 ((v1).toNat) 930026,0,true,1,false⟩),(930026,⟨List.map c9.Pv q.2,(List.map c9.Pv q.2).length,true,4,true⟩),(4,vR (.agg [.nl,.I 0,.I 0,.nl,.nl,.nl,.nl,.I 0,.nl,.bool false,.nl]) 11),(2,vR (c4.Pv a0) 11)]) (Wk.trans (u5 _ [930026]) (sz _ _ ⟨J,J,J,J,J,J,J,J,J,J,J,J,J,J,J,tr⟩ ⟨tA J J J (λ_=>J) J J J J (λ_=>J) (λ_=>J) (λ_=>J),rS,rS,rS,tr⟩)) λq27 x26 h hx22=>?_;obtain⟨s24,s25⟩:=q27;refine l6<|S3 1 J<|nL J o8<|S2 1 J ?_;refine cN h (λhc h=>?_) λhc h=>?_
   .refine j5 ?_;refine l6<|n0<|wL [] y7 (by kernel_rfl) (by kernel_rfl)<|S7 4 J<|d0 J (RI (f:=(Ls c9.Pv)) hv5 J J J J gr fK J) J<|d0 J (Wv (f:=(Ls c9.Pv)) hv5 J J J NU) J<|S7 1 J<|A2 h λv28 hv23 h=>d0 J (F5 (f:=iF) (cs:=[.I v28]) hv23 J J o8 u6 J J) J<|S7 2 J<|A2 h λv29 hv24 h=>d0 J (F5 (f:=iF) (cs:=[.I v29]) hv24 J J o8 u6 J J) J<|S7 2 J<|A2 h λv30 hv25 h=>d0 J (F5 (f:=iF) (cs:=[.I v30]) hv25 J J o8 u6 J J) J<|S7 2 J<|A2 h λv31 hv26 h=>d0 J (F5 (f:=iF) (cs:=[.I v31]) hv26 J J o8 u6 J J) J<|S7 1 J<|d7 J (λ_ hN=>x6 (cs:=[.I v28,.I v29,.I v30,.I v31]) J Au sF J J J) J<|XD J (aN (f:=c9.Pv) (l:=[(⟨v28,v29,v30,v31⟩:c9)]) J iz kN sF J J nl J J) J<|A2 h λv32 hv27 h=>Yh J (aM (f:=c9.Pv) hv27 J J J J J J (.inl ⟨_,J,J⟩) iz kN Si sF J (λ_=>J)) J J J J J<|d0 J (RI (f:=(Ls c9.Pv)) hv5 J J J J gr fK J) J<|VH (f:=(Ls c9.Pv)) hv5 J J J fK J<|bA<|S5 1 J<|A2 h λv33 hv28 h=>y0 J (wE (f:=iF) hv28 J ⟨_,J⟩ J o8 u6 (λ_=>J))<|S2 1 J ?_;exact eL h (Wk.trans (u5 _ [61]) (Ga (λl=>if l=930026 then 61 else l) _ _ ⟨J,J,J,J,J,J,J,J,J,J,J,J,J,J,J,tr⟩ ⟨tA J J J (λ_=>J) J J J J (λ_=>J) (λ_=>J) (λ_=>J),rN,rN,rN,tr⟩ J))
   .refine y3 ?_;refine l5<|l5<|r8 ?_;have h:=xL hx22 h;exact eJ h (Wk.trans (u5 _ [930026]) (sz _ _ ⟨J,J,J,J,J,J,J,J,J,tr⟩ ⟨tA J J J (λ_=>J) J J J J (λ_=>J) (λ_=>J) (λ_=>J),rS,rS,rS,tr⟩))
theorem mP{a0 a1}:PO prog 95 [.I a0,.I a1] (Y6 a0 a1) λr=>c5.Pv r:=by
 refine pO func95 λr h _ _=>?_;refine S4 1 J<|l6<|S3 3 J<|r7 J (λhg=>mI J)<|r7 J (λhg=>H4 (ct hg) J J)<|y0 J (J2 J J J (λq=>mn q))<|S1 1 J<|r7 J (λhg=>mI J)<|r7 J (λhg=>H4 (ct hg) J J)<|y0 J (J2 J J J (λq=>mn q))<|S1 1 J<|r7 J (λhg=>mI J)<|r7 J (λhg=>H4 (ct hg) J J)<|y0 J (J2 J J J (λq=>mn q))<|yN ?_;refine cN h (λhc h=>?_) λhc h=>?_
 .refine sR ?_;refine y0 J (x6 (cs:=[.nl,.I 0]) J JO JT J J J)<|nY (x':=.agg [.nl,.I 0]) (cl':=true) J J (.inl J) cS<|yN<|b9 ?_;cases h;exact⟨J,[_],⟨oL J J J fq cS nl J,tr⟩,J,io⟩
 .refine j5 ?_;refine S3 1 J<|A2 h λv1 hv1 h=>y1 J (wF (f:=b7.Pv) hv1 J J J V8 U9 oc Gj J J J) J<|S1 1 J<|y0 J (x6 (cs:=[.sl 21,.I a1]) J JO JT J J J)<|S2 1 J<|b9 ?_;cases h;exact⟨J,[_],⟨oL J J J fq cS nl J,tr⟩,J,io⟩
theorem Cb{a0 a1}:PO prog 57 [.I a0,.I a1] (gp a0 a1) λr=>a7.Pv r:=by
 refine pO func57 λr h _ _=>?_;refine S4 1 J<|S3 2 J<|cF h mP J J λv1 _ h=>y0 J (x6 (cs:=[.L b7.Pv v1.a8,.I v1.Last,.I 0]) J JP JU J J J)<|S2 1 J<|b9 ?_;cases h;exact⟨J,[_],⟨oL J J J kJ kM nl J,tr⟩,J,io⟩
theorem Eh{a0}:PO prog 58 [.I a0] (Eg a0) λr=>.L k7.Pv r:=by
 refine pO func58 λr h _ _=>?_;refine S4 1 J<|l6<|S3 3 J<|r7 J (λhg=>mI J)<|r7 J (λhg=>H4 (ct hg) J J)<|y0 J (J2 J J J (λq=>mn q))<|yN ?_;refine cN h (λhc h=>?_) λhc h=>?_
 .refine S4 1 J ?_;refine b9 ?_;cases h;exact f1
 .refine j5 ?_;refine S3 1 J<|A2 h λv1 hv1 h=>y1 J (wF (f:=k7.Pv) hv1 J J J ah aw Aw Gi J J J) J<|S2 1 J ?_;refine jq h (λj9=>St.of [(3,.sl 12)] [(12,⟨List.map k7.Pv j9,0,true,3,true⟩)]) (λj9 h=>?_) λκ8 h=>?_
  .refine S4 2 J ?_;refine b9 ?_;cases h;exact f1
  .refine S3 1 J ?_;refine y0 J (yR (f:=k7.Pv) J J J ah)<|S2 1 J<|n0<|lq h (λq=>St.of [(3,.sl 12),(14,.I (v1.length:Int)),(15,.I q.1)] [(12,⟨List.map k7.Pv q.2,0,true,3,true⟩)]) W λq14 x13 h hx9=>?_;obtain⟨s11,s12⟩:=q14;refine S4 1 J<|l6 ?_;refine cN h (λhc h=>?_) λhc h=>?_
   .refine j5 ?_;refine l6<|n0<|S4 2 J<|S5 2 J<|A2 h λv15 hv10 h=>y0 J (gM (f:=k7.Pv) hv10 J J J J ah aw J)<|S1 1 J<|pS (f:=k7.Pv) (v:=(⟨v15.Target,v15.Intact,(-1)⟩:k7)) hv10 J J (.inl J) u6<|yN<|S6 2 J ?_;exact eL h W
   .refine y3 ?_;refine l5<|l5<|r8 ?_;have h:=xL hx9 h;exact eJ h W
theorem CR{a0}:PO prog 59 [.I a0] (re a0) λr=>.L b8.Pv r:=by
 refine pO func59 λr h _ _=>?_;refine S4 1 J<|l6<|S3 3 J<|r7 J (λhg=>mI J)<|r7 J (λhg=>H4 (ct hg) J J)<|y0 J (J2 J J J (λq=>mn q))<|yN ?_;refine cN h (λhc h=>?_) λhc h=>?_
 .refine S4 1 J ?_;refine b9 ?_;cases h;exact f1
 .refine j5 ?_;refine S3 1 J<|A2 h λv1 hv1 h=>y1 J (wF (f:=b8.Pv) hv1 J J J bO bJ uM Gk J J J) J<|S2 1 J<|b9 ?_;cases h;exact f1
theorem lI{a0}:PO prog 96 [.I a0] (br a0) λr=>k8.Pv r:=by
 refine pO func96 λr h _ _=>?_;unfold br at h;refine S4 1 J<|S3 1 J<|y0 J (x6 (cs:=[.nl,.I a0]) J Sx SC J J J)<|nY (x':=.agg [.nl,.I a0]) (cl':=true) J J (.inl J) cT<|yN<|b9 ?_;cases h;exact⟨J,[_],⟨oL J J J jd cT nl J,tr⟩,J,io⟩
theorem DX:PO prog 60 [] (DW) λr=>k8.Pv r:=by
 refine pO func60 λr h _ _=>?_;refine S4 1 J<|sR<|cF h lI J J λv1 _ h=>S2 1 J<|b9 ?_;cases h;exact⟨J,[_],⟨oL J J J jd cT nl J,tr⟩,J,io⟩
theorem CT{a0 a1 a2}:PO prog 31 [.I a0,.I a1,.I a2] (jI a0 a1 a2) λr=>b6.Pv r:=by
 refine pO func31 λr h _ _=>?_;refine S4 1 J<|l6<|S3 3 J<|r7 J (λhg=>mI J)<|r7 J (λhg=>H4 (ct hg) J J)<|y0 J (J2 J J J (λq=>mn q))<|S1 1 J<|r7 J (λhg=>mI J)<|r7 J (λhg=>H4 (ct hg) J J)<|y0 J (J2 J J J (λq=>mn q))<|S1 1 J<|r7 J (λhg=>mI J)<|r7 J (λhg=>H4 (ct hg) J J)<|y0 J (J2 J J J (λq=>mn q))<|S1 1 J<|r7 J (λhg=>mI J)<|r7 J (λhg=>H4 (ct hg) J J)<|y0 J (J2 J J J (λq=>mn q))<|S1 1 J<|r7 J (λhg=>mI J)<|r7 J (λhg=>H4 (ct hg) J J)<|y0 J (J2 J J J (λq=>mn q))<|yN ?_;refine cN h (λhc h=>?_) λhc h=>?_
 .refine sR ?_;refine y0 J (x6 (cs:=[.nl,.I 0,.I 0,.nl,.nl,.nl,.nl,.I 0]) J JQ JV J J J)<|nY (x':=.agg [.nl,.I 0,.I 0,.nl,.nl,.nl,.nl,.I 0]) (cl':=true) J J (.inl J) u0<|yN<|b9 ?_;cases h;exact⟨J,[_],⟨oL J J J w8 u0 nl J,tr⟩,J,io⟩
 .refine j5 ?_;refine dr [] y7 (by kernel_rfl) (by kernel_rfl)<|S7 2 J<|A2 h λv1 hv1 h=>mK J (C0 J Cb J hv1) J<|A2 h λv2 hv2 h=>d1 J (wF (f:=iF) hv2 J J J o8 u6 F7 X6 J J J) J J J<|A2 h λv3 hv3 h=>mK J (C0 J Eh J hv3) J<|S7 1 J<|A2 h λv4 hv4 h=>mK J (C0 J CR J hv4) J<|A2 h λv5 hv5 h=>mK J (C0 J DX J hv5) J<|d7 J (λ_ hN=>x6 (cs:=[.L b7.Pv v1.S.a8,.I v1.S.Last,.I v1.Serial,.sl 33,.L k7.Pv v3,.L b8.Pv v4,.L o0.Pv v5.L,.I v5.Cap]) J JQ JV J J J) J<|E2 (x':=.agg [.L b7.Pv v1.S.a8,.I v1.S.Last,.I v1.Serial,.sl 33,.L k7.Pv v3,.L b8.Pv v4,.L o0.Pv v5.L,.I v5.Cap]) (cl':=false) J J (.inr J) u0<|bA<|b9 ?_;cases h;exact⟨J,[_],⟨oL J J J w8 u0 nl J,tr⟩,J,io⟩
theorem xQ{a0 a1 a2 a3}:PO prog 17 [.I a0,.I a1,.I a2,.L (Ls c9.Pv) a3] (Y0 a0 a1 a2 a3) λr=>.tup [w9.Pv r.1,.I r.2]:=by
 refine pO func17 λr h _ _=>?_;refine S4 2 J<|l6<|S3 1 J<|cA h pv J J λv1 _ h=>S2 1 J ?_;refine cN h (λhc h=>?_) λhc h=>?_
 .refine sR ?_;refine y0 J (x6 (cs:=[.nl,.I 0,.I 0,.nl,.nl,.nl,.nl,.I 0,.nl]) J Es Eu J J J)<|nY (x':=.agg [.nl,.I 0,.I 0,.nl,.nl,.nl,.nl,.I 0,.nl]) (cl':=true) J J (.inl J) bP<|S2 1 J<|b9 ?_;cases h;exact⟨J,[_,_],⟨oL J J J mS bP nl J,⟨J,tr⟩⟩,J,io⟩
 .refine j5 ?_;refine S3 3 J<|cF h CT J J λv2 _ h=>S2 2 J<|l6<|S3 2 J<|nL J o8<|S2 1 J ?_;refine cN h (λhc h=>?_) λhc h=>?_
  .refine sR ?_;refine y0 J (x6 (cs:=[.nl,.I 0,.I 0,.nl,.nl,.nl,.nl,.I 0,.nl]) J Es Eu J J J)<|nY (x':=.agg [.nl,.I 0,.I 0,.nl,.nl,.nl,.nl,.I 0,.nl]) (cl':=true) J J (.inl J) bP<|S2 1 J<|b9 ?_;cases h;exact⟨J,[_,_],⟨oL J J J mS bP nl J,⟨J,tr⟩⟩,J,io⟩
  .refine j5 ?_;refine S3 2 J<|y0 J (x6 (cs:=[.L b7.Pv v2.S.S.a8,.I v2.S.S.Last,.I v2.S.Serial,.L iF v2.Roots,.L k7.Pv v2.a8,.L b8.Pv v2.T,.L o0.Pv v2.Q.L,.I v2.Q.Cap,.L (Ls c9.Pv) a3]) J Es Eu J J J)<|S2 2 J<|b9 ?_;cases h;exact⟨J,[_,_],⟨oL J J J mS bP nl J,⟨J,tr⟩⟩,J,io⟩
theorem jB{a0 a1}:PO prog 78 [c4.Pv a0,.L iF a1] (M4 a0 a1) λr=>.tup [c4.Pv r.1,.str r.2]:=by
 refine pO func78 λr h _ _=>?_;unfold M4 at h;refine S4 3 J<|dr [] y7 (by kernel_rfl) (by kernel_rfl)<|S7 1 J<|A2 h λv1 hv1 h=>d0 J (F5 (f:=iF) (cs:=[.I v1]) hv1 J J o8 u6 J J) J<|S7 2 J<|A2 h λv2 hv2 h=>d0 J (F5 (f:=iF) (cs:=[.I v2]) hv2 J J o8 u6 J J) J<|S7 2 J<|A2 h λv3 hv3 h=>d0 J (F5 (f:=iF) (cs:=[.I v3]) hv3 J J o8 u6 J J) J<|S7 3 J<|A2 h λv4 hv4 h=>mK J (C0 J xQ J hv4) J<|S7 4 J<|E2 (x':=w9.Pv v4.1) (cl':=true) J J (.inr J) bP<|S8 1 J<|l6<|S4 2 J ?_;refine cN h (λhc h=>?_) λhc h=>?_
 .refine dr [] y7 (by kernel_rfl) (by kernel_rfl) ?_;refine S7 2 J<|A2 h λv5 hv5 h=>d2 J (T4 J N6 J hv5) J<|E2 (x':=c4.Pv a0) (cl':=true) J J (.inr J) Q0<|S8 1 J<|b9 ?_;cases h;exact⟨J,[_,_],⟨oL J J J cP Q0 nl J,⟨J,tr⟩⟩,J,io⟩
 .refine j5 ?_;refine S4 5 J<|S4 3 J<|b9 ?_;cases h;exact⟨J,[_,_],⟨oL J J J cP Q0 nl J,⟨J,tr⟩⟩,J,io⟩
theorem ni{a0 a1}:PO prog 125 [.I a0,.I a1] (cq a0 a1) λr=>.I r:=by
 refine pO func125 λr h _ _=>?_;refine S4 1 J<|l6<|S3 3 J<|r7 J (λhg=>mI J)<|r7 J (λhg=>H4 (ct hg) J J)<|y0 J (J2 J J J (λq=>mn q))<|S1 1 J<|r7 J (λhg=>mI J)<|r7 J (λhg=>H4 (ct hg) J J)<|y0 J (J2 J J J (λq=>mn q))<|S1 1 J<|r7 J (λhg=>mI J)<|r7 J (λhg=>H4 (ct hg) J J)<|y0 J (J2 J J J (λq=>mn q))<|yN ?_;refine cN h (λhc h=>?_) λhc h=>?_
 .refine S4 1 J ?_;refine b9 ?_;cases h;exact f1
 .refine j5 ?_;refine S4 7 J<|b9 ?_;cases h;exact f1
theorem jA{a0}:PO prog 202 [.I a0] (cmp_isNaN_int a0) λr=>.bool r:=by
 refine pO func202 λr h _ _=>?_;unfold cmp_isNaN_int at h;refine S4 1 J<|S4 4 J<|b9 ?_;cases h;exact f1
theorem pX{a0 a1}:PO prog 128 [.I a0,.I a1] (bK a0 a1) λr=>.I r:=by
 refine pO func128 λr h _ _=>?_;refine S4 1 J<|S3 1 J<|cA h jA J J λv1 _ h=>S2 1 J<|S3 1 J<|cA h jA J J λv2 _ h=>S2 1 J<|l6<|S4 1 J ?_;refine cN h (λhc h=>?_) λhc h=>?_
 .refine l6 ?_;refine S4 1 J ?_;refine cN h (λhc h=>?_) λhc h=>?_
  .refine S4 1 J ?_;refine b9 ?_;cases h;exact f1
  .refine j5 ?_;refine S4 1 J<|b9 ?_;cases h;exact f1
 .refine j5 ?_;refine l6<|S4 1 J ?_;refine cN h (λhc h=>?_) λhc h=>?_
  .refine S4 1 J ?_;refine b9 ?_;cases h;exact f1
  .refine j5 ?_;refine l6<|S4 3 J ?_;refine cN h (λhc h=>?_) λhc h=>?_
   .refine S4 1 J ?_;refine b9 ?_;cases h;exact f1
   .refine j5 ?_;refine l6<|S4 3 J ?_;refine cN h (λhc h=>?_) λhc h=>?_
    .refine S4 1 J ?_;refine b9 ?_;cases h;exact f1
    .refine j5 ?_;refine S4 1 J<|b9 ?_;cases h;exact f1
theorem uG{a0 a1 a2}:PO prog 127 [.I a0,.I a1,.rptr [.abs (V6 (List.map (fP iF iF) a2))]] (dC a0 a1 a2) λr=>.I r:=by
 refine pO func127 λr h _ _=>?_;refine S4 1 J<|S3 2 J<|y0 J (Dm (es:=a2) (k:=a0) (E:=iF) (EK:=iF) (d:=.I ((z6 a2 a0).getD (0:Int))) J J vy (A9 M3) F7 J (TH _ _ _))<|S1 2 J<|y0 J (Dm (es:=a2) (k:=a1) (E:=iF) (EK:=iF) (d:=.I ((z6 a2 a1).getD (0:Int))) J J vy (A9 M3) F7 J (TH _ _ _))<|cA h pX J J λv1 _ h=>S2 1 J<|b9 ?_;cases h;exact f1
theorem M2{a0}:PO prog 68 [a7.Pv a0] (E1 a0) λr=>.L iF r:=by
 refine pO func68 λr h _ _=>?_;refine S4 2 J<|S4 1 J<|sR<|Al (KT:=Int) (VT:=Int) (EK:=iF) (E:=iF) 5000008 J J<|S2 2 J ?_;refine jq h (λq=>St.of [(3,.sl 910003),(4,.ptr 4 0 0)] [(4,vS (.mp 5000008) 1),(5000008,⟨[.mapc (List.map (fP iF iF) q.1)],0,false,0,false⟩),(910003,⟨List.map iF q.2,0,true,1,true⟩)]) (λq20 h=>?_) λκ17 h=>?_
 .obtain⟨j18,j19⟩:=q20;refine S3 2 J<|N3 (Wk.trans (Rc 5000008 nl J) (Vh 4 0 5000008 J J J J))<|A2 h λv21 hv12 h=>Vm hv12 (DT (λh=>(z6 j18 h).getD 0) (λx y=>by unfold dC bK cmp_isNaN_int;simp only[Ys,zaw,zm,zZ];exact XB _ _)) J J NX UP J J J NY J J J J J (λp q r h=>uG.2 r h)<|yN<|S4 2 J<|b9 ?_;cases h;exact f1
 .refine S3 3 J ?_;refine nL J V8<|S2 1 J<|n0<|lq h (λq=>St.of [(3,.sl 910003),(4,.ptr 4 0 0),(11,.L b7.Pv a0.S.a8),(12,.I (a0.S.a8.length:Int)),(13,.I q.1)] [(4,vS (.mp 5000008) 1),(5000008,⟨[.mapc (List.map (fP iF iF) q.2.1)],0,false,0,false⟩),(910003,⟨List.map iF q.2.2,0,true,1,true⟩)]) (Wk.trans (Y8 (t:=3) (l:=920003) (z:=1) J J) (WP (λl=>if l=910003 then 920003 else l))) λq27 x26 h hx15=>?_;obtain⟨s23,s24,s25⟩:=q27;refine S4 1 J<|l6 ?_;refine cN h (λhc h=>?_) λhc h=>?_
  .refine j5 ?_;refine jq h (λq=>St.of [(3,.sl 33),(4,.ptr 4 0 0),(11,.L b7.Pv a0.S.a8),(12,.I (a0.S.a8.length:Int)),(13,.I s23)] [(4,vS (.mp 5000008) 1),(5000008,⟨[.mapc (List.map (fP iF iF) q.1)],0,false,0,false⟩),(33,⟨List.map iF q.2,0,true,1,true⟩)]) (λq34 h=>?_) λκ31 h=>?_
   .obtain⟨j32,j33⟩:=q34;refine S6 2 J ?_;exact eL h (WP (λl=>if l=910003 then 33 else l))
   .refine n0 ?_;refine S3 1 J<|iL h J J V8 U9 λv35 _ h=>S2 4 J<|S4 3 J ?_;refine cN h (λhc h=>?_) λhc h=>?_
    .refine S3 3 J ?_;refine cA h ni J J λv36 _ h=>S2 1 J<|S3 5 J<|G0 (es:=s24) (k:=v36) (v:=v35.Val.Serial) (E:=iF) (EK:=iF) (.inl J) J J J J J J vy (A9 M3)<|yN<|S5 2 J<|y0 J (aN (f:=iF) (l:=[v36]) J o8 u6 F7 J J nl J J)<|A2 h λv37 hv22 h=>Sb (f:=iF) (b:=8) [(4,.ptr 4 0 0),(11,.L b7.Pv a0.S.a8),(12,.I (a0.S.a8.length:Int)),(13,.I s23),(14,.bool (decide (s23<(a0.S.a8.length:Int)))),(15,.I s23),(16,.rptr (b7.Pc v35)),(17,b7.Pv v35),(6,.ptr 6 0 0),(5,.I s23),(18,.ptr 6 0 0),(19,.I v35.State),(20,.bool (v35.State==1)),(21,.I s23),(22,.ptr 6 0 1),(23,.I v35.Gen),(24,.I v36),(7,.I v36),(25,.mp 5000008),(26,.I v36),(27,.ptr 6 0 2),(28,.ptr 6 0 2),(29,.I v35.Val.Serial),(31,.I v36),(32,.G7 true (List.map iF [v36]))] [(6,vR (b7.Pv v35) 8),(5000008,⟨[.mapc (List.map (fP iF iF) (o5 s24 v36 v35.Val.Serial))],0,false,0,false⟩),(4,vS (.mp 5000008) 1)] J hv22 ⟨J,J,J,J,J,J,J,J,J,J,J,J,J,J,J,J,J,J,J,J,J,J,J,J,J,J,J,J,J,J,J,J,J,J,J,J,J,J,J,J,J,J,J,J,J,J,J,J,J,J,J,J,J,J,J,J,J,J,J,J,J,J,J,J,J,J,J,J,J,J,J,J,J,J,J,tr⟩ ⟨rS,ef J J J (λq=>nomatch q) J J J J,ef J J J (λq=>nomatch q) J J J J,tr⟩ J J J J (.inl ⟨_,J,J⟩) o8 u6 X6 F7 J (λ_=>J)<|S2 1 J ?_;exact eJ h W
    .refine j5 ?_;exact eJ h (WP (λl=>if l=33 then 910003 else l))
  .refine y3 ?_;refine l5<|l5<|r8 ?_;have h:=xL hx15 h;exact eJ h W
theorem mr{a0}:PO prog 336 [.I a0] (db a0) λr=>.tup [.I r.1,.I r.2.1,.bool r.2.2]:=by
 refine pO func336 λr h _ _=>?_;refine S4 3 J<|l6<|S4 2 J ?_;refine cN h (λhc h=>?_) λhc h=>?_
 .refine S4 3 J ?_;refine b9 ?_;cases h;exact f3
 .refine j5 ?_;refine S3 2 J<|A2 h λv1 hv1 h=>y0 J (wD J J hv1)<|A2 h λv2 hv2 h=>y0 J (wD J J hv2)<|S1 2 J<|A2 h λv3 hv3 h=>y0 J (wD J J hv3)<|S2 2 J<|l6<|S3 3 J<|r7 J (λhg=>mI J)<|r7 J (λhg=>H4 (ct hg) J J)<|y0 J (J2 J J J (λq=>mn q))<|yN ?_;refine cN h (λhc h=>?_) λhc h=>?_
  .refine S4 3 J ?_;refine b9 ?_;cases h;exact f3
  .refine j5 ?_;refine S4 5 J<|b9 ?_;cases h;exact f3
theorem nj{a0}:PO prog 279 [.I a0] (eW a0) λr=>.I r:=by
 refine pO func279 λr h _ _=>?_;refine S4 1 J<|S3 1 J<|cA h mr J J λv1 _ h=>S2 7 J<|S4 2 J<|b9 ?_;cases h;exact f1
theorem pE{a0}:PO prog 280 [.I a0] (gD a0) λr=>.I r:=by
 refine pO func280 λr h _ _=>?_;refine S4 1 J<|S3 1 J<|cA h mr J J λv1 _ h=>S2 7 J<|S4 2 J<|b9 ?_;cases h;exact f1
theorem I6{a0 a1}:PO prog 267 [c5.Pv a0,.I a1] (u9 a0 a1) λr=>.tup [.I r.1,.I r.2]:=by
 refine pO func267 λr h _ _=>?_;refine S4 3 J<|l6<|S4 2 J ?_;refine cN h (λhc h=>?_) λhc h=>?_
 .refine S4 2 J ?_;refine b9 ?_;cases h;exact f2
 .refine j5 ?_;refine S3 1 J<|cA h nj J J λv1 _ h=>S2 1 J<|l6<|S3 3 J<|r7 J (λhg=>mI J)<|r7 J (λhg=>oF J JK J)<|r7 J (λhg=>oS (ct hg) J J Sf J)<|r7 J (λhg=>mA (f:=b7.Pv) (ct hg) V8)<|r7 J (λhg=>H4 (ct hg) (ct hg) J)<|y0 J (J2 J J J (λq=>mn q))<|yN ?_;refine cN h (λhc h=>?_) λhc h=>?_
  .refine S4 2 J ?_;refine b9 ?_;cases h;exact f2
  .refine j5 ?_;refine S3 3 J<|iL h J J V8 U9 λv2 _ h=>S2 3 J<|l6<|dr [] y7 (by kernel_rfl) (by kernel_rfl)<|S7 3 J<|A2 h λv3 hv3 h=>d2 J (T4 J pE J hv3) J<|S7 2 J<|qM J (λhg _ hN=>oF J ym J) J ?_;refine yw J (λhg=>oS (ct hg) J J V7 J) J<|qM J (λhg _ hN=>H4 (ct hg) J J) J<|qM J (λhg _ hN=>om (d:=.bool (v2.State != 1)) (ct hg)) J<|qM (Ns J J J) (λhg _ hN=>oF J ym J) J ?_;refine yw (Ns J J J) (λhg=>oS (ct hg) J J V7 J) J<|qM (Ns J J J) (λhg _ hN=>H4 (ct hg) J J) J<|qM J (λhg _ hN=>E7 (ct hg) J J (λq=>Xr hg (mL q))) J<|d7 J (λ_ hN=>J2 J J J (λq=>mn q)) J<|bA ?_;refine cN h (λhc h=>?_) λhc h=>?_
   .refine S4 2 J ?_;refine b9 ?_;cases h;exact f2
   .refine j5 ?_;refine S4 3 J<|b9 ?_;cases h;exact f2
theorem dM{a0 a1}:PO prog 185 [c5.Pv a0,.I a1] (C5 a0 a1) λr=>.tup [p7.Pv r.1,.I r.2]:=by
 refine pO func185 λr h _ _=>?_;refine S4 3 J<|S4 1 J<|S3 2 J<|cA h I6 J J λv1 _ h=>S2 5 J<|l6<|S4 2 J ?_;refine cN h (λhc h=>?_) λhc h=>?_
 .refine S3 2 J ?_;refine nY (x':=.agg [.I 0,.I 0,.I 0,.I 0,.bool false,.nl]) (cl':=true) J J (.inl J) iA<|S2 1 J<|b9 ?_;cases h;exact⟨J,[_,_],⟨oL J J J qB iA nl J,⟨J,tr⟩⟩,J,io⟩
 .refine j5 ?_;refine l6<|S3 3 J<|iL h J J V8 U9 λv2 hv2 h=>S2 3 J ?_;refine cN h (λhc h=>?_) λhc h=>?_
  .refine S3 1 J ?_;refine nY (x':=.agg [.I 0,.I 0,.I 0,.I 0,.bool false,.nl]) (cl':=true) J J (.inl J) iA<|S2 1 J<|b9 ?_;cases h;exact⟨J,[_,_],⟨oL J J J qB iA nl J,⟨J,tr⟩⟩,J,io⟩
  .refine j5 ?_;refine S3 3 J<|y0 J (F5 (f:=b7.Pv) (cs:=b7.Pc v2) hv2 J J V8 U9 J J)<|S2 4 J<|b9 ?_;cases h;exact⟨J,[_,_],⟨oL J J J qB iA nl J,⟨J,tr⟩⟩,J,io⟩
theorem B9{a0 a1}:PO prog 108 [a7.Pv a0,.I a1] (y4 a0 a1) λr=>.tup [p7.Pv r.1,.I r.2]:=by
 refine pO func108 λr h _ _=>?_;refine S4 3 J<|S3 3 J<|cF h dM J J λv1 _ h=>S2 4 J<|b9 ?_;cases h;exact⟨J,[_,_],⟨oL J J J qB iA nl J,⟨J,tr⟩⟩,J,io⟩
theorem iO{a0 a1}:PO prog 186 [b6.Pv a0,.I a1] (aL a0 a1) λr=>.I r:=by
 refine pO func186 λr h _ _=>?_;refine S4 2 J<|S3 3 J<|cF h B9 J J λv1 _ h=>S2 6 J<|S4 3 J<|b9 ?_;cases h;exact f1
theorem uy{a0}:PO prog 141 [w9.Pv a0] (fN a0) λr=>.L iF r:=by
 refine pO func141 λr h _ _=>?_;refine S4 2 J<|S4 1 J ?_;refine jq h (λj11=>St.of [(3,.sl 910003)] [(910003,⟨List.map iF j11,0,true,1,true⟩)]) (λj11 h=>?_) λκ10 h=>?_
 .refine S3 1 J ?_;obtain⟨v12,hv9,h⟩:=C4 h;refine Re hv9 J J Oc QJ J J<|yN<|S4 2 J<|b9 ?_;cases h;exact f1
 .refine S3 3 J ?_;refine cF h M2 J J λv13 _ h=>nL J o8<|S2 1 J<|n0<|lq h (λq=>St.of [(1,.ptr 1 0 0),(3,.sl 910003),(9,.L iF v13),(10,.I (v13.length:Int)),(11,.I q.1)] [(1,vR (w9.Pv a0) 9),(910003,⟨List.map iF q.2,0,true,1,true⟩)]) (Wk.trans (Y8 (t:=3) (l:=920003) (z:=1) J J) (WP (λl=>if l=910003 then 920003 else l))) λq18 x17 h hx13=>?_;obtain⟨s15,s16⟩:=q18;refine S4 1 J<|l6 ?_;refine cN h (λhc h=>?_) λhc h=>?_
  .refine j5 ?_;refine l6<|n0<|sR<|iL h J J o8 u6 λv19 _ h=>S2 2 J<|S5 4 J<|cA h iO J J λv20 _ h=>y0 J (aN (f:=iF) (l:=[v20]) J o8 u6 F7 J J nl J J)<|A2 h λv21 hv16 h=>Sb (f:=iF) (b:=8) [(1,.ptr 1 0 0),(9,.L iF v13),(10,.I (v13.length:Int)),(11,.I s15),(12,.bool (decide (s15<(v13.length:Int)))),(13,.rptr [.I v19]),(14,.I v19),(5,.I v19),(16,.ptr 1 0 0),(17,b6.Pv a0.X),(18,.I v19),(19,.I v20),(20,.G7 true (List.map iF [v20]))] [(1,vR (w9.Pv a0) 9)] J hv16 ⟨J,J,J,J,J,J,J,J,J,J,J,J,J,J,J,J,J,J,J,J,J,J,J,J,J,J,J,J,J,J,J,J,J,J,J,J,J,J,J,tr⟩ ⟨rS,tr⟩ J J J J (.inl ⟨_,J,J⟩) o8 u6 X6 F7 J (λ_=>J)<|S2 1 J<|S6 2 J ?_;exact eL h (WP (λl=>if l=910003 then 21 else l))
  .refine y3 ?_;refine l5<|l5<|r8 ?_;have h:=xL hx13 h;exact eJ h W
theorem cX{a0 a1}:PO prog 140 [.str a0,.L iF a1] (W1 a0 a1) λr=>.str r:=by
 refine pO func140 λr h _ _=>?_;refine S4 1 J ?_;refine jq h (λj11=>St.of [(0,.str j11)] []) (λj11 h=>?_) λκ10 h=>?_
 .refine S4 2 J ?_;refine b9 ?_;cases h;exact f1
 .refine S3 1 J ?_;refine nL J o8<|S2 1 J<|n0<|lq h (λq=>St.of [(0,.str q.1),(7,.L iF a1),(8,.I (a1.length:Int)),(9,.I q.2)] []) W λq16 x15 h hx11=>?_;obtain⟨s13,s14⟩:=q16;refine S4 1 J<|l6 ?_;refine cN h (λhc h=>?_) λhc h=>?_
  .refine j5 ?_;refine l6<|n0<|sR<|iL h J J o8 u6 λv17 _ h=>S2 2 J<|S5 2 J<|A2 h λv18 hv13 h=>y0 J (th J Ep J (Lr hv13))<|A2 h λv19 hv14 h=>y0 J (jt hv14 J J H7)<|A2 h λv20 hv15 h=>y0 J (jt hv15 J J H7)<|S2 1 J<|S6 2 J ?_;exact eL h W
  .refine y3 ?_;refine l5<|l5<|r8 ?_;have h:=xL hx11 h;exact eJ h W
theorem jh{a0 a1}:PO prog 80 [c4.Pv a0,.L iF a1] (K0 a0 a1) λr=>.tup [c4.Pv r.1,.str r.2]:=by
 refine pO func80 λr h _ _=>?_;unfold K0 at h;refine S4 3 J<|dr [] y7 (by kernel_rfl) (by kernel_rfl)<|S7 3 J<|A2 h λv1 hv1 h=>mK J (C0 J uy J hv1) J<|A2 h λv2 hv2 h=>d2 J (T4 J cX J hv2) J<|E2 (x':=c4.Pv a0) (cl':=true) J J (.inr J) Q0<|S8 1 J<|b9 ?_;cases h;exact⟨J,[_,_],⟨oL J J J cP Q0 nl J,⟨J,tr⟩⟩,J,io⟩
theorem O1{a0 a1}:PO prog 111 [b6.Pv a0,.I a1] (L9 a0 a1) λr=>.I r:=by
 refine pO func111 λr h _ _=>?_;refine S4 2 J<|l6<|S3 3 J<|r7 J (λhg=>mI J)<|r7 J (λhg=>oF J CA J)<|r7 J (λhg=>oS (ct hg) J J Eo J)<|r7 J (λhg=>mA (f:=iF) (ct hg) o8)<|r7 J (λhg=>H4 (ct hg) (ct hg) J)<|y0 J (J2 J J J (λq=>mn q))<|yN ?_;refine cN h (λhc h=>?_) λhc h=>?_
 .refine S4 1 J ?_;refine b9 ?_;cases h;exact f1
 .refine j5 ?_;refine S3 3 J<|iL h J J o8 u6 λv1 _ h=>S2 2 J<|b9 ?_;cases h;exact f1
theorem eG{a0 a1}:PO prog 110 [b6.Pv a0,.I a1] (aK a0 a1) λr=>.I r:=by
 refine pO func110 λr h _ _=>?_;unfold aK at h;refine S4 2 J<|dr [] y7 (by kernel_rfl) (by kernel_rfl)<|S7 3 J<|A2 h λv1 hv1 h=>d2 J (T4 J O1 J hv1) J<|A2 h λv2 hv2 h=>d2 J (T4 J iO J hv2) J<|S8 1 J<|b9 ?_;cases h;exact f1
theorem ji{a0 a1}:PO prog 81 [c4.Pv a0,.L iF a1] (K1 a0 a1) λr=>.tup [c4.Pv r.1,.str r.2]:=by
 refine pO func81 λr h _ _=>?_;unfold K1 at h;refine S4 3 J<|sR<|A2 h λv1 hv1 h=>y1 J (wF (f:=iF) hv1 J J J o8 u6 F7 X6 J J J) J<|S2 1 J ?_;refine jq h (λj10=>St.of [(2,.ptr 2 0 0),(4,.ptr 4 0 0),(6,.sl 8)] [(8,⟨List.map iF j10,0,true,1,true⟩),(4,vR (.agg [.nl,.I 0,.I 0,.nl,.nl,.nl,.nl,.I 0,.nl,.bool false,.nl]) 11),(2,vR (c4.Pv a0) 11)]) (λj10 h=>?_) λκ9 h=>?_
 .refine dr [] y7 (by kernel_rfl) (by kernel_rfl) ?_;refine S7 2 J<|A2 h λv11 hv8 h=>d2 J (T4 J cX J hv8) J<|E2 (x':=c4.Pv a0) (cl':=true) J J (.inr J) Q0<|S8 1 J<|b9 ?_;cases h;exact⟨J,[_,_],⟨oL J J J cP Q0 nl J,⟨J,tr⟩⟩,J,io⟩
 .refine S3 1 J ?_;refine y0 J (yR (f:=iF) J J J o8)<|S2 1 J<|n0<|lq h (λq=>St.of [(2,.ptr 2 0 0),(4,.ptr 4 0 0),(6,.sl 8),(10,.I (v1.length:Int)),(11,.I q.1)] [(8,⟨List.map iF q.2,0,true,1,true⟩),(4,vR (.agg [.nl,.I 0,.I 0,.nl,.nl,.nl,.nl,.I 0,.nl,.bool false,.nl]) 11),(2,vR (c4.Pv a0) 11)]) W λq16 x15 h hx11=>?_;obtain⟨s13,s14⟩:=q16;refine S4 1 J<|l6 ?_;refine cN h (λhc h=>?_) λhc h=>?_
  .refine j5 ?_;refine l6<|n0<|S4 2 J<|S5 6 J<|cA h eG J J λv17 _ h=>A2 h λv18 hv13 h=>y0 J (gM (f:=iF) hv13 J J J J o8 u6 J)<|pS (f:=iF) (v:=v17) hv13 J J (.inl J) u6<|yN<|S6 2 J ?_;exact eL h W
  .refine y3 ?_;refine l5<|l5<|r8 ?_;have h:=xL hx11 h;exact eJ h W
theorem ki{a0}:PO prog 71 [c5.Pv a0] (T8 a0) λr=>A4.Pv r:=by
 refine pO func71 λr h _ _=>?_;refine S4 2 J<|S4 1 J ?_;refine jq h (λj9=>St.of [(2,.ptr 2 0 0),(3,.ptr 3 0 0)] [(3,vR (A4.Pv j9) 4),(2,vR (.agg [.I 0,.I 0,.I 0,.I 0]) 4)]) (λj9 h=>?_) λκ8 h=>?_
 .refine S4 2 J ?_;refine b9 ?_;cases h;exact⟨J,[_],⟨oL J J J Gf Gx nl J,tr⟩,J,io⟩
 .refine S3 2 J ?_;refine nL J V8<|S2 1 J<|n0<|lq h (λq=>St.of [(2,.ptr 2 0 0),(3,.ptr 3 0 0),(7,.L b7.Pv a0.a8),(8,.I (a0.a8.length:Int)),(9,.I q.1)] [(3,vR (A4.Pv q.2) 4),(2,vR (.agg [.I 0,.I 0,.I 0,.I 0]) 4)]) W λq14 x13 h hx9=>?_;obtain⟨s11,s12⟩:=q14;refine S4 1 J<|l6 ?_;refine cN h (λhc h=>?_) λhc h=>?_
  .refine j5 ?_;refine l6<|n0<|sR<|iL h J J V8 U9 λv15 _ h=>S2 3 J<|S5 2 J<|A2 h λv16 hv11 h=>y0 J (RH hv11 J J Av u6)<|y0 J (oS J J J V7 (A4.get hv11))<|S1 1 J<|y0 J (RH hv11 J J Av u6)<|Xc hv11 J J (.inl J) J u6<|yN<|S6 2 J ?_;exact eL h W
  .refine y3 ?_;refine l5<|l5<|r8 ?_;have h:=xL hx9 h;exact eJ h W
theorem uz{a0}:PO prog 40 [w9.Pv a0] (fO a0) λr=>A4.Pv r:=by
 refine pO func40 λr h _ _=>?_;refine S4 2 J<|S3 4 J<|cA h ki J J λv1 _ h=>S2 1 J<|b9 ?_;cases h;exact⟨J,[_],⟨oL J J J Gf Gx nl J,tr⟩,J,io⟩
theorem jj{a0 a1}:PO prog 82 [c4.Pv a0,.L iF a1] (R4 a0 a1) λr=>.tup [c4.Pv r.1,.str r.2]:=by
 refine pO func82 λr h _ _=>?_;refine S4 3 J<|S3 2 J<|cA h uz J J λv1 _ h=>S2 2 J<|cy (RZ 6 J)<|dr [] y7 (by kernel_rfl) (by kernel_rfl)<|S7 1 J<|d0 J (Wz (xs:=[v1.a,v1.b,v1.c,v1.d]) J J Av J u6) J<|A2 h λv2 hv2 h=>d2 J (T4 J cX J hv2) J<|E2 (x':=c4.Pv a0) (cl':=true) J J (.inr J) Q0<|S8 1 J<|b9 ?_;cases h;exact⟨J,[_,_],⟨oL J J J cP Q0 nl J,⟨J,tr⟩⟩,J,io⟩
theorem vD{a0}:PO prog 32 [.L iF a0] (X7 a0) λr=>.tup [c9.Pv r.1,.I r.2]:=by
 refine pO func32 λr h _ _=>?_;refine S4 2 J<|l6<|S3 1 J<|nL J o8<|S2 1 J ?_;refine cN h (λhc h=>?_) λhc h=>?_
 .refine sR ?_;refine y0 J (x6 (cs:=[.I 0,.I 0,.I 0,.I 0]) J Au sF J J J)<|S2 2 J<|b9 ?_;cases h;exact⟨J,[_,_],⟨oL J J J Ap kN nl J,⟨J,tr⟩⟩,J,io⟩
 .refine j5 ?_;refine dr [] y7 (by kernel_rfl) (by kernel_rfl)<|S7 1 J<|A2 h λv1 hv1 h=>d0 J (F5 (f:=iF) (cs:=[.I v1]) hv1 J J o8 u6 J J) J<|S7 2 J<|A2 h λv2 hv2 h=>d0 J (F5 (f:=iF) (cs:=[.I v2]) hv2 J J o8 u6 J J) J<|S7 2 J<|A2 h λv3 hv3 h=>d0 J (F5 (f:=iF) (cs:=[.I v3]) hv3 J J o8 u6 J J) J<|S7 2 J<|A2 h λv4 hv4 h=>d0 J (F5 (f:=iF) (cs:=[.I v4]) hv4 J J o8 u6 J J) J<|S7 1 J<|d7 J (λ_ hN=>x6 (cs:=[.I v1,.I v2,.I v3,.I v4]) J Au sF J J J) J<|S7 1 J<|E2 (x':=.agg [.I v1,.I v2,.I v3,.I v4]) (cl':=true) J J (.inl J) kN<|bA<|l6<|S3 1 J<|cA h je J J λv5 _ h=>S2 1 J<|S4 2 J ?_;refine cN h (λhc h=>?_) λhc h=>?_
  .refine sR ?_;refine y0 J (x6 (cs:=[.I 0,.I 0,.I 0,.I 0]) J Au sF J J J)<|S2 3 J<|b9 ?_;cases h;exact⟨J,[_,_],⟨oL J J J Ap kN nl J,⟨J,tr⟩⟩,J,io⟩
  .refine j5 ?_;refine S4 3 J<|b9 ?_;cases h;exact⟨J,[_,_],⟨oL J J J Ap kN nl J,⟨J,tr⟩⟩,J,io⟩
theorem uA{a0}:PO prog 33 [c9.Pv a0] (la a0) λr=>VZ pT r:=by
 refine pO func33 λr h _ _=>?_;refine S4 2 J<|l6<|S4 2 J<|n0<|S4 2 J ?_;refine cN h (λhc h=>?_) λhc h=>?_
 .refine sR ?_;refine y0 J (x6 (cs:=[]) J On Gz J J J)<|y0 J (Fp (n:=pT) (T:=103) (xs:=[]) J Gv J)<|S2 1 J<|b9 ?_;cases h;exact f1
 .refine S4 2 J ?_;refine cN h (λhc h=>?_) λhc h=>?_
  .refine S3 2 J ?_;refine y0 J (x6 (cs:=[.I a0.A]) J Oo GA J J J)<|y0 J (Fp (n:=pT) (T:=107) (xs:=[a0.A]) J Gw J)<|S2 1 J<|b9 ?_;cases h;exact f1
  .refine j5 ?_;refine S3 1 J<|y0 J (x6 (cs:=[.I a0.Kind,.I a0.A,.I a0.B,.I a0.C]) J Sy JX J J J)<|y0 J (Fp (n:=pT) (T:=99) (xs:=[a0.Kind,a0.A,a0.B,a0.C]) J JR J)<|S2 1 J<|b9 ?_;cases h;exact f1
theorem sZ:PO prog 61 [] (eH) λr=>.abs (V6 (List.map (fP iF qU) r)):=by
 refine pO func61 λr h _ _=>?_;unfold eH at h;refine S4 1 J<|sR<|Al (KT:=Int) (VT:=Fv) (EK:=iF) (E:=qU) 5000001 J J<|jy (es:=[]) (k:=1) (v:=(some 97)) (E:=qU) (EK:=iF) (.inr J) J J J J J J aE (A9 M3)<|jy (es:=(o5 [] 1 (some 97))) (k:=2) (v:=(some 98)) (E:=qU) (EK:=iF) (.inr J) J J J J J J aE (A9 M3)<|jy (es:=(o5 (o5 [] 1 (some 97)) 2 (some 98))) (k:=3) (v:=(some 99)) (E:=qU) (EK:=iF) (.inr J) J J J J J J aE (A9 M3)<|jy (es:=(o5 (o5 (o5 [] 1 (some 97)) 2 (some 98)) 3 (some 99))) (k:=4) (v:=(some 100)) (E:=qU) (EK:=iF) (.inr J) J J J J J J aE (A9 M3)<|jy (es:=(o5 (o5 (o5 (o5 [] 1 (some 97)) 2 (some 98)) 3 (some 99)) 4 (some 100))) (k:=5) (v:=(some 101)) (E:=qU) (EK:=iF) (.inr J) J J J J J J aE (A9 M3)<|jy (es:=(o5 (o5 (o5 (o5 (o5 [] 1 (some 97)) 2 (some 98)) 3 (some 99)) 4 (some 100)) 5 (some 101))) (k:=6) (v:=(some 102)) (E:=qU) (EK:=iF) (.inr J) J J J J J J aE (A9 M3)<|jy (es:=(o5 (o5 (o5 (o5 (o5 (o5 [] 1 (some 97)) 2 (some 98)) 3 (some 99)) 4 (some 100)) 5 (some 101)) 6 (some 102))) (k:=7) (v:=(some 103)) (E:=qU) (EK:=iF) (.inr J) J J J J J J aE (A9 M3)<|jy (es:=(o5 (o5 (o5 (o5 (o5 (o5 (o5 [] 1 (some 97)) 2 (some 98)) 3 (some 99)) 4 (some 100)) 5 (some 101)) 6 (some 102)) 7 (some 103))) (k:=8) (v:=(some 104)) (E:=qU) (EK:=iF) (.inr J) J J J J J J aE (A9 M3)<|jy (es:=(o5 (o5 (o5 (o5 (o5 (o5 (o5 (o5 [] 1 (some 97)) 2 (some 98)) 3 (some 99)) 4 (some 100)) 5 (some 101)) 6 (some 102)) 7 (some 103)) 8 (some 104))) (k:=9) (v:=(some 105)) (E:=qU) (EK:=iF) (.inr J) J J J J J J aE (A9 M3)<|jy (es:=(o5 (o5 (o5 (o5 (o5 (o5 (o5 (o5 (o5 [] 1 (some 97)) 2 (some 98)) 3 (some 99)) 4 (some 100)) 5 (some 101)) 6 (some 102)) 7 (some 103)) 8 (some 104)) 9 (some 105))) (k:=10) (v:=(some 106)) (E:=qU) (EK:=iF) (.inr J) J J J J J J aE (A9 M3)<|S2 2 J<|cy (Cm 0 5000001 J J)<|b9 ?_;cases h;exact f1
theorem FY{a0}:PO prog 252 [.I a0] (su a0) λr=>.tup [.L iF r.1,.I r.2]:=by
 refine pO func252 λr h _ _=>?_;refine S4 2 J<|l6<|S3 3 J<|r7 J (λhg=>mI J)<|r7 J (λhg=>H4 (ct hg) J J)<|y0 J (J2 J J J (λq=>mn q))<|yN ?_;refine cN h (λhc h=>?_) λhc h=>?_
 .refine S4 2 J ?_;refine b9 ?_;cases h;exact f2
 .refine j5 ?_;refine S3 1 J<|A2 h λv1 hv1 h=>y1 J (wF (f:=iF) hv1 J J J o8 u6 F7 X6 J J J) J<|S2 2 J<|b9 ?_;cases h;exact f2
theorem nT{a0}:PO prog 253 [.I a0] (U1 a0) λr=>.bool r:=by
 refine pO func253 λr h _ _=>?_;unfold U1 at h;refine S4 1 J<|S3 3 J<|r7 J (λhg=>mI J)<|r7 J (λhg=>H4 (ct hg) J J)<|y0 J (E7 J J J (λq=>mL q))<|S2 1 J<|b9 ?_;cases h;exact f1
theorem lX{a0}:PO prog 325 [c5.Pv a0] (O9 a0) λr=>.fn (.func 367) [.rptr (c5.Pc r)]:=by
 refine pO func325 λr h _ _=>?_;unfold O9 at h;refine S4 2 J<|S4 2 J<|b9 ?_;cases h;exact f1
theorem N2{a0}:Sd prog 331 [.L b7.Pv a0] (y8 a0) λr=>⟨List.map b7.Pv r,0,true,8,true⟩:=by
 refine WA func331 λr h _ _=>?_;unfold y8 at h;refine S4 1 J<|l6<|S3 1 J<|Cq J V8 λb hb=>yN ?_;refine F3 b J (λhc=>?_) (λhc=>?_)
 .obtain rfl:a0 = []:=by simpa using hb hc
  refine S4 1 J<|cy (Y8 (t:=2) (l:=920000) (z:=8) J J)<|b9 ?_;cases h;exact⟨J,_,_,J,J,J,J⟩
 .refine j5 ?_;refine sR<|y0 J (wG J V8 U9)<|S1 1 J<|y1 J (Dl (f:=b7.Pv) h J J (.inl ⟨_,J,J⟩) V8 U9 Gj oc J (λ_=>J)) J<|S2 1 J<|b9 ?_;exact⟨J,_,_,J,J,J,J⟩
theorem I7{a0 a1 a2}:PO prog 268 [c5.Pv a0,.I a1,b7.Pv a2] (C9 a0 a1 a2) λr=>c5.Pv r:=by
 refine pO func268 λr h _ _=>?_;unfold C9 at h;refine S4 3 J<|S3 2 J<|A2 h λv1 hv1 h=>Vv J (yQ J N2 J hv1) J J<|S2 2 J<|S3 4 J<|A2 h λv2 hv2 h=>y0 J (gM (f:=b7.Pv) hv2 J J J J V8 U9 J)<|pS (f:=b7.Pv) (v:=a2) hv2 J J (.inr J) U9<|yN<|S4 2 J<|b9 ?_;cases h;exact⟨J,[_],⟨oL J J J fq cS nl J,tr⟩,J,io⟩
theorem lW{a0 a1}:PO prog 254 [c5.Pv a0,p7.Pv a1] (E6 a0 a1) λr=>.tup [c5.Pv r.1,.I r.2.1,.I r.2.2]:=by
 refine pO func254 λr h _ _=>?_;refine S4 5 J ?_;refine jq h (λ_=>St.of [(2,.ptr 2005 0 0),(4,.ptr 2003 0 0),(5,.ptr 2002 0 0),(6,.ptr 2001 0 0)] [(2001,vR (.I 0) 1),(2002,vR (.I 0) 1),(2003,vR (.agg [.nl,.I 0]) 2),(2005,vR (c5.Pv a0) 2)]) (λq10 h=>?_) λκ9 h=>?_
 .refine S4 4 J ?_;refine b9 ?_;cases h;exact⟨J,[_,_,_],⟨oL J J J fq cS nl J,⟨oS J J J V7 J,⟨oS J J J vx J,tr⟩⟩⟩,J,io⟩
 .refine S3 1 J ?_;refine cF h lX J J λv11 _ h=>yN<|n0<|cy (vz (λl=>if l=2006 then 6 else if l=2007 then 5 else if l=2008 then 4 else if l=2009 then 3 else if l=2010 then 2 else l) [(2,.ptr 2010 0 0),(3,.ptr 2009 0 0),(4,.ptr 2008 0 0),(5,.ptr 2007 0 0),(6,.ptr 2006 0 0),(10,.fn (.func 367) [.rptr (c5.Pc v11)])] [(2006,vR (.I 0) 1),(2007,vR (.I 0) 1),(2008,vR (.agg [.nl,.I 0]) 2),(2009,vR (p7.Pv a1) 6),(2010,vR (c5.Pv a0) 2)]) ?_;refine dp (fn:=Tryz.f367) (N1:=23) J func367 J J nl J Oj J J (λl19 e20 o21 hR22=>?_);refine S3 2 J<|nL J V8<|S2 1 J<|n0<|lq h (λs13=>St.of [(1000002,.ptr 2010 0 0),(1000003,.ptr 2009 0 0),(1000004,.ptr 2008 0 0),(1000005,.ptr 2007 0 0),(1000006,.ptr 2006 0 0),(1000010,.fn (.func 367) [.rptr (c5.Pc v11)]),(0,.fn (.yield l19) []),(6,.L b7.Pv v11.a8),(7,.I (v11.a8.length:Int)),(8,.I s13)] [(2006,vR (.I 0) 1),(2007,vR (.I 0) 1),(2008,vR (.agg [.nl,.I 0]) 2),(2009,vR (p7.Pv a1) 6),(2010,vR (c5.Pv a0) 2)]) W λs13 x14 h hx25=>S4 1 J<|l6 ?_;refine cN h (λhc h=>?_) λhc h=>?_
  .refine j5 ?_;refine l6<|n0<|S3 1 J<|iL h J J V8 U9 λv15 _ h=>S2 4 J<|S3 4 J<|r7 J (λhg=>om (d:=.fn (.yield l19) []) J)<|r7 J (λhg=>mI J) ?_;rcases zas ((v15.State==0)==true) with hg27 | hg27
   .have h:=NL h hg27;refine N3 (WE [(1000002,.ptr 2010 0 0),(1000003,.ptr 2009 0 0),(1000004,.ptr 2008 0 0),(1000005,.ptr 2007 0 0),(1000006,.ptr 2006 0 0),(1000010,.fn (.func 367) [.rptr (c5.Pc v11)]),(0,.fn (.yield l19) []),(6,.L b7.Pv v11.a8),(7,.I (v11.a8.length:Int)),(8,.I s13),(16,.bool (v15.State==0)),(17,.fn (.yield l19) []),(18,.I s13)] [(2006,vR (.I 0) 1),(2007,vR (.I 0) 1),(2008,vR (.agg [.nl,.I 0]) 2),(2009,vR (p7.Pv a1) 6),(2010,vR (c5.Pv a0) 2)]) ?_;refine mj hR22 (mt some hg27) J J J J J (λe28 o29 o30=>?_);refine S6 1 J ?_;refine⟨J,?_⟩;refine n0<|S3 3 J<|iL h J J V8 U9 λv16 _ h=>S2 3 J<|S3 4 J<|y0 J (x6 (cs:=[.I 1,.I v16.Gen,.I a1.Serial,.I a1.Strong,.I a1.Weak,.I a1.Prog,.bool a1.Started,.L iF a1.Fields]) J uL oc J J J)<|cF h I7 J J λv17 _ h=>S1 2 J<|cA h ni J J λv18 _ h=>S2 3 J<|b9 ?_;refine⟨J,?_⟩;refine N3 (WE [(1000002,.ptr 2010 0 0),(1000003,.ptr 2009 0 0),(1000004,.ptr 2008 0 0),(1000005,.ptr 2007 0 0),(1000006,.ptr 2006 0 0),(1000010,.fn (.func 367) [.rptr (c5.Pc v11)]),(0,.fn (.yield l19) []),(6,.L b7.Pv v11.a8),(7,.I (v11.a8.length:Int)),(8,.I s13),(16,.bool (v15.State==0)),(19,.bool false)] [(2006,vR (.I 0) 1),(2007,vR (.I v18) 1),(2008,vR (c5.Pv v17) 2),(2009,vR (p7.Pv a1) 6),(2010,vR (c5.Pv a0) 2)])<|y0 (mt some hg27) (fH J J)<|y0 J (lE J J hg27)<|yN ?_;refine F3 true J (λ_=>?_) (λq=>nomatch q);refine b9 ?_;refine .inr ⟨.ret,J,Ps ?_⟩;have h:=xL hx25 h;cases h;exact⟨J,[_,_,_],⟨oL J J J fq cS nl J,⟨oS J J J V7 J,⟨oS J J J vx J,tr⟩⟩⟩,J,io⟩
   .have h:=NK h hg27;refine bz (mt some hg27)<|bz (mt some hg27)<|y0 J (oI J J hg27)<|yN ?_;refine F3 false J (λq=>nomatch q) (λ_=>?_);refine j5<|S6 2 J ?_;exact eL h W
  .refine y3 ?_;refine l5<|l5<|r8 ?_;refine .inl ⟨J,?_⟩;have h:=xL hx25 h;exact eJ h (WP (λl=>if l=2005 then 2010 else if l=2003 then 2008 else if l=2002 then 2007 else if l=2001 then 2006 else l))
theorem ye{a0 a1 a2}:PO prog 176 [a7.Pv a0,.I a1,.I a2] (O2 a0 a1 a2) λr=>.tup [a7.Pv r.1,.I r.2.1,.I r.2.2]:=by
 refine pO func176 λr h _ _=>?_;refine S4 4 J<|S3 1 J<|cF h FY J J λv1 _ h=>S2 5 J<|l6<|S4 2 J ?_;refine cN h (λhc h=>?_) λhc h=>?_
 .refine S4 5 J ?_;refine b9 ?_;cases h;exact⟨J,[_,_,_],⟨oL J J J kJ kM nl J,⟨J,⟨J,tr⟩⟩⟩,J,io⟩
 .refine j5 ?_;refine l6<|S3 1 J<|cA h nT J J λv2 _ h=>S2 1 J ?_;refine cN h (λhc h=>?_) λhc h=>?_
  .refine S4 4 J ?_;refine b9 ?_;cases h;exact⟨J,[_,_,_],⟨oL J J J kJ kM nl J,⟨J,⟨J,tr⟩⟩⟩,J,io⟩
  .refine j5 ?_;refine S3 7 J<|y0 J (x6 (cs:=[.I (z8 (a0.Serial+1)),.I 0,.I 0,.I a2,.bool false,.L iF v1.1]) J Ot OE J J J)<|cF h lW J J λv3 _ h=>S2 8 J<|l6<|S4 2 J ?_;refine cN h (λhc h=>?_) λhc h=>?_
   .refine S4 5 J ?_;refine b9 ?_;cases h;exact⟨J,[_,_,_],⟨oL J J J kJ kM nl J,⟨J,⟨J,tr⟩⟩⟩,J,io⟩
   .refine j5 ?_;refine S3 4 J<|y0 J (x6 (cs:=[.L b7.Pv v3.1.a8,.I v3.1.Last,.I (z8 (a0.Serial+1))]) J JP JU J J J)<|S2 4 J<|b9 ?_;cases h;exact⟨J,[_,_,_],⟨oL J J J kJ kM nl J,⟨J,⟨J,tr⟩⟩⟩,J,io⟩
theorem wc{a0 a1}:PO prog 327 [b6.Pv a0,.I a1] (iK a0 a1) λr=>.bool r:=by
 refine pO func327 λr h _ _=>?_;refine S4 2 J<|S3 3 J<|cF h B9 J J λv1 _ h=>S2 6 J<|S4 3 J<|b9 ?_;cases h;exact f1
theorem W5{a0 a1}:PO prog 256 [b6.Pv a0,.I a1] (L6 a0 a1) λr=>.bool r:=by
 refine pO func256 λr h _ _=>?_;unfold L6 at h;refine S4 2 J<|S3 3 J<|r7 J (λhg=>oL J J J w8 u0 nl J)<|r7 J (λhg=>mI J)<|A2 h λv1 hv1 h=>r7 J (λhg=>T4 J wc (cV (ct hg) (cV (ct hg) J)) (N7 hv1 hg))<|y0 J (J2 J J J (λq=>mn q))<|S2 1 J<|b9 ?_;cases h;exact f1
theorem aG{a0}:PO prog 332 [.I a0] (G1 a0) λr=>.bool r:=by
 refine pO func332 λr h _ _=>?_;unfold G1 at h;refine S4 1 J<|S4 3 J<|b9 ?_;cases h;exact f1
theorem qL{a0}:PO prog 271 [.I a0] (gx a0) λr=>.tup [.I r.1,.I r.2]:=by
 refine pO func271 λr h _ _=>?_;refine S4 2 J<|l6<|S3 1 J<|cA h aG J J λv1 _ h=>yN ?_;refine cN h (λhc h=>?_) λhc h=>?_
 .refine S4 2 J ?_;refine b9 ?_;cases h;exact f2
 .refine j5 ?_;refine S3 1 J<|y0 J (Hi J J J)<|S2 3 J<|b9 ?_;cases h;exact f2
theorem AE{a0}:PO prog 190 [.I a0] (oe a0) λr=>.I r:=by
 refine pO func190 λr h _ _=>?_;refine S4 1 J<|S3 1 J<|cA h qL J J λv1 _ h=>S2 5 J<|S4 2 J<|b9 ?_;cases h;exact f1
theorem mQ{a0 a1 a2}:PO prog 187 [c5.Pv a0,.I a1,p7.Pv a2] (K6 a0 a1 a2) λr=>.tup [c5.Pv r.1,.I r.2]:=by
 refine pO func187 λr h _ _=>?_;refine S4 4 J<|S3 2 J<|cA h I6 J J λv1 _ h=>S2 5 J<|l6<|S4 2 J ?_;refine cN h (λhc h=>?_) λhc h=>?_
 .refine S4 4 J ?_;refine b9 ?_;cases h;exact⟨J,[_,_],⟨oL J J J fq cS nl J,⟨J,tr⟩⟩,J,io⟩
 .refine j5 ?_;refine S3 3 J<|iL h J J V8 U9 λv2 _ h=>S2 3 J<|S4 3 J<|S3 3 J<|cF h I7 J J λv3 _ h=>S2 2 J<|b9 ?_;cases h;exact⟨J,[_,_],⟨oL J J J fq cS nl J,⟨J,tr⟩⟩,J,io⟩
theorem bk{a0 a1 a2}:PO prog 114 [a7.Pv a0,.I a1,p7.Pv a2] (K7 a0 a1 a2) λr=>.tup [a7.Pv r.1,.I r.2]:=by
 refine pO func114 λr h _ _=>?_;refine S4 4 J<|S4 1 J<|S3 4 J<|cF h mQ J J λv1 _ h=>S2 6 J<|S4 4 J<|b9 ?_;cases h;exact⟨J,[_,_],⟨oL J J J kJ kM nl J,⟨J,tr⟩⟩,J,io⟩
theorem gH{a0 a1}:PO prog 189 [b6.Pv a0,.I a1,.fn (.func 190) []] (W4 a0 a1) λr=>b6.Pv r:=by
 refine pO func189 λr h _ _=>?_;refine S4 2 J<|S3 3 J<|cF h B9 J J λv1 _ h=>S2 6 J<|l6<|S4 2 J ?_;refine cN h (λhc h=>?_) λhc h=>?_
 .refine S3 3 J ?_;refine cA h AE J J λv2 _ h=>S2 2 J<|S5 4 J<|cF h bk J J λv3 _ h=>S2 5 J<|S4 2 J<|b9 ?_;cases h;exact⟨J,[_],⟨oL J J J w8 u0 nl J,tr⟩,J,io⟩
 .refine j5 ?_;refine S4 2 J<|b9 ?_;cases h;exact⟨J,[_],⟨oL J J J w8 u0 nl J,tr⟩,J,io⟩
theorem dd{a0 a1}:PO prog 116 [b6.Pv a0,.I a1] (aJ a0 a1) λr=>b6.Pv r:=by
 refine pO func116 λr h _ _=>?_;refine S4 2 J<|S3 2 J<|cF h gH J J λv1 _ h=>S2 1 J<|b9 ?_;cases h;exact⟨J,[_],⟨oL J J J w8 u0 nl J,tr⟩,J,io⟩
theorem jw{a0}:Sd prog 347 [.L iF a0] (M9 a0) λr=>⟨List.map iF r,0,true,1,true⟩:=by
 refine WA func347 λr h _ _=>?_;unfold M9 at h;refine S4 1 J<|l6<|S3 1 J<|Cq J o8 λb hb=>yN ?_;refine F3 b J (λhc=>?_) (λhc=>?_)
 .obtain rfl:a0 = []:=by simpa using hb hc
  refine S4 1 J<|cy (Y8 (t:=2) (l:=920000) (z:=1) J J)<|b9 ?_;cases h;exact⟨J,_,_,J,J,J,J⟩
 .refine j5 ?_;refine sR<|y0 J (wG J o8 u6)<|S1 1 J<|y1 J (Dl (f:=iF) h J J (.inl ⟨_,J,J⟩) o8 u6 X6 F7 J (λ_=>J)) J<|S2 1 J<|b9 ?_;exact⟨J,_,_,J,J,J,J⟩
theorem mN{a0 a1}:PO prog 298 [I0.Pv a0,b6.Pv a1] (Q6 a0 a1) λr=>b6.Pv r:=by
 refine pO func298 λr h _ _=>?_;unfold Q6 at h;refine S4 3 J<|S3 2 J<|A2 h λv1 hv1 h=>Vv J (yQ J jw J hv1) J J<|S2 2 J<|S3 6 J<|A2 h λv2 hv2 h=>y0 J (gM (f:=iF) hv2 J J J J o8 u6 J)<|pS (f:=iF) (v:=a0.h) hv2 J J (.inl J) u6<|yN<|S4 2 J<|b9 ?_;cases h;exact⟨J,[_],⟨oL J J J w8 u0 nl J,tr⟩,J,io⟩
theorem pc{a0}:PO prog 281 [.I a0] (dV a0) λr=>.tup [.I r.1,.I r.2]:=by
 refine pO func281 λr h _ _=>?_;refine S4 2 J<|l6<|S3 1 J<|cA h aG J J λv1 _ h=>yN ?_;refine cN h (λhc h=>?_) λhc h=>?_
 .refine S4 2 J ?_;refine b9 ?_;cases h;exact f2
 .refine j5 ?_;refine l6<|S4 2 J ?_;refine cN h (λhc h=>?_) λhc h=>?_
  .refine S4 2 J ?_;refine b9 ?_;cases h;exact f2
  .refine j5 ?_;refine S4 4 J<|b9 ?_;cases h;exact f2
theorem AD{a0}:PO prog 197 [.I a0] (sI a0) λr=>.tup [.I r.1,.I r.2]:=by
 refine pO func197 λr h _ _=>?_;refine S4 2 J<|S3 1 J<|cA h pc J J λv1 _ h=>S2 5 J<|S4 4 J<|b9 ?_;cases h;exact f2
theorem rj{a0}:PO prog 196 [.I a0] (dc a0) λr=>.I r:=by
 refine pO func196 λr h _ _=>?_;refine S4 1 J<|S3 1 J<|cA h AD J J λv1 _ h=>S2 5 J<|l6<|S4 2 J ?_;refine cN h (λhc h=>?_) λhc h=>?_
 .refine S4 2 J ?_;refine b9 ?_;cases h;exact f1
 .refine j5 ?_;refine S4 2 J<|b9 ?_;cases h;exact f1
theorem dH{a0 a1}:PO prog 189 [b6.Pv a0,.I a1,.fn (.func 196) []] (O0 a0 a1) λr=>b6.Pv r:=by
 refine pO func189 λr h _ _=>?_;refine S4 2 J<|S3 3 J<|cF h B9 J J λv1 _ h=>S2 6 J<|l6<|S4 2 J ?_;refine cN h (λhc h=>?_) λhc h=>?_
 .refine S3 3 J ?_;refine cA h rj J J λv2 _ h=>S2 2 J<|S5 4 J<|cF h bk J J λv3 _ h=>S2 5 J<|S4 2 J<|b9 ?_;cases h;exact⟨J,[_],⟨oL J J J w8 u0 nl J,tr⟩,J,io⟩
 .refine j5 ?_;refine S4 2 J<|b9 ?_;cases h;exact⟨J,[_],⟨oL J J J w8 u0 nl J,tr⟩,J,io⟩
theorem Z4{a0 a1}:PO prog 123 [b6.Pv a0,.I a1] (C8 a0 a1) λr=>b6.Pv r:=by
 refine pO func123 λr h _ _=>?_;refine S4 2 J<|S3 2 J<|cF h dH J J λv1 _ h=>S2 1 J<|b9 ?_;cases h;exact⟨J,[_],⟨oL J J J w8 u0 nl J,tr⟩,J,io⟩
theorem bV{a0 a1 a2 a3}:PO prog 257 [b6.Pv a0,.I a1,.I a2,.abs (Rg 298 [I0.Pv a3])] (F2 a0 a1 a2 a3) λr=>b6.Pv r:=by
 refine pO func257 λr h _ _=>?_;refine S4 2 J<|S3 3 J<|cF h dd J J λv1 _ h=>A2 h λv2 hv2 h=>Cp (xs:=[b6.Pv v1]) J J Oi J (mN.2 _ hv2)<|S1 1 J<|cF h Z4 J J λv3 _ h=>S2 1 J<|b9 ?_;cases h;exact⟨J,[_],⟨oL J J J w8 u0 nl J,tr⟩,J,io⟩
theorem ln{a0 a1 a2}:PO prog 205 [b6.Pv a0,.I a1,.I a2] (bb a0 a1 a2) λr=>.tup [b6.Pv r.1,.I r.2]:=by
 refine pO func205 λr h _ _=>?_;refine S4 3 J<|l6<|S3 3 J<|r7 J (λhg=>mI J)<|r7 J (λhg=>oF J CA J)<|r7 J (λhg=>oS (ct hg) J J Eo J)<|r7 J (λhg=>mA (f:=iF) (ct hg) o8)<|r7 J (λhg=>H4 (ct hg) (ct hg) J)<|y0 J (J2 J J J (λq=>mn q))<|yN ?_;refine cN h (λhc h=>?_) λhc h=>?_
 .refine S4 3 J ?_;refine b9 ?_;cases h;exact⟨J,[_,_],⟨oL J J J w8 u0 nl J,⟨J,tr⟩⟩,J,io⟩
 .refine j5 ?_;refine l6<|S3 2 J<|cA h W5 J J λv1 _ h=>S2 1 J ?_;refine cN h (λhc h=>?_) λhc h=>?_
  .refine S4 3 J ?_;refine b9 ?_;cases h;exact⟨J,[_,_],⟨oL J J J w8 u0 nl J,⟨J,tr⟩⟩,J,io⟩
  .refine j5 ?_;refine dr [] y7 (by kernel_rfl) (by kernel_rfl)<|S7 4 J<|A2 h λv2 hv2 h=>d0 J (F5 (f:=iF) (cs:=[.I v2]) hv2 J J o8 u6 J J) J<|S7 4 J<|d7 J (λ_ hN=>x6 (cs:=[.I a1,.I a2]) J Oy OJ J J J) J<|d7 J (λ_ hN=>ti (d:=.agg [.I a1,.I a2]) J) J<|A2 h λv3 hv3 h=>mK J (C0 J bV J hv3) J<|E2 (x':=b6.Pv v3) (cl':=true) J J (.inr J) u0<|S8 1 J<|b9 ?_;cases h;exact⟨J,[_,_],⟨oL J J J w8 u0 nl J,⟨J,tr⟩⟩,J,io⟩
theorem G9{a0 a1 a2}:PO prog 177 [u4.Pv a0,.I a1,.I a2] (B6 a0 a1 a2) λr=>.tup [b6.Pv r.1,.I r.2]:=by
 refine pO func177 λr h _ _=>?_;refine S4 3 J<|l6<|S4 2 J ?_;refine cN h (λhc h=>?_) λhc h=>?_
 .refine S4 5 J ?_;refine b9 ?_;cases h;exact⟨J,[_,_],⟨oL J J J w8 u0 nl J,⟨J,tr⟩⟩,J,io⟩
 .refine j5 ?_;refine S3 6 J<|cF h ln J J λv1 _ h=>S2 4 J<|b9 ?_;cases h;exact⟨J,[_,_],⟨oL J J J w8 u0 nl J,⟨J,tr⟩⟩,J,io⟩
theorem df{a0}:PO prog 97 [u4.Pv a0] (V2 a0) λr=>.tup [b6.Pv r.1,.I r.2]:=by
 refine pO func97 λr h _ _=>?_;refine S4 3 J<|S3 9 J<|cF h ye J J λv1 _ h=>S2 8 J<|l6<|S4 2 J ?_;refine cN h (λhc h=>?_) λhc h=>?_
 .refine S4 5 J ?_;refine b9 ?_;cases h;exact⟨J,[_,_],⟨oL J J J w8 u0 nl J,⟨J,tr⟩⟩,J,io⟩
 .refine j5 ?_;refine S4 4 J<|S3 2 J<|cF h G9 J J λv2 _ h=>S2 4 J<|b9 ?_;cases h;exact⟨J,[_,_],⟨oL J J J w8 u0 nl J,⟨J,tr⟩⟩,J,io⟩
theorem bm{a0}:PO prog 98 [u4.Pv a0] (I4 a0) λr=>.tup [b6.Pv r.1,.I r.2]:=by
 refine pO func98 λr h _ _=>?_;unfold I4 at h;refine S4 3 J<|dr [] y7 (by kernel_rfl) (by kernel_rfl)<|S7 6 J<|A2 h λv1 hv1 h=>d2 J (T4 J O1 J hv1) J<|A2 h λv2 hv2 h=>mK J (C0 J G9 J hv2) J<|S7 2 J<|E2 (x':=b6.Pv v2.1) (cl':=true) J J (.inr J) u0<|S8 1 J<|b9 ?_;cases h;exact⟨J,[_,_],⟨oL J J J w8 u0 nl J,⟨J,tr⟩⟩,J,io⟩
theorem eY{a0}:PO prog 99 [u4.Pv a0] (aA a0) λr=>.tup [b6.Pv r.1,.I r.2]:=by
 refine pO func99 λr h _ _=>?_;refine S4 3 J<|S3 1 J<|cF h G9 J J λv1 _ h=>S2 4 J<|b9 ?_;cases h;exact⟨J,[_,_],⟨oL J J J w8 u0 nl J,⟨J,tr⟩⟩,J,io⟩
theorem T3{a0 a1}:PO prog 178 [b6.Pv a0,.I a1] (M7 a0 a1) λr=>.tup [.I r.1,.I r.2]:=by
 refine pO func178 λr h _ _=>?_;refine S4 3 J<|S3 2 J<|cA h O1 J J λv1 _ h=>S2 1 J<|l6<|S4 2 J ?_;refine cN h (λhc h=>?_) λhc h=>?_
 .refine S4 2 J ?_;refine b9 ?_;cases h;exact f2
 .refine j5 ?_;refine S4 3 J<|b9 ?_;cases h;exact f2
theorem xy{a0 a1}:PO prog 326 [.L iF a0,.I a1] (mh a0 a1) λr=>.bool r:=by
 refine pO func326 λr h _ _=>?_;unfold mh at h;refine S4 1 J<|S3 3 J<|r7 J (λhg=>mI J)<|r7 J (λhg=>om (d:=.L iF a0) J)<|r7 J (λhg=>mA (f:=iF) (ct hg) o8)<|r7 J (λhg=>H4 (ct hg) (ct hg) J)<|y0 J (E7 J J J (λq=>mL q))<|S2 1 J<|b9 ?_;cases h;exact f1
theorem JC{a0 a1}:PO prog 255 [.L iF a0,.I a1] (nX a0 a1) λr=>.tup [.I r.1,.I r.2]:=by
 refine pO func255 λr h _ _=>?_;refine S4 2 J<|l6<|S3 2 J<|cA h xy J J λv1 _ h=>S2 1 J ?_;refine cN h (λhc h=>?_) λhc h=>?_
 .refine S4 2 J ?_;refine b9 ?_;cases h;exact f2
 .refine j5 ?_;refine S3 2 J<|iL h J J o8 u6 λv2 _ h=>S2 3 J<|b9 ?_;cases h;exact f2
theorem nR{a0 a1 a2}:PO prog 179 [a7.Pv a0,.I a1,.I a2] (U0 a0 a1 a2) λr=>.tup [.I r.1,.I r.2]:=by
 refine pO func179 λr h _ _=>?_;refine S4 3 J<|S3 2 J<|cF h B9 J J λv1 _ h=>S2 6 J<|l6<|S4 2 J ?_;refine cN h (λhc h=>?_) λhc h=>?_
 .refine S4 3 J ?_;refine b9 ?_;cases h;exact f2
 .refine j5 ?_;refine S3 3 J<|cA h JC J J λv2 _ h=>S2 4 J<|b9 ?_;cases h;exact f2
theorem eZ{a0}:PO prog 100 [u4.Pv a0] (aB a0) λr=>.tup [b6.Pv r.1,.I r.2]:=by
 refine pO func100 λr h _ _=>?_;refine S4 3 J<|S3 5 J<|cA h T3 J J λv1 _ h=>S2 5 J<|l6<|S4 2 J ?_;refine cN h (λhc h=>?_) λhc h=>?_
 .refine S4 5 J ?_;refine b9 ?_;cases h;exact⟨J,[_,_],⟨oL J J J w8 u0 nl J,⟨J,tr⟩⟩,J,io⟩
 .refine j5 ?_;refine dr [] y7 (by kernel_rfl) (by kernel_rfl)<|S7 8 J<|A2 h λv2 hv2 h=>d2 J (T4 J nR J hv2) J<|S7 2 J<|A2 h λv3 hv3 h=>mK J (C0 J G9 J hv3) J<|S7 2 J<|E2 (x':=b6.Pv v3.1) (cl':=true) J J (.inr J) u0<|S8 1 J<|b9 ?_;cases h;exact⟨J,[_,_],⟨oL J J J w8 u0 nl J,⟨J,tr⟩⟩,J,io⟩
theorem Ed{a0 a1 a2}:PO prog 368 [.L iF a0,.I a1,.I a2] (xx a0 a1 a2) λr=>.tup [.L iF r.1,.I r.2]:=by
 refine pO func368 λr h _ _=>?_;refine S4 2 J<|l6<|S3 2 J<|cA h xy J J λv1 _ h=>S2 1 J ?_;refine cN h (λhc h=>?_) λhc h=>?_
 .refine S4 3 J ?_;refine b9 ?_;cases h;exact f2
 .refine j5 ?_;refine S3 1 J<|nL J o8<|A2 h λv2 hv2 h=>y1 J (wF (f:=iF) hv2 J J J o8 u6 F7 X6 J J J) J<|S2 1 J<|S3 2 J<|A2 h λv3 hv3 h=>Vj (f:=iF) hv3 J J J (.inl ⟨_,J,J⟩) o8 u6 (λ_=>J) (by decide)<|yN<|S3 3 J<|A2 h λv4 hv4 h=>y0 J (gM (f:=iF) hv4 J J J J o8 u6 J)<|pS (f:=iF) (v:=a2) hv4 J J (.inl J) u6<|yN<|S4 3 J<|b9 ?_;cases h;exact f2
theorem Cc{a0 a1 a2 a3}:PO prog 328 [a7.Pv a0,.I a1,.I a2,.I a3] (oU a0 a1 a2 a3) λr=>.tup [a7.Pv r.1,.I r.2]:=by
 refine pO func328 λr h _ _=>?_;refine S4 3 J<|S3 2 J<|cF h B9 J J λv1 _ h=>S2 6 J<|l6<|S4 2 J ?_;refine cN h (λhc h=>?_) λhc h=>?_
 .refine S4 4 J ?_;refine b9 ?_;cases h;exact⟨J,[_,_],⟨oL J J J kJ kM nl J,⟨J,tr⟩⟩,J,io⟩
 .refine j5 ?_;refine l6<|S3 4 J<|cF h Ed J J λv2 _ h=>S2 6 J<|S4 2 J ?_;refine cN h (λhc h=>?_) λhc h=>?_
  .refine S4 4 J ?_;refine b9 ?_;cases h;exact⟨J,[_,_],⟨oL J J J kJ kM nl J,⟨J,tr⟩⟩,J,io⟩
  .refine j5 ?_;refine S3 3 J<|cF h bk J J λv3 _ h=>S2 4 J<|b9 ?_;cases h;exact⟨J,[_,_],⟨oL J J J kJ kM nl J,⟨J,tr⟩⟩,J,io⟩
theorem lr{a0 a1}:PO prog 258 [G6.Pv a0,b6.Pv a1] (bo a0 a1) λr=>b6.Pv r:=by
 refine pO func258 λr h _ _=>?_;refine S4 3 J<|S3 8 J<|cF h Cc J J λv1 _ h=>S2 5 J<|S4 2 J<|b9 ?_;cases h;exact⟨J,[_],⟨oL J J J w8 u0 nl J,tr⟩,J,io⟩
theorem bC{a0 a1 a2 a3}:PO prog 257 [b6.Pv a0,.I a1,.I a2,.abs (Rg 258 [G6.Pv a3])] (I1 a0 a1 a2 a3) λr=>b6.Pv r:=by
 refine pO func257 λr h _ _=>?_;refine S4 2 J<|S3 3 J<|cF h dd J J λv1 _ h=>A2 h λv2 hv2 h=>Cp (xs:=[b6.Pv v1]) J J Od J (lr.2 _ hv2)<|S1 1 J<|cF h Z4 J J λv3 _ h=>S2 1 J<|b9 ?_;cases h;exact⟨J,[_],⟨oL J J J w8 u0 nl J,tr⟩,J,io⟩
theorem xU{a0 a1 a2 a3}:PO prog 180 [b6.Pv a0,.I a1,.I a2,.I a3] (aI a0 a1 a2 a3) λr=>.tup [b6.Pv r.1,.I r.2]:=by
 refine pO func180 λr h _ _=>?_;refine S4 3 J<|S3 4 J<|cA h nR J J λv1 _ h=>S2 5 J<|l6<|S4 2 J ?_;refine cN h (λhc h=>?_) λhc h=>?_
 .refine S4 4 J ?_;refine b9 ?_;cases h;exact⟨J,[_,_],⟨oL J J J w8 u0 nl J,⟨J,tr⟩⟩,J,io⟩
 .refine j5 ?_;refine l6<|S3 2 J<|cA h W5 J J λv2 _ h=>S2 1 J ?_;refine cN h (λhc h=>?_) λhc h=>?_
  .refine S4 3 J ?_;refine b9 ?_;cases h;exact⟨J,[_,_],⟨oL J J J w8 u0 nl J,⟨J,tr⟩⟩,J,io⟩
  .refine j5 ?_;refine S3 6 J<|y0 J (x6 (cs:=[.I a1,.I a2,.I a3]) J Ov OG J J J)<|y0 J (ti (d:=.agg [.I a1,.I a2,.I a3]) J)<|cF h bC J J λv3 _ h=>S2 2 J<|b9 ?_;cases h;exact⟨J,[_,_],⟨oL J J J w8 u0 nl J,⟨J,tr⟩⟩,J,io⟩
theorem dL{a0}:PO prog 101 [u4.Pv a0] (Y4 a0) λr=>.tup [b6.Pv r.1,.I r.2]:=by
 refine pO func101 λr h _ _=>?_;refine S4 3 J<|S3 5 J<|cA h T3 J J λv1 _ h=>S2 5 J<|l6<|S4 2 J ?_;refine cN h (λhc h=>?_) λhc h=>?_
 .refine S4 5 J ?_;refine b9 ?_;cases h;exact⟨J,[_,_],⟨oL J J J w8 u0 nl J,⟨J,tr⟩⟩,J,io⟩
 .refine j5 ?_;refine dr [] y7 (by kernel_rfl) (by kernel_rfl)<|S7 11 J<|A2 h λv2 hv2 h=>d2 J (T4 J O1 J hv2) J<|A2 h λv3 hv3 h=>mK J (C0 J xU J hv3) J<|S7 2 J<|E2 (x':=b6.Pv v3.1) (cl':=true) J J (.inr J) u0<|S8 1 J<|b9 ?_;cases h;exact⟨J,[_,_],⟨oL J J J w8 u0 nl J,⟨J,tr⟩⟩,J,io⟩
theorem FU{a0 a1}:PO prog 329 [k8.Pv a0,.I a1] (vn a0 a1) λr=>.fn (.func 369) [.rptr (k8.Pc r.1),.rptr [.I r.2]]:=by
 refine pO func329 λr h _ _=>?_;unfold vn at h;refine S4 3 J<|S4 2 J<|b9 ?_;cases h;exact f1
theorem yf{a0 a1}:PO prog 259 [k8.Pv a0,.I a1] (hZ a0 a1) λr=>.bool r:=by
 refine pO func259 λr h _ _=>?_;refine S4 3 J ?_;refine jq h (λ_=>St.of [(4,.ptr 2001 0 0)] [(2001,vR (.bool false) 1)]) (λq7 h=>?_) λκ6 h=>?_
 .refine S4 1 J ?_;refine b9 ?_;cases h;exact⟨J,[_],⟨oS J J J yj J,tr⟩,J,io⟩
 .refine S3 1 J ?_;refine cF h FU J J λv8 _ h=>yN<|n0<|cy (vz (λl=>if l=2003 then 4 else if l=2004 then 3 else l) [(3,.ptr 2004 0 0),(4,.ptr 2003 0 0),(7,.fn (.func 369) [.rptr (k8.Pc v8.1),.rptr [.I v8.2]])] [(2003,vR (.bool false) 1),(2004,vR (.I a1) 1)]) ?_;refine dp (fn:=Tryz.f369) (N1:=24) J func369 J J nl J Ol J J (λl16 e17 o18 hR19=>?_);refine S3 2 J<|nL J mT<|S2 1 J<|n0<|lq h (λs10=>St.of [(1000003,.ptr 2004 0 0),(1000004,.ptr 2003 0 0),(1000007,.fn (.func 369) [.rptr (k8.Pc v8.1),.rptr [.I v8.2]]),(0,.fn (.yield l16) []),(2,.rptr [.I v8.2]),(7,.L o0.Pv v8.1.L),(8,.I (v8.1.L.length:Int)),(9,.I s10)] [(2003,vR (.bool false) 1),(2004,vR (.I a1) 1)]) W λs10 x11 h hx22=>S4 1 J<|l6 ?_;refine cN h (λhc h=>?_) λhc h=>?_
  .refine j5 ?_;refine l6<|n0<|sR<|iL h J J mT N4 λv12 _ h=>S2 3 J<|S3 5 J<|r7 J (λhg=>om (d:=.fn (.yield l16) []) J)<|r7 J (λhg=>oL J J J cM N4 nl J) ?_;rcases zas ((v12.Kind==v8.2)==true) with hg24 | hg24
   .have h:=NL h hg24;refine N3 (WE [(1000003,.ptr 2004 0 0),(1000004,.ptr 2003 0 0),(1000007,.fn (.func 369) [.rptr (k8.Pc v8.1),.rptr [.I v8.2]]),(0,.fn (.yield l16) []),(2,.rptr [.I v8.2]),(7,.L o0.Pv v8.1.L),(8,.I (v8.1.L.length:Int)),(9,.I s10),(17,.bool (v12.Kind==v8.2)),(18,.fn (.yield l16) []),(19,o0.Pv v12)] [(2003,vR (.bool false) 1),(2004,vR (.I a1) 1)]) ?_;refine mj hR19 (mt some hg24) J J J J J (λe25 o26 o27=>?_);refine S6 2 J ?_;refine⟨J,?_⟩;refine n0<|S4 4 J ?_;refine cN h (λhc h=>?_) λhc h=>?_
    .refine S4 1 J ?_;refine b9 ?_;refine⟨J,?_⟩;refine N3 (WE [(1000003,.ptr 2004 0 0),(1000004,.ptr 2003 0 0),(1000007,.fn (.func 369) [.rptr (k8.Pc v8.1),.rptr [.I v8.2]]),(0,.fn (.yield l16) []),(2,.rptr [.I v8.2]),(7,.L o0.Pv v8.1.L),(8,.I (v8.1.L.length:Int)),(9,.I s10),(17,.bool (v12.Kind==v8.2)),(20,.bool false)] [(2003,vR (.bool true) 1),(2004,vR (.I a1) 1)])<|y0 (mt some hg24) (fH J J)<|y0 J (lE J J hg24)<|yN ?_;refine F3 true J (λ_=>?_) (λq=>nomatch q);refine b9 ?_;refine .inr ⟨.ret,J,Ps ?_⟩;have h:=xL hx22 h;cases h;exact⟨J,[_],⟨oS J J J yj J,tr⟩,J,io⟩
    .refine j5 ?_;refine⟨J,?_⟩;refine N3 (WE [(1000003,.ptr 2004 0 0),(1000004,.ptr 2003 0 0),(1000007,.fn (.func 369) [.rptr (k8.Pc v8.1),.rptr [.I v8.2]]),(0,.fn (.yield l16) []),(2,.rptr [.I v8.2]),(7,.L o0.Pv v8.1.L),(8,.I (v8.1.L.length:Int)),(9,.I s10),(17,.bool (v12.Kind==v8.2)),(20,.bool true)] [(2003,vR (.bool false) 1),(2004,vR (.I a1) 1)])<|y0 (mt some hg24) (fH J J)<|y0 J (lE J J hg24)<|yN ?_;refine F3 false J (λq=>nomatch q) (λ_=>?_);refine j5<|S6 2 J ?_;exact eL h W
   .have h:=NK h hg24;refine bz (mt some hg24)<|bz (mt some hg24)<|y0 J (oI J J hg24)<|yN ?_;refine F3 false J (λq=>nomatch q) (λ_=>?_);refine j5<|S6 2 J ?_;exact eL h W
  .refine y3 ?_;refine l5<|l5<|r8 ?_;refine .inl ⟨J,?_⟩;have h:=xL hx22 h;exact eJ h (WP (λl=>if l=2001 then 2003 else l))
theorem uj{a0 a1}:PO prog 263 [.L k7.Pv a0,.I a1] (kB a0 a1) λr=>.bool r:=by
 refine pO func263 λr h _ _=>?_;unfold kB at h;refine S4 1 J<|S3 3 J<|r7 J (λhg=>mI J)<|r7 J (λhg=>om (d:=.L k7.Pv a0) J)<|r7 J (λhg=>mA (f:=k7.Pv) (ct hg) ah)<|r7 J (λhg=>H4 (ct hg) (ct hg) J)<|y0 J (E7 J J J (λq=>mL q))<|S2 1 J<|b9 ?_;cases h;exact f1
theorem mF{a0}:Sd prog 275 [.L k7.Pv a0] (aU a0) λr=>⟨List.map k7.Pv r,0,true,3,true⟩:=by
 refine WA func275 λr h _ _=>?_;unfold aU at h;refine S4 1 J<|S3 1 J<|nL J ah<|A2 h λv1 hv1 h=>y1 J (wF (f:=k7.Pv) hv1 J J J ah aw Aw Gi J J J) J<|S2 1 J<|S3 2 J<|A2 h λv2 hv2 h=>Vj (f:=k7.Pv) hv2 J J J (.inl ⟨_,J,J⟩) ah aw (λ_=>J) (by decide)<|yN<|S4 2 J<|b9 ?_;cases h;exact⟨J,_,_,J,J,J,J⟩
theorem Ei{a0 a1 a2 a3}:PO prog 260 [.L k7.Pv a0,.I a1,.I a2,.I a3] (sy a0 a1 a2 a3) λr=>.tup [.L k7.Pv r.1,.I r.2.1,.I r.2.2]:=by
 refine pO func260 λr h _ _=>?_;refine S4 3 J<|l6<|S3 2 J<|cA h uj J J λv1 _ h=>S2 1 J ?_;refine cN h (λhc h=>?_) λhc h=>?_
 .refine S4 4 J ?_;refine b9 ?_;cases h;exact f3
 .refine j5 ?_;refine S3 1 J<|A2 h λv2 hv2 h=>Vv J (yQ J mF J hv2) J J<|S2 1 J<|S3 6 J<|y0 J (x6 (cs:=[.I a2,.bool (a2 != 0),.I a3]) J Ou Aw J J J)<|A2 h λv3 hv3 h=>y0 J (gM (f:=k7.Pv) hv3 J J J J ah aw J)<|pS (f:=k7.Pv) (v:=(⟨a2,(a2 != 0),a3⟩:k7)) hv3 J J (.inl J) aw<|yN<|dr [] y7 (by kernel_rfl) (by kernel_rfl)<|S7 3 J<|A2 h λv4 hv4 h=>d0 J (F5 (f:=k7.Pv) (cs:=k7.Pc v4) hv4 J J ah aw J J) J<|S8 5 J<|b9 ?_;cases h;exact f3
theorem nn{a0 a1 a2}:PO prog 262 [b6.Pv a0,.I a1,.I a2] (cv a0 a1 a2) λr=>b6.Pv r:=by
 refine pO func262 λr h _ _=>?_;refine S4 2 J<|S3 4 J<|cA h I6 J J λv1 _ h=>S2 5 J<|l6<|S4 2 J ?_;refine cN h (λhc h=>?_) λhc h=>?_
 .refine S3 5 J ?_;refine iL h J J V8 U9 λv2 _ h=>S2 4 J<|S4 6 J<|S5 4 J<|cF h bk J J λv3 _ h=>S2 5 J<|S4 2 J<|b9 ?_;cases h;exact⟨J,[_],⟨oL J J J w8 u0 nl J,tr⟩,J,io⟩
 .refine j5 ?_;refine S4 2 J<|b9 ?_;cases h;exact⟨J,[_],⟨oL J J J w8 u0 nl J,tr⟩,J,io⟩
theorem dA{a0 a1}:PO prog 195 [c5.Pv a0,.I a1] (O8 a0 a1) λr=>.tup [c5.Pv r.1,.I r.2]:=by
 refine pO func195 λr h _ _=>?_;refine S4 3 J<|S3 2 J<|cA h I6 J J λv1 _ h=>S2 5 J<|l6<|S4 2 J ?_;refine cN h (λhc h=>?_) λhc h=>?_
 .refine S4 4 J ?_;refine b9 ?_;cases h;exact⟨J,[_,_],⟨oL J J J fq cS nl J,⟨J,tr⟩⟩,J,io⟩
 .refine j5 ?_;refine S3 3 J<|iL h J J V8 U9 λv2 _ h=>S2 3 J<|l6<|S4 4 J ?_;refine cN h (λhc h=>?_) λhc h=>?_
  .refine S3 3 J ?_;refine y0 J (x6 (cs:=[.I 3,.I v2.Gen,.I 0,.I 0,.I 0,.I 0,.bool false,.nl]) J uL oc J J J)<|cF h I7 J J λv3 _ h=>S2 2 J<|b9 ?_;cases h;exact⟨J,[_,_],⟨oL J J J fq cS nl J,⟨J,tr⟩⟩,J,io⟩
  .refine j5 ?_;refine S3 4 J<|y0 J (x6 (cs:=[.I 0,.I (z8 (v2.Gen+1)),.I 0,.I 0,.I 0,.I 0,.bool false,.nl]) J uL oc J J J)<|cF h I7 J J λv4 _ h=>S2 2 J<|b9 ?_;cases h;exact⟨J,[_,_],⟨oL J J J fq cS nl J,⟨J,tr⟩⟩,J,io⟩
theorem sU{a0 a1}:PO prog 261 [b6.Pv a0,.I a1] (eF a0 a1) λr=>b6.Pv r:=by
 refine pO func261 λr h _ _=>?_;refine S4 2 J<|S3 2 J<|cF h nn J J λv1 _ h=>S2 1 J<|S3 4 J<|cA h I6 J J λv2 _ h=>S2 5 J<|l6<|S4 2 J ?_;refine cN h (λhc h=>?_) λhc h=>?_
 .refine S4 2 J ?_;refine b9 ?_;cases h;exact⟨J,[_],⟨oL J J J w8 u0 nl J,tr⟩,J,io⟩
 .refine j5 ?_;refine l6<|S3 5 J<|iL h J J V8 U9 λv3 _ h=>S2 3 J<|S3 4 J<|r7 J (λhg=>oF J Ir J)<|r7 J (λhg=>oF (ct hg) Io J)<|r7 J (λhg=>oS (ct hg) J J V7 J)<|r7 J (λhg=>H4 (ct hg) J J)<|y0 J (E7 J J J (λq=>mL q))<|yN ?_;refine cN h (λhc h=>?_) λhc h=>?_
  .refine S5 4 J ?_;refine cF h dA J J λv4 _ h=>S2 6 J<|S4 2 J<|b9 ?_;cases h;exact⟨J,[_],⟨oL J J J w8 u0 nl J,tr⟩,J,io⟩
  .refine j5 ?_;refine S4 2 J<|b9 ?_;cases h;exact⟨J,[_],⟨oL J J J w8 u0 nl J,tr⟩,J,io⟩
theorem rk{a0 a1 a2 a3}:PO prog 181 [b6.Pv a0,.I a1,.I a2,.I a3] (W3 a0 a1 a2 a3) λr=>.tup [b6.Pv r.1,.I r.2]:=by
 refine pO func181 λr h _ _=>?_;unfold W3 at h;refine S4 3 J<|l6<|S3 3 J<|r7 J (λhg=>mI J)<|r7 J (λhg=>oF J JL J)<|r7 J (λhg=>oS (ct hg) J J Sg J)<|r7 J (λhg=>mA (f:=k7.Pv) (ct hg) ah)<|r7 J (λhg=>H4 (ct hg) (ct hg) J)<|y0 J (J2 J J J (λq=>mn q))<|S1 1 J<|r7 J (λhg=>oF J JM J)<|r7 J (λhg=>oL (ct hg) J J jd cT nl J)<|r7 J (λhg=>mI J)<|A2 h λv1 hv1 h=>r7 J (λhg=>T4 J yf (cV (ct hg) (cV (ct hg) J)) (N7 hv1 hg))<|y0 J (J2 J J J (λq=>mn q))<|yN ?_;refine cN h (λhc h=>?_) λhc h=>?_
 .refine S4 3 J ?_;refine b9 ?_;cases h;exact⟨J,[_,_],⟨oL J J J w8 u0 nl J,⟨J,tr⟩⟩,J,io⟩
 .refine j5 ?_;refine l6<|S3 2 J<|cA h W5 J J λv2 _ h=>S2 1 J ?_;refine cN h (λhc h=>?_) λhc h=>?_
  .refine S4 3 J ?_;refine b9 ?_;cases h;exact⟨J,[_,_],⟨oL J J J w8 u0 nl J,⟨J,tr⟩⟩,J,io⟩
  .refine j5 ?_;refine S3 5 J<|cF h Ei J J λv3 _ h=>S2 7 J<|S4 3 J<|S3 2 J<|cF h nn J J λv4 _ h=>S1 1 J<|cF h sU J J λv5 _ h=>S2 2 J<|b9 ?_;cases h;exact⟨J,[_,_],⟨oL J J J w8 u0 nl J,⟨J,tr⟩⟩,J,io⟩
theorem dh{a0}:PO prog 102 [u4.Pv a0] (V3 a0) λr=>.tup [b6.Pv r.1,.I r.2]:=by
 refine pO func102 λr h _ _=>?_;refine S4 3 J<|l6<|S4 4 J ?_;refine cN h (λhc h=>?_) λhc h=>?_
 .refine S3 8 J ?_;refine cF h rk J J λv1 _ h=>S2 4 J<|b9 ?_;cases h;exact⟨J,[_,_],⟨oL J J J w8 u0 nl J,⟨J,tr⟩⟩,J,io⟩
 .refine j5 ?_;refine S3 5 J<|cA h T3 J J λv2 _ h=>S2 5 J<|l6<|S4 2 J ?_;refine cN h (λhc h=>?_) λhc h=>?_
  .refine S4 5 J ?_;refine b9 ?_;cases h;exact⟨J,[_,_],⟨oL J J J w8 u0 nl J,⟨J,tr⟩⟩,J,io⟩
  .refine j5 ?_;refine S3 9 J<|cF h rk J J λv3 _ h=>S2 4 J<|b9 ?_;cases h;exact⟨J,[_,_],⟨oL J J J w8 u0 nl J,⟨J,tr⟩⟩,J,io⟩
theorem Ck{a0 a1}:PO prog 182 [.L k7.Pv a0,.I a1] (kz a0 a1) λr=>.tup [.I r.1,.I r.2]:=by
 refine pO func182 λr h _ _=>?_;refine S4 2 J<|l6<|S3 2 J<|cA h uj J J λv1 _ h=>S2 1 J ?_;refine cN h (λhc h=>?_) λhc h=>?_
 .refine S4 2 J ?_;refine b9 ?_;cases h;exact f2
 .refine j5 ?_;refine l6<|S3 2 J<|iL h J J ah aw λv2 hv2 h=>S1 4 J<|r7 J (λhg=>om (d:=.L k7.Pv a0) J)<|r7 J (λhg=>mI J)<|r7 J (λhg=>F5 (f:=k7.Pv) (cs:=k7.Pc v2) hv2 (ct hg) (ct hg) ah aw J J)<|r7 J (λhg=>rB (ct hg) Iq J)<|r7 J (λhg=>E8 (ct hg) yj J)<|r7 J (λhg=>fH (ct hg) J)<|y0 J (J2 J J J (λq=>mn q))<|yN ?_;refine cN h (λhc h=>?_) λhc h=>?_
  .refine S4 2 J ?_;refine b9 ?_;cases h;exact f2
  .refine j5 ?_;refine S3 2 J<|y0 J (F5 (f:=k7.Pv) (cs:=k7.Pc v2) hv2 J J ah aw J J)<|S2 4 J<|b9 ?_;cases h;exact f2
theorem gK{a0}:PO prog 103 [u4.Pv a0] (Z5 a0) λr=>.tup [b6.Pv r.1,.I r.2]:=by
 refine pO func103 λr h _ _=>?_;unfold Z5 at h;refine S4 3 J<|dr [] y7 (by kernel_rfl) (by kernel_rfl)<|S7 7 J<|A2 h λv1 hv1 h=>d2 J (T4 J Ck J hv1) J<|S7 2 J<|A2 h λv2 hv2 h=>mK J (C0 J G9 J hv2) J<|S7 2 J<|E2 (x':=b6.Pv v2.1) (cl':=true) J J (.inr J) u0<|S8 1 J<|b9 ?_;cases h;exact⟨J,[_,_],⟨oL J J J w8 u0 nl J,⟨J,tr⟩⟩,J,io⟩
theorem rh{a0 a1}:PO prog 334 [.I a0,.I a1] (gh a0 a1) λr=>.fn (.func 370) [.rptr [.I r.1],.rptr [.I r.2]]:=by
 refine pO func334 λr h _ _=>?_;unfold gh at h;refine S4 3 J<|S4 2 J<|b9 ?_;cases h;exact f1
theorem qZ{a0 a1}:PO prog 371 [.I a0,.I a1] (ba a0 a1) λr=>.I r:=by
 refine pO func371 λr h _ _=>?_;refine S4 1 J<|l6<|S4 2 J ?_;refine cN h (λhc h=>?_) λhc h=>?_
 .refine S4 1 J ?_;refine b9 ?_;cases h;exact f1
 .refine j5 ?_;refine S3 4 J<|A2 h λv1 hv1 h=>y0 J (wD J J hv1)<|S2 1 J<|l6<|S4 2 J ?_;refine cN h (λhc h=>?_) λhc h=>?_
  .refine S6 4 J ?_;refine S4 2 J<|b9 ?_;cases h;exact f1
  .refine j5 ?_;refine S4 2 J<|b9 ?_;cases h;exact f1
theorem lj{a0 a1}:PO prog 277 [.L b8.Pv a0,.I a1] (aa a0 a1) λr=>.I r:=by
 refine pO func277 λr h _ _=>?_;refine S4 3 J ?_;refine jq h (λ_=>St.of [(4,.ptr 2001 0 0)] [(2001,vR (.I 0) 1)]) (λq9 h=>?_) λκ8 h=>?_
 .refine S4 1 J ?_;refine b9 ?_;cases h;exact⟨J,[_],⟨oS J J J V7 J,tr⟩,J,io⟩
 .refine S3 1 J ?_;refine nL J bO<|S1 1 J<|cF h rh J J λv10 _ h=>yN<|n0<|cy (vz (λl=>if l=2004 then 4 else if l=2005 then 3 else if l=2006 then 2 else l) [(2,.ptr 2006 0 0),(3,.ptr 2005 0 0),(4,.ptr 2004 0 0),(9,.fn (.func 370) [.rptr [.I v10.1],.rptr [.I v10.2]])] [(2004,vR (.I 0) 1),(2005,vR (.I a1) 1),(2006,vR (.L b8.Pv a0) 1)]) ?_;refine dp (fn:=Tryz.f370) (N1:=20) J func370 J J nl J Gp J J (λl17 e18 o19 hR20=>?_);refine S4 2 J<|n0<|lq h (λs12=>St.of [(1000002,.ptr 2006 0 0),(1000003,.ptr 2005 0 0),(1000004,.ptr 2004 0 0),(1000009,.fn (.func 370) [.rptr [.I v10.1],.rptr [.I v10.2]]),(0,.fn (.yield l17) []),(1,.rptr [.I v10.1]),(2,.rptr [.I v10.2]),(5,.I v10.1),(6,.I s12)] [(2004,vR (.I 0) 1),(2005,vR (.I a1) 1),(2006,vR (.L b8.Pv a0) 1)]) W λs12 x13 h hx23=>S4 1 J<|l6 ?_;refine cN h (λhc h=>?_) λhc h=>?_
  .refine j5 ?_;refine l6<|n0<|S4 2 J<|Yi [] 8 y7 (by kernel_rfl) (by kernel_rfl) (by kernel_rfl) (by kernel_rfl) nl<|S7 3 J<|A2 h λv14 hv24 h=>d2 J (T4 J qZ J hv24) J<|S7 3 J<|A2 h λv15 hv25 h=>d7 J (λ_ hN=>wD J J hv25) J<|bA<|Mg (WE [(1000002,.ptr 2006 0 0),(1000003,.ptr 2005 0 0),(1000004,.ptr 2004 0 0),(1000009,.fn (.func 370) [.rptr [.I v10.1],.rptr [.I v10.2]]),(0,.fn (.yield l17) []),(1,.rptr [.I v10.1]),(2,.rptr [.I v10.2]),(5,.I v10.1),(6,.I s12),(9,.fn (.yield l17) []),(16,.I v15)] [(2004,vR (.I 0) 1),(2005,vR (.I a1) 1),(2006,vR (.L b8.Pv a0) 1)]) ?_;refine xD J hR20 J J J J J J (λe26 o27 o28=>?_);refine S6 1 J ?_;refine⟨J,?_⟩;refine n0<|l6<|S3 2 J<|iL h J J bO bJ λv16 hv29 h=>S2 3 J ?_;refine cN h (λhc h=>?_) λhc h=>?_
   .refine y3 ?_;refine l5<|aX (by decide) ?_;refine⟨J,?_⟩;refine⟨_,sz [(1000002,.ptr 2006 0 0),(1000003,.ptr 2005 0 0),(1000004,.ptr 2004 0 0),(1000009,.fn (.func 370) [.rptr [.I v10.1],.rptr [.I v10.2]]),(0,.fn (.yield l17) []),(1,.rptr [.I v10.1]),(2,.rptr [.I v10.2]),(5,.I v10.1),(6,.I s12),(17,.bool false)] [(2004,vR (.I 0) 1),(2005,vR (.I a1) 1),(2006,vR (.L b8.Pv a0) 1)] ⟨J,J,J,J,J,J,J,J,J,J,J,J,J,J,J,J,J,J,J,J,J,J,J,J,J,J,J,J,J,J,tr⟩ ⟨rS,rS,rS,tr⟩,?_⟩;refine S8 1 J ?_;refine F3 true J (λ_=>?_) (λq=>nomatch q);refine b9 ?_;refine .inr ⟨.exit 0,J,XU ?_⟩;refine r8 ?_;have h:=xL hx23 h;exact eJ h (WP (λl=>if l=2001 then 2004 else l))
   .refine j5 ?_;refine dr [] y7 (by kernel_rfl) (by kernel_rfl)<|S7 2 J<|d0 J (F5 (f:=b8.Pv) (cs:=b8.Pc v16) hv29 J J bO bJ J J) J<|S7 4 J<|yw J (λhg=>oS J J J Ao J) J<|qM J (λhg _ hN=>mI J) J ?_;refine yw J (λhg=>F5 (f:=b8.Pv) (cs:=b8.Pc v16) hv29 (ct hg) (ct hg) bO bJ J J) J<|qM J (λhg _ hN=>rB (ct hg) It J) J ?_;refine yw J (λhg=>E8 (ct hg) V7 J) J<|yw J (λhg=>oS J J J V7 J) J<|qM J (λhg _ hN=>H4 (ct hg) (ct hg) J) J<|d7 J (λ_ hN=>E7 J J J (λq=>mL q)) J<|bA ?_;refine cN h (λhc h=>?_) λhc h=>?_
    .refine S4 2 J ?_;refine b9 ?_;refine⟨J,?_⟩;refine⟨_,sz [(1000002,.ptr 2006 0 0),(1000003,.ptr 2005 0 0),(1000004,.ptr 2004 0 0),(1000009,.fn (.func 370) [.rptr [.I v10.1],.rptr [.I v10.2]]),(0,.fn (.yield l17) []),(1,.rptr [.I v10.1]),(2,.rptr [.I v10.2]),(5,.I v10.1),(6,.I s12),(17,.bool false)] [(2004,vR (.I v15) 1),(2005,vR (.I a1) 1),(2006,vR (.L b8.Pv a0) 1)] ⟨J,J,J,J,J,J,J,J,J,J,J,J,J,J,J,J,J,J,J,J,J,J,J,J,J,J,J,J,J,J,tr⟩ ⟨rS,rS,rS,tr⟩,?_⟩;refine S8 1 J ?_;refine F3 true J (λ_=>?_) (λq=>nomatch q);refine b9 ?_;refine .inr ⟨.ret,J,Ps ?_⟩;have h:=xL hx23 h;cases h;exact⟨J,[_],⟨oS J J J V7 J,tr⟩,J,io⟩
    .refine j5 ?_;refine⟨J,?_⟩;refine⟨_,sz [(1000002,.ptr 2006 0 0),(1000003,.ptr 2005 0 0),(1000004,.ptr 2004 0 0),(1000009,.fn (.func 370) [.rptr [.I v10.1],.rptr [.I v10.2]]),(0,.fn (.yield l17) []),(1,.rptr [.I v10.1]),(2,.rptr [.I v10.2]),(5,.I v10.1),(6,.I s12),(17,.bool true)] [(2004,vR (.I 0) 1),(2005,vR (.I a1) 1),(2006,vR (.L b8.Pv a0) 1)] ⟨J,J,J,J,J,J,J,J,J,J,J,J,J,J,J,J,J,J,J,J,J,J,J,J,J,J,J,J,J,J,tr⟩ ⟨rS,rS,rS,tr⟩,?_⟩;refine S8 1 J ?_;refine F3 false J (λq=>nomatch q) (λ_=>?_);refine j5<|S6 2 J ?_;exact eL h W
  .refine y3 ?_;refine l5<|l5<|r8 ?_;refine .inl ⟨J,?_⟩;have h:=xL hx23 h;exact eJ h (WP (λl=>if l=2001 then 2004 else l))
theorem iJ{a0 a1}:PO prog 266 [.L b8.Pv a0,.I a1] (M5 a0 a1) λr=>.tup [.I r.1,.I r.2]:=by
 refine pO func266 λr h _ _=>?_;refine S4 2 J<|S3 2 J<|cA h lj J J λv1 _ h=>S2 1 J<|l6<|S4 2 J ?_;refine cN h (λhc h=>?_) λhc h=>?_
 .refine S4 2 J ?_;refine b9 ?_;cases h;exact f2
 .refine j5 ?_;refine S3 2 J<|iL h J J bO bJ λv2 _ h=>S2 4 J<|b9 ?_;cases h;exact f2
theorem aR{a0}:Sd prog 335 [.L b8.Pv a0] (E0 a0) λr=>⟨List.map b8.Pv r,0,true,3,true⟩:=by
 refine WA func335 λr h _ _=>?_;unfold E0 at h;refine S4 1 J<|l6<|S3 1 J<|Cq J bO λb hb=>yN ?_;refine F3 b J (λhc=>?_) (λhc=>?_)
 .obtain rfl:a0 = []:=by simpa using hb hc
  refine S4 1 J<|cy (Y8 (t:=2) (l:=920000) (z:=3) J J)<|b9 ?_;cases h;exact⟨J,_,_,J,J,J,J⟩
 .refine j5 ?_;refine sR<|y0 J (wG J bO bJ)<|S1 1 J<|y1 J (Dl (f:=b8.Pv) h J J (.inl ⟨_,J,J⟩) bO bJ Gk uM J (λ_=>J)) J<|S2 1 J<|b9 ?_;exact⟨J,_,_,J,J,J,J⟩
theorem lk{a0 a1 a2}:PO prog 278 [.L b8.Pv a0,.I a1,b8.Pv a2] (cr a0 a1 a2) λr=>.L b8.Pv r:=by
 refine pO func278 λr h _ _=>?_;unfold cr at h;refine S4 2 J<|S3 1 J<|A2 h λv1 hv1 h=>Vv J (yQ J aR J hv1) J J<|S2 1 J<|S3 3 J<|A2 h λv2 hv2 h=>y0 J (gM (f:=b8.Pv) hv2 J J J J bO bJ J)<|pS (f:=b8.Pv) (v:=a2) hv2 J J (.inl J) bJ<|yN<|S4 2 J<|b9 ?_;cases h;exact f1
theorem qY{a0 a1}:PO prog 193 [.L b8.Pv a0,.I a1] (Z9 a0 a1) λr=>.tup [.L b8.Pv r.1,.I r.2.1,.I r.2.2]:=by
 refine pO func193 λr h _ _=>?_;refine S4 3 J<|S3 2 J<|cA h lj J J λv1 _ h=>S2 1 J<|l6<|S4 2 J ?_;refine cN h (λhc h=>?_) λhc h=>?_
 .refine S4 4 J ?_;refine b9 ?_;cases h;exact f3
 .refine j5 ?_;refine dr [] y7 (by kernel_rfl) (by kernel_rfl)<|S7 2 J<|d7 J (λ_ hN=>x6 (cs:=[.I 2,.I 0,.I 0]) J Gt uM J J J) J<|A2 h λv2 hv2 h=>mK J (C0 J lk J hv2) J<|S7 2 J<|A2 h λv3 hv3 h=>d0 J (F5 (f:=b8.Pv) (cs:=b8.Pc v3) hv3 J J bO bJ J J) J<|S8 5 J<|b9 ?_;cases h;exact f3
theorem CS{a0 a1 a2}:PO prog 330 [.L b8.Pv a0,.I a1,.I a2] (gG a0 a1 a2) λr=>.tup [.L b8.Pv r.1,.I r.2]:=by
 refine pO func330 λr h _ _=>?_;refine S4 3 J<|S3 2 J<|y0 J (x6 (cs:=[.I 1,.I a1,.I a2]) J Gt uM J J J)<|S2 2 J<|l6<|S3 2 J<|cA h lj J J λv1 _ h=>S2 1 J<|S4 2 J ?_;refine cN h (λhc h=>?_) λhc h=>?_
 .refine S3 3 J ?_;refine cF h lk J J λv2 _ h=>S2 2 J<|b9 ?_;cases h;exact⟨J,[_,_],⟨oS J J J Ao J,⟨oS J J J vx J,tr⟩⟩,J,io⟩
 .refine j5 ?_;refine jq h (λ_=>St.of [(3,.ptr 2004 0 0),(6,.ptr 2003 0 0),(7,.ptr 2002 0 0)] [(2002,vR (.I 0) 1),(2003,vR (.nl) 1),(2004,vR (.L b8.Pv a0) 1)]) (λq12 h=>?_) λκ11 h=>?_
  .refine S4 3 J ?_;refine b9 ?_;cases h;exact⟨J,[_,_],⟨oS J J J Ao J,⟨oS J J J vx J,tr⟩⟩,J,io⟩
  .refine S3 1 J ?_;refine nL J bO<|S1 1 J<|cF h rh J J λv13 _ h=>yN<|n0<|cy (vz (λl=>if l=2005 then 8 else if l=2006 then 7 else if l=2007 then 6 else if l=2008 then 3 else l) [(3,.ptr 2008 0 0),(6,.ptr 2007 0 0),(7,.ptr 2006 0 0),(8,.ptr 2005 0 0),(26,.fn (.func 370) [.rptr [.I v13.1],.rptr [.I v13.2]])] [(2005,vR (.agg [.I 1,.I a1,.I a2]) 3),(2006,vR (.I 0) 1),(2007,vR (.nl) 1),(2008,vR (.L b8.Pv a0) 1)]) ?_;refine dp (fn:=Tryz.f370) (N1:=20) J func370 J J nl J Gp J J (λl20 e21 o22 hR23=>?_);refine S4 2 J<|n0<|lq h (λs15=>St.of [(1000003,.ptr 2008 0 0),(1000006,.ptr 2007 0 0),(1000007,.ptr 2006 0 0),(1000008,.ptr 2005 0 0),(1000026,.fn (.func 370) [.rptr [.I v13.1],.rptr [.I v13.2]]),(0,.fn (.yield l20) []),(1,.rptr [.I v13.1]),(2,.rptr [.I v13.2]),(5,.I v13.1),(6,.I s15)] [(2005,vR (.agg [.I 1,.I a1,.I a2]) 3),(2006,vR (.I 0) 1),(2007,vR (.nl) 1),(2008,vR (.L b8.Pv a0) 1)]) W λs15 x16 h hx26=>S4 1 J<|l6 ?_;refine cN h (λhc h=>?_) λhc h=>?_
   .refine j5 ?_;refine l6<|n0<|S4 2 J<|Yi [] 8 y7 (by kernel_rfl) (by kernel_rfl) (by kernel_rfl) (by kernel_rfl) nl<|S7 3 J<|A2 h λv17 hv27 h=>d2 J (T4 J qZ J hv27) J<|S7 3 J<|A2 h λv18 hv28 h=>d7 J (λ_ hN=>wD J J hv28) J<|bA<|Mg (WE [(1000003,.ptr 2008 0 0),(1000006,.ptr 2007 0 0),(1000007,.ptr 2006 0 0),(1000008,.ptr 2005 0 0),(1000026,.fn (.func 370) [.rptr [.I v13.1],.rptr [.I v13.2]]),(0,.fn (.yield l20) []),(1,.rptr [.I v13.1]),(2,.rptr [.I v13.2]),(5,.I v13.1),(6,.I s15),(9,.fn (.yield l20) []),(16,.I v18)] [(2005,vR (.agg [.I 1,.I a1,.I a2]) 3),(2006,vR (.I 0) 1),(2007,vR (.nl) 1),(2008,vR (.L b8.Pv a0) 1)]) ?_;refine xD J hR23 J J J J J J (λe29 o30 o31=>?_);refine S6 1 J ?_;refine⟨J,?_⟩;refine n0<|S3 2 J<|iL h J J bO bJ λv19 _ h=>S2 3 J ?_;refine cN h (λhc h=>?_) λhc h=>?_
    .refine S3 3 J ?_;refine cF h lk J J λv20 _ h=>S2 2 J<|b9 ?_;refine⟨J,?_⟩;refine⟨_,sz [(1000003,.ptr 2008 0 0),(1000006,.ptr 2007 0 0),(1000007,.ptr 2006 0 0),(1000008,.ptr 2005 0 0),(1000026,.fn (.func 370) [.rptr [.I v13.1],.rptr [.I v13.2]]),(0,.fn (.yield l20) []),(1,.rptr [.I v13.1]),(2,.rptr [.I v13.2]),(5,.I v13.1),(6,.I s15),(17,.bool false)] [(2005,vR (.agg [.I 1,.I a1,.I a2]) 3),(2006,vR (.I 0) 1),(2007,vR (.L b8.Pv v20) 1),(2008,vR (.L b8.Pv a0) 1)] ⟨J,J,J,J,J,J,J,J,J,J,J,J,J,J,J,J,J,J,J,J,J,J,J,J,J,J,J,J,J,J,J,J,J,tr⟩ ⟨rS,rS,rS,rS,tr⟩,?_⟩;refine S8 1 J ?_;refine F3 true J (λ_=>?_) (λq=>nomatch q);refine b9 ?_;refine .inr ⟨.ret,J,Ps ?_⟩;have h:=xL hx26 h;cases h;exact⟨J,[_,_],⟨oS J J J Ao J,⟨oS J J J vx J,tr⟩⟩,J,io⟩
    .refine j5 ?_;refine⟨J,?_⟩;refine⟨_,sz [(1000003,.ptr 2008 0 0),(1000006,.ptr 2007 0 0),(1000007,.ptr 2006 0 0),(1000008,.ptr 2005 0 0),(1000026,.fn (.func 370) [.rptr [.I v13.1],.rptr [.I v13.2]]),(0,.fn (.yield l20) []),(1,.rptr [.I v13.1]),(2,.rptr [.I v13.2]),(5,.I v13.1),(6,.I s15),(17,.bool true)] [(2005,vR (.agg [.I 1,.I a1,.I a2]) 3),(2006,vR (.I 0) 1),(2007,vR (.nl) 1),(2008,vR (.L b8.Pv a0) 1)] ⟨J,J,J,J,J,J,J,J,J,J,J,J,J,J,J,J,J,J,J,J,J,J,J,J,J,J,J,J,J,J,J,J,J,tr⟩ ⟨rS,rS,rS,rS,tr⟩,?_⟩;refine S8 1 J ?_;refine F3 false J (λq=>nomatch q) (λ_=>?_);refine j5<|S6 2 J ?_;exact eL h W
   .refine y3 ?_;refine l5<|l5<|r8 ?_;refine .inl ⟨J,?_⟩;have h:=xL hx26 h;exact eJ h (WP (λl=>if l=2004 then 2008 else if l=2003 then 2007 else if l=2002 then 2006 else l))
theorem AO{a0 a1 a2}:PO prog 264 [.L b8.Pv a0,.I a1,.I a2] (P8 a0 a1 a2) λr=>.tup [.L b8.Pv r.1,.I r.2.1,.I r.2.2]:=by
 refine pO func264 λr h _ _=>?_;refine S4 3 J<|l6<|S4 2 J ?_;refine cN h (λhc h=>?_) λhc h=>?_
 .refine S4 4 J ?_;refine b9 ?_;cases h;exact f3
 .refine j5 ?_;refine S3 2 J<|cA h iJ J J λv1 _ h=>S2 5 J<|l6<|S4 2 J ?_;refine cN h (λhc h=>?_) λhc h=>?_
  .refine S3 2 J ?_;refine cF h qY J J λv2 _ h=>S2 7 J<|S4 5 J<|b9 ?_;cases h;exact f3
  .refine j5 ?_;refine S3 3 J<|cF h CS J J λv3 _ h=>S2 5 J<|l6<|S4 2 J ?_;refine cN h (λhc h=>?_) λhc h=>?_
   .refine S4 5 J ?_;refine b9 ?_;cases h;exact f3
   .refine j5 ?_;refine S4 5 J<|b9 ?_;cases h;exact f3
theorem mM{a0 a1}:PO prog 265 [H9.Pv a0,b6.Pv a1] (Y2 a0 a1) λr=>b6.Pv r:=by
 refine pO func265 λr h _ _=>?_;unfold Y2 at h;refine S4 3 J<|S4 4 J<|S4 2 J<|b9 ?_;cases h;exact⟨J,[_],⟨oL J J J w8 u0 nl J,tr⟩,J,io⟩
theorem bU{a0 a1 a2 a3}:PO prog 257 [b6.Pv a0,.I a1,.I a2,.abs (Rg 265 [H9.Pv a3])] (J4 a0 a1 a2 a3) λr=>b6.Pv r:=by
 refine pO func257 λr h _ _=>?_;refine S4 2 J<|S3 3 J<|cF h dd J J λv1 _ h=>A2 h λv2 hv2 h=>Cp (xs:=[b6.Pv v1]) J J Oe J (mM.2 _ hv2)<|S1 1 J<|cF h Z4 J J λv3 _ h=>S2 1 J<|b9 ?_;cases h;exact⟨J,[_],⟨oL J J J w8 u0 nl J,tr⟩,J,io⟩
end Go.Proofs.YtppgkaeodaaidaaGreatDoor.Ok
