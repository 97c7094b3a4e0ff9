/- A part. -/
import Derived.Test.YtppgkaeodaaidaaGreatDoorU3lPwC
import Derived.Test.YtppgkaeodaaidaaGreatDoorU3lPwD
import Derived.Test.YtppgkaeodaaidaaGreatDoorSrt
import Derived.Test.YtppgkaeodaaidaaGreatDoorSrtI
import Derived.Test.YtppgkaeodaaidaaGreatDoorU3lPwE
import Derived.Test.YtppgkaeodaaidaaGreatDoorStr
import Derived.Test.YtppgkaeodaaidaaGreatDoorU3lSh
import Derived.Test.YtppgkaeodaaidaaGreatDoorProg
set_option linter.unusedVariables false
set_option linter.unusedSimpArgs false
set_option linter.unusedSectionVars false
namespace Go.Proofs.YtppgkaeodaaidaaGreatDoor.Ok
open Go Go.Pw Go.Sh Go.Proofs Tryz
set_option maxRecDepth 100000
set_option maxHeartbeats 4000000
abbrev _root_.Go.Sh.u0.Pc(x:u0):List PV:=[.I x.Serial,.I x.Strong,.I x.Weak,.I x.Prog,.bool x.Started,.L O x.Fields]
abbrev _root_.Go.Sh.u0.Pv(x:u0):PV:=.agg x.Pc
abbrev _root_.Go.Sh.c5.Pc(x:c5):List PV:=[.I x.State,.I x.Gen,.I x.Val.Serial,.I x.Val.Strong,.I x.Val.Weak,.I x.Val.Prog,.bool x.Val.Started,.L O x.Val.Fields]
abbrev _root_.Go.Sh.c5.Pv(x:c5):PV:=.agg x.Pc
abbrev _root_.Go.Sh.l7.Pc(x:l7):List PV:=[.I x.Target,.bool x.Intact,.I x.Call]
abbrev _root_.Go.Sh.l7.Pv(x:l7):PV:=.agg x.Pc
abbrev _root_.Go.Sh.c8.Pc(x:c8):List PV:=[.I x.State,.I x.Key,.I x.Val]
abbrev _root_.Go.Sh.c8.Pv(x:c8):PV:=.agg x.Pc
abbrev _root_.Go.Sh.p8.Pc(x:p8):List PV:=[.I x.Kind,.I x.At,.I x.Prog]
abbrev _root_.Go.Sh.p8.Pv(x:p8):PV:=.agg x.Pc
abbrev _root_.Go.Sh.l6.Pc(x:l6):List PV:=[.I x.Kind,.I x.A,.I x.B,.I x.C]
abbrev _root_.Go.Sh.l6.Pv(x:l6):PV:=.agg x.Pc
abbrev _root_.Go.Sh.y7.Pc(x:y7):List PV:=[.I x.start,.I x.end_]
abbrev _root_.Go.Sh.y7.Pv(x:y7):PV:=.agg x.Pc
abbrev _root_.Go.Sh.l4.Pc(x:l4):List PV:=[.L c5.Pv x.a8,.I x.Last]
abbrev _root_.Go.Sh.l4.Pv(x:l4):PV:=.agg x.Pc
abbrev _root_.Go.Sh.a7.Pc(x:a7):List PV:=[.L c5.Pv x.S.a8,.I x.S.Last,.I x.Serial]
abbrev _root_.Go.Sh.a7.Pv(x:a7):PV:=.agg x.Pc
abbrev _root_.Go.Sh.n0.Pc(x:n0):List PV:=[.L p8.Pv x.L,.I x.Cap]
abbrev _root_.Go.Sh.n0.Pv(x:n0):PV:=.agg x.Pc
abbrev _root_.Go.Sh.b7.Pc(x:b7):List PV:=[.L c5.Pv x.S.S.a8,.I x.S.S.Last,.I x.S.Serial,.L O x.Roots,.L l7.Pv x.a8,.L c8.Pv x.T,.L p8.Pv x.Q.L,.I x.Q.Cap]
abbrev _root_.Go.Sh.b7.Pv(x:b7):PV:=.agg x.Pc
abbrev _root_.Go.Sh.A2.Pc(x:A2):List PV:=[.L c5.Pv x.X.S.S.a8,.I x.X.S.S.Last,.I x.X.S.Serial,.L O x.X.Roots,.L l7.Pv x.X.a8,.L c8.Pv x.X.T,.L p8.Pv x.X.Q.L,.I x.X.Q.Cap,.L (Ls l6.Pv) x.Progs]
abbrev _root_.Go.Sh.A2.Pv(x:A2):PV:=.agg x.Pc
abbrev _root_.Go.Sh.k7.Pc(x:k7):List PV:=[.L c5.Pv x.g.X.S.S.a8,.I x.g.X.S.S.Last,.I x.g.X.S.Serial,.L O x.g.X.Roots,.L l7.Pv x.g.X.a8,.L c8.Pv x.g.X.T,.L p8.Pv x.g.X.Q.L,.I x.g.X.Q.Cap,.L (Ls l6.Pv) x.g.Progs,.bool x.begun,.L (Ls l6.Pv) x.progs]
abbrev _root_.Go.Sh.k7.Pv(x:k7):PV:=.agg x.Pc
abbrev _root_.Go.Sh.l5.Pc(x:l5):List PV:=[Gd x.takes,Gd x.run,.bool x.early]
abbrev _root_.Go.Sh.l5.Pv(x:l5):PV:=.agg x.Pc
abbrev _root_.Go.Sh.o5.Pc(x:o5):List PV:=[uU x.part,.I x.least,.I x.most,.I x.e]
abbrev _root_.Go.Sh.o5.Pv(x:o5):PV:=.agg x.Pc
abbrev _root_.Go.Sh.y5.Pc(x:y5):List PV:=[.L c5.Pv x.x.S.S.a8,.I x.x.S.S.Last,.I x.x.S.Serial,.L O x.x.Roots,.L l7.Pv x.x.a8,.L c8.Pv x.x.T,.L p8.Pv x.x.Q.L,.I x.x.Q.Cap,.I x.o.Kind,.I x.o.A,.I x.o.B,.I x.o.C]
abbrev _root_.Go.Sh.y5.Pv(x:y5):PV:=.agg x.Pc
abbrev _root_.Go.Sh.M1.Pc(x:M1):List PV:=[.I x.r,.I x.h]
abbrev _root_.Go.Sh.M1.Pv(x:M1):PV:=.agg x.Pc
abbrev _root_.Go.Sh.L0.Pc(x:L0):List PV:=[.I x.h,.I x.k,.I x.v]
abbrev _root_.Go.Sh.L0.Pv(x:L0):PV:=.agg x.Pc
abbrev _root_.Go.Sh.M0.Pc(x:M0):List PV:=[.L c8.Pv x.t]
abbrev _root_.Go.Sh.M0.Pv(x:M0):PV:=.agg x.Pc
abbrev _root_.Go.Sh.w7.Pc(x:w7):List PV:=[.I x.Key,.I x.Val]
abbrev _root_.Go.Sh.w7.Pv(x:w7):PV:=.agg x.Pc
abbrev _root_.Go.Sh.o9.Pc(x:o9):List PV:=[.L O x.L,.I x.Cap]
abbrev _root_.Go.Sh.o9.Pv(x:o9):PV:=.agg x.Pc
abbrev _root_.Go.Sh.F4.Pc(x:F4):List PV:=[.I x.V,.I x.E]
abbrev _root_.Go.Sh.F4.Pv(x:F4):PV:=.agg x.Pc
abbrev _root_.Go.Sh.J2.Pc(x:J2):List PV:=[.I x.Serial,.I x.Strong,.I x.Weak,.I x.Prog,.bool x.Started,.L O x.Fields]
abbrev _root_.Go.Sh.J2.Pv(x:J2):PV:=.agg x.Pc
abbrev _root_.Go.Sh.x6.Pc(x:x6):List PV:=[.I x.State,.I x.Gen,.I x.Val.Serial,.I x.Val.Strong,.I x.Val.Weak,.I x.Val.Prog,.bool x.Val.Started,.L O x.Val.Fields]
abbrev _root_.Go.Sh.x6.Pv(x:x6):PV:=.agg x.Pc
abbrev _root_.Go.Sh.u6.Pc(x:u6):List PV:=[.I x.Target,.bool x.Intact,.I x.Call]
abbrev _root_.Go.Sh.u6.Pv(x:u6):PV:=.agg x.Pc
abbrev _root_.Go.Sh.o7.Pc(x:o7):List PV:=[.I x.State,.I x.Key,.I x.Val]
abbrev _root_.Go.Sh.o7.Pv(x:o7):PV:=.agg x.Pc
abbrev _root_.Go.Sh.y4.Pc(x:y4):List PV:=[.I x.Kind,.I x.At,.I x.Prog]
abbrev _root_.Go.Sh.y4.Pv(x:y4):PV:=.agg x.Pc
abbrev _root_.Go.Sh.u7.Pc(x:u7):List PV:=[.I x.Kind,.I x.A,.I x.B,.I x.C]
abbrev _root_.Go.Sh.u7.Pv(x:u7):PV:=.agg x.Pc
abbrev _root_.Go.Sh.p7.Pc(x:p7):List PV:=[.L x6.Pv x.a8,.I x.Last,.I x.Serial]
abbrev _root_.Go.Sh.p7.Pv(x:p7):PV:=.agg x.Pc
abbrev _root_.Go.Sh.C6.Pc(x:C6):List PV:=[.L y4.Pv x.L,.I x.Cap]
abbrev _root_.Go.Sh.C6.Pv(x:C6):PV:=.agg x.Pc
abbrev _root_.Go.Sh.e6.Pc(x:e6):List PV:=[.L x6.Pv x.S.a8,.I x.S.Last,.I x.S.Serial,.L O x.Roots,.L u6.Pv x.a8,.L o7.Pv x.T,.L y4.Pv x.Q.L,.I x.Q.Cap]
abbrev _root_.Go.Sh.e6.Pv(x:e6):PV:=.agg x.Pc
abbrev _root_.Go.Sh.E4.Pc(x:E4):List PV:=[.L x6.Pv x.X.S.a8,.I x.X.S.Last,.I x.X.S.Serial,.L O x.X.Roots,.L u6.Pv x.X.a8,.L o7.Pv x.X.T,.L y4.Pv x.X.Q.L,.I x.X.Q.Cap,.L (Ls u7.Pv) x.Progs]
abbrev _root_.Go.Sh.E4.Pv(x:E4):PV:=.agg x.Pc
abbrev _root_.Go.Sh.D8.Pc(x:D8):List PV:=[.L x6.Pv x.g.X.S.a8,.I x.g.X.S.Last,.I x.g.X.S.Serial,.L O x.g.X.Roots,.L u6.Pv x.g.X.a8,.L o7.Pv x.g.X.T,.L y4.Pv x.g.X.Q.L,.I x.g.X.Q.Cap,.L (Ls u7.Pv) x.g.Progs,.bool x.has,.L (Ls u7.Pv) x.progs]
abbrev _root_.Go.Sh.D8.Pv(x:D8):PV:=.agg x.Pc
abbrev _root_.Go.Sh.A7.Pc(x:A7):List PV:=[.I x.State,.I x.Gen,.I x.Val]
abbrev _root_.Go.Sh.A7.Pv(x:A7):PV:=.agg x.Pc
abbrev _root_.Go.Sh.B2.Pc(x:B2):List PV:=[.L A7.Pv x.a8,.I x.Last]
abbrev _root_.Go.Sh.B2.Pv(x:B2):PV:=.agg x.Pc
abbrev _root_.Go.Sh.E8.Pc(x:E8):List PV:=[.I x.Key,.I x.Val]
abbrev _root_.Go.Sh.E8.Pv(x:E8):PV:=.agg x.Pc
abbrev _root_.Go.Sh.M6.Pc(x:M6):List PV:=[.I x.V,.I x.E]
abbrev _root_.Go.Sh.M6.Pv(x:M6):PV:=.agg x.Pc
def tI(t:Nat):Nat:=if t=99 then 4 else if t=103 then 0 else if t=107 then 1 else 0
theorem H8:I4 prog 3=some false:=Φ
theorem ye:I4 prog 4=some false:=Φ
theorem ee:I4 prog 9=some false:=Φ
theorem Be:I4 prog 27=some false:=Φ
theorem nO:I4 prog 29=some true:=Φ
theorem Fa:I4 prog 34=some true:=Φ
theorem ZE:I4 prog 38=some false:=Φ
theorem iE:I4 prog 40=some true:=Φ
theorem nP:I4 prog 42=some true:=Φ
theorem KQ:I4 prog 43=some false:=Φ
theorem ZF:I4 prog 44=some false:=Φ
theorem Fb:I4 prog 45=some false:=Φ
theorem lI:I4 prog 48=some true:=Φ
theorem A0:I4 prog 50=some true:=Φ
theorem qi:I4 prog 53=some true:=Φ
theorem eQ:I4 prog 63=some true:=Φ
theorem QX:I4 prog 69=some false:=Φ
theorem bL:I4 prog 71=some true:=Φ
theorem QY:I4 prog 74=some false:=Φ
theorem wO:I4 prog 76=some true:=Φ
theorem C7:I4 prog 78=some true:=Φ
theorem tH:I4 prog 81=some true:=Φ
theorem iG:I4 prog 83=some true:=Φ
theorem Fc:I4 prog 92=some true:=Φ
theorem Ai:I4 prog 115=some true:=Φ
theorem Vy:I4 prog 120=some true:=Φ
theorem Vz:I4 prog 121=some false:=Φ
theorem VA:I4 prog 124=some true:=Φ
theorem VB:I4 prog 142=some false:=Φ
theorem uy:I4 prog 168=some true:=Φ
theorem VC:I4 prog 174=some false:=Φ
theorem Aj:I4 prog 175=some true:=Φ
theorem VD:I4 prog 180=some false:=Φ
theorem eO:I4 prog 182=some true:=Φ
theorem iZ:I4 prog 199=some true:=Φ
theorem eP:I4 prog 205=some true:=Φ
theorem MV:I4 prog 245=some true:=Φ
theorem kN:I4 prog 259=some true:=Φ
theorem MW:I4 prog 290=some false:=Φ
theorem ru:I4 prog 450=some true:=Φ
theorem G1:I1 prog 3=some 8:=Φ
theorem Nf:I1 prog 9=some 16:=Φ
theorem ZG:I1 prog 24=some 24:=Φ
theorem ZH:I1 prog 92=some 32:=Φ
theorem Fe:I1 prog 120=some 16:=Φ
theorem VE:I1 prog 142=some 24:=Φ
theorem MX:I1 prog 174=some 24:=Φ
theorem VF:I1 prog 175=some 32:=Φ
theorem MY:I1 prog 202=some 24:=Φ
theorem VG:I1 prog 205=some 24:=Φ
theorem MZ:I1 prog 224=some 80:=Φ
theorem Ff:I1 prog 247=some 80:=Φ
theorem Fg:I1 prog 252=some 24:=Φ
theorem Na:I1 prog 259=some 24:=Φ
theorem Fh:I1 prog 310=some 24:=Φ
theorem Nb:I1 prog 371=some 24:=Φ
theorem Nc:I1 prog 438=some 24:=Φ
theorem Nd:I1 prog 471=some 16:=Φ
theorem VH:I1 prog 488=some 16:=Φ
theorem D2:C1 prog 24=some 9:=Φ
theorem ab:C1 prog 38=some 224:=Φ
theorem k8:C1 prog 43=some 3:=Φ
theorem bl:C1 prog 44=some 202:=Φ
theorem dL:C1 prog 45=some 371:=Φ
theorem qj:C1 prog 46=some 205:=Φ
theorem jH:C1 prog 51=some 142:=Φ
theorem ae:C1 prog 69=some 247:=Φ
theorem bm:C1 prog 72=some 310:=Φ
theorem eR:C1 prog 73=some 438:=Φ
theorem gi:C1 prog 74=some 259:=Φ
theorem eT:C1 prog 79=some 174:=Φ
theorem Bf:C1 prog 84=some 24:=Φ
theorem kO:C1 prog 118=some 120:=Φ
theorem kP:C1 prog 142=some 92:=Φ
theorem gI:C1 prog 174=some 175:=Φ
theorem P2:C1 prog 180=some 252:=Φ
theorem cv:C1 prog 193=some 199:=Φ
theorem nQ:C1 prog 468=some 471:=Φ
theorem gJ:C1 prog 486=some 488:=Φ
theorem QZ:U5 prog 40 0=some (0,38):=Φ
theorem Ij:U5 prog 50 1=some (3,43):=Φ
theorem Ra:U5 prog 50 2=some (4,44):=Φ
theorem Rb:U5 prog 50 4=some (6,48):=Φ
theorem Ik:U5 prog 71 0=some (0,69):=Φ
theorem Rc:U5 prog 76 0=some (0,74):=Φ
theorem Re:U5 prog 78 4=some (6,76):=Φ
theorem Rf:U5 prog 92 0=some (0,3):=Φ
theorem Pb:U5 prog 124 0=some (0,121):=Φ
theorem Pd:U5 prog 124 2=some (2,4):=Φ
theorem Pe:U5 prog 168 1=some (1,3):=Φ
theorem Pf:U5 prog 168 2=some (2,3):=Φ
theorem DN:U5 prog 168 4=some (4,4):=Φ
theorem Pg:U5 prog 175 0=some (0,3):=Φ
theorem Ph:U5 prog 175 2=some (2,3):=Φ
theorem Pj:U5 prog 182 0=some (0,180):=Φ
theorem Pk:U5 prog 199 2=some (2,3):=Φ
theorem DO:U5 prog 202 0=some (0,3):=Φ
theorem Pl:U5 prog 202 1=some (1,4):=Φ
theorem DP:U5 prog 224 0=some (0,3):=Φ
theorem Pm:U5 prog 224 2=some (2,168):=Φ
theorem DQ:U5 prog 245 0=some (0,3):=Φ
theorem Pn:U5 prog 245 2=some (2,3):=Φ
theorem Po:U5 prog 245 3=some (3,3):=Φ
theorem Pp:U5 prog 245 4=some (4,4):=Φ
theorem DR:U5 prog 247 2=some (2,245):=Φ
theorem DS:U5 prog 252 0=some (0,3):=Φ
theorem Pq:U5 prog 259 1=some (1,3):=Φ
theorem Pr:U5 prog 310 0=some (0,3):=Φ
theorem Ps:U5 prog 310 1=some (1,4):=Φ
theorem Pt:U5 prog 371 1=some (1,3):=Φ
theorem Pu:U5 prog 438 1=some (1,3):=Φ
theorem Px:U5 prog 471 0=some (0,3):=Φ
theorem DT:U5 prog 471 1=some (1,3):=Φ
theorem Py:U5 prog 488 0=some (0,3):=Φ
theorem Pz:U5 prog 488 1=some (1,3):=Φ
theorem YM:UZ prog 3=some .i64:=Φ
theorem ZI:B0 prog 21:=kC func21 J
theorem KR:B0 prog 28:=kC func28 J
theorem ZJ:B0 prog 69:=kC func69 J
theorem ZK:B0 prog 75:=kC func75 J
theorem ZL:B0 prog 76:=kC func76 J
theorem ZM:B0 prog 78:=kC func78 J
theorem ZN:B0 prog 80:=kC func80 J
theorem ZO:B0 prog 81:=kC func81 J
theorem ZP:B0 prog 82:=kC func82 J
theorem Ng:B0 prog 119:=kC func119 J
theorem VI:B0 prog 126:=kC func126 J
theorem VJ:B0 prog 127:=kC func127 J
theorem VK:B0 prog 129:=kC func129 J
theorem VL:B0 prog 137:=kC func137 J
theorem VM:B0 prog 138:=kC func138 J
theorem VN:B0 prog 212:=kC func212 J
theorem VO:B0 prog 258:=kC func258 J
theorem VP:B0 prog 265:=kC func265 J
theorem VQ:B0 prog 276:=kC func276 J
theorem VR:B0 prog 287:=kC func287 J
theorem VS:B0 prog 298:=kC func298 J
theorem VU:B0 prog 367:=kC func367 J
theorem VV:B0 prog 369:=kC func369 J
theorem Nh:B0 prog 370:=kC func370 J
theorem Ni:B0 prog 373:=kC func373 J
theorem VW:B0 prog 406:=kC func406 J
theorem Nj:B0 prog 407:=kC func407 J
theorem N9:sV prog 126=some (9,124):=Φ
theorem bM:sV prog 151=some (3,149):=Φ
theorem af:sV prog 195=some (3,193):=Φ
theorem Bg:sV prog 222=some (3,3):=Φ
theorem gW:sV prog 290=some (3,4):=Φ
theorem ZQ:C2 prog 29=some (λi=>(#[(0,1),(1,1)]:Array (Nat × Nat))[i]?):=Φ
theorem Fo:C2 prog 34=some (λi=>(#[(0,1),(1,1)]:Array (Nat × Nat))[i]?):=Φ
theorem Rg:C2 prog 40=some (λi=>(#[(0,1),(1,1)]:Array (Nat × Nat))[i]?):=Φ
theorem Rh:C2 prog 42=some (λi=>(#[(0,2),(2,1)]:Array (Nat × Nat))[i]?):=Φ
theorem ZR:C2 prog 48=some (λi=>(#[(0,1),(1,1)]:Array (Nat × Nat))[i]?):=Φ
theorem Ri:C2 prog 50=some (λi=>(#[(0,3),(3,1),(4,1),(5,1),(6,2)]:Array (Nat × Nat))[i]?):=Φ
theorem KS:C2 prog 53=some (λi=>(#[(0,8),(8,1)]:Array (Nat × Nat))[i]?):=Φ
theorem KU:C2 prog 71=some (λi=>(#[(0,1),(1,1),(2,1)]:Array (Nat × Nat))[i]?):=Φ
theorem KV:C2 prog 76=some (λi=>(#[(0,1),(1,1)]:Array (Nat × Nat))[i]?):=Φ
theorem Rj:C2 prog 78=some (λi=>(#[(0,3),(3,1),(4,1),(5,1),(6,2)]:Array (Nat × Nat))[i]?):=Φ
theorem wP:C2 prog 81=some (λi=>(#[(0,8),(8,1)]:Array (Nat × Nat))[i]?):=Φ
theorem ZS:C2 prog 83=some (λi=>(#[(0,9),(9,1),(10,1)]:Array (Nat × Nat))[i]?):=Φ
theorem Fq:C2 prog 92=some (λi=>(#[(0,1),(1,1),(2,1),(3,1)]:Array (Nat × Nat))[i]?):=Φ
theorem ZT:C2 prog 99=some (λi=>(#[(0,4)]:Array (Nat × Nat))[i]?):=Φ
theorem VX:C2 prog 103=some (λi=>(#[]:Array (Nat × Nat))[i]?):=Φ
theorem VY:C2 prog 107=some (λi=>(#[(0,1)]:Array (Nat × Nat))[i]?):=Φ
theorem VZ:C2 prog 115=some (λi=>some (i*1,1)):=Φ
theorem Nk:C2 prog 120=some (λi=>(#[(0,1),(1,1)]:Array (Nat × Nat))[i]?):=Φ
theorem rv:C2 prog 124=some (λi=>(#[(0,1),(1,1),(2,1)]:Array (Nat × Nat))[i]?):=Φ
theorem Wa:C2 prog 155=some (λi=>(#[(0,8),(8,4)]:Array (Nat × Nat))[i]?):=Φ
theorem Wb:C2 prog 168=some (λi=>(#[(0,1),(1,1),(2,1),(3,1),(4,1),(5,1)]:Array (Nat × Nat))[i]?):=Φ
theorem Ak:C2 prog 175=some (λi=>(#[(0,1),(1,1),(2,1),(3,1)]:Array (Nat × Nat))[i]?):=Φ
theorem Al:C2 prog 182=some (λi=>(#[(0,1),(1,1)]:Array (Nat × Nat))[i]?):=Φ
theorem eU:C2 prog 199=some (λi=>(#[(0,1),(1,1),(2,1),(3,1)]:Array (Nat × Nat))[i]?):=Φ
theorem Wc:C2 prog 202=some (λi=>(#[(0,1),(1,1),(2,1)]:Array (Nat × Nat))[i]?):=Φ
theorem Fi:C2 prog 205=some (λi=>(#[(0,1),(1,1),(2,1)]:Array (Nat × Nat))[i]?):=Φ
theorem Am:C2 prog 224=some (λi=>(#[(0,1),(1,1),(2,6)]:Array (Nat × Nat))[i]?):=Φ
theorem Fl:C2 prog 245=some (λi=>(#[(0,1),(1,1),(2,1),(3,1),(4,1),(5,1)]:Array (Nat × Nat))[i]?):=Φ
theorem Wd:C2 prog 247=some (λi=>(#[(0,1),(1,1),(2,6)]:Array (Nat × Nat))[i]?):=Φ
theorem uz:C2 prog 252=some (λi=>(#[(0,1),(1,1),(2,1)]:Array (Nat × Nat))[i]?):=Φ
theorem An:C2 prog 259=some (λi=>(#[(0,1),(1,1),(2,1)]:Array (Nat × Nat))[i]?):=Φ
theorem Nl:C2 prog 310=some (λi=>(#[(0,1),(1,1),(2,1)]:Array (Nat × Nat))[i]?):=Φ
theorem We:C2 prog 348=some (λi=>(#[(0,1),(1,1),(2,1)]:Array (Nat × Nat))[i]?):=Φ
theorem Wf:C2 prog 356=some (λi=>(#[(0,1)]:Array (Nat × Nat))[i]?):=Φ
theorem Nn:C2 prog 371=some (λi=>(#[(0,1),(1,1),(2,1)]:Array (Nat × Nat))[i]?):=Φ
theorem Wg:C2 prog 376=some (λi=>(#[(0,1)]:Array (Nat × Nat))[i]?):=Φ
theorem Wh:C2 prog 388=some (λi=>(#[(0,1),(1,1)]:Array (Nat × Nat))[i]?):=Φ
theorem Fp:C2 prog 438=some (λi=>(#[(0,1),(1,1),(2,1)]:Array (Nat × Nat))[i]?):=Φ
theorem Wi:C2 prog 450=some (λi=>(#[(0,1),(1,1)]:Array (Nat × Nat))[i]?):=Φ
theorem No:C2 prog 471=some (λi=>(#[(0,1),(1,1)]:Array (Nat × Nat))[i]?):=Φ
theorem Wj:C2 prog 488=some (λi=>(#[(0,1),(1,1)]:Array (Nat × Nat))[i]?):=Φ
theorem Rk:tY prog 99=true:=Φ
theorem Np:tY prog 103=true:=Φ
theorem Nq:tY prog 107=true:=Φ
theorem ja:DI prog 115=some (4,3):=Φ
theorem o8:w9 prog 3=some 1:=Φ
theorem a2o:w9 prog 4=some 1:=Φ
theorem J3:w9 prog 9=some 1:=Φ
theorem Fs:w9 prog 24=some 1:=Φ
theorem gj:w9 prog 29=some 2:=Φ
theorem Bh:w9 prog 34=some 2:=Φ
theorem eX:w9 prog 40=some 2:=Φ
theorem nT:w9 prog 42=some 3:=Φ
theorem Ft:w9 prog 43=some 1:=Φ
theorem Rl:w9 prog 46=some 1:=Φ
theorem eY:w9 prog 48=some 2:=Φ
theorem y3:w9 prog 50=some 8:=Φ
theorem dM:w9 prog 53=some 9:=Φ
theorem V4:w9 prog 63=some 11:=Φ
theorem aD:w9 prog 71=some 3:=Φ
theorem lJ:w9 prog 76=some 2:=Φ
theorem y9:w9 prog 78=some 8:=Φ
theorem jI:w9 prog 81=some 9:=Φ
theorem aE:w9 prog 83=some 11:=Φ
theorem nU:w9 prog 92=some 4:=Φ
theorem Wl:w9 prog 103=some 0:=Φ
theorem Ao:w9 prog 115=some 4:=Φ
theorem nR:w9 prog 120=some 2:=Φ
theorem Nr:w9 prog 124=some 3:=Φ
theorem jb:w9 prog 142=some 1:=Φ
theorem kQ:w9 prog 168=some 6:=Φ
theorem eV:w9 prog 174=some 1:=Φ
theorem eW:w9 prog 175=some 4:=Φ
theorem Wm:w9 prog 180=some 1:=Φ
theorem bz:w9 prog 182=some 2:=Φ
theorem P3:w9 prog 199=some 4:=Φ
theorem bA:w9 prog 202=some 3:=Φ
theorem R1:w9 prog 205=some 3:=Φ
theorem Z3:w9 prog 224=some 8:=Φ
theorem ry:w9 prog 245=some 6:=Φ
theorem X4:w9 prog 247=some 8:=Φ
theorem W4:w9 prog 252=some 3:=Φ
theorem R2:w9 prog 259=some 3:=Φ
theorem Z4:w9 prog 310=some 3:=Φ
theorem dE:w9 prog 371=some 3:=Φ
theorem dF:w9 prog 438=some 3:=Φ
theorem kR:w9 prog 450=some 2:=Φ
theorem uA:w9 prog 471=some 2:=Φ
theorem kS:w9 prog 488=some 2:=Φ
theorem Q3:prog.underlying 3=some (.int .i64):=Φ
theorem a2p:prog.underlying 4=some (.bool):=Φ
theorem a2q:prog.underlying 5=some (.int .u8):=Φ
theorem J0:prog.underlying 9=some (.string):=Φ
theorem ZU:prog.underlying 21=some (.int .i32):=Φ
theorem A3:B1 prog 3=some ((.I 0)):=Φ
theorem Il:B1 prog 4=some ((.bool false)):=Φ
theorem yf:B1 prog 9=some ((.string ByteArray.empty)):=Φ
theorem Rm:B1 prog 24=some ((.slice none 0 0)):=Φ
theorem ZV:B1 prog 29=some ((.agg #[(.I 0),(.I 0)])):=Φ
theorem FA:B1 prog 34=some ((.agg #[(.I 0),(.I 0)])):=Φ
theorem Rn:B1 prog 40=some ((.agg #[(.slice none 0 0),(.I 0)])):=Φ
theorem Ro:B1 prog 42=some ((.agg #[(.slice none 0 0),(.I 0),(.I 0)])):=Φ
theorem ZW:B1 prog 48=some ((.agg #[(.slice none 0 0),(.I 0)])):=Φ
theorem Rp:B1 prog 50=some ((.agg #[(.slice none 0 0),(.I 0),(.I 0),(.slice none 0 0),(.slice none 0 0),(.slice none 0 0),(.slice none 0 0),(.I 0)])):=Φ
theorem KW:B1 prog 53=some ((.agg #[(.slice none 0 0),(.I 0),(.I 0),(.slice none 0 0),(.slice none 0 0),(.slice none 0 0),(.slice none 0 0),(.I 0),(.slice none 0 0)])):=Φ
theorem KX:B1 prog 71=some ((.agg #[(.slice none 0 0),(.I 0),(.I 0)])):=Φ
theorem KY:B1 prog 76=some ((.agg #[(.slice none 0 0),(.I 0)])):=Φ
theorem Rq:B1 prog 78=some ((.agg #[(.slice none 0 0),(.I 0),(.I 0),(.slice none 0 0),(.slice none 0 0),(.slice none 0 0),(.slice none 0 0),(.I 0)])):=Φ
theorem wU:B1 prog 81=some ((.agg #[(.slice none 0 0),(.I 0),(.I 0),(.slice none 0 0),(.slice none 0 0),(.slice none 0 0),(.slice none 0 0),(.I 0),(.slice none 0 0)])):=Φ
theorem ZX:B1 prog 83=some ((.agg #[(.slice none 0 0),(.I 0),(.I 0),(.slice none 0 0),(.slice none 0 0),(.slice none 0 0),(.slice none 0 0),(.I 0),(.slice none 0 0),(.bool false),(.slice none 0 0)])):=Φ
theorem wV:B1 prog 92=some ((.agg #[(.I 0),(.I 0),(.I 0),(.I 0)])):=Φ
theorem Rr:B1 prog 99=some ((.agg #[(.I 0),(.I 0),(.I 0),(.I 0)])):=Φ
theorem Ns:B1 prog 103=some ((.agg #[])):=Φ
theorem Nt:B1 prog 107=some ((.agg #[(.I 0)])):=Φ
theorem Wn:B1 prog 115=some ((.agg #[(.I 0),(.I 0),(.I 0),(.I 0)])):=Φ
theorem nV:B1 prog 120=some ((.agg #[(.I 0),(.I 0)])):=Φ
theorem nW:B1 prog 124=some ((.agg #[.nilFunc,.nilFunc,(.bool false)])):=Φ
theorem Wo:B1 prog 142=some ((.slice none 0 0)):=Φ
theorem Wp:B1 prog 149=some (.nilFunc):=Φ
theorem Wq:B1 prog 155=some ((.agg #[(.slice none 0 0),(.I 0),(.I 0),(.slice none 0 0),(.slice none 0 0),(.slice none 0 0),(.slice none 0 0),(.I 0),(.I 0),(.I 0),(.I 0),(.I 0)])):=Φ
theorem Wr:B1 prog 168=some ((.agg #[(.I 0),(.I 0),(.I 0),(.I 0),(.bool false),(.slice none 0 0)])):=Φ
theorem Fu:B1 prog 174=some ((.slice none 0 0)):=Φ
theorem rz:B1 prog 175=some ((.agg #[(.I 0),(.I 0),(.I 0),(.I 0)])):=Φ
theorem Ap:B1 prog 182=some ((.agg #[(.slice none 0 0),(.I 0)])):=Φ
theorem Ws:B1 prog 193=some ((.slice none 0 0)):=Φ
theorem N6:B1 prog 199=some ((.agg #[.nilFunc,(.I 0),(.I 0),(.I 0)])):=Φ
theorem Fy:B1 prog 202=some ((.agg #[(.I 0),(.bool false),(.I 0)])):=Φ
theorem uB:B1 prog 205=some ((.agg #[(.I 0),(.I 0),(.I 0)])):=Φ
theorem rA:B1 prog 224=some ((.agg #[(.I 0),(.I 0),(.I 0),(.I 0),(.I 0),(.I 0),(.bool false),(.slice none 0 0)])):=Φ
theorem Fz:B1 prog 245=some ((.agg #[(.I 0),(.I 0),(.I 0),(.I 0),(.bool false),(.slice none 0 0)])):=Φ
theorem uC:B1 prog 247=some ((.agg #[(.I 0),(.I 0),(.I 0),(.I 0),(.I 0),(.I 0),(.bool false),(.slice none 0 0)])):=Φ
theorem jc:B1 prog 252=some ((.agg #[(.I 0),(.I 0),(.I 0)])):=Φ
theorem nX:B1 prog 259=some ((.agg #[(.I 0),(.I 0),(.I 0)])):=Φ
theorem nY:B1 prog 310=some ((.agg #[(.I 0),(.bool false),(.I 0)])):=Φ
theorem Wt:B1 prog 348=some ((.agg #[(.I 0),(.I 0),(.I 0)])):=Φ
theorem Wu:B1 prog 356=some ((.agg #[(.slice none 0 0)])):=Φ
theorem Aq:B1 prog 371=some ((.agg #[(.I 0),(.I 0),(.I 0)])):=Φ
theorem Wv:B1 prog 376=some ((.agg #[.nilFunc])):=Φ
theorem Ww:B1 prog 388=some ((.agg #[(.I 0),(.I 0)])):=Φ
theorem uD:B1 prog 438=some ((.agg #[(.I 0),(.I 0),(.I 0)])):=Φ
theorem Wx:B1 prog 450=some ((.agg #[(.slice none 0 0),(.I 0)])):=Φ
theorem rB:B1 prog 471=some ((.agg #[(.I 0),(.I 0)])):=Φ
theorem FC:B1 prog 488=some ((.agg #[(.I 0),(.I 0)])):=Φ
theorem u5:prog.follows .mixedOrders=true:=Φ
def tb:TB:=⟨[((29,0),(0,3)),((29,1),(1,27)),((34,0),(0,3)),((34,1),(1,27)),((40,0),(0,38)),((40,1),(1,3)),((42,0),(0,40)),((42,1),(2,3)),((48,0),(0,46)),((48,1),(1,3)),((50,0),(0,42)),((50,1),(3,43)),((50,2),(4,44)),((50,3),(5,45)),((50,4),(6,48)),((53,0),(0,50)),((53,1),(8,51)),((63,0),(0,53)),((63,1),(9,4)),((63,2),(10,51)),((71,0),(0,69)),((71,1),(1,3)),((71,2),(2,3)),((76,0),(0,74)),((76,1),(1,3)),((78,0),(0,71)),((78,1),(3,43)),((78,2),(4,72)),((78,3),(5,73)),((78,4),(6,76)),((81,0),(0,78)),((81,1),(8,79)),((83,0),(0,81)),((83,1),(9,4)),((83,2),(10,79)),((92,0),(0,3)),((92,1),(1,3)),((92,2),(2,3)),((92,3),(3,3)),((99,0),(0,92)),((107,0),(0,3)),((120,0),(0,3)),((120,1),(1,3)),((124,1),(1,122)),((155,0),(0,50)),((155,1),(8,92)),((168,0),(0,3)),((168,1),(1,3)),((168,2),(2,3)),((168,3),(3,3)),((168,4),(4,4)),((168,5),(5,43)),((175,0),(0,3)),((175,1),(1,3)),((175,2),(2,3)),((175,3),(3,3)),((182,0),(0,180)),((182,1),(1,3)),((199,0),(0,197)),((199,1),(1,3)),((199,3),(3,27)),((202,0),(0,3)),((202,1),(1,4)),((202,2),(2,3)),((205,0),(0,3)),((205,1),(1,3)),((205,2),(2,3)),((224,0),(0,3)),((224,1),(1,3)),((224,2),(2,168)),((245,0),(0,3)),((245,1),(1,3)),((245,2),(2,3)),((245,3),(3,3)),((245,4),(4,4)),((245,5),(5,43)),((247,0),(0,3)),((247,1),(1,3)),((247,2),(2,245)),((252,0),(0,3)),((252,1),(1,3)),((252,2),(2,3)),((259,0),(0,3)),((259,1),(1,3)),((259,2),(2,3)),((310,0),(0,3)),((310,1),(1,4)),((310,2),(2,3)),((348,0),(0,3)),((348,1),(1,3)),((348,2),(2,3)),((356,0),(0,45)),((371,0),(0,3)),((371,1),(1,3)),((371,2),(2,3)),((376,0),(0,374)),((388,0),(0,3)),((388,1),(1,3)),((438,0),(0,3)),((438,1),(1,3)),((438,2),(2,3)),((450,0),(0,43)),((450,1),(1,3)),((471,0),(0,3)),((471,1),(1,3)),((488,0),(0,3)),((488,1),(1,3))],[(3,false),(4,false),(9,false),(24,false),(27,false),(29,true),(34,true),(38,false),(40,true),(42,true),(43,false),(44,false),(45,false),(46,false),(48,true),(50,true),(51,false),(53,true),(63,true),(69,false),(71,true),(72,false),(73,false),(74,false),(76,true),(78,true),(79,false),(81,true),(83,true),(92,true),(115,true),(122,false),(142,false),(155,true),(168,true),(174,false),(175,true),(180,false),(182,true),(197,false),(199,true),(202,true),(205,true),(222,false),(224,true),(245,true),(252,true),(259,true),(290,false),(310,true),(371,true),(374,false),(376,true),(438,true),(450,true),(468,false),(471,true),(479,false)],[(3,1),(4,1),(27,1),(29,2),(34,2),(38,1),(40,2),(42,3),(43,1),(44,1),(45,1),(48,2),(50,8),(51,1),(53,9),(63,11),(71,3),(72,1),(73,1),(76,2),(78,8),(79,1),(81,9),(83,11),(92,4),(99,4),(107,1),(115,4),(120,2),(124,3),(155,12),(168,6),(175,4),(182,2),(199,4),(202,3),(205,3),(222,1),(224,8),(245,6),(252,3),(259,3),(290,1),(310,3),(371,3),(376,1),(438,3),(450,2),(468,1),(471,2)],[(3,.I 0),(4,.bool false),(27,.I 0),(29,.agg [.I 0,.I 0]),(34,.agg [.I 0,.I 0]),(40,.agg [.H4 true (List.map c5.Pv []),.I 0]),(42,.agg [.H4 true (List.map c5.Pv []),.I 0,.I 0]),(43,.H4 true (List.map O [])),(45,.H4 true (List.map c8.Pv [])),(48,.agg [.H4 true (List.map p8.Pv []),.I 0]),(50,.agg [.H4 true (List.map c5.Pv []),.I 0,.I 0,.H4 true (List.map O []),.H4 true (List.map l7.Pv []),.H4 true (List.map c8.Pv []),.H4 true (List.map p8.Pv []),.I 0]),(53,.agg [.H4 true (List.map c5.Pv []),.I 0,.I 0,.H4 true (List.map O []),.H4 true (List.map l7.Pv []),.H4 true (List.map c8.Pv []),.H4 true (List.map p8.Pv []),.I 0,.H4 true (List.map (Ls l6.Pv) [])]),(63,.agg [.H4 true (List.map c5.Pv []),.I 0,.I 0,.H4 true (List.map O []),.H4 true (List.map l7.Pv []),.H4 true (List.map c8.Pv []),.H4 true (List.map p8.Pv []),.I 0,.H4 true (List.map (Ls l6.Pv) []),.bool false,.H4 true (List.map (Ls l6.Pv) [])]),(71,.agg [.H4 true (List.map x6.Pv []),.I 0,.I 0]),(76,.agg [.H4 true (List.map y4.Pv []),.I 0]),(78,.agg [.H4 true (List.map x6.Pv []),.I 0,.I 0,.H4 true (List.map O []),.H4 true (List.map u6.Pv []),.H4 true (List.map o7.Pv []),.H4 true (List.map y4.Pv []),.I 0]),(81,.agg [.H4 true (List.map x6.Pv []),.I 0,.I 0,.H4 true (List.map O []),.H4 true (List.map u6.Pv []),.H4 true (List.map o7.Pv []),.H4 true (List.map y4.Pv []),.I 0,.H4 true (List.map (Ls u7.Pv) [])]),(83,.agg [.H4 true (List.map x6.Pv []),.I 0,.I 0,.H4 true (List.map O []),.H4 true (List.map u6.Pv []),.H4 true (List.map o7.Pv []),.H4 true (List.map y4.Pv []),.I 0,.H4 true (List.map (Ls u7.Pv) []),.bool false,.H4 true (List.map (Ls u7.Pv) [])]),(92,.agg [.I 0,.I 0,.I 0,.I 0]),(99,.agg [.I 0,.I 0,.I 0,.I 0]),(103,.agg []),(107,.agg [.I 0]),(115,.agg [.I 0,.I 0,.I 0,.I 0]),(120,.agg [.I 0,.I 0]),(124,.agg [.nilfn,.nilfn,.bool false]),(168,.agg [.I 0,.I 0,.I 0,.I 0,.bool false,.H4 true (List.map O [])]),(175,.agg [.I 0,.I 0,.I 0,.I 0]),(182,.agg [.H4 true (List.map A7.Pv []),.I 0]),(199,.agg [.nilfn,.I 0,.I 0,.I 0]),(202,.agg [.I 0,.bool false,.I 0]),(205,.agg [.I 0,.I 0,.I 0]),(222,.abs KO),(224,.agg [.I 0,.I 0,.I 0,.I 0,.I 0,.I 0,.bool false,.H4 true (List.map O [])]),(245,.agg [.I 0,.I 0,.I 0,.I 0,.bool false,.H4 true (List.map O [])]),(252,.agg [.I 0,.I 0,.I 0]),(259,.agg [.I 0,.I 0,.I 0]),(290,.abs KO),(310,.agg [.I 0,.bool false,.I 0]),(371,.agg [.I 0,.I 0,.I 0]),(376,.agg [.nilfn]),(450,.agg [.H4 true (List.map O []),.I 0]),(468,.H4 true (List.map w7.Pv [])),(471,.agg [.I 0,.I 0])]⟩
theorem Tb:TB.Ok prog tb:=⟨Φ,Φ,Φ,Φ⟩
section
variable{X:Ctx}{ops:Array Oper}{K:Ctx->St->Prop}{i n:Nat}{l l':List Oper}{env env':Nat->PV}{σ σ':Nat->Option Row}{Q:PX->Ctx->St->Prop}{y:Code}{KD:St->Prop}{bar:List Nat}
theorem S1(n:Nat)(h:run tb n l env σ=some (l',env',σ'))(k:Sq X ops (i+n) l' K ⟨env',σ'⟩)(hb:TB.Ok X.P tb:=by exact Tb):Sq X ops i l K ⟨env,σ⟩:=seg hb n h k
theorem M(n:Nat)(h:run tb n l env σ=some ([],env',σ'))(k:K X ⟨env',σ'⟩)(hb:TB.Ok X.P tb:=by exact Tb):Sq X ops i l K ⟨env,σ⟩:=seg hb n h (yN k)
theorem U{id:Nat}(n:Nat)(h:run tb n l env σ=some (l',env',σ'))(k:Sq X l.toArray (0+n) l' (λX' s=>Z2 X' y Q s) ⟨env',σ'⟩)(hd:hZ X.N l.toArray=true:=by kernel_rfl)(hb:TB.Ok X.P tb:=by exact Tb):Z2 X (.seq (.region id l.toArray false) y) Q ⟨env,σ⟩:=sr hd (seg hb n h k)
theorem D{id:Nat}(n:Nat)(h:run tb n l env σ=some ([],env',σ'))(k:Z2 X y Q ⟨env',σ'⟩)(hd:hZ X.N l.toArray=true:=by kernel_rfl)(hb:TB.Ok X.P tb:=by exact Tb):Z2 X (.seq (.region id l.toArray false) y) Q ⟨env,σ⟩:=sr hd (seg hb n h (yN k))
theorem S5{id:Nat}(n:Nat)(h:run tb n l env σ=some (l',env',σ'))(k:Sq X l.toArray (0+n) l' (Q .normal) ⟨env',σ'⟩)(hd:hZ X.N l.toArray=true:=by kernel_rfl)(hb:TB.Ok X.P tb:=by exact Tb):Z2 X (.region id l.toArray false) Q ⟨env,σ⟩:=Zt hd (seg hb n h k)
theorem S6{id:Nat}(n:Nat)(h:run tb n l env σ=some ([],env',σ'))(k:Q .normal X ⟨env',σ'⟩)(hd:hZ X.N l.toArray=true:=by kernel_rfl)(hb:TB.Ok X.P tb:=by exact Tb):Z2 X (.region id l.toArray false) Q ⟨env,σ⟩:=Zt hd (seg hb n h (yN k))
theorem S7(n:Nat)(h:Yf tb bar n i l env σ=some (l',env',σ'))(k:Ex X.P ops bar true (i+n) l' ⟨env',σ'⟩ KD)(hb:TB.Ok X.P tb:=by exact Tb):Ex X.P ops bar true i l ⟨env,σ⟩ KD:=dG hb n h k
theorem S8(n:Nat)(h:Yf tb bar n i l env σ=some ([],env',σ'))(k:KD ⟨env',σ'⟩)(hb:TB.Ok X.P tb:=by exact Tb):Ex X.P ops bar true i l ⟨env,σ⟩ KD:=dG hb n h k
end
theorem a1P:EZ prog (Tryz.sortF_ren.f 6):=QE Tryz.sortF
theorem Ym:Ah prog (Tryz.sortI_ren.f 5):=MF Tryz.sortI
theorem SU{n:Int}{r:ByteArray}(h:nB n=some r):S0 prog 28 [.I n] (.str r):=
 XN (P:=prog) (ρ:=Tryz.itoaL_ren) Tryz.itoaL (by rw[show prog.globalNamed (Kr prog)=some a3v by kernel_rfl];exact nofun) (λw hT n h0 a=>Any.strconv_Itoa Tryz.itoaL n h0 a w (cast Φ hT)) h
theorem a1Q{s sep:ByteArray}{xs:List ByteArray}(h:xU s sep=some xs):S0 prog 21 [.str s,.str sep] (.H4 false (xs.map PV.str)):=
 Ua (P:=prog) (ρ:=Tryz.splitL_ren) Tryz.splitL Φ Φ h
variable {p:Prop}
theorem Λ(k:p:=by cases h;exact f1):p:=k
theorem Ωa(k:p:=by cases h;exact f2):p:=k
theorem Ωd(k:p:=by cases h;exact⟨J,[_,_],⟨oL J J J A0 y3 nl J,⟨J,tr⟩⟩,J,io⟩):p:=k
theorem Ωf(k:p:=by cases h;exact⟨J,[_],⟨oL J J J A0 y3 nl J,tr⟩,J,io⟩):p:=k
theorem Ωh(k:p:=by cases h;exact f3):p:=k
theorem Ωk(k:p:=by cases h;exact⟨J,[_,_,_],⟨oL J J J C7 y9 nl J,⟨J,⟨J,tr⟩⟩⟩,J,io⟩):p:=k
theorem Ωl(k:p:=by cases h;exact⟨J,[_],⟨oL J J J C7 y9 nl J,tr⟩,J,io⟩):p:=k
theorem Ωo(k:p:=by cases h;exact⟨J,[_,_],⟨oL J J J C7 y9 nl J,⟨J,tr⟩⟩,J,io⟩):p:=k
theorem Ωp(k:p:=by cases h;exact⟨J,[_,_],⟨oL J J J eQ V4 nl J,⟨J,tr⟩⟩,J,io⟩):p:=k
theorem Ωq(k:p:=by cases h;exact⟨J,[_,_],⟨oL J J J iG aE nl J,⟨J,tr⟩⟩,J,io⟩):p:=k
theorem Ωt(k:p:=by cases h;exact⟨J,[_],⟨oL J J J iZ P3 nl J,tr⟩,J,io⟩):p:=k
theorem ΩB(k:p:=by cases h;exact⟨J,[_,_],⟨oL J J J iE eX nl J,⟨J,tr⟩⟩,J,io⟩):p:=k
theorem ΩF(k:p:=by cases h;exact⟨J,[_,_,_],⟨oL J J J A0 y3 nl J,⟨J,⟨J,tr⟩⟩⟩,J,io⟩):p:=k
theorem ΩG(k:p:=by cases h;exact⟨J,[_],⟨oL J J J bL aD nl J,tr⟩,J,io⟩):p:=k
theorem ΩQ(k:p:=by cases h;exact⟨J,[_,_],⟨oL J J J qi dM nl J,⟨oL J J J nO gj nl J,tr⟩⟩,J,io⟩):p:=k
theorem ΩR(k:p:=by cases h;exact⟨J,[_,_],⟨oL J J J bL aD nl J,⟨J,tr⟩⟩,J,io⟩):p:=k
theorem ΩS(k:p:=by cases h;exact⟨J,[_,_],⟨oL J J J eO bz nl J,⟨J,tr⟩⟩,J,io⟩):p:=k
theorem ΩT(k:p:=by cases h;exact⟨J,_,_,J,J,J,J⟩):p:=k
theorem ΩX(k:p:=by cases h;exact⟨J,[_,_],⟨oL J J J tH jI nl J,⟨oL J J J Fa Bh nl J,tr⟩⟩,J,io⟩):p:=k
theorem ΩY(k:p:=by cases h;exact⟨J,[_,_,_],⟨oL J J J nP nT nl J,⟨J,⟨J,tr⟩⟩⟩,J,io⟩):p:=k
theorem ΩZ(k:p:=by cases h;exact⟨J,[_,_,_],⟨oL J J J bL aD nl J,⟨J,⟨J,tr⟩⟩⟩,J,io⟩):p:=k
theorem Ω0(k:p:=by cases h;exact⟨J,[_,_],⟨oL J J J uy kQ nl J,⟨J,tr⟩⟩,J,io⟩):p:=k
theorem Ω1(k:p:=by cases h;exact⟨J,[_,_],⟨oL J J J nP nT nl J,⟨J,tr⟩⟩,J,io⟩):p:=k
theorem Ω2(k:p:=by cases h;exact⟨J,[_,_],⟨oL J J J lI eY nl J,⟨J,tr⟩⟩,J,io⟩):p:=k
theorem Ω3(k:p:=by cases h;exact⟨J,[_],⟨oL J J J Ai Ao nl J,tr⟩,J,io⟩):p:=k
theorem Ω4(k:p:=by cases h;exact⟨J,[_],⟨oL J J J eO bz nl J,tr⟩,J,io⟩):p:=k
theorem Δj(k:p:=by cases h;exact⟨J,[_,_,_],⟨oL J J J lI eY nl J,⟨oL J J J eP R1 nl J,⟨J,tr⟩⟩⟩,J,io⟩):p:=k
theorem Δk(k:p:=by cases h;exact⟨J,[_,_,_],⟨oL J J J A0 y3 nl J,⟨oL J J J eP R1 nl J,⟨J,tr⟩⟩⟩,J,io⟩):p:=k
theorem Δl(k:p:=by cases h;exact⟨J,[_,_,_],⟨oL J J J C7 y9 nl J,⟨oL J J J kN R2 nl J,⟨J,tr⟩⟩⟩,J,io⟩):p:=k
theorem Δm(k:p:=by cases h;exact⟨J,[_,_],⟨oS J J J Fb J,⟨oS J J J Be J,tr⟩⟩,J,io⟩):p:=k
theorem Δn(k:p:=by cases h;exact⟨J,[_,_],⟨oL J J J qi dM nl J,⟨J,tr⟩⟩,J,io⟩):p:=k
theorem Δo(k:p:=by cases h;exact⟨J,[_,_],⟨oL J J J Fc nU nl J,⟨J,tr⟩⟩,J,io⟩):p:=k
theorem Δp(k:p:=by cases h;exact⟨J,[_,_],⟨oL J J J ru kR nl J,⟨J,tr⟩⟩,J,io⟩):p:=k
theorem Δq(k:p:=by cases h;exact⟨J,[_,_],⟨oL J J J tH jI nl J,⟨J,tr⟩⟩,J,io⟩):p:=k
theorem Δr(k:p:=by cases h;exact⟨J,[_,_],⟨oL J J J Aj eW nl J,⟨J,tr⟩⟩,J,io⟩):p:=k
theorem Δs(k:p:=by cases h;exact⟨J,[_],⟨oL J J J iE eX nl J,tr⟩,J,io⟩):p:=k
theorem ΔB(k:p:=by cases h;exact⟨J,[_,_,_],⟨oL J J J iE eX nl J,⟨oS J J J H8 J,⟨oS J J J Be J,tr⟩⟩⟩,J,io⟩):p:=k
theorem ΔC(k:p:=by cases h;exact⟨J,[_],⟨oS J J J ye J,tr⟩,J,io⟩):p:=k
theorem ΔD(k:p:=by cases h;exact⟨J,[_,_,_],⟨oL J J J wO lJ nl J,⟨oL J J J kN R2 nl J,⟨J,tr⟩⟩⟩,J,io⟩):p:=k
theorem ΔE(k:p:=by cases h;exact⟨J,[_,_,_,_],⟨oL J J J A0 y3 nl J,⟨J,⟨J,⟨J,tr⟩⟩⟩⟩,J,io⟩):p:=k
theorem ΔF(k:p:=by cases h;exact⟨J,[_,_,_,_],⟨oL J J J C7 y9 nl J,⟨J,⟨J,⟨J,tr⟩⟩⟩⟩,J,io⟩):p:=k
theorem ΔG(k:p:=by cases h;exact⟨J,[_,_,_],⟨oL J J J ru kR nl J,⟨J,⟨J,tr⟩⟩⟩,J,io⟩):p:=k
theorem ΔH(k:p:=by cases h;exact⟨J,[_,_,_],⟨oL J J J eO bz nl J,⟨J,⟨J,tr⟩⟩⟩,J,io⟩):p:=k
theorem ΔI(k:p:=by cases h;exact⟨J,[_,_],⟨oL J J J MV ry nl J,⟨J,tr⟩⟩,J,io⟩):p:=k
theorem ΔJ(k:p:=by cases h;exact⟨J,[_,_],⟨oL J J J wO lJ nl J,⟨J,tr⟩⟩,J,io⟩):p:=k
theorem ΔK(k:p:=by cases h;exact⟨J,[_],⟨oL J J J lI eY nl J,tr⟩,J,io⟩):p:=k
theorem ΔL(k:p:=by cases h;exact⟨J,[_],⟨oS J J J H8 J,tr⟩,J,io⟩):p:=k
theorem tT{b}:PO prog 23 [.int .i32 b] (aS b) λr=>.bool r:=y6 func23 J λr h=>by unfold aS at h;exact D 1 J<|U 3 J<|o6 J (λa=>om (d:=.int .i32 b) J)<|o6 J (λa=>B4 (ct a) J J)<|y0 J (C5 J J J (λq=>bb q))<|S1 1 J<|o6 J (λa=>om (d:=.int .i32 b) J)<|o6 J (λa=>B4 (ct a) J J)<|y0 J (C5 J J J (λq=>bb q))<|M 1 J<|Y<|Λ
theorem cp{b}:PO prog 22 [.str b,.fn (.func 23) []] (G6 b) λr=>.L PV.str r:=y6 func22 J λr h=>D 1 J<|sR<|a3A (m:=32) J J nl J J kO nR nV Fe nl nl<|M 1 J<|D 1 J<|jq h (λq=>St.of [(0,.str b),(5,.sl 12),(6,.I q.1)] [(12,A9 y7.Pv q.2 2)]) (λB h=>by obtain⟨w,P⟩:=B;exact jq h (λc=>St.of [(0,.str b),(5,.sl 43)] [(43,A9 y7.Pv c 2)]) (λc h=>U 1 J<|y0 J (tu (f:=y7.Pv) J J J kO)<|Z h λV j h=>y1 J (sP (f:=PV.str) j J J J D2 J3 yf Nf J J J) J<|M 1 J<|jq h (λx=>St.of [(9,.sl 46)] [(46,⟨List.map PV.str x,0,true,1,true⟩)]) (λx h=>D 2 J<|Y<|Λ) λN h=>U 1 J<|y0 J (tu (f:=y7.Pv) J J J kO)<|M 1 J<|c9<|lq h (λq=>St.of [(0,.str b),(9,.sl 46),(47,.sl 43),(48,.I (c.length:Int)),(49,.I q.1)] [(43,A9 y7.Pv c 2),(46,⟨List.map PV.str q.2,0,true,1,true⟩)]) (F7 [43]) λC x30 h t=>by obtain⟨R,S⟩:=C;exact D 1 J<|c4<|cN h (λhc h=>b8<|c4<|c9<|U 1 J<|Z h λF e h=>y0 J (X8 (f:=y7.Pv) e J J J J kO nR J)<|y0 J (a3c (f:=y7.Pv) (cs:=y7.Pc F) e J J J Vy nR nl J)<|M 3 J<|S5 7 J<|Z h λG k h=>y0 J (Gy k J ⟨_,J⟩ ⟨_,J⟩ J0)<|Z h λv34 g h=>y0 J (X8 (f:=PV.str) g J J J J D2 J3 J)<|fT (f:=PV.str) (v:=G) g J J (.inl J) J3<|yN<|S6 2 J<|eL h (F7 [43])) λhc h=>s6<|b9<|b9<|o0<|have h:=xL t h;eJ h W) λH h=>D 2 J<|cN h (λhc h=>S5 3 J<|y0 J (ub J J0 J)<|y0 J (u4 (cs:=[.I w,.I (b.size:Int)]) J Nk nV J J J)<|y0 J (J6 (f:=y7.Pv) (l:=[(⟨w,(b.size:Int)⟩:y7)]) J kO nR nV J J nl J J)<|Z h λv35 o h=>J4 J (G5 (f:=y7.Pv) o J J J J J J (.inl ⟨_,J,J⟩) kO nR Fe nV J (λ_=>J)) J J J<|M 1 J<|eJ h (F7 [43])) λhc h=>b8<|eJ h (C4 [12] (swp 43 12))) λκ9 h=>U 1 J<|Vn 5000014 J J J0 J<|yN<|c9<|lq h (λq=>St.of [(0,.str b),(1,.fn (.func 23) []),(5,.sl 12),(6,.I q.1),(14,.ptr 5000014 0 0)] [(5000014,itR b q.2.1),(12,A9 y7.Pv q.2.2 2)]) (F7 [12]) λE x40 h u=>by obtain⟨z,A,T⟩:=E;exact sR<|ZA J J J (λa=>have h:=Vu h (zB a);M 1 J<|c4<|I6 true J (λ_=>b8<|c9<|D 4 J<|U 2 J<|cA h tT J J λv42 _ h=>yN<|cN h (λhc h=>D 2 J<|cN h (λhc h=>U 3 J<|y0 J (u4 (cs:=[.I z,.I ((A:Nat):Int)]) J Nk nV J J J)<|y0 J (J6 (f:=y7.Pv) (l:=[(⟨z,((A:Nat):Int)⟩:y7)]) J kO nR nV J J nl J J)<|Z h λv43 s h=>J4 J (G5 (f:=y7.Pv) s J J J J J J (.inl ⟨_,J,J⟩) kO nR Fe nV J (λ_=>J)) J J J<|M 1 J<|S5 1 J<|y0 J (a1b J J J)<|M 1 J<|eL h (C4 [29] (swp 12 29))) λhc h=>b8<|eL h (F7 [12])) λhc h=>D 2 J<|cN h (λhc h=>S6 2 J<|eL h (F7 [12])) λhc h=>b8<|eL h (F7 [12])) (λq=>nomatch q)) (λa=>have h:=Vt h (zH a);M 1 J<|c4<|I6 false J (λq=>nomatch q) (λ_=>s6<|b9<|b9<|o0<|have h:=xL u h;eJ h (F7 [12])))
theorem V6{a}:PO prog 77 [.I a] (aR a) λr=>.fn (.func 137) [.rptr [.I r]]:=y6 func77 J λr h=>by unfold aR at h;exact D 2 J<|D 2 J<|Y<|Λ
theorem C3{a b}:PO prog 79 [.I a,.I b] (E2 a b) λr=>l5.Pv r:=y6 func79 J λr h=>D 2 J<|U 1 J<|cF h V6 J J λc _ h=>S1 1 J<|Q2 (KK 7 J)<|y0 J (u4 (cs:=[.fn (.func 137) [.rptr [.I c]],.fn (.func 138) [.rptr [.I a]],.bool false]) J rv nW J J J)<|Q2 (EV 8 (d':=.agg [Gd (some (137,some c)),Gd (some (138,some a)),.bool false]) J J)<|M 1 J<|Y<|by cases h;exact⟨J,[_],⟨oL J J J VA Nr nl J,tr⟩,J,io⟩
theorem sJ:PO prog 42 [] (gn) λr=>.abs (aa (List.map (jg PV.str l5.Pv) r)):=y6 func42 J λr h=>D 1 J<|sR<|EX (KT:=ByteArray) (VT:=l5) (EK:=PV.str) (E:=l5.Pv) 5000001 J J<|y0 J (u4 (cs:=[.fn (.func 75) [],.fn (.func 76) [],.bool true]) J rv nW J J J)<|Q2 (EV 2 (d':=.agg [Gd (some (75,none)),Gd (some (76,none)),.bool true]) J J)<|J7 (es:=[]) (k:=(r9 [112,114,111,103])) (v:=(⟨(some (75,none)),(some (76,none)),true⟩:l5)) (E:=l5.Pv) (EK:=PV.str) (.inr J) J J J J J J N9 (O3 J0)<|cF h V6 J J λb _ h=>y0 J (u4 (cs:=[.fn (.func 137) [.rptr [.I b]],.fn (.func 78) [],.bool true]) J rv nW J J J)<|Q2 (EV 4 (d':=.agg [Gd (some (137,some b)),Gd (some (78,none)),.bool true]) J J)<|J7 (es:=(r7 [] (r9 [112,114,111,103]) (⟨(some (75,none)),(some (76,none)),true⟩:l5))) (k:=(r9 [104,101,97,112])) (v:=(⟨(some (137,some b)),(some (78,none)),true⟩:l5)) (E:=l5.Pv) (EK:=PV.str) (.inr J) J J J J J J N9 (O3 J0)<|cF h C3 J J λv2 _ h=>J7 (es:=(r7 (r7 [] (r9 [112,114,111,103]) (⟨(some (75,none)),(some (76,none)),true⟩:l5)) (r9 [104,101,97,112]) (⟨(some (137,some b)),(some (78,none)),true⟩:l5))) (k:=(r9 [110,101,119])) (v:=v2) (E:=l5.Pv) (EK:=PV.str) (.inr J) J J J J J J N9 (O3 J0)<|cF h C3 J J λv3 _ h=>J7 (es:=(r7 (r7 (r7 [] (r9 [112,114,111,103]) (⟨(some (75,none)),(some (76,none)),true⟩:l5)) (r9 [104,101,97,112]) (⟨(some (137,some b)),(some (78,none)),true⟩:l5)) (r9 [110,101,119]) v2)) (k:=(r9 [99,111,112,121])) (v:=v3) (E:=l5.Pv) (EK:=PV.str) (.inr J) J J J J J J N9 (O3 J0)<|cF h C3 J J λf _ h=>J7 (es:=(r7 (r7 (r7 (r7 [] (r9 [112,114,111,103]) (⟨(some (75,none)),(some (76,none)),true⟩:l5)) (r9 [104,101,97,112]) (⟨(some (137,some b)),(some (78,none)),true⟩:l5)) (r9 [110,101,119]) v2) (r9 [99,111,112,121]) v3)) (k:=(r9 [100,114,111,112])) (v:=f) (E:=l5.Pv) (EK:=PV.str) (.inr J) J J J J J J N9 (O3 J0)<|cF h C3 J J λg _ h=>J7 (es:=(r7 (r7 (r7 (r7 (r7 [] (r9 [112,114,111,103]) (⟨(some (75,none)),(some (76,none)),true⟩:l5)) (r9 [104,101,97,112]) (⟨(some (137,some b)),(some (78,none)),true⟩:l5)) (r9 [110,101,119]) v2) (r9 [99,111,112,121]) v3) (r9 [100,114,111,112]) f)) (k:=(r9 [108,111,97,100])) (v:=g) (E:=l5.Pv) (EK:=PV.str) (.inr J) J J J J J J N9 (O3 J0)<|cF h C3 J J λm _ h=>J7 (es:=(r7 (r7 (r7 (r7 (r7 (r7 [] (r9 [112,114,111,103]) (⟨(some (75,none)),(some (76,none)),true⟩:l5)) (r9 [104,101,97,112]) (⟨(some (137,some b)),(some (78,none)),true⟩:l5)) (r9 [110,101,119]) v2) (r9 [99,111,112,121]) v3) (r9 [100,114,111,112]) f) (r9 [108,111,97,100]) g)) (k:=(r9 [115,116,111,114,101])) (v:=m) (E:=l5.Pv) (EK:=PV.str) (.inr J) J J J J J J N9 (O3 J0)<|cF h C3 J J λo _ h=>J7 (es:=(r7 (r7 (r7 (r7 (r7 (r7 (r7 [] (r9 [112,114,111,103]) (⟨(some (75,none)),(some (76,none)),true⟩:l5)) (r9 [104,101,97,112]) (⟨(some (137,some b)),(some (78,none)),true⟩:l5)) (r9 [110,101,119]) v2) (r9 [99,111,112,121]) v3) (r9 [100,114,111,112]) f) (r9 [108,111,97,100]) g) (r9 [115,116,111,114,101]) m)) (k:=(r9 [119,101,97,107])) (v:=o) (E:=l5.Pv) (EK:=PV.str) (.inr J) J J J J J J N9 (O3 J0)<|cF h C3 J J λs _ h=>J7 (es:=(r7 (r7 (r7 (r7 (r7 (r7 (r7 (r7 [] (r9 [112,114,111,103]) (⟨(some (75,none)),(some (76,none)),true⟩:l5)) (r9 [104,101,97,112]) (⟨(some (137,some b)),(some (78,none)),true⟩:l5)) (r9 [110,101,119]) v2) (r9 [99,111,112,121]) v3) (r9 [100,114,111,112]) f) (r9 [108,111,97,100]) g) (r9 [115,116,111,114,101]) m) (r9 [119,101,97,107]) o)) (k:=(r9 [117,112])) (v:=s) (E:=l5.Pv) (EK:=PV.str) (.inr J) J J J J J J N9 (O3 J0)<|cF h C3 J J λu _ h=>J7 (es:=(r7 (r7 (r7 (r7 (r7 (r7 (r7 (r7 (r7 [] (r9 [112,114,111,103]) (⟨(some (75,none)),(some (76,none)),true⟩:l5)) (r9 [104,101,97,112]) (⟨(some (137,some b)),(some (78,none)),true⟩:l5)) (r9 [110,101,119]) v2) (r9 [99,111,112,121]) v3) (r9 [100,114,111,112]) f) (r9 [108,111,97,100]) g) (r9 [115,116,111,114,101]) m) (r9 [119,101,97,107]) o) (r9 [117,112]) s)) (k:=(r9 [112,97,105,114])) (v:=u) (E:=l5.Pv) (EK:=PV.str) (.inr J) J J J J J J N9 (O3 J0)<|cF h C3 J J λc _ h=>J7 (es:=(r7 (r7 (r7 (r7 (r7 (r7 (r7 (r7 (r7 (r7 [] (r9 [112,114,111,103]) (⟨(some (75,none)),(some (76,none)),true⟩:l5)) (r9 [104,101,97,112]) (⟨(some (137,some b)),(some (78,none)),true⟩:l5)) (r9 [110,101,119]) v2) (r9 [99,111,112,121]) v3) (r9 [100,114,111,112]) f) (r9 [108,111,97,100]) g) (r9 [115,116,111,114,101]) m) (r9 [119,101,97,107]) o) (r9 [117,112]) s) (r9 [112,97,105,114]) u)) (k:=(r9 [103,101,116])) (v:=c) (E:=l5.Pv) (EK:=PV.str) (.inr J) J J J J J J N9 (O3 J0)<|cF h C3 J J λe _ h=>J7 (es:=(r7 (r7 (r7 (r7 (r7 (r7 (r7 (r7 (r7 (r7 (r7 [] (r9 [112,114,111,103]) (⟨(some (75,none)),(some (76,none)),true⟩:l5)) (r9 [104,101,97,112]) (⟨(some (137,some b)),(some (78,none)),true⟩:l5)) (r9 [110,101,119]) v2) (r9 [99,111,112,121]) v3) (r9 [100,114,111,112]) f) (r9 [108,111,97,100]) g) (r9 [115,116,111,114,101]) m) (r9 [119,101,97,107]) o) (r9 [117,112]) s) (r9 [112,97,105,114]) u) (r9 [103,101,116]) c)) (k:=(r9 [115,97,109,101])) (v:=e) (E:=l5.Pv) (EK:=PV.str) (.inr J) J J J J J J N9 (O3 J0)<|cF h C3 J J λj _ h=>J7 (es:=(r7 (r7 (r7 (r7 (r7 (r7 (r7 (r7 (r7 (r7 (r7 (r7 [] (r9 [112,114,111,103]) (⟨(some (75,none)),(some (76,none)),true⟩:l5)) (r9 [104,101,97,112]) (⟨(some (137,some b)),(some (78,none)),true⟩:l5)) (r9 [110,101,119]) v2) (r9 [99,111,112,121]) v3) (r9 [100,114,111,112]) f) (r9 [108,111,97,100]) g) (r9 [115,116,111,114,101]) m) (r9 [119,101,97,107]) o) (r9 [117,112]) s) (r9 [112,97,105,114]) u) (r9 [103,101,116]) c) (r9 [115,97,109,101]) e)) (k:=(r9 [99,111,108,108,101,99,116])) (v:=j) (E:=l5.Pv) (EK:=PV.str) (.inr J) J J J J J J N9 (O3 J0)<|cF h C3 J J λq _ h=>J7 (es:=(r7 (r7 (r7 (r7 (r7 (r7 (r7 (r7 (r7 (r7 (r7 (r7 (r7 [] (r9 [112,114,111,103]) (⟨(some (75,none)),(some (76,none)),true⟩:l5)) (r9 [104,101,97,112]) (⟨(some (137,some b)),(some (78,none)),true⟩:l5)) (r9 [110,101,119]) v2) (r9 [99,111,112,121]) v3) (r9 [100,114,111,112]) f) (r9 [108,111,97,100]) g) (r9 [115,116,111,114,101]) m) (r9 [119,101,97,107]) o) (r9 [117,112]) s) (r9 [112,97,105,114]) u) (r9 [103,101,116]) c) (r9 [115,97,109,101]) e) (r9 [99,111,108,108,101,99,116]) j)) (k:=(r9 [100,114,97,105,110])) (v:=q) (E:=l5.Pv) (EK:=PV.str) (.inr J) J J J J J J N9 (O3 J0)<|cF h V6 J J λa t h=>y0 J (u4 (cs:=[.fn (.func 137) [.rptr [.I a]],.fn (.func 80) [],.bool false]) J rv nW J J J)<|Q2 (EV 18 (d':=.agg [Gd (some (137,some a)),Gd (some (80,none)),.bool false]) J J)<|J7 (es:=(r7 (r7 (r7 (r7 (r7 (r7 (r7 (r7 (r7 (r7 (r7 (r7 (r7 (r7 [] (r9 [112,114,111,103]) (⟨(some (75,none)),(some (76,none)),true⟩:l5)) (r9 [104,101,97,112]) (⟨(some (137,some b)),(some (78,none)),true⟩:l5)) (r9 [110,101,119]) v2) (r9 [99,111,112,121]) v3) (r9 [100,114,111,112]) f) (r9 [108,111,97,100]) g) (r9 [115,116,111,114,101]) m) (r9 [119,101,97,107]) o) (r9 [117,112]) s) (r9 [112,97,105,114]) u) (r9 [103,101,116]) c) (r9 [115,97,109,101]) e) (r9 [99,111,108,108,101,99,116]) j) (r9 [100,114,97,105,110]) q)) (k:=(r9 [108,105,118,101,115])) (v:=(⟨(some (137,some a)),(some (80,none)),false⟩:l5)) (E:=l5.Pv) (EK:=PV.str) (.inr J) J J J J J J N9 (O3 J0)<|yc J (y8 J V6 J t)<|y0 J (u4 (cs:=[.fn (.func 137) [.rptr [.I a]],.fn (.func 81) [],.bool false]) J rv nW J J J)<|Q2 (EV 20 (d':=.agg [Gd (some (137,some a)),Gd (some (81,none)),.bool false]) J J)<|J7 (es:=(r7 (r7 (r7 (r7 (r7 (r7 (r7 (r7 (r7 (r7 (r7 (r7 (r7 (r7 (r7 [] (r9 [112,114,111,103]) (⟨(some (75,none)),(some (76,none)),true⟩:l5)) (r9 [104,101,97,112]) (⟨(some (137,some b)),(some (78,none)),true⟩:l5)) (r9 [110,101,119]) v2) (r9 [99,111,112,121]) v3) (r9 [100,114,111,112]) f) (r9 [108,111,97,100]) g) (r9 [115,116,111,114,101]) m) (r9 [119,101,97,107]) o) (r9 [117,112]) s) (r9 [112,97,105,114]) u) (r9 [103,101,116]) c) (r9 [115,97,109,101]) e) (r9 [99,111,108,108,101,99,116]) j) (r9 [100,114,97,105,110]) q) (r9 [108,105,118,101,115]) (⟨(some (137,some a)),(some (80,none)),false⟩:l5))) (k:=(r9 [114,111,111,116,115])) (v:=(⟨(some (137,some a)),(some (81,none)),false⟩:l5)) (E:=l5.Pv) (EK:=PV.str) (.inr J) J J J J J J N9 (O3 J0)<|yc J (y8 J V6 J t)<|y0 J (u4 (cs:=[.fn (.func 137) [.rptr [.I a]],.fn (.func 82) [],.bool false]) J rv nW J J J)<|Q2 (EV 22 (d':=.agg [Gd (some (137,some a)),Gd (some (82,none)),.bool false]) J J)<|J7 (es:=(r7 (r7 (r7 (r7 (r7 (r7 (r7 (r7 (r7 (r7 (r7 (r7 (r7 (r7 (r7 (r7 [] (r9 [112,114,111,103]) (⟨(some (75,none)),(some (76,none)),true⟩:l5)) (r9 [104,101,97,112]) (⟨(some (137,some b)),(some (78,none)),true⟩:l5)) (r9 [110,101,119]) v2) (r9 [99,111,112,121]) v3) (r9 [100,114,111,112]) f) (r9 [108,111,97,100]) g) (r9 [115,116,111,114,101]) m) (r9 [119,101,97,107]) o) (r9 [117,112]) s) (r9 [112,97,105,114]) u) (r9 [103,101,116]) c) (r9 [115,97,109,101]) e) (r9 [99,111,108,108,101,99,116]) j) (r9 [100,114,97,105,110]) q) (r9 [108,105,118,101,115]) (⟨(some (137,some a)),(some (80,none)),false⟩:l5)) (r9 [114,111,111,116,115]) (⟨(some (137,some a)),(some (81,none)),false⟩:l5))) (k:=(r9 [116,97,108,108,121])) (v:=(⟨(some (137,some a)),(some (82,none)),false⟩:l5)) (E:=l5.Pv) (EK:=PV.str) (.inr J) J J J J J J N9 (O3 J0)<|M 2 J<|dv (HT 0 5000001 J J)<|Y<|Λ
theorem uK{c}:PO prog 13 [.str c] (bN c) λr=>.tup [.I r.1,.bool r.2]:=y6 func13 J λr h=>D 2 J<|Cg<|D 3 J<|c4<|Cf<|jq h (λq=>St.of [(4,.I q.1),(5,.I q.2.1),(6,.I q.2.2)] []) (λg h=>by obtain⟨w,k,m⟩:=g;exact c4<|D 2 J<|cN h (λhc h=>D 2 J<|Y<|Ωa) λhc h=>b8<|D 5 J<|Y<|Ωa) λv h=>U 1 J<|Vn 5000010 J J J0 J<|yN<|c9<|lq h (λq=>St.of [(4,.I q.1),(5,.I q.2.1),(6,.I q.2.2.1),(10,.ptr 5000010 0 0)] [(5000010,itR c q.2.2.2)]) W λj u h e=>by obtain⟨o,s,t,f⟩:=j;exact sR<|ZA J J J (λb=>have h:=Vu h (zB b);M 1 J<|c4<|I6 true J (λ_=>b8<|c9<|D 4 J<|c4<|c9<|U 3 J<|o6 J (λa=>om (d:=.int .i32 ((dec c f).1:Int)) J)<|o6 J (λa=>B4 (ct a) J J)<|y0 J (C9 J J J (λq=>fX q))<|M 1 J<|cN h (λhc h=>D 1 J<|s6<|X5 Θ<|b9<|o0<|eL h W) λhc h=>U 3 J<|o6 J (λa=>om (d:=.int .i32 ((dec c f).1:Int)) J)<|o6 J (λa=>B4 (ct a) J J)<|y0 J (C5 J J J (λq=>bb q))<|S1 1 J<|o6 J (λa=>mI J)<|o6 J (λa=>B4 (ct a) J J)<|y0 J (C5 J J J (λq=>bb q))<|M 1 J<|cN h (λhc h=>D 1 J<|s6<|X5 Θ<|b9<|X5 Θ<|b9<|o0<|have h:=xL e h;eJ h W) λhc h=>b8<|U 4 J<|y0 J (TA J ZU YM J)<|M 2 J<|S6 3 J<|eL h W) (λq=>nomatch q)) (λb=>have h:=Vt h (zH b);M 1 J<|c4<|I6 false J (λq=>nomatch q) (λ_=>s6<|b9<|b9<|o0<|have h:=xL e h;eJ h W))
theorem qn{e}:PO prog 43 [.L PV.str e] (bD e) λr=>.tup [.L O r.1,.bool r.2]:=y6 func43 J λr h=>D 2 J<|D 1 J<|jq h (λc=>St.of [(4,.sl 910004)] [(910004,A9 O c 1)]) (λc h=>D 3 J<|Y<|Ωa) λu h=>U 1 J<|nL J D2<|M 1 J<|c9<|lq h (λq=>St.of [(4,.sl 910004),(9,.L PV.str e),(10,.I (e.length:Int)),(11,.I q.1)] [(910004,A9 O q.2 1)]) (cr 4 920004 1 910004) λg t h a=>by obtain⟨k,m⟩:=g;exact D 1 J<|c4<|cN h (λhc h=>b8<|c4<|c9<|sR<|iL h J J D2 J3 λo _ h=>M 2 J<|U 1 J<|cA h uK J J λj _ h=>M 5 J<|c4<|D 2 J<|cN h (λhc h=>D 2 J<|Y<|have h:=xL a h;Ωa) λhc h=>b8<|S5 2 J<|y0 J (J6 (f:=O) (l:=[j.1]) J k8 o8 A3 J J nl J J)<|Z h λs b h=>J4 J (G5 (f:=O) b J J J J J J (.inl ⟨_,J,J⟩) k8 o8 G1 A3 J (λ_=>J)) J J J<|M 1 J<|S6 2 J<|eL h (C4 [25] (swp 910004 25))) λhc h=>s6<|b9<|b9<|o0<|have h:=xL a h;eJ h (F7 [910004])
theorem pZ{b}:PO prog 75 [.I b] (dO b) λr=>.bool r:=y6 func75 J λr h=>by unfold dO at h;exact D 1 J<|U 1 J<|Z h λc a h=>y0 J (iX J J a)<|M 2 J<|Y<|Λ
theorem qm{a b}:PO prog 137 [.I a,.rptr [.I b]] (ff a b) λr=>.bool r:=y6 func137 J λr h=>by unfold ff at h;exact D 1 J<|D 4 J<|Y<|Λ
theorem Lx{f:Fw}{e:Int}{r:Bool}(h:rK f e=some r):∃n cap,fwP f = .fn (.func n) cap/\FwC cap/\B0 prog n/\S0 prog n ([.I e]++cap) (.bool r):=by
 unfold rK at h;match f,h with
 | none,h=>cases h
 | some (n,none),h=>
  dsimp only at h;by_cases b:n=75
  .rw[zc b] at h;subst b;exact⟨75,_,J,.inl J,ZK,pZ.2 _ h⟩
  rw[za b] at h;cases h
 | some (n,some c),h=>
  dsimp only at h;by_cases a:n=137
  .rw[zc a] at h;subst a;exact⟨137,_,J,.inr ⟨c,J⟩,VL,qm.2 _ h⟩
  rw[za a] at h;cases h
theorem R4{c}:PO prog 27 [.I c] (D6 c) λr=>.str r:=y6 func27 J λr h=>by unfold D6 at h;exact D 1 J<|U 1 J<|Z h λe a h=>y0 J (xy J KR J (SU a))<|Z h λv2 b h=>y0 J (lV b J J J0)<|M 1 J<|Y<|Λ
theorem Dr{b}:PO prog 55 [l6.Pv b] (gk b) λr=>.bool r:=y6 func55 J λr h=>by unfold gk at h;exact D 2 J<|U 4 J<|o6 J (λa=>oF J Rf J)<|o6 J (λa=>oS (ct a) J J H8 J)<|o6 J (λa=>B4 (ct a) J J)<|y0 J (C9 J J J (λq=>fX q))<|M 1 J<|Y<|Λ
theorem D3:PO prog 168 [.fn (.func 169) []] (bp) λr=>o5.Pv r:=y6 func168 J λr h=>by unfold bp at h;exact D 1 J<|U 1 J<|y0 J (u4 (cs:=[.fn (.func 169) [],.I 0,.I 5,.I 6]) J eU N6 J J J)<|Q2 (pW 4 (d':=.agg [uU (some 169),.I 0,.I 5,.I 6]) J)<|M 1 J<|Y<|Ωt
theorem bC:PO prog 171 [.fn (.func 172) []] (Y7) λr=>o5.Pv r:=y6 func171 J λr h=>by unfold Y7 at h;exact D 1 J<|U 1 J<|y0 J (u4 (cs:=[.fn (.func 172) [],.I (-1),.I 5,.I 13]) J eU N6 J J J)<|Q2 (pW 4 (d':=.agg [uU (some 172),.I (-1),.I 5,.I 13]) J)<|M 1 J<|Y<|Ωt
theorem H3{a}:PO prog 167 [.L o5.Pv a] (N3 a) λr=>.L o5.Pv r:=y6 func167 J λr h=>by unfold N3 at h;exact D 1 J<|D 2 J<|Y<|Λ
theorem P6:PO prog 168 [.fn (.func 170) []] (bq) λr=>o5.Pv r:=y6 func168 J λr h=>by unfold bq at h;exact D 1 J<|U 1 J<|y0 J (u4 (cs:=[.fn (.func 170) [],.I 0,.I 5,.I 6]) J eU N6 J J J)<|Q2 (pW 4 (d':=.agg [uU (some 170),.I 0,.I 5,.I 6]) J)<|M 1 J<|Y<|Ωt
theorem kJ:PO prog 173 [.fn (.func 172) []] (aG) λr=>o5.Pv r:=y6 func173 J λr h=>by unfold aG at h;exact D 1 J<|U 1 J<|y0 J (u4 (cs:=[.fn (.func 172) [],.I 0,.I 3,.I 5]) J eU N6 J J J)<|Q2 (pW 4 (d':=.agg [uU (some 172),.I 0,.I 3,.I 5]) J)<|M 1 J<|Y<|Ωt
theorem kI:PO prog 173 [.fn (.func 170) []] (aF) λr=>o5.Pv r:=y6 func173 J λr h=>by unfold aF at h;exact D 1 J<|U 1 J<|y0 J (u4 (cs:=[.fn (.func 170) [],.I 0,.I 3,.I 5]) J eU N6 J J J)<|Q2 (pW 4 (d':=.agg [uU (some 170),.I 0,.I 3,.I 5]) J)<|M 1 J<|Y<|Ωt
theorem gm:PO prog 174 [.fn (.func 172) []] (U3) λr=>o5.Pv r:=y6 func174 J λr h=>by unfold U3 at h;exact D 1 J<|U 1 J<|y0 J (u4 (cs:=[.fn (.func 172) [],.I (-1),.I 5,.I 6]) J eU N6 J J J)<|Q2 (pW 4 (d':=.agg [uU (some 172),.I (-1),.I 5,.I 6]) J)<|M 1 J<|Y<|Ωt
theorem lL:PO prog 175 [.fn (.func 169) []] (bn) λr=>o5.Pv r:=y6 func175 J λr h=>by unfold bn at h;exact D 1 J<|U 1 J<|y0 J (u4 (cs:=[.fn (.func 169) [],.I 0,.I 5,.I 7]) J eU N6 J J J)<|Q2 (pW 4 (d':=.agg [uU (some 169),.I 0,.I 5,.I 7]) J)<|M 1 J<|Y<|Ωt
theorem ah:PO prog 174 [.fn (.func 170) []] (U2) λr=>o5.Pv r:=y6 func174 J λr h=>by unfold U2 at h;exact D 1 J<|U 1 J<|y0 J (u4 (cs:=[.fn (.func 170) [],.I (-1),.I 5,.I 6]) J eU N6 J J J)<|Q2 (pW 4 (d':=.agg [uU (some 170),.I (-1),.I 5,.I 6]) J)<|M 1 J<|Y<|Ωt
theorem lM:PO prog 175 [.fn (.func 170) []] (bo) λr=>o5.Pv r:=y6 func175 J λr h=>by unfold bo at h;exact D 1 J<|U 1 J<|y0 J (u4 (cs:=[.fn (.func 170) [],.I 0,.I 5,.I 7]) J eU N6 J J J)<|Q2 (pW 4 (d':=.agg [uU (some 170),.I 0,.I 5,.I 7]) J)<|M 1 J<|Y<|Ωt
theorem yQ:PO prog 94 [] (oe) λr=>.abs (aa (List.map (jg O (Ls o5.Pv)) r)):=y6 func94 J λr h=>D 1 J<|sR<|EX (KT:=Int) (VT:=List o5) (EK:=O) (E:=(Ls o5.Pv)) 5000001 J J<|cF h D3 J J λo b h=>y0 J (u4 (cs:=[.fn (.func 170) [],.I 0,.I 4,.I 1]) J eU N6 J J J)<|Q2 (pW 3 (d':=.agg [uU (some 170),.I 0,.I 4,.I 1]) J)<|cF h bC J J λv2 A h=>y0 J (J6 (f:=o5.Pv) (l:=[o,(⟨(some 170),0,4,1⟩:o5),v2]) J cv P3 N6 J J nl J J)<|cF h H3 J J λv3 _ h=>J7 (es:=[]) (k:=1) (v:=v3) (E:=(Ls o5.Pv)) (EK:=O) (.inr J) J J J J J J af (D7 Q3)<|yc J (y8 J D3 J b)<|cF h P6 J J λz s h=>y0 J (J6 (f:=o5.Pv) (l:=[o,z]) J cv P3 N6 J J nl J J)<|cF h H3 J J λa u h=>J7 (es:=(r7 [] 1 v3)) (k:=2) (v:=a) (E:=(Ls o5.Pv)) (EK:=O) (.inr J) J J J J J J af (D7 Q3)<|yc J (y8 J D3 J b)<|y0 J (J6 (f:=o5.Pv) (l:=[o]) J cv P3 N6 J J nl J J)<|cF h H3 J J λm _ h=>J7 (es:=(r7 (r7 [] 1 v3) 2 a)) (k:=3) (v:=m) (E:=(Ls o5.Pv)) (EK:=O) (.inr J) J J J J J J af (D7 Q3)<|yc J (y8 J D3 J b)<|yc J (y8 J P6 J s)<|cF h kJ J J λH _ h=>y0 J (J6 (f:=o5.Pv) (l:=[o,z,H]) J cv P3 N6 J J nl J J)<|cF h H3 J J λq _ h=>J7 (es:=(r7 (r7 (r7 [] 1 v3) 2 a) 3 m)) (k:=4) (v:=q) (E:=(Ls o5.Pv)) (EK:=O) (.inr J) J J J J J J af (D7 Q3)<|yc J (y8 J D3 J b)<|cF h kI J J λN _ h=>cF h gm J J λB _ h=>y0 J (J6 (f:=o5.Pv) (l:=[o,N,B]) J cv P3 N6 J J nl J J)<|cF h H3 J J λc _ h=>J7 (es:=(r7 (r7 (r7 (r7 [] 1 v3) 2 a) 3 m) 4 q)) (k:=5) (v:=c) (E:=(Ls o5.Pv)) (EK:=O) (.inr J) J J J J J J af (D7 Q3)<|cF h lL J J λC _ h=>cF h ah J J λw t h=>yc J (y8 J bC J A)<|y0 J (J6 (f:=o5.Pv) (l:=[C,w,v2]) J cv P3 N6 J J nl J J)<|cF h H3 J J λe _ h=>J7 (es:=(r7 (r7 (r7 (r7 (r7 [] 1 v3) 2 a) 3 m) 4 q) 5 c)) (k:=6) (v:=e) (E:=(Ls o5.Pv)) (EK:=O) (.inr J) J J J J J J af (D7 Q3)<|yc J (y8 J D3 J b)<|cF h lM J J λF _ h=>y0 J (J6 (f:=o5.Pv) (l:=[o,F]) J cv P3 N6 J J nl J J)<|cF h H3 J J λg _ h=>J7 (es:=(r7 (r7 (r7 (r7 (r7 (r7 [] 1 v3) 2 a) 3 m) 4 q) 5 c) 6 e)) (k:=7) (v:=g) (E:=(Ls o5.Pv)) (EK:=O) (.inr J) J J J J J J af (D7 Q3)<|yc J (y8 J D3 J b)<|yc J (y8 J ah J t)<|y0 J (J6 (f:=o5.Pv) (l:=[o,w]) J cv P3 N6 J J nl J J)<|cF h H3 J J λj _ h=>J7 (es:=(r7 (r7 (r7 (r7 (r7 (r7 (r7 [] 1 v3) 2 a) 3 m) 4 q) 5 c) 6 e) 7 g)) (k:=8) (v:=j) (E:=(Ls o5.Pv)) (EK:=O) (.inr J) J J J J J J af (D7 Q3)<|yc J (y8 J D3 J b)<|yc J (y8 J P6 J s)<|y0 J (J6 (f:=o5.Pv) (l:=[o,z]) J cv P3 N6 J J nl J J)<|yc J (y8 J H3 J u)<|J7 (es:=(r7 (r7 (r7 (r7 (r7 (r7 (r7 (r7 [] 1 v3) 2 a) 3 m) 4 q) 5 c) 6 e) 7 g) 8 j)) (k:=9) (v:=a) (E:=(Ls o5.Pv)) (EK:=O) (.inr J) J J J J J J af (D7 Q3)<|yc J (y8 J D3 J b)<|yc J (y8 J P6 J s)<|y0 J (J6 (f:=o5.Pv) (l:=[o,z]) J cv P3 N6 J J nl J J)<|yc J (y8 J H3 J u)<|J7 (es:=(r7 (r7 (r7 (r7 (r7 (r7 (r7 (r7 (r7 [] 1 v3) 2 a) 3 m) 4 q) 5 c) 6 e) 7 g) 8 j) 9 a)) (k:=10) (v:=a) (E:=(Ls o5.Pv)) (EK:=O) (.inr J) J J J J J J af (D7 Q3)<|cF h H3 J J λx _ h=>J7 (es:=(r7 (r7 (r7 (r7 (r7 (r7 (r7 (r7 (r7 (r7 [] 1 v3) 2 a) 3 m) 4 q) 5 c) 6 e) 7 g) 8 j) 9 a) 10 a)) (k:=11) (v:=x) (E:=(Ls o5.Pv)) (EK:=O) (.inr J) J J J J J J af (D7 Q3)<|y0 J (u4 (cs:=[.fn (.func 169) [],.I 0,.I 200,.I 12]) J eU N6 J J J)<|Q2 (pW 46 (d':=.agg [uU (some 169),.I 0,.I 200,.I 12]) J)<|y0 J (J6 (f:=o5.Pv) (l:=[(⟨(some 169),0,200,12⟩:o5)]) J cv P3 N6 J J nl J J)<|cF h H3 J J λG _ h=>J7 (es:=(r7 (r7 (r7 (r7 (r7 (r7 (r7 (r7 (r7 (r7 (r7 [] 1 v3) 2 a) 3 m) 4 q) 5 c) 6 e) 7 g) 8 j) 9 a) 10 a) 11 x)) (k:=12) (v:=G) (E:=(Ls o5.Pv)) (EK:=O) (.inr J) J J J J J J af (D7 Q3)<|M 2 J<|dv (HT 0 5000001 J J)<|Y<|Λ
theorem te{a}:PO prog 169 [l6.Pv a] (tO a) λr=>.I r:=y6 func169 J λr h=>by unfold tO at h;exact D 2 J<|D 3 J<|Y<|Λ
theorem tf{a}:PO prog 170 [l6.Pv a] (tP a) λr=>.I r:=y6 func170 J λr h=>by unfold tP at h;exact D 2 J<|D 3 J<|Y<|Λ
theorem tg{a}:PO prog 172 [l6.Pv a] (tQ a) λr=>.I r:=y6 func172 J λr h=>by unfold tQ at h;exact D 2 J<|D 3 J<|Y<|Λ
theorem Lv{f:Fv}{e:l6}{r:Int}(h:uV f e=some r):∃n,f=some n/\B0 prog n/\S0 prog n [l6.Pv e] (.I r):=by
 unfold uV at h;by_cases a:f=some 169
 .rw[zc a] at h;exact⟨169,a,(@te e).1,(@te e).2 _ h⟩
 rw[za a] at h;by_cases b:f=some 170
 .rw[zc b] at h;exact⟨170,b,(@tf e).1,(@tf e).2 _ h⟩
 rw[za b] at h;by_cases c:f=some 172
 .rw[zc c] at h;exact⟨172,c,(@tg e).1,(@tg e).2 _ h⟩
 rw[za c] at h;cases h
theorem lK{a}:PO prog 56 [l6.Pv a] (Y6 a) λr=>.I r:=y6 func56 J λr h=>by unfold Y6 at h;exact D 2 J<|dr [] u5 Φ Φ<|Z h λo s h=>aZ J (y8 J yQ J s) J<|S7 2 J<|d4 J (Jj (es:=o) (k:=a.Kind) (E:=(Ls o5.Pv)) (EK:=O) (d:=.tup [.L o5.Pv ((C0 o a.Kind).getD ([]:List o5)),.bool ((C0 o a.Kind).isSome)]) J J af (D7 Q3) Ws J (lk2 _ _ ([]:List o5))) J<|S8 5 J<|c4<|D 2 J<|cN h (λhc h=>D 1 J<|Y<|Λ) λhc h=>b8<|jq h (λ_=>St.of [] []) (λq9 h=>D 1 J<|Y<|Λ) λx h=>U 1 J<|nL J cv<|M 1 J<|c9<|lq h (λm=>St.of [(1,.ptr 1 0 0),(17,.L o5.Pv ((C0 o a.Kind).getD ([]:List o5))),(18,.I (((C0 o a.Kind).getD ([]:List o5)).length:Int)),(19,.I m)] [(1,vR (l6.Pv a) 4)]) W λm w h b=>D 1 J<|c4<|cN h (λhc h=>b8<|c4<|c9<|sR<|iL h J J cv P3 λu _ h=>M 3 J<|U 3 J<|by obtain⟨v,j,h⟩:=E7 h;obtain⟨t,e,f,g⟩:=Lv j;exact Q2 (Zy 24 J e)<|y0 J (xy J f J g)<|M 1 J<|U 5 J<|o6 J (λc=>mI J)<|o6 J (λc=>oF J Pk J)<|o6 J (λc=>oS (ct c) J J H8 J)<|o6 J (λc=>B4 (ct c) (ct c) J)<|y0 J (C5 J J J (λq=>bb q))<|yN<|cN h (λhc h=>D 3 J<|Y<|have h:=xL b h;Λ) λhc h=>b8<|S6 2 J<|eL h W) λhc h=>s6<|b9<|b9<|o0<|have h:=xL b h;eJ h W
theorem tc{c}:PO prog 30 [.L (Ls l6.Pv) c] (gl c) λr=>.bool r:=y6 func30 J λr h=>D 1 J<|c4<|U 1 J<|nL J jH<|M 1 J<|cN h (λhc h=>D 1 J<|Y<|Λ) λhc h=>b8<|jq h (λ_=>St.of [] []) (λs h=>D 1 J<|Y<|Λ) λm h=>U 1 J<|nL J jH<|M 1 J<|c9<|lq h (λb=>St.of [(10,.L (Ls l6.Pv) c),(11,.I (c.length:Int)),(12,.I b)] []) W λb x h a=>D 1 J<|c4<|cN h (λhc h=>b8<|jq h (λ_=>St.of [(10,.L (Ls l6.Pv) c),(11,.I (c.length:Int)),(12,.I b)] []) (λt h=>S6 2 J<|eL h W) λo h=>c9<|sR<|iL h J J jH jb λk _ h=>M 2 J<|c4<|U 1 J<|nL J kP<|M 1 J<|cN h (λhc h=>D 1 J<|Y<|have h:=xL a h;Λ) λhc h=>b8<|U 1 J<|nL J kP<|M 1 J<|c9<|lq h (λj=>St.of [(10,.L (Ls l6.Pv) c),(11,.I (c.length:Int)),(12,.I b),(19,.L l6.Pv k),(20,.I (k.length:Int)),(21,.I j)] []) W λj z h e=>D 1 J<|c4<|cN h (λhc h=>b8<|c4<|c9<|sR<|iL h J J kP nU λu _ h=>M 3 J<|U 1 J<|cA h Dr J J λv _ h=>S1 2 J<|o6 J (λf=>oL J J J Fc nU nl J)<|Z h λw g h=>o6 J (λf=>F3 J lK (T8 (ct f) J) (K5 g f))<|o6 J (λf=>B4 (ct f) J J)<|y0 J (C5 J J J (λq=>bb q))<|yN<|cN h (λhc h=>D 1 J<|Y<|have h:=xL e h;have h:=xL a h;Λ) λhc h=>b8<|S6 2 J<|eL h W) λhc h=>s6<|b9<|b9<|o0<|have h:=xL e h;eJ h W) λhc h=>s6<|b9<|b9<|o0<|have h:=xL a h;eJ h W
theorem jK{k H}:PO prog 76 [k7.Pv k,.L O H] (R3 k H) λr=>.tup [k7.Pv r.1,.str r.2]:=y6 func76 J λr h=>D 3 J<|U 1 J<|iL h J J k8 o8 λG _ h=>M 2 J<|c4<|U 3 J<|o6 J (λN=>mI J)<|o6 J (λN=>B4 (ct N) J J)<|y0 J (C5 J J J (λq=>bb q))<|yN<|cN h (λhc h=>dr [] u5 Φ Φ<|S7 1 J<|Z h λv2 B h=>d2 J (F3 J R4 J B) J<|A5 (x':=k7.Pv k) (cl':=true) J J (.inr J) V4<|S8 1 J<|Y<|Ωp) λhc h=>b8<|U 4 J<|nL J jH<|y0 J (Oc J J J)<|Z h λv3 C h=>y1 J (sP (f:=(Ls l6.Pv)) C J J J jH jb Wo VE J J J) J<|M 1 J<|U 3 J<|Z h λP E h=>a19 (f:=(Ls l6.Pv)) E J J J (.inl ⟨_,J,J⟩) jH jb (λ_=>J) Θ<|yN<|U 2 J<|Z h λv5 a h=>y0 J (X8 (f:=(Ls l6.Pv)) a J J J J jH jb J)<|YG (f:=(Ls l6.Pv)) 930026 4 a J J J jb J J J J<|yN<|jq h (λb=>St.of [(2,.ptr 2 0 0),(4,.ptr 4 0 0),(7,.sl 26)] [(26,⟨tZ (Ls l6.Pv) P ((G).toNat) 930026,0,true,1,false⟩),(930026,A9 l6.Pv b 4),(4,vR (.agg [.nl,.I 0,.I 0,.nl,.nl,.nl,.nl,.I 0,.nl,.bool false,.nl]) 11),(2,vR (k7.Pv k) 11)]) (λb h=>c4<|dv (a14 (l:=26) (r:=930026) (f:=(Ls l6.Pv)) (gE:=l6.Pv) (v:=b) J (a2N a) J J J J (λ_=>J) J)<|U 1 J<|cA h tc J J λV _ h=>M 1 J<|cN h (λhc h=>dr [] u5 Φ Φ<|S7 1 J<|Z h λv21 m h=>d2 J (F3 J R4 J m) J<|A5 (x':=k7.Pv k) (cl':=true) J J (.inr J) V4<|S8 1 J<|Y<|Ωp) λhc h=>b8<|D 3 J<|D 3 J<|Y<|Ωp) λR h=>U 1 J<|by obtain⟨v22,o,h⟩:=E7 h;exact y0 J (qD (f:=O) o J ⟨_,J⟩ J k8 o8 (λ_=>J))<|M 1 J<|c9<|lq h (λq=>St.of [(2,.ptr 2 0 0),(4,.ptr 4 0 0),(6,.I G),(7,.sl 26),(8,.L O q.1)] [(26,⟨tZ (Ls l6.Pv) P ((G).toNat) 930026,0,true,1,false⟩),(930026,A9 l6.Pv q.2 4),(4,vR (.agg [.nl,.I 0,.I 0,.nl,.nl,.nl,.nl,.I 0,.nl,.bool false,.nl]) 11),(2,vR (k7.Pv k) 11)]) (Wk.trans (yb _ [930026]) (wK _ _ ⟨J,J,J,J,J,J,J,J,J,J,J,J,J,J,J,tr⟩ ⟨xM J J J (λ_=>J) J J J J (λ_=>J) (λ_=>J) (λ_=>J),rS,rS,rS,tr⟩)) λF x26 h A=>by obtain⟨S,T⟩:=F;exact c4<|U 1 J<|nL J k8<|M 1 J<|cN h (λhc h=>b8<|c4<|c9<|bU [] u5 Φ Φ<|S7 4 J<|d0 J (Zm (f:=(Ls l6.Pv)) a J J J J jH jb J) J<|d0 J (a3d (f:=(Ls l6.Pv)) a J J J VB) J<|S7 1 J<|Z h λc s h=>d0 J (y2 (f:=O) (cs:=[.I c]) s J J k8 o8 J J) J<|S7 2 J<|Z h λe t h=>d0 J (y2 (f:=O) (cs:=[.I e]) t J J k8 o8 J J) J<|S7 2 J<|Z h λg u h=>d0 J (y2 (f:=O) (cs:=[.I g]) u J J k8 o8 J J) J<|S7 2 J<|Z h λj w h=>d0 J (y2 (f:=O) (cs:=[.I j]) w J J k8 o8 J J) J<|S7 1 J<|d7 J (λ_ hN=>u4 (cs:=[.I c,.I e,.I g,.I j]) J Fq wV J J J) J<|RQ J (J6 (f:=l6.Pv) (l:=[(⟨c,e,g,j⟩:l6)]) J kP nU wV J J nl J J) J<|Z h λv32 x h=>WL J (G5 (f:=l6.Pv) x J J J J J J (.inl ⟨_,J,J⟩) kP nU ZH wV J (λ_=>J)) J J J J J<|d0 J (Zm (f:=(Ls l6.Pv)) a J J J J jH jb J) J<|a2w (f:=(Ls l6.Pv)) a J J J jb J<|K3<|S5 1 J<|Z h λv33 z h=>y0 J (qD (f:=O) z J ⟨_,J⟩ J k8 o8 (λ_=>J))<|M 1 J<|eL h (Wk.trans (yb _ [61]) (MN (swp 930026 61) _ _ ⟨J,J,J,J,J,J,J,J,J,J,J,J,J,J,J,tr⟩ ⟨xM J J J (λ_=>J) J J J J (λ_=>J) (λ_=>J) (λ_=>J),rN,rN,rN,tr⟩ J))) λhc h=>s6<|b9<|b9<|o0<|have h:=xL A h;eJ h (Wk.trans (yb _ [930026]) (wK _ _ ⟨J,J,J,J,J,J,J,J,J,tr⟩ ⟨xM J J J (λ_=>J) J J J J (λ_=>J) (λ_=>J) (λ_=>J),rS,rS,rS,tr⟩))
theorem qf{e b}:PO prog 95 [.I e,.I b] (aN e b) λr=>l4.Pv r:=y6 func95 J λr h=>D 1 J<|c4<|U 3 J<|o6 J (λa=>mI J)<|o6 J (λa=>B4 (ct a) J J)<|y0 J (C5 J J J (λq=>bb q))<|S1 1 J<|o6 J (λa=>mI J)<|o6 J (λa=>B4 (ct a) J J)<|y0 J (C5 J J J (λq=>bb q))<|S1 1 J<|o6 J (λa=>mI J)<|o6 J (λa=>B4 (ct a) J J)<|y0 J (C5 J J J (λq=>bb q))<|yN<|cN h (λhc h=>sR<|y0 J (u4 (cs:=[.nl,.I 0]) J Rg Rn J J J)<|dD (x':=.agg [.nl,.I 0]) (cl':=true) J J (.inl J) eX<|yN<|Y<|Δs) λhc h=>b8<|U 1 J<|Z h λg c h=>y1 J (sP (f:=c5.Pv) c J J J ab Z3 rA MZ J J J) J<|S1 1 J<|y0 J (u4 (cs:=[.sl 21,.I b]) J Rg Rn J J J)<|M 1 J<|Y<|Δs
theorem HH{a b}:PO prog 57 [.I a,.I b] (jF a b) λr=>a7.Pv r:=y6 func57 J λr h=>D 1 J<|U 2 J<|cF h qf J J λc _ h=>y0 J (u4 (cs:=[.L c5.Pv c.a8,.I c.Last,.I 0]) J Rh Ro J J J)<|M 1 J<|Y<|by cases h;exact⟨J,[_],⟨oL J J J nP nT nl J,tr⟩,J,io⟩
theorem KH{j}:PO prog 58 [.I j] (KG j) λr=>.L l7.Pv r:=y6 func58 J λr h=>D 1 J<|c4<|U 3 J<|o6 J (λk=>mI J)<|o6 J (λk=>B4 (ct k) J J)<|y0 J (C5 J J J (λq=>bb q))<|yN<|cN h (λhc h=>D 1 J<|Y<|Λ) λhc h=>b8<|U 1 J<|Z h λt c h=>y1 J (sP (f:=l7.Pv) c J J J bl bA Fy MY J J J) J<|M 1 J<|jq h (λm=>St.of [(3,.sl 12)] [(12,⟨List.map l7.Pv m,0,true,3,true⟩)]) (λm h=>D 2 J<|Y<|Λ) λw h=>U 1 J<|y0 J (tu (f:=l7.Pv) J J J bl)<|M 1 J<|c9<|lq h (λq=>St.of [(3,.sl 12),(14,.I (t.length:Int)),(15,.I q.1)] [(12,⟨List.map l7.Pv q.2,0,true,3,true⟩)]) W λg u h e=>by obtain⟨o,s⟩:=g;exact D 1 J<|c4<|cN h (λhc h=>b8<|c4<|c9<|D 2 J<|S5 2 J<|Z h λb a h=>y0 J (X8 (f:=l7.Pv) a J J J J bl bA J)<|S1 1 J<|fT (f:=l7.Pv) (v:=(⟨b.Target,b.Intact,(-1)⟩:l7)) a J J (.inl J) o8<|yN<|S6 2 J<|eL h W) λhc h=>s6<|b9<|b9<|o0<|have h:=xL e h;eJ h W
theorem IG{b}:PO prog 59 [.I b] (vd b) λr=>.L c8.Pv r:=y6 func59 J λr h=>D 1 J<|c4<|U 3 J<|o6 J (λc=>mI J)<|o6 J (λc=>B4 (ct c) J J)<|y0 J (C5 J J J (λq=>bb q))<|yN<|cN h (λhc h=>D 1 J<|Y<|Λ) λhc h=>b8<|U 1 J<|Z h λe a h=>y1 J (sP (f:=c8.Pv) a J J J dL dE Aq Nb J J J) J<|M 1 J<|Y<|Λ
theorem oU{a}:PO prog 96 [.I a] (db a) λr=>n0.Pv r:=y6 func96 J λr h=>by unfold db at h;exact D 1 J<|U 1 J<|y0 J (u4 (cs:=[.nl,.I a]) J ZR ZW J J J)<|dD (x':=.agg [.nl,.I a]) (cl':=true) J J (.inl J) eY<|yN<|Y<|ΔK
theorem Ku:PO prog 60 [] (Kt) λr=>n0.Pv r:=y6 func60 J λr h=>D 1 J<|sR<|cF h oU J J λa _ h=>M 1 J<|Y<|ΔK
theorem II{o s t}:PO prog 31 [.I o,.I s,.I t] (mE o s t) λr=>b7.Pv r:=y6 func31 J λr h=>D 1 J<|c4<|U 3 J<|o6 J (λa=>mI J)<|o6 J (λa=>B4 (ct a) J J)<|y0 J (C5 J J J (λq=>bb q))<|S1 1 J<|o6 J (λa=>mI J)<|o6 J (λa=>B4 (ct a) J J)<|y0 J (C5 J J J (λq=>bb q))<|S1 1 J<|o6 J (λa=>mI J)<|o6 J (λa=>B4 (ct a) J J)<|y0 J (C5 J J J (λq=>bb q))<|S1 1 J<|o6 J (λa=>mI J)<|o6 J (λa=>B4 (ct a) J J)<|y0 J (C5 J J J (λq=>bb q))<|S1 1 J<|o6 J (λa=>mI J)<|o6 J (λa=>B4 (ct a) J J)<|y0 J (C5 J J J (λq=>bb q))<|yN<|cN h (λhc h=>sR<|y0 J (u4 (cs:=[.nl,.I 0,.I 0,.nl,.nl,.nl,.nl,.I 0]) J Ri Rp J J J)<|dD (x':=.agg [.nl,.I 0,.I 0,.nl,.nl,.nl,.nl,.I 0]) (cl':=true) J J (.inl J) y3<|yN<|Y<|Ωf) λhc h=>b8<|dr [] u5 Φ Φ<|S7 2 J<|Z h λb e h=>aZ J (y8 J HH J e) J<|Z h λv2 g h=>d1 J (sP (f:=O) g J J J k8 o8 A3 G1 J J J) J J J<|Z h λv3 j h=>aZ J (y8 J KH J j) J<|S7 1 J<|Z h λu k h=>aZ J (y8 J IG J k) J<|Z h λc m h=>aZ J (y8 J Ku J m) J<|d7 J (λ_ v=>u4 (cs:=[.L c5.Pv b.S.a8,.I b.S.Last,.I b.Serial,.sl 33,.L l7.Pv v3,.L c8.Pv u,.L p8.Pv c.L,.I c.Cap]) J Ri Rp J J J) J<|A5 (x':=.agg [.L c5.Pv b.S.a8,.I b.S.Last,.I b.Serial,.sl 33,.L l7.Pv v3,.L c8.Pv u,.L p8.Pv c.L,.I c.Cap]) (cl':=false) J J (.inr J) y3<|K3<|Y<|Ωf
theorem Dv{b c e a}:PO prog 17 [.I b,.I c,.I e,.L (Ls l6.Pv) a] (S9 b c e a) λr=>.tup [A2.Pv r.1,.I r.2]:=y6 func17 J λr h=>D 2 J<|c4<|U 1 J<|cA h tc J J λf _ h=>M 1 J<|cN h (λhc h=>sR<|y0 J (u4 (cs:=[.nl,.I 0,.I 0,.nl,.nl,.nl,.nl,.I 0,.nl]) J KS KW J J J)<|dD (x':=.agg [.nl,.I 0,.I 0,.nl,.nl,.nl,.nl,.I 0,.nl]) (cl':=true) J J (.inl J) dM<|M 1 J<|Y<|Δn) λhc h=>b8<|U 3 J<|cF h II J J λv2 _ h=>M 2 J<|c4<|U 2 J<|nL J k8<|M 1 J<|cN h (λhc h=>sR<|y0 J (u4 (cs:=[.nl,.I 0,.I 0,.nl,.nl,.nl,.nl,.I 0,.nl]) J KS KW J J J)<|dD (x':=.agg [.nl,.I 0,.I 0,.nl,.nl,.nl,.nl,.I 0,.nl]) (cl':=true) J J (.inl J) dM<|M 1 J<|Y<|Δn) λhc h=>b8<|U 2 J<|y0 J (u4 (cs:=[.L c5.Pv v2.S.S.a8,.I v2.S.S.Last,.I v2.S.Serial,.L O v2.Roots,.L l7.Pv v2.a8,.L c8.Pv v2.T,.L p8.Pv v2.Q.L,.I v2.Q.Cap,.L (Ls l6.Pv) a]) J KS KW J J J)<|M 2 J<|Y<|Δn
theorem mn{a k}:PO prog 78 [k7.Pv a,.L O k] (Q4 a k) λr=>.tup [k7.Pv r.1,.str r.2]:=y6 func78 J λr h=>by unfold Q4 at h;exact D 3 J<|dr [] u5 Φ Φ<|S7 1 J<|Z h λm b h=>d0 J (y2 (f:=O) (cs:=[.I m]) b J J k8 o8 J J) J<|S7 2 J<|Z h λv2 c h=>d0 J (y2 (f:=O) (cs:=[.I v2]) c J J k8 o8 J J) J<|S7 2 J<|Z h λv3 e h=>d0 J (y2 (f:=O) (cs:=[.I v3]) e J J k8 o8 J J) J<|S7 3 J<|Z h λo g h=>aZ J (y8 J Dv J g) J<|S7 4 J<|A5 (x':=A2.Pv o.1) (cl':=true) J J (.inr J) dM<|S8 1 J<|c4<|D 2 J<|cN h (λhc h=>dr [] u5 Φ Φ<|S7 2 J<|Z h λq j h=>d2 J (F3 J R4 J j) J<|A5 (x':=k7.Pv a) (cl':=true) J J (.inr J) V4<|S8 1 J<|Y<|Ωp) λhc h=>b8<|D 5 J<|D 3 J<|Y<|Ωp
theorem qw{b c}:PO prog 125 [.I b,.I c] (ep b c) λr=>.I r:=y6 func125 J λr h=>D 1 J<|c4<|U 3 J<|o6 J (λa=>mI J)<|o6 J (λa=>B4 (ct a) J J)<|y0 J (C5 J J J (λq=>bb q))<|S1 1 J<|o6 J (λa=>mI J)<|o6 J (λa=>B4 (ct a) J J)<|y0 J (C5 J J J (λq=>bb q))<|S1 1 J<|o6 J (λa=>mI J)<|o6 J (λa=>B4 (ct a) J J)<|y0 J (C5 J J J (λq=>bb q))<|yN<|cN h (λhc h=>D 1 J<|Y<|Λ) λhc h=>b8<|D 7 J<|Y<|Λ
theorem mj{a}:PO prog 202 [.I a] (cmp_isNaN_int a) λr=>.bool r:=y6 func202 J λr h=>by unfold cmp_isNaN_int at h;exact D 1 J<|D 4 J<|Y<|Λ
theorem tN{a b}:PO prog 128 [.I a,.I b] (dH a b) λr=>.I r:=y6 func128 J λr h=>D 1 J<|U 1 J<|cA h mj J J λc _ h=>M 1 J<|U 1 J<|cA h mj J J λv2 _ h=>M 1 J<|c4<|D 1 J<|cN h (λhc h=>c4<|D 1 J<|cN h (λhc h=>D 1 J<|Y<|Λ) λhc h=>b8<|D 1 J<|Y<|Λ) λhc h=>b8<|c4<|D 1 J<|cN h (λhc h=>D 1 J<|Y<|Λ) λhc h=>b8<|c4<|D 3 J<|cN h (λhc h=>D 1 J<|Y<|Λ) λhc h=>b8<|c4<|D 3 J<|cN h (λhc h=>D 1 J<|Y<|Λ) λhc h=>b8<|D 1 J<|Y<|Λ
theorem Ad{b c a}:PO prog 127 [.I b,.I c,.rptr [.abs (aa (List.map (jg O O) a))]] (fO b c a) λr=>.I r:=y6 func127 J λr h=>D 1 J<|U 2 J<|y0 J (Jj (es:=a) (k:=b) (E:=O) (EK:=O) (d:=.I ((C0 a b).getD (0:Int))) J J Bg (D7 Q3) A3 J (lk1 _ _ _))<|S1 2 J<|y0 J (Jj (es:=a) (k:=c) (E:=O) (EK:=O) (d:=.I ((C0 a c).getD (0:Int))) J J Bg (D7 Q3) A3 J (lk1 _ _ _))<|cA h tN J J λe _ h=>M 1 J<|Y<|Λ
theorem Q1{g}:PO prog 68 [a7.Pv g] (H0 g) λr=>.L O r:=y6 func68 J λr h=>D 2 J<|D 1 J<|sR<|EX (KT:=Int) (VT:=Int) (EK:=O) (E:=O) 5000008 J J<|M 2 J<|jq h (λq=>St.of [(3,.sl 910003),(4,.ptr 4 0 0)] [(4,vS (.mp 5000008) 1),(5000008,⟨[.mapc (List.map (jg O O) q.1)],0,false,0,false⟩),(910003,⟨List.map O q.2,0,true,1,true⟩)]) (λu h=>by obtain⟨t,C⟩:=u;exact U 2 J<|Q2 (Wk.trans (YE 5000008 nl J) (a16 4 0 5000008 J J J J))<|Z h λN j h=>a2c j (Kq (λh=>(C0 t h).getD 0) (λx y=>by unfold fO dH cmp_isNaN_int;simp only[a4L,za6,zj,wf];exact a3W _ _)) J J VI a1P J J J VJ J J J J J (λp q r h=>Ad.2 r h)<|yN<|D 2 J<|Y<|Λ) λA h=>U 3 J<|nL J ab<|M 1 J<|c9<|lq h (λq=>St.of [(3,.sl 910003),(4,.ptr 4 0 0),(11,.L c5.Pv g.S.a8),(12,.I (g.S.a8.length:Int)),(13,.I q.1)] [(4,vS (.mp 5000008) 1),(5000008,⟨[.mapc (List.map (jg O O) q.2.1)],0,false,0,false⟩),(910003,⟨List.map O q.2.2,0,true,1,true⟩)]) (cr 3 920003 1 910003) λw R h o=>by obtain⟨e,s,H⟩:=w;exact D 1 J<|c4<|cN h (λhc h=>b8<|jq h (λq=>St.of [(3,.sl 33),(4,.ptr 4 0 0),(11,.L c5.Pv g.S.a8),(12,.I (g.S.a8.length:Int)),(13,.I e)] [(4,vS (.mp 5000008) 1),(5000008,⟨[.mapc (List.map (jg O O) q.1)],0,false,0,false⟩),(33,⟨List.map O q.2,0,true,1,true⟩)]) (λz h=>by obtain⟨F,G⟩:=z;exact S6 2 J<|eL h (WP (swp 910003 33))) λB h=>c9<|U 1 J<|iL h J J ab Z3 λa _ h=>M 4 J<|D 3 J<|cN h (λhc h=>U 3 J<|cA h qw J J λc _ h=>M 1 J<|U 5 J<|J7 (es:=s) (k:=c) (v:=a.Val.Serial) (E:=O) (EK:=O) (.inl J) J J J J J J Bg (D7 Q3)<|yN<|S5 2 J<|y0 J (J6 (f:=O) (l:=[c]) J k8 o8 A3 J J nl J J)<|Z h λP m h=>Vl (f:=O) (b:=8) [(4,.ptr 4 0 0),(11,.L c5.Pv g.S.a8),(12,.I (g.S.a8.length:Int)),(13,.I e),(14,.bool (decide (e<(g.S.a8.length:Int)))),(15,.I e),(16,.rptr (c5.Pc a)),(17,c5.Pv a),(6,.ptr 6 0 0),(5,.I e),(18,.ptr 6 0 0),(19,.I a.State),(20,.bool (a.State==1)),(21,.I e),(22,.ptr 6 0 1),(23,.I a.Gen),(24,.I c),(7,.I c),(25,.mp 5000008),(26,.I c),(27,.ptr 6 0 2),(28,.ptr 6 0 2),(29,.I a.Val.Serial),(31,.I c),(32,.H4 true (List.map O [c]))] [(6,vR (c5.Pv a) 8),(5000008,⟨[.mapc (List.map (jg O O) (r7 s c a.Val.Serial))],0,false,0,false⟩),(4,vS (.mp 5000008) 1)] J m ⟨J,J,J,J,J,J,J,J,J,J,J,J,J,J,J,J,J,J,J,J,J,J,J,J,J,J,J,J,J,J,J,J,J,J,J,J,J,J,J,J,J,J,J,J,J,J,J,J,J,J,J,J,J,J,J,J,J,J,J,J,J,J,J,J,J,J,J,J,J,J,J,J,J,J,J,tr⟩ ⟨rS,aM J J J (λq=>nomatch q) J J J J,aM J J J (λq=>nomatch q) J J J J,tr⟩ J J J J (.inl ⟨_,J,J⟩) k8 o8 G1 A3 J (λ_=>J)<|M 1 J<|eJ h W) λhc h=>b8<|eJ h (WP (swp 33 910003))) λhc h=>s6<|b9<|b9<|o0<|have h:=xL o h;eJ h W
theorem pP{e}:PO prog 336 [.I e] (fm e) λr=>.tup [.I r.1,.I r.2.1,.bool r.2.2]:=y6 func336 J λr h=>D 3 J<|c4<|D 2 J<|cN h (λhc h=>D 3 J<|Y<|Ωh) λhc h=>b8<|U 2 J<|Z h λg a h=>y0 J (iX J J a)<|Z h λv2 b h=>y0 J (iX J J b)<|S1 2 J<|Z h λv3 c h=>y0 J (iX J J c)<|M 2 J<|c4<|U 3 J<|o6 J (λf=>mI J)<|o6 J (λf=>B4 (ct f) J J)<|y0 J (C5 J J J (λq=>bb q))<|yN<|cN h (λhc h=>D 3 J<|Y<|Ωh) λhc h=>b8<|D 5 J<|Y<|Ωh
theorem qx{a}:PO prog 279 [.I a] (ig a) λr=>.I r:=y6 func279 J λr h=>D 1 J<|U 1 J<|cA h pP J J λb _ h=>M 7 J<|D 2 J<|Y<|Λ
theorem tn{a}:PO prog 280 [.I a] (jS a) λr=>.I r:=y6 func280 J λr h=>D 1 J<|U 1 J<|cA h pP J J λb _ h=>M 7 J<|D 2 J<|Y<|Λ
theorem M7{e g}:PO prog 267 [l4.Pv e,.I g] (z6 e g) λr=>.tup [.I r.1,.I r.2]:=y6 func267 J λr h=>D 3 J<|c4<|D 2 J<|cN h (λhc h=>D 2 J<|Y<|Ωa) λhc h=>b8<|U 1 J<|cA h qx J J λj _ h=>M 1 J<|c4<|U 3 J<|o6 J (λa=>mI J)<|o6 J (λa=>oF J QZ J)<|o6 J (λa=>oS (ct a) J J ZE J)<|o6 J (λa=>dq (f:=c5.Pv) (ct a) ab)<|o6 J (λa=>B4 (ct a) (ct a) J)<|y0 J (C5 J J J (λq=>bb q))<|yN<|cN h (λhc h=>D 2 J<|Y<|Ωa) λhc h=>b8<|U 3 J<|iL h J J ab Z3 λv2 _ h=>M 3 J<|c4<|dr [] u5 Φ Φ<|S7 3 J<|Z h λv3 c h=>d2 J (F3 J tn J c) J<|S7 2 J<|L9 J (λa _ b=>oF J DP J) J<|bE J (λa=>oS (ct a) J J H8 J) J<|L9 J (λa _ b=>B4 (ct a) J J) J<|L9 J (λa _ b=>om (d:=.bool (v2.State != 1)) (ct a)) J<|L9 (tG J J J) (λa _ b=>oF J DP J) J<|bE (tG J J J) (λa=>oS (ct a) J J H8 J) J<|L9 (tG J J J) (λa _ b=>B4 (ct a) J J) J<|L9 J (λa _ b=>C9 (ct a) J J (λq=>Wy a (fX q))) J<|d7 J (λ_ b=>C5 J J J (λq=>bb q)) J<|K3<|cN h (λhc h=>D 2 J<|Y<|Ωa) λhc h=>b8<|D 3 J<|Y<|Ωa
theorem ga{b c}:PO prog 185 [l4.Pv b,.I c] (F5 b c) λr=>.tup [u0.Pv r.1,.I r.2]:=y6 func185 J λr h=>D 3 J<|D 1 J<|U 2 J<|cA h M7 J J λe _ h=>M 5 J<|c4<|D 2 J<|cN h (λhc h=>U 2 J<|dD (x':=.agg [.I 0,.I 0,.I 0,.I 0,.bool false,.nl]) (cl':=true) J J (.inl J) kQ<|M 1 J<|Y<|Ω0) λhc h=>b8<|c4<|U 3 J<|iL h J J ab Z3 λv2 a h=>M 3 J<|cN h (λhc h=>U 1 J<|dD (x':=.agg [.I 0,.I 0,.I 0,.I 0,.bool false,.nl]) (cl':=true) J J (.inl J) kQ<|M 1 J<|Y<|Ω0) λhc h=>b8<|U 3 J<|y0 J (y2 (f:=c5.Pv) (cs:=c5.Pc v2) a J J ab Z3 J J)<|M 4 J<|Y<|Ω0
theorem E9{a b}:PO prog 108 [a7.Pv a,.I b] (B3 a b) λr=>.tup [u0.Pv r.1,.I r.2]:=y6 func108 J λr h=>D 3 J<|U 3 J<|cF h ga J J λc _ h=>M 4 J<|Y<|Ω0
theorem lh{a b}:PO prog 186 [b7.Pv a,.I b] (bT a b) λr=>.I r:=y6 func186 J λr h=>D 2 J<|U 3 J<|cF h E9 J J λc _ h=>M 6 J<|D 3 J<|Y<|Λ
theorem yU{g}:PO prog 141 [A2.Pv g] (je g) λr=>.L O r:=y6 func141 J λr h=>D 2 J<|D 1 J<|jq h (λm=>St.of [(3,.sl 910003)] [(910003,⟨List.map O m,0,true,1,true⟩)]) (λm h=>U 1 J<|by obtain⟨w,s,h⟩:=E7 h;exact YF s J J VN Ym J J<|yN<|D 2 J<|Y<|Λ) λu h=>U 3 J<|cF h Q1 J J λa _ h=>nL J k8<|M 1 J<|c9<|lq h (λq=>St.of [(1,.ptr 1 0 0),(3,.sl 910003),(9,.L O a),(10,.I (a.length:Int)),(11,.I q.1)] [(1,vR (A2.Pv g) 9),(910003,⟨List.map O q.2,0,true,1,true⟩)]) (cr 3 920003 1 910003) λt z h k=>by obtain⟨o,v⟩:=t;exact D 1 J<|c4<|cN h (λhc h=>b8<|c4<|c9<|sR<|iL h J J k8 o8 λc _ h=>M 2 J<|S5 4 J<|cA h lh J J λe _ h=>y0 J (J6 (f:=O) (l:=[e]) J k8 o8 A3 J J nl J J)<|Z h λx j h=>Vl (f:=O) (b:=8) [(1,.ptr 1 0 0),(9,.L O a),(10,.I (a.length:Int)),(11,.I o),(12,.bool (decide (o<(a.length:Int)))),(13,.rptr [.I c]),(14,.I c),(5,.I c),(16,.ptr 1 0 0),(17,b7.Pv g.X),(18,.I c),(19,.I e),(20,.H4 true (List.map O [e]))] [(1,vR (A2.Pv g) 9)] J j ⟨J,J,J,J,J,J,J,J,J,J,J,J,J,J,J,J,J,J,J,J,J,J,J,J,J,J,J,J,J,J,J,J,J,J,J,J,J,J,J,tr⟩ ⟨rS,tr⟩ J J J J (.inl ⟨_,J,J⟩) k8 o8 G1 A3 J (λ_=>J)<|M 1 J<|S6 2 J<|eL h (WP (swp 910003 21))) λhc h=>s6<|b9<|b9<|o0<|have h:=xL k h;eJ h W
theorem fg{k g}:PO prog 140 [.str k,.L O g] (ai k g) λr=>.str r:=y6 func140 J λr h=>D 1 J<|jq h (λf=>St.of [(0,.str f)] []) (λf h=>D 2 J<|Y<|Λ) λm h=>U 1 J<|nL J k8<|M 1 J<|c9<|lq h (λq=>St.of [(0,.str q.1),(7,.L O g),(8,.I (g.length:Int)),(9,.I q.2)] []) W λj x h e=>by obtain⟨o,s⟩:=j;exact D 1 J<|c4<|cN h (λhc h=>b8<|c4<|c9<|sR<|iL h J J k8 o8 λt _ h=>M 2 J<|S5 2 J<|Z h λu a h=>y0 J (xy J KR J (SU a))<|Z h λv b h=>y0 J (lV b J J J0)<|Z h λw c h=>y0 J (lV c J J J0)<|M 1 J<|S6 2 J<|eL h W) λhc h=>s6<|b9<|b9<|o0<|have h:=xL e h;eJ h W
theorem lN{a e}:PO prog 80 [k7.Pv a,.L O e] (O0 a e) λr=>.tup [k7.Pv r.1,.str r.2]:=y6 func80 J λr h=>by unfold O0 at h;exact D 3 J<|dr [] u5 Φ Φ<|S7 3 J<|Z h λf b h=>aZ J (y8 J yU J b) J<|Z h λv2 c h=>d2 J (F3 J fg J c) J<|A5 (x':=k7.Pv a) (cl':=true) J J (.inr J) V4<|S8 1 J<|Y<|Ωp
theorem T4{b c}:PO prog 111 [b7.Pv b,.I c] (P9 b c) λr=>.I r:=y6 func111 J λr h=>D 2 J<|c4<|U 3 J<|o6 J (λa=>mI J)<|o6 J (λa=>oF J Ij J)<|o6 J (λa=>oS (ct a) J J KQ J)<|o6 J (λa=>dq (f:=O) (ct a) k8)<|o6 J (λa=>B4 (ct a) (ct a) J)<|y0 J (C5 J J J (λq=>bb q))<|yN<|cN h (λhc h=>D 1 J<|Y<|Λ) λhc h=>b8<|U 3 J<|iL h J J k8 o8 λe _ h=>M 2 J<|Y<|Λ
theorem gP{c e}:PO prog 110 [b7.Pv c,.I e] (bS c e) λr=>.I r:=y6 func110 J λr h=>by unfold bS at h;exact D 2 J<|dr [] u5 Φ Φ<|S7 3 J<|Z h λf a h=>d2 J (F3 J T4 J a) J<|Z h λv2 b h=>d2 J (F3 J lh J b) J<|S8 1 J<|Y<|Λ
theorem lO{b o}:PO prog 81 [k7.Pv b,.L O o] (O1 b o) λr=>.tup [k7.Pv r.1,.str r.2]:=y6 func81 J λr h=>by unfold O1 at h;exact D 3 J<|sR<|Z h λu g h=>y1 J (sP (f:=O) g J J J k8 o8 A3 G1 J J J) J<|M 1 J<|jq h (λe=>St.of [(2,.ptr 2 0 0),(4,.ptr 4 0 0),(6,.sl 8)] [(8,⟨List.map O e,0,true,1,true⟩),(4,vR (.agg [.nl,.I 0,.I 0,.nl,.nl,.nl,.nl,.I 0,.nl,.bool false,.nl]) 11),(2,vR (k7.Pv b) 11)]) (λe h=>dr [] u5 Φ Φ<|S7 2 J<|Z h λw j h=>d2 J (F3 J fg J j) J<|A5 (x':=k7.Pv b) (cl':=true) J J (.inr J) V4<|S8 1 J<|Y<|Ωp) λA h=>U 1 J<|y0 J (tu (f:=O) J J J k8)<|M 1 J<|c9<|lq h (λq=>St.of [(2,.ptr 2 0 0),(4,.ptr 4 0 0),(6,.sl 8),(10,.I (u.length:Int)),(11,.I q.1)] [(8,⟨List.map O q.2,0,true,1,true⟩),(4,vR (.agg [.nl,.I 0,.I 0,.nl,.nl,.nl,.nl,.I 0,.nl,.bool false,.nl]) 11),(2,vR (k7.Pv b) 11)]) W λk z h c=>by obtain⟨s,t⟩:=k;exact D 1 J<|c4<|cN h (λhc h=>b8<|c4<|c9<|D 2 J<|S5 6 J<|cA h gP J J λm _ h=>Z h λx a h=>y0 J (X8 (f:=O) a J J J J k8 o8 J)<|fT (f:=O) (v:=m) a J J (.inl J) o8<|yN<|S6 2 J<|eL h W) λhc h=>s6<|b9<|b9<|o0<|have h:=xL c h;eJ h W
theorem nC{b}:PO prog 71 [l4.Pv b] (Y0 b) λr=>A4.Pv r:=y6 func71 J λr h=>D 2 J<|D 1 J<|jq h (λf=>St.of [(2,.ptr 2 0 0),(3,.ptr 3 0 0)] [(3,vR (A4.Pv f) 4),(2,vR (.agg [.I 0,.I 0,.I 0,.I 0]) 4)]) (λf h=>D 2 J<|Y<|Ω3) λs h=>U 2 J<|nL J ab<|M 1 J<|c9<|lq h (λq=>St.of [(2,.ptr 2 0 0),(3,.ptr 3 0 0),(7,.L c5.Pv b.a8),(8,.I (b.a8.length:Int)),(9,.I q.1)] [(3,vR (A4.Pv q.2) 4),(2,vR (.agg [.I 0,.I 0,.I 0,.I 0]) 4)]) W λe o h c=>by obtain⟨g,j⟩:=e;exact D 1 J<|c4<|cN h (λhc h=>b8<|c4<|c9<|sR<|iL h J J ab Z3 λk _ h=>M 3 J<|S5 2 J<|Z h λm a h=>y0 J (Ob a J J ja o8)<|y0 J (oS J J J H8 (A4.get a))<|S1 1 J<|y0 J (Ob a J J ja o8)<|ZB a J J (.inl J) J o8<|yN<|S6 2 J<|eL h W) λhc h=>s6<|b9<|b9<|o0<|have h:=xL c h;eJ h W
theorem yV{a}:PO prog 40 [A2.Pv a] (jf a) λr=>A4.Pv r:=y6 func40 J λr h=>D 2 J<|U 4 J<|cA h nC J J λb _ h=>M 1 J<|Y<|Ω3
theorem lP{f j}:PO prog 82 [k7.Pv f,.L O j] (W5 f j) λr=>.tup [k7.Pv r.1,.str r.2]:=y6 func82 J λr h=>D 3 J<|U 2 J<|cA h yV J J λe _ h=>M 2 J<|dv (KK 6 J)<|dr [] u5 Φ Φ<|S7 1 J<|d0 J (a3g (xs:=[e.a,e.b,e.c,e.d]) J J ja J o8) J<|Z h λv2 g h=>d2 J (F3 J fg J g) J<|A5 (x':=k7.Pv f) (cl':=true) J J (.inr J) V4<|S8 1 J<|Y<|Ωp
theorem Bm{k}:PO prog 32 [.L O k] (aB k) λr=>.tup [l6.Pv r.1,.I r.2]:=y6 func32 J λr h=>D 2 J<|c4<|U 1 J<|nL J k8<|M 1 J<|cN h (λhc h=>sR<|y0 J (u4 (cs:=[.I 0,.I 0,.I 0,.I 0]) J Fq wV J J J)<|M 2 J<|Y<|Δo) λhc h=>b8<|dr [] u5 Φ Φ<|S7 1 J<|Z h λg a h=>d0 J (y2 (f:=O) (cs:=[.I g]) a J J k8 o8 J J) J<|S7 2 J<|Z h λv2 b h=>d0 J (y2 (f:=O) (cs:=[.I v2]) b J J k8 o8 J J) J<|S7 2 J<|Z h λv3 c h=>d0 J (y2 (f:=O) (cs:=[.I v3]) c J J k8 o8 J J) J<|S7 2 J<|Z h λj e h=>d0 J (y2 (f:=O) (cs:=[.I j]) e J J k8 o8 J J) J<|S7 1 J<|d7 J (λ_ m=>u4 (cs:=[.I g,.I v2,.I v3,.I j]) J Fq wV J J J) J<|S7 1 J<|A5 (x':=.agg [.I g,.I v2,.I v3,.I j]) (cl':=true) J J (.inl J) nU<|K3<|c4<|U 1 J<|cA h lK J J λo _ h=>M 1 J<|D 2 J<|cN h (λhc h=>sR<|y0 J (u4 (cs:=[.I 0,.I 0,.I 0,.I 0]) J Fq wV J J J)<|M 3 J<|Y<|Δo) λhc h=>b8<|D 3 J<|Y<|Δo
theorem yW{a}:PO prog 33 [l6.Pv a] (ov a) λr=>ifE tI r:=y6 func33 J λr h=>D 2 J<|c4<|D 2 J<|c9<|D 2 J<|cN h (λhc h=>sR<|y0 J (u4 (cs:=[]) J VX Ns J J J)<|y0 J (LM (n:=tI) (T:=103) (xs:=[]) J Np J)<|M 1 J<|Y<|Λ) λhc h=>D 2 J<|cN h (λhc h=>U 2 J<|y0 J (u4 (cs:=[.I a.A]) J VY Nt J J J)<|y0 J (LM (n:=tI) (T:=107) (xs:=[a.A]) J Nq J)<|M 1 J<|Y<|Λ) λhc h=>b8<|U 1 J<|y0 J (u4 (cs:=[.I a.Kind,.I a.A,.I a.B,.I a.C]) J ZT Rr J J J)<|y0 J (LM (n:=tI) (T:=99) (xs:=[a.Kind,a.A,a.B,a.C]) J Rk J)<|M 1 J<|Y<|Λ
theorem xq:PO prog 61 [] (gQ) λr=>.abs (aa (List.map (jg O uU) r)):=y6 func61 J λr h=>by unfold gQ at h;exact D 1 J<|sR<|EX (KT:=Int) (VT:=Fv) (EK:=O) (E:=uU) 5000001 J J<|mf (es:=[]) (k:=1) (v:=(some 97)) (E:=uU) (EK:=O) (.inr J) J J J J J J bM (D7 Q3)<|mf (es:=(r7 [] 1 (some 97))) (k:=2) (v:=(some 98)) (E:=uU) (EK:=O) (.inr J) J J J J J J bM (D7 Q3)<|mf (es:=(r7 (r7 [] 1 (some 97)) 2 (some 98))) (k:=3) (v:=(some 99)) (E:=uU) (EK:=O) (.inr J) J J J J J J bM (D7 Q3)<|mf (es:=(r7 (r7 (r7 [] 1 (some 97)) 2 (some 98)) 3 (some 99))) (k:=4) (v:=(some 100)) (E:=uU) (EK:=O) (.inr J) J J J J J J bM (D7 Q3)<|mf (es:=(r7 (r7 (r7 (r7 [] 1 (some 97)) 2 (some 98)) 3 (some 99)) 4 (some 100))) (k:=5) (v:=(some 101)) (E:=uU) (EK:=O) (.inr J) J J J J J J bM (D7 Q3)<|mf (es:=(r7 (r7 (r7 (r7 (r7 [] 1 (some 97)) 2 (some 98)) 3 (some 99)) 4 (some 100)) 5 (some 101))) (k:=6) (v:=(some 102)) (E:=uU) (EK:=O) (.inr J) J J J J J J bM (D7 Q3)<|mf (es:=(r7 (r7 (r7 (r7 (r7 (r7 [] 1 (some 97)) 2 (some 98)) 3 (some 99)) 4 (some 100)) 5 (some 101)) 6 (some 102))) (k:=7) (v:=(some 103)) (E:=uU) (EK:=O) (.inr J) J J J J J J bM (D7 Q3)<|mf (es:=(r7 (r7 (r7 (r7 (r7 (r7 (r7 [] 1 (some 97)) 2 (some 98)) 3 (some 99)) 4 (some 100)) 5 (some 101)) 6 (some 102)) 7 (some 103))) (k:=8) (v:=(some 104)) (E:=uU) (EK:=O) (.inr J) J J J J J J bM (D7 Q3)<|mf (es:=(r7 (r7 (r7 (r7 (r7 (r7 (r7 (r7 [] 1 (some 97)) 2 (some 98)) 3 (some 99)) 4 (some 100)) 5 (some 101)) 6 (some 102)) 7 (some 103)) 8 (some 104))) (k:=9) (v:=(some 105)) (E:=uU) (EK:=O) (.inr J) J J J J J J bM (D7 Q3)<|mf (es:=(r7 (r7 (r7 (r7 (r7 (r7 (r7 (r7 (r7 [] 1 (some 97)) 2 (some 98)) 3 (some 99)) 4 (some 100)) 5 (some 101)) 6 (some 102)) 7 (some 103)) 8 (some 104)) 9 (some 105))) (k:=10) (v:=(some 106)) (E:=uU) (EK:=O) (.inr J) J J J J J J bM (D7 Q3)<|M 2 J<|dv (HT 0 5000001 J J)<|Y<|Λ
theorem ML{b}:PO prog 252 [.I b] (wG b) λr=>.tup [.L O r.1,.I r.2]:=y6 func252 J λr h=>D 2 J<|c4<|U 3 J<|o6 J (λc=>mI J)<|o6 J (λc=>B4 (ct c) J J)<|y0 J (C5 J J J (λq=>bb q))<|yN<|cN h (λhc h=>D 2 J<|Y<|Ωa) λhc h=>b8<|U 1 J<|Z h λe a h=>y1 J (sP (f:=O) a J J J k8 o8 A3 G1 J J J) J<|M 2 J<|Y<|Ωa
theorem rl{a}:PO prog 253 [.I a] (Y3 a) λr=>.bool r:=y6 func253 J λr h=>by unfold Y3 at h;exact D 1 J<|U 3 J<|o6 J (λb=>mI J)<|o6 J (λb=>B4 (ct b) J J)<|y0 J (C9 J J J (λq=>fX q))<|M 1 J<|Y<|Λ
theorem pz{a}:PO prog 325 [l4.Pv a] (U1 a) λr=>.fn (.func 367) [.rptr (l4.Pc r)]:=y6 func325 J λr h=>by unfold U1 at h;exact D 2 J<|D 2 J<|Y<|Λ
theorem Q9{a}:YL prog 331 [.L c5.Pv a] (B7 a) λr=>⟨List.map c5.Pv r,0,true,8,true⟩:=TU func331 J λr h=>by unfold B7 at h;exact D 1 J<|c4<|U 1 J<|HW J ab λb hb=>yN<|I6 b J (λhc=>by obtain rfl:a = []:=(by simpa using hb hc);exact D 1 J<|dv (kD (t:=2) (l:=920000) (z:=8) J J)<|Y<|ΩT) (λhc=>b8<|sR<|y0 J (B9 J ab Z3)<|S1 1 J<|y1 J (iu (f:=c5.Pv) h J J (.inl ⟨_,J,J⟩) ab Z3 MZ rA J (λ_=>J)) J<|M 1 J<|Y<|⟨J,_,_,J,J,J,J⟩)
theorem M8{e g b}:PO prog 268 [l4.Pv e,.I g,c5.Pv b] (G0 e g b) λr=>l4.Pv r:=y6 func268 J λr h=>by unfold G0 at h;exact D 3 J<|U 2 J<|Z h λj c h=>ycN J (EA J Q9 J c) J J<|M 2 J<|U 4 J<|Z h λv2 a h=>y0 J (X8 (f:=c5.Pv) a J J J J ab Z3 J)<|fT (f:=c5.Pv) (v:=b) a J J (.inr J) Z3<|yN<|D 2 J<|Y<|Δs
theorem py{j c}:PO prog 254 [l4.Pv j,u0.Pv c] (H6 j c) λr=>.tup [l4.Pv r.1,.I r.2.1,.I r.2.2]:=by
 refine y6 func254 J λr h=>?_;refine D 5 J ?_;refine jq h (λ_=>St.of [(2,.ptr 2005 0 0),(4,.ptr 2003 0 0),(5,.ptr 2002 0 0),(6,.ptr 2001 0 0)] [(2001,vR (.I 0) 1),(2002,vR (.I 0) 1),(2003,vR (.agg [.nl,.I 0]) 2),(2005,vR (l4.Pv j) 2)]) (λB h=>?_) λE h=>?_
 .exact D 4 J<|Y<|ΔB
 .refine U 1 J ?_;refine cF h pz J J λb _ h=>yN<|c9<|dv (Bi (λl=>if l=2006 then 6 else if l=2007 then 5 else if l=2008 then 4 else if l=2009 then 3 else if l=2010 then 2 else l) [(2,.ptr 2010 0 0),(3,.ptr 2009 0 0),(4,.ptr 2008 0 0),(5,.ptr 2007 0 0),(6,.ptr 2006 0 0),(10,.fn (.func 367) [.rptr (l4.Pc b)])] [(2006,vR (.I 0) 1),(2007,vR (.I 0) 1),(2008,vR (.agg [.nl,.I 0]) 2),(2009,vR (u0.Pv c) 6),(2010,vR (l4.Pv j) 2)]) ?_;refine fB (fn:=Tryz.f367) (N1:=23) J func367 J J nl J VU J J (λe u x m=>?_);refine U 2 J<|nL J ab<|M 1 J<|c9<|lq h (λf=>St.of [(1000002,.ptr 2010 0 0),(1000003,.ptr 2009 0 0),(1000004,.ptr 2008 0 0),(1000005,.ptr 2007 0 0),(1000006,.ptr 2006 0 0),(1000010,.fn (.func 367) [.rptr (l4.Pc b)]),(0,.fn (.yield e) []),(6,.L c5.Pv b.a8),(7,.I (b.a8.length:Int)),(8,.I f)] [(2006,vR (.I 0) 1),(2007,vR (.I 0) 1),(2008,vR (.agg [.nl,.I 0]) 2),(2009,vR (u0.Pv c) 6),(2010,vR (l4.Pv j) 2)]) W λf C h g=>D 1 J<|c4 ?_;refine cN h (λhc h=>?_) λhc h=>?_
  .refine b8 ?_;refine c4<|c9<|U 1 J<|iL h J J ab Z3 λk _ h=>M 4 J<|U 4 J<|o6 J (λw=>om (d:=.fn (.yield e) []) J)<|o6 J (λw=>mI J) ?_;rcases zay ((k.State==0)==true) with a | a
   .exact have h:=Vu h a;Q2 (WE [(1000002,.ptr 2010 0 0),(1000003,.ptr 2009 0 0),(1000004,.ptr 2008 0 0),(1000005,.ptr 2007 0 0),(1000006,.ptr 2006 0 0),(1000010,.fn (.func 367) [.rptr (l4.Pc b)]),(0,.fn (.yield e) []),(6,.L c5.Pv b.a8),(7,.I (b.a8.length:Int)),(8,.I f),(16,.bool (k.State==0)),(17,.fn (.yield e) []),(18,.I f)] [(2006,vR (.I 0) 1),(2007,vR (.I 0) 1),(2008,vR (.agg [.nl,.I 0]) 2),(2009,vR (u0.Pv c) 6),(2010,vR (l4.Pv j) 2)])<|pJ m (m9 some a) J J J J J (λv z A=>S6 1 J<|⟨J,c9<|U 3 J<|iL h J J ab Z3 λo _ h=>M 3 J<|U 4 J<|y0 J (u4 (cs:=[.I 1,.I o.Gen,.I c.Serial,.I c.Strong,.I c.Weak,.I c.Prog,.bool c.Started,.L O c.Fields]) J Am rA J J J)<|cF h M8 J J λs _ h=>S1 2 J<|cA h qw J J λt _ h=>M 3 J<|Y<|⟨J,Q2 (WE [(1000002,.ptr 2010 0 0),(1000003,.ptr 2009 0 0),(1000004,.ptr 2008 0 0),(1000005,.ptr 2007 0 0),(1000006,.ptr 2006 0 0),(1000010,.fn (.func 367) [.rptr (l4.Pc b)]),(0,.fn (.yield e) []),(6,.L c5.Pv b.a8),(7,.I (b.a8.length:Int)),(8,.I f),(16,.bool (k.State==0)),(19,.bool false)] [(2006,vR (.I 0) 1),(2007,vR (.I t) 1),(2008,vR (l4.Pv s) 2),(2009,vR (u0.Pv c) 6),(2010,vR (l4.Pv j) 2)])<|y0 (m9 some a) (dt J J)<|y0 J (oQ J J a)<|yN<|I6 true J (λ_=>Y<|.inr ⟨.ret,J,Xg (have h:=xL g h;ΔB)⟩) (λq=>nomatch q)⟩⟩)
   .exact have h:=Vt h a;dY (m9 some a)<|dY (m9 some a)<|y0 J (rW J J a)<|yN<|I6 false J (λq=>nomatch q) (λ_=>b8<|S6 2 J<|eL h W)
  .exact s6<|b9<|b9<|o0<|.inl ⟨J,have h:=xL g h;eJ h (WP (λl=>if l=2005 then 2010 else if l=2003 then 2008 else if l=2002 then 2007 else if l=2001 then 2006 else l))⟩
theorem DH{a c b}:PO prog 176 [a7.Pv a,.I c,.I b] (T6 a c b) λr=>.tup [a7.Pv r.1,.I r.2.1,.I r.2.2]:=y6 func176 J λr h=>D 4 J<|U 1 J<|cF h ML J J λe _ h=>M 5 J<|c4<|D 2 J<|cN h (λhc h=>D 5 J<|Y<|ΩY) λhc h=>b8<|c4<|U 1 J<|cA h rl J J λv2 _ h=>M 1 J<|cN h (λhc h=>D 4 J<|Y<|ΩY) λhc h=>b8<|U 7 J<|y0 J (u4 (cs:=[.I (z8 (a.Serial+1)),.I 0,.I 0,.I b,.bool false,.L O e.1]) J Wb Wr J J J)<|cF h py J J λv3 _ h=>M 8 J<|c4<|D 2 J<|cN h (λhc h=>D 5 J<|Y<|ΩY) λhc h=>b8<|U 4 J<|y0 J (u4 (cs:=[.L c5.Pv v3.1.a8,.I v3.1.Last,.I (z8 (a.Serial+1))]) J Rh Ro J J J)<|M 4 J<|Y<|ΩY
theorem BI{a b}:PO prog 327 [b7.Pv a,.I b] (la a b) λr=>.bool r:=y6 func327 J λr h=>D 2 J<|U 3 J<|cF h E9 J J λc _ h=>M 6 J<|D 3 J<|Y<|Λ
theorem ao{c e}:PO prog 256 [b7.Pv c,.I e] (P7 c e) λr=>.bool r:=y6 func256 J λr h=>by unfold P7 at h;exact D 2 J<|U 3 J<|o6 J (λa=>oL J J J A0 y3 nl J)<|o6 J (λa=>mI J)<|Z h λf b h=>o6 J (λa=>F3 J BI (T8 (ct a) (T8 (ct a) J)) (K5 b a))<|y0 J (C5 J J J (λq=>bb q))<|M 1 J<|Y<|Λ
theorem bO{a}:PO prog 332 [.I a] (J8 a) λr=>.bool r:=y6 func332 J λr h=>by unfold J8 at h;exact D 1 J<|D 3 J<|Y<|Λ
theorem uL{a}:PO prog 271 [.I a] (jM a) λr=>.tup [.I r.1,.I r.2]:=y6 func271 J λr h=>D 2 J<|c4<|U 1 J<|cA h bO J J λb _ h=>yN<|cN h (λhc h=>D 2 J<|Y<|Ωa) λhc h=>b8<|U 1 J<|y0 J (Oc J J J)<|M 3 J<|Y<|Ωa
theorem FM{a}:PO prog 190 [.I a] (rC a) λr=>.I r:=y6 func190 J λr h=>D 1 J<|U 1 J<|cA h uL J J λb _ h=>M 5 J<|D 2 J<|Y<|Λ
theorem qg{a b c}:PO prog 187 [l4.Pv a,.I b,u0.Pv c] (O7 a b c) λr=>.tup [l4.Pv r.1,.I r.2]:=y6 func187 J λr h=>D 4 J<|U 2 J<|cA h M7 J J λe _ h=>M 5 J<|c4<|D 2 J<|cN h (λhc h=>D 4 J<|Y<|ΩB) λhc h=>b8<|U 3 J<|iL h J J ab Z3 λv2 _ h=>M 3 J<|D 3 J<|U 3 J<|cF h M8 J J λv3 _ h=>M 2 J<|Y<|ΩB
theorem cR{a b c}:PO prog 114 [a7.Pv a,.I b,u0.Pv c] (O8 a b c) λr=>.tup [a7.Pv r.1,.I r.2]:=y6 func114 J λr h=>D 4 J<|D 1 J<|U 4 J<|cF h qg J J λe _ h=>M 6 J<|D 4 J<|Y<|Ω1
theorem jV{a b}:PO prog 189 [b7.Pv a,.I b,.fn (.func 190) []] (al a b) λr=>b7.Pv r:=y6 func189 J λr h=>D 2 J<|U 3 J<|cF h E9 J J λc _ h=>M 6 J<|c4<|D 2 J<|cN h (λhc h=>U 3 J<|cA h FM J J λv2 _ h=>M 2 J<|S5 4 J<|cF h cR J J λv3 _ h=>M 5 J<|D 2 J<|Y<|Ωf) λhc h=>b8<|D 2 J<|Y<|Ωf
theorem fq{a b}:PO prog 116 [b7.Pv a,.I b] (bR a b) λr=>b7.Pv r:=y6 func116 J λr h=>D 2 J<|U 2 J<|cF h jV J J λc _ h=>M 1 J<|Y<|Ωf
theorem ma{a}:YL prog 347 [.L O a] (Q8 a) λr=>⟨List.map O r,0,true,1,true⟩:=TU func347 J λr h=>by unfold Q8 at h;exact D 1 J<|c4<|U 1 J<|HW J k8 λb hb=>yN<|I6 b J (λhc=>by obtain rfl:a = []:=(by simpa using hb hc);exact D 1 J<|dv (kD (t:=2) (l:=920000) (z:=1) J J)<|Y<|ΩT) (λhc=>b8<|sR<|y0 J (B9 J k8 o8)<|S1 1 J<|y1 J (iu (f:=O) h J J (.inl ⟨_,J,J⟩) k8 o8 G1 A3 J (λ_=>J)) J<|M 1 J<|Y<|⟨J,_,_,J,J,J,J⟩)
theorem qd{b e}:PO prog 298 [M1.Pv b,b7.Pv e] (V7 b e) λr=>b7.Pv r:=y6 func298 J λr h=>by unfold V7 at h;exact D 3 J<|U 2 J<|Z h λg c h=>ycN J (EA J ma J c) J J<|M 2 J<|U 6 J<|Z h λv2 a h=>y0 J (X8 (f:=O) a J J J J k8 o8 J)<|fT (f:=O) (v:=b.h) a J J (.inl J) o8<|yN<|D 2 J<|Y<|Ωf
theorem sK{a}:PO prog 281 [.I a] (gp a) λr=>.tup [.I r.1,.I r.2]:=y6 func281 J λr h=>D 2 J<|c4<|U 1 J<|cA h bO J J λb _ h=>yN<|cN h (λhc h=>D 2 J<|Y<|Ωa) λhc h=>b8<|c4<|D 2 J<|cN h (λhc h=>D 2 J<|Y<|Ωa) λhc h=>b8<|D 4 J<|Y<|Ωa
theorem FL{a}:PO prog 197 [.I a] (wZ a) λr=>.tup [.I r.1,.I r.2]:=y6 func197 J λr h=>D 2 J<|U 1 J<|cA h sK J J λb _ h=>M 5 J<|D 4 J<|Y<|Ωa
theorem vg{a}:PO prog 196 [.I a] (fp a) λr=>.I r:=y6 func196 J λr h=>D 1 J<|U 1 J<|cA h FL J J λb _ h=>M 5 J<|c4<|D 2 J<|cN h (λhc h=>D 2 J<|Y<|Λ) λhc h=>b8<|D 2 J<|Y<|Λ
theorem fU{a b}:PO prog 189 [b7.Pv a,.I b,.fn (.func 196) []] (T3 a b) λr=>b7.Pv r:=y6 func189 J λr h=>D 2 J<|U 3 J<|cF h E9 J J λc _ h=>M 6 J<|c4<|D 2 J<|cN h (λhc h=>U 3 J<|cA h vg J J λv2 _ h=>M 2 J<|S5 4 J<|cF h cR J J λv3 _ h=>M 5 J<|D 2 J<|Y<|Ωf) λhc h=>b8<|D 2 J<|Y<|Ωf
theorem aT{a b}:PO prog 123 [b7.Pv a,.I b] (F9 a b) λr=>b7.Pv r:=y6 func123 J λr h=>D 2 J<|U 2 J<|cF h fU J J λc _ h=>M 1 J<|Y<|Ωf
theorem dS{b c e f}:PO prog 257 [b7.Pv b,.I c,.I e,.abs (YI 298 [M1.Pv f])] (I5 b c e f) λr=>b7.Pv r:=y6 func257 J λr h=>D 2 J<|U 3 J<|cF h fq J J λg _ h=>Z h λv2 a h=>HV (xs:=[b7.Pv g]) J J VS J (qd.2 _ a)<|S1 1 J<|cF h aT J J λv3 _ h=>M 1 J<|Y<|Ωf
theorem oE{j b c}:PO prog 205 [b7.Pv j,.I b,.I c] (cE j b c) λr=>.tup [b7.Pv r.1,.I r.2]:=y6 func205 J λr h=>D 3 J<|c4<|U 3 J<|o6 J (λa=>mI J)<|o6 J (λa=>oF J Ij J)<|o6 J (λa=>oS (ct a) J J KQ J)<|o6 J (λa=>dq (f:=O) (ct a) k8)<|o6 J (λa=>B4 (ct a) (ct a) J)<|y0 J (C5 J J J (λq=>bb q))<|yN<|cN h (λhc h=>D 3 J<|Y<|Ωd) λhc h=>b8<|c4<|U 2 J<|cA h ao J J λm _ h=>M 1 J<|cN h (λhc h=>D 3 J<|Y<|Ωd) λhc h=>b8<|dr [] u5 Φ Φ<|S7 4 J<|Z h λv2 e h=>d0 J (y2 (f:=O) (cs:=[.I v2]) e J J k8 o8 J J) J<|S7 4 J<|d7 J (λ_ k=>u4 (cs:=[.I b,.I c]) J Wh Ww J J J) J<|d7 J (λ_ k=>xz (d:=.agg [.I b,.I c]) J) J<|Z h λv3 g h=>aZ J (y8 J dS J g) J<|A5 (x':=b7.Pv v3) (cl':=true) J J (.inr J) y3<|S8 1 J<|Y<|Ωd
theorem L3{a b c}:PO prog 177 [y5.Pv a,.I b,.I c] (E5 a b c) λr=>.tup [b7.Pv r.1,.I r.2]:=y6 func177 J λr h=>D 3 J<|c4<|D 2 J<|cN h (λhc h=>D 5 J<|Y<|Ωd) λhc h=>b8<|U 6 J<|cF h oE J J λe _ h=>M 4 J<|Y<|Ωd
theorem fy{a}:PO prog 97 [y5.Pv a] (Z6 a) λr=>.tup [b7.Pv r.1,.I r.2]:=y6 func97 J λr h=>D 3 J<|U 9 J<|cF h DH J J λb _ h=>M 8 J<|c4<|D 2 J<|cN h (λhc h=>D 5 J<|Y<|Ωd) λhc h=>b8<|D 4 J<|U 2 J<|cF h L3 J J λv2 _ h=>M 4 J<|Y<|Ωd
theorem cU{c}:PO prog 98 [y5.Pv c] (M4 c) λr=>.tup [b7.Pv r.1,.I r.2]:=y6 func98 J λr h=>by unfold M4 at h;exact D 3 J<|dr [] u5 Φ Φ<|S7 6 J<|Z h λe a h=>d2 J (F3 J T4 J a) J<|Z h λv2 b h=>aZ J (y8 J L3 J b) J<|S7 2 J<|A5 (x':=b7.Pv v2.1) (cl':=true) J J (.inr J) y3<|S8 1 J<|Y<|Ωd
theorem il{a}:PO prog 99 [y5.Pv a] (bH a) λr=>.tup [b7.Pv r.1,.I r.2]:=y6 func99 J λr h=>D 3 J<|U 1 J<|cF h L3 J J λb _ h=>M 4 J<|Y<|Ωd
theorem X7{a b}:PO prog 178 [b7.Pv a,.I b] (Q6 a b) λr=>.tup [.I r.1,.I r.2]:=y6 func178 J λr h=>D 3 J<|U 2 J<|cA h T4 J J λc _ h=>M 1 J<|c4<|D 2 J<|cN h (λhc h=>D 2 J<|Y<|Ωa) λhc h=>b8<|D 3 J<|Y<|Ωa
theorem CY{b c}:PO prog 326 [.L O b,.I c] (pG b c) λr=>.bool r:=y6 func326 J λr h=>by unfold pG at h;exact D 1 J<|U 3 J<|o6 J (λa=>mI J)<|o6 J (λa=>om (d:=.L O b) J)<|o6 J (λa=>dq (f:=O) (ct a) k8)<|o6 J (λa=>B4 (ct a) (ct a) J)<|y0 J (C9 J J J (λq=>fX q))<|M 1 J<|Y<|Λ
theorem QN{a b}:PO prog 255 [.L O a,.I b] (rq a b) λr=>.tup [.I r.1,.I r.2]:=y6 func255 J λr h=>D 2 J<|c4<|U 2 J<|cA h CY J J λc _ h=>M 1 J<|cN h (λhc h=>D 2 J<|Y<|Ωa) λhc h=>b8<|U 2 J<|iL h J J k8 o8 λv2 _ h=>M 3 J<|Y<|Ωa
theorem rk{a b c}:PO prog 179 [a7.Pv a,.I b,.I c] (Y2 a b c) λr=>.tup [.I r.1,.I r.2]:=y6 func179 J λr h=>D 3 J<|U 2 J<|cF h E9 J J λe _ h=>M 6 J<|c4<|D 2 J<|cN h (λhc h=>D 3 J<|Y<|Ωa) λhc h=>b8<|U 3 J<|cA h QN J J λv2 _ h=>M 4 J<|Y<|Ωa
theorem iq{c}:PO prog 100 [y5.Pv c] (bI c) λr=>.tup [b7.Pv r.1,.I r.2]:=y6 func100 J λr h=>D 3 J<|U 5 J<|cA h X7 J J λe _ h=>M 5 J<|c4<|D 2 J<|cN h (λhc h=>D 5 J<|Y<|Ωd) λhc h=>b8<|dr [] u5 Φ Φ<|S7 8 J<|Z h λv2 a h=>d2 J (F3 J rk J a) J<|S7 2 J<|Z h λv3 b h=>aZ J (y8 J L3 J b) J<|S7 2 J<|A5 (x':=b7.Pv v3.1) (cl':=true) J J (.inr J) y3<|S8 1 J<|Y<|Ωd
theorem KC{g j b}:PO prog 368 [.L O g,.I j,.I b] (CX g j b) λr=>.tup [.L O r.1,.I r.2]:=y6 func368 J λr h=>D 2 J<|c4<|U 2 J<|cA h CY J J λk _ h=>M 1 J<|cN h (λhc h=>D 3 J<|Y<|Ωa) λhc h=>b8<|U 1 J<|nL J k8<|Z h λv2 c h=>y1 J (sP (f:=O) c J J J k8 o8 A3 G1 J J J) J<|M 1 J<|U 2 J<|Z h λv3 e h=>a19 (f:=O) e J J J (.inl ⟨_,J,J⟩) k8 o8 (λ_=>J) Θ<|yN<|U 3 J<|Z h λm a h=>y0 J (X8 (f:=O) a J J J J k8 o8 J)<|fT (f:=O) (v:=b) a J J (.inl J) o8<|yN<|D 3 J<|Y<|Ωa
theorem HI{a b c e}:PO prog 328 [a7.Pv a,.I b,.I c,.I e] (sz a b c e) λr=>.tup [a7.Pv r.1,.I r.2]:=y6 func328 J λr h=>D 3 J<|U 2 J<|cF h E9 J J λf _ h=>M 6 J<|c4<|D 2 J<|cN h (λhc h=>D 4 J<|Y<|Ω1) λhc h=>b8<|c4<|U 4 J<|cF h KC J J λv2 _ h=>M 6 J<|D 2 J<|cN h (λhc h=>D 4 J<|Y<|Ω1) λhc h=>b8<|U 3 J<|cF h cR J J λv3 _ h=>M 4 J<|Y<|Ω1
theorem oG{a b}:PO prog 258 [L0.Pv a,b7.Pv b] (cY a b) λr=>b7.Pv r:=y6 func258 J λr h=>D 3 J<|U 8 J<|cF h HI J J λc _ h=>M 5 J<|D 2 J<|Y<|Ωf
theorem dp{b c e f}:PO prog 257 [b7.Pv b,.I c,.I e,.abs (YI 258 [L0.Pv f])] (M2 b c e f) λr=>b7.Pv r:=y6 func257 J λr h=>D 2 J<|U 3 J<|cF h fq J J λg _ h=>Z h λv2 a h=>HV (xs:=[b7.Pv g]) J J VO J (oG.2 _ a)<|S1 1 J<|cF h aT J J λv3 _ h=>M 1 J<|Y<|Ωf
theorem Dx{e a b c}:PO prog 180 [b7.Pv e,.I a,.I b,.I c] (bQ e a b c) λr=>.tup [b7.Pv r.1,.I r.2]:=y6 func180 J λr h=>D 3 J<|U 4 J<|cA h rk J J λf _ h=>M 5 J<|c4<|D 2 J<|cN h (λhc h=>D 4 J<|Y<|Ωd) λhc h=>b8<|c4<|U 2 J<|cA h ao J J λv2 _ h=>M 1 J<|cN h (λhc h=>D 3 J<|Y<|Ωd) λhc h=>b8<|U 6 J<|y0 J (u4 (cs:=[.I a,.I b,.I c]) J We Wt J J J)<|y0 J (xz (d:=.agg [.I a,.I b,.I c]) J)<|cF h dp J J λv3 _ h=>M 2 J<|Y<|Ωd
theorem fZ{c}:PO prog 101 [y5.Pv c] (aJ c) λr=>.tup [b7.Pv r.1,.I r.2]:=y6 func101 J λr h=>D 3 J<|U 5 J<|cA h X7 J J λe _ h=>M 5 J<|c4<|D 2 J<|cN h (λhc h=>D 5 J<|Y<|Ωd) λhc h=>b8<|dr [] u5 Φ Φ<|S7 11 J<|Z h λv2 a h=>d2 J (F3 J T4 J a) J<|Z h λv3 b h=>aZ J (y8 J Dx J b) J<|S7 2 J<|A5 (x':=b7.Pv v3.1) (cl':=true) J J (.inr J) y3<|S8 1 J<|Y<|Ωd
theorem MH{a b}:PO prog 329 [n0.Pv a,.I b] (AY a b) λr=>.fn (.func 369) [.rptr (n0.Pc r.1),.rptr [.I r.2]]:=y6 func329 J λr h=>by unfold AY at h;exact D 3 J<|D 2 J<|Y<|Λ
theorem DJ{m j}:PO prog 259 [n0.Pv m,.I j] (kz m j) λr=>.bool r:=by
 refine y6 func259 J λr h=>?_;refine D 3 J ?_;refine jq h (λ_=>St.of [(4,.ptr 2001 0 0)] [(2001,vR (.bool false) 1)]) (λA h=>?_) λz h=>?_
 .exact D 1 J<|Y<|ΔC
 .refine U 1 J ?_;refine cF h MH J J λb _ h=>yN<|c9<|dv (Bi (λl=>if l=2003 then 4 else if l=2004 then 3 else l) [(3,.ptr 2004 0 0),(4,.ptr 2003 0 0),(7,.fn (.func 369) [.rptr (n0.Pc b.1),.rptr [.I b.2]])] [(2003,vR (.bool false) 1),(2004,vR (.I j) 1)]) ?_;refine fB (fn:=Tryz.f369) (N1:=24) J func369 J J nl J VV J J (λc o u k=>?_);refine U 2 J<|nL J qj<|M 1 J<|c9<|lq h (λe=>St.of [(1000003,.ptr 2004 0 0),(1000004,.ptr 2003 0 0),(1000007,.fn (.func 369) [.rptr (n0.Pc b.1),.rptr [.I b.2]]),(0,.fn (.yield c) []),(2,.rptr [.I b.2]),(7,.L p8.Pv b.1.L),(8,.I (b.1.L.length:Int)),(9,.I e)] [(2003,vR (.bool false) 1),(2004,vR (.I j) 1)]) W λe x h g=>D 1 J<|c4 ?_;refine cN h (λhc h=>?_) λhc h=>?_
  .refine b8 ?_;refine c4<|c9<|sR<|iL h J J qj R1 λf _ h=>M 3 J<|U 5 J<|o6 J (λt=>om (d:=.fn (.yield c) []) J)<|o6 J (λt=>oL J J J eP R1 nl J) ?_;rcases zay ((f.Kind==b.2)==true) with a | a
   .exact have h:=Vu h a;Q2 (WE [(1000003,.ptr 2004 0 0),(1000004,.ptr 2003 0 0),(1000007,.fn (.func 369) [.rptr (n0.Pc b.1),.rptr [.I b.2]]),(0,.fn (.yield c) []),(2,.rptr [.I b.2]),(7,.L p8.Pv b.1.L),(8,.I (b.1.L.length:Int)),(9,.I e),(17,.bool (f.Kind==b.2)),(18,.fn (.yield c) []),(19,p8.Pv f)] [(2003,vR (.bool false) 1),(2004,vR (.I j) 1)])<|pJ k (m9 some a) J J J J J (λs v w=>S6 2 J<|⟨J,c9<|D 4 J<|cN h (λhc h=>D 1 J<|Y<|⟨J,Q2 (WE [(1000003,.ptr 2004 0 0),(1000004,.ptr 2003 0 0),(1000007,.fn (.func 369) [.rptr (n0.Pc b.1),.rptr [.I b.2]]),(0,.fn (.yield c) []),(2,.rptr [.I b.2]),(7,.L p8.Pv b.1.L),(8,.I (b.1.L.length:Int)),(9,.I e),(17,.bool (f.Kind==b.2)),(20,.bool false)] [(2003,vR (.bool true) 1),(2004,vR (.I j) 1)])<|y0 (m9 some a) (dt J J)<|y0 J (oQ J J a)<|yN<|I6 true J (λ_=>Y<|.inr ⟨.ret,J,Xg (have h:=xL g h;ΔC)⟩) (λq=>nomatch q)⟩) λhc h=>b8<|⟨J,Q2 (WE [(1000003,.ptr 2004 0 0),(1000004,.ptr 2003 0 0),(1000007,.fn (.func 369) [.rptr (n0.Pc b.1),.rptr [.I b.2]]),(0,.fn (.yield c) []),(2,.rptr [.I b.2]),(7,.L p8.Pv b.1.L),(8,.I (b.1.L.length:Int)),(9,.I e),(17,.bool (f.Kind==b.2)),(20,.bool true)] [(2003,vR (.bool false) 1),(2004,vR (.I j) 1)])<|y0 (m9 some a) (dt J J)<|y0 J (oQ J J a)<|yN<|I6 false J (λq=>nomatch q) (λ_=>b8<|S6 2 J<|eL h W)⟩⟩)
   .exact have h:=Vt h a;dY (m9 some a)<|dY (m9 some a)<|y0 J (rW J J a)<|yN<|I6 false J (λq=>nomatch q) (λ_=>b8<|S6 2 J<|eL h W)
  .exact s6<|b9<|b9<|o0<|.inl ⟨J,have h:=xL g h;eJ h (WP (swp 2001 2003))⟩
theorem yL{b c}:PO prog 263 [.L l7.Pv b,.I c] (nK b c) λr=>.bool r:=y6 func263 J λr h=>by unfold nK at h;exact D 1 J<|U 3 J<|o6 J (λa=>mI J)<|o6 J (λa=>om (d:=.L l7.Pv b) J)<|o6 J (λa=>dq (f:=l7.Pv) (ct a) bl)<|o6 J (λa=>B4 (ct a) (ct a) J)<|y0 J (C9 J J J (λq=>fX q))<|M 1 J<|Y<|Λ
theorem pV{c}:YL prog 275 [.L l7.Pv c] (cq c) λr=>⟨List.map l7.Pv r,0,true,3,true⟩:=TU func275 J λr h=>by unfold cq at h;exact D 1 J<|U 1 J<|nL J bl<|Z h λe a h=>y1 J (sP (f:=l7.Pv) a J J J bl bA Fy MY J J J) J<|M 1 J<|U 2 J<|Z h λv2 b h=>a19 (f:=l7.Pv) b J J J (.inl ⟨_,J,J⟩) bl bA (λ_=>J) Θ<|yN<|D 2 J<|Y<|ΩT
theorem KI{j k a c}:PO prog 260 [.L l7.Pv j,.I k,.I a,.I c] (wI j k a c) λr=>.tup [.L l7.Pv r.1,.I r.2.1,.I r.2.2]:=y6 func260 J λr h=>D 3 J<|c4<|U 2 J<|cA h yL J J λo _ h=>M 1 J<|cN h (λhc h=>D 4 J<|Y<|Ωh) λhc h=>b8<|U 1 J<|Z h λv2 e h=>ycN J (EA J pV J e) J J<|M 1 J<|U 6 J<|y0 J (u4 (cs:=[.I a,.bool (a != 0),.I c]) J Wc Fy J J J)<|Z h λv3 b h=>y0 J (X8 (f:=l7.Pv) b J J J J bl bA J)<|fT (f:=l7.Pv) (v:=(⟨a,(a != 0),c⟩:l7)) b J J (.inl J) bA<|yN<|dr [] u5 Φ Φ<|S7 3 J<|Z h λm g h=>d0 J (y2 (f:=l7.Pv) (cs:=l7.Pc m) g J J bl bA J J) J<|S8 5 J<|Y<|Ωh
theorem qz{a b c}:PO prog 262 [b7.Pv a,.I b,.I c] (eD a b c) λr=>b7.Pv r:=y6 func262 J λr h=>D 2 J<|U 4 J<|cA h M7 J J λe _ h=>M 5 J<|c4<|D 2 J<|cN h (λhc h=>U 5 J<|iL h J J ab Z3 λv2 _ h=>M 4 J<|D 6 J<|S5 4 J<|cF h cR J J λv3 _ h=>M 5 J<|D 2 J<|Y<|Ωf) λhc h=>b8<|D 2 J<|Y<|Ωf
theorem fM{a b}:PO prog 195 [l4.Pv a,.I b] (U0 a b) λr=>.tup [l4.Pv r.1,.I r.2]:=y6 func195 J λr h=>D 3 J<|U 2 J<|cA h M7 J J λc _ h=>M 5 J<|c4<|D 2 J<|cN h (λhc h=>D 4 J<|Y<|ΩB) λhc h=>b8<|U 3 J<|iL h J J ab Z3 λv2 _ h=>M 3 J<|c4<|D 4 J<|cN h (λhc h=>U 3 J<|y0 J (u4 (cs:=[.I 3,.I v2.Gen,.I 0,.I 0,.I 0,.I 0,.bool false,.nl]) J Am rA J J J)<|cF h M8 J J λv3 _ h=>M 2 J<|Y<|ΩB) λhc h=>b8<|U 4 J<|y0 J (u4 (cs:=[.I 0,.I (z8 (v2.Gen+1)),.I 0,.I 0,.I 0,.I 0,.bool false,.nl]) J Am rA J J J)<|cF h M8 J J λe _ h=>M 2 J<|Y<|ΩB
theorem xl{b c}:PO prog 261 [b7.Pv b,.I c] (gO b c) λr=>b7.Pv r:=y6 func261 J λr h=>D 2 J<|U 2 J<|cF h qz J J λe _ h=>M 1 J<|U 4 J<|cA h M7 J J λv2 _ h=>M 5 J<|c4<|D 2 J<|cN h (λhc h=>D 2 J<|Y<|Ωf) λhc h=>b8<|c4<|U 5 J<|iL h J J ab Z3 λv3 _ h=>M 3 J<|U 4 J<|o6 J (λa=>oF J Pm J)<|o6 J (λa=>oF (ct a) Pf J)<|o6 J (λa=>oS (ct a) J J H8 J)<|o6 J (λa=>B4 (ct a) J J)<|y0 J (C9 J J J (λq=>fX q))<|yN<|cN h (λhc h=>S5 4 J<|cF h fM J J λf _ h=>M 6 J<|D 2 J<|Y<|Ωf) λhc h=>b8<|D 2 J<|Y<|Ωf
theorem vh{c e g j}:PO prog 181 [b7.Pv c,.I e,.I g,.I j] (ak c e g j) λr=>.tup [b7.Pv r.1,.I r.2]:=y6 func181 J λr h=>by unfold ak at h;exact D 3 J<|c4<|U 3 J<|o6 J (λa=>mI J)<|o6 J (λa=>oF J Ra J)<|o6 J (λa=>oS (ct a) J J ZF J)<|o6 J (λa=>dq (f:=l7.Pv) (ct a) bl)<|o6 J (λa=>B4 (ct a) (ct a) J)<|y0 J (C5 J J J (λq=>bb q))<|S1 1 J<|o6 J (λa=>oF J Rb J)<|o6 J (λa=>oL (ct a) J J lI eY nl J)<|o6 J (λa=>mI J)<|Z h λk b h=>o6 J (λa=>F3 J DJ (T8 (ct a) (T8 (ct a) J)) (K5 b a))<|y0 J (C5 J J J (λq=>bb q))<|yN<|cN h (λhc h=>D 3 J<|Y<|Ωd) λhc h=>b8<|c4<|U 2 J<|cA h ao J J λv2 _ h=>M 1 J<|cN h (λhc h=>D 3 J<|Y<|Ωd) λhc h=>b8<|U 5 J<|cF h KI J J λv3 _ h=>M 7 J<|D 3 J<|U 2 J<|cF h qz J J λm _ h=>S1 1 J<|cF h xl J J λo _ h=>M 2 J<|Y<|Ωd
theorem fz{a}:PO prog 102 [y5.Pv a] (Z7 a) λr=>.tup [b7.Pv r.1,.I r.2]:=y6 func102 J λr h=>D 3 J<|c4<|D 4 J<|cN h (λhc h=>U 8 J<|cF h vh J J λb _ h=>M 4 J<|Y<|Ωd) λhc h=>b8<|U 5 J<|cA h X7 J J λv2 _ h=>M 5 J<|c4<|D 2 J<|cN h (λhc h=>D 5 J<|Y<|Ωd) λhc h=>b8<|U 9 J<|cF h vh J J λv3 _ h=>M 4 J<|Y<|Ωd
theorem HS{c e}:PO prog 182 [.L l7.Pv c,.I e] (nJ c e) λr=>.tup [.I r.1,.I r.2]:=y6 func182 J λr h=>D 2 J<|c4<|U 2 J<|cA h yL J J λg _ h=>M 1 J<|cN h (λhc h=>D 2 J<|Y<|Ωa) λhc h=>b8<|c4<|U 2 J<|iL h J J bl bA λv2 b h=>S1 4 J<|o6 J (λa=>om (d:=.L l7.Pv c) J)<|o6 J (λa=>mI J)<|o6 J (λa=>y2 (f:=l7.Pv) (cs:=l7.Pc v2) b (ct a) (ct a) bl bA J J)<|o6 J (λa=>M5 (ct a) Pl J)<|o6 J (λa=>D0 (ct a) ye J)<|o6 J (λa=>dt (ct a) J)<|y0 J (C5 J J J (λq=>bb q))<|yN<|cN h (λhc h=>D 2 J<|Y<|Ωa) λhc h=>b8<|U 2 J<|y0 J (y2 (f:=l7.Pv) (cs:=l7.Pc v2) b J J bl bA J J)<|M 4 J<|Y<|Ωa
theorem jY{c}:PO prog 103 [y5.Pv c] (aU c) λr=>.tup [b7.Pv r.1,.I r.2]:=y6 func103 J λr h=>by unfold aU at h;exact D 3 J<|dr [] u5 Φ Φ<|S7 7 J<|Z h λe a h=>d2 J (F3 J HS J a) J<|S7 2 J<|Z h λv2 b h=>aZ J (y8 J L3 J b) J<|S7 2 J<|A5 (x':=b7.Pv v2.1) (cl':=true) J J (.inr J) y3<|S8 1 J<|Y<|Ωd
theorem ve{a b}:PO prog 334 [.I a,.I b] (jy a b) λr=>.fn (.func 370) [.rptr [.I r.1],.rptr [.I r.2]]:=y6 func334 J λr h=>by unfold jy at h;exact D 3 J<|D 2 J<|Y<|Λ
theorem vb{b c}:PO prog 371 [.I b,.I c] (cD b c) λr=>.I r:=y6 func371 J λr h=>D 1 J<|c4<|D 2 J<|cN h (λhc h=>D 1 J<|Y<|Λ) λhc h=>b8<|U 4 J<|Z h λe a h=>y0 J (iX J J a)<|M 1 J<|c4<|D 2 J<|cN h (λhc h=>S6 4 J<|D 2 J<|Y<|Λ) λhc h=>b8<|D 2 J<|Y<|Λ
theorem oB{j k}:PO prog 277 [.L c8.Pv j,.I k] (bg j k) λr=>.I r:=y6 func277 J λr h=>D 3 J<|jq h (λ_=>St.of [(4,.ptr 2001 0 0)] [(2001,vR (.I 0) 1)]) (λq9 h=>D 1 J<|Y<|ΔL) λG h=>U 1 J<|nL J dL<|S1 1 J<|cF h ve J J λa _ h=>yN<|c9<|dv (Bi (λl=>if l=2004 then 4 else if l=2005 then 3 else if l=2006 then 2 else l) [(2,.ptr 2006 0 0),(3,.ptr 2005 0 0),(4,.ptr 2004 0 0),(9,.fn (.func 370) [.rptr [.I a.1],.rptr [.I a.2]])] [(2004,vR (.I 0) 1),(2005,vR (.I k) 1),(2006,vR (.L c8.Pv j) 1)])<|fB (fn:=Tryz.f370) (N1:=20) J func370 J J nl J Nh J J (λb x A o=>D 2 J<|c9<|lq h (λc=>St.of [(1000002,.ptr 2006 0 0),(1000003,.ptr 2005 0 0),(1000004,.ptr 2004 0 0),(1000009,.fn (.func 370) [.rptr [.I a.1],.rptr [.I a.2]]),(0,.fn (.yield b) []),(1,.rptr [.I a.1]),(2,.rptr [.I a.2]),(5,.I a.1),(6,.I c)] [(2004,vR (.I 0) 1),(2005,vR (.I k) 1),(2006,vR (.L c8.Pv j) 1)]) W λc F h g=>D 1 J<|c4<|cN h (λhc h=>b8<|c4<|c9<|D 2 J<|drY [] 8 u5 Φ Φ Φ Φ nl<|S7 3 J<|Z h λE s h=>d2 J (F3 J vb J s) J<|S7 3 J<|Z h λu t h=>d7 J (λ_ w=>iX J J t) J<|K3<|TR (WE [(1000002,.ptr 2006 0 0),(1000003,.ptr 2005 0 0),(1000004,.ptr 2004 0 0),(1000009,.fn (.func 370) [.rptr [.I a.1],.rptr [.I a.2]]),(0,.fn (.yield b) []),(1,.rptr [.I a.1]),(2,.rptr [.I a.2]),(5,.I a.1),(6,.I c),(9,.fn (.yield b) []),(16,.I u)] [(2004,vR (.I 0) 1),(2005,vR (.I k) 1),(2006,vR (.L c8.Pv j) 1)])<|De J o J J J J J J (λz B C=>S6 1 J<|⟨J,c9<|c4<|U 2 J<|iL h J J dL dE λv m h=>M 3 J<|cN h (λhc h=>s6<|b9<|X5 Θ<|⟨J,⟨_,wK [(1000002,.ptr 2006 0 0),(1000003,.ptr 2005 0 0),(1000004,.ptr 2004 0 0),(1000009,.fn (.func 370) [.rptr [.I a.1],.rptr [.I a.2]]),(0,.fn (.yield b) []),(1,.rptr [.I a.1]),(2,.rptr [.I a.2]),(5,.I a.1),(6,.I c),(17,.bool false)] [(2004,vR (.I 0) 1),(2005,vR (.I k) 1),(2006,vR (.L c8.Pv j) 1)] ⟨J,J,J,J,J,J,J,J,J,J,J,J,J,J,J,J,J,J,J,J,J,J,J,J,J,J,J,J,J,J,tr⟩ ⟨rS,rS,rS,tr⟩,S8 1 J<|I6 true J (λ_=>Y<|.inr ⟨.exit 0,J,a4k (o0<|have h:=xL g h;eJ h (WP (swp 2001 2004)))⟩) (λq=>nomatch q)⟩⟩) λhc h=>b8<|dr [] u5 Φ Φ<|S7 2 J<|d0 J (y2 (f:=c8.Pv) (cs:=c8.Pc v) m J J dL dE J J) J<|S7 4 J<|bE J (λe=>oS J J J Fb J) J<|L9 J (λe _ w=>mI J) J<|bE J (λe=>y2 (f:=c8.Pv) (cs:=c8.Pc v) m (ct e) (ct e) dL dE J J) J<|L9 J (λe _ w=>M5 (ct e) Pt J) J<|bE J (λe=>D0 (ct e) H8 J) J<|bE J (λe=>oS J J J H8 J) J<|L9 J (λe _ w=>B4 (ct e) (ct e) J) J<|d7 J (λ_ w=>C9 J J J (λq=>fX q)) J<|K3<|cN h (λhc h=>D 2 J<|Y<|⟨J,⟨_,wK [(1000002,.ptr 2006 0 0),(1000003,.ptr 2005 0 0),(1000004,.ptr 2004 0 0),(1000009,.fn (.func 370) [.rptr [.I a.1],.rptr [.I a.2]]),(0,.fn (.yield b) []),(1,.rptr [.I a.1]),(2,.rptr [.I a.2]),(5,.I a.1),(6,.I c),(17,.bool false)] [(2004,vR (.I u) 1),(2005,vR (.I k) 1),(2006,vR (.L c8.Pv j) 1)] ⟨J,J,J,J,J,J,J,J,J,J,J,J,J,J,J,J,J,J,J,J,J,J,J,J,J,J,J,J,J,J,tr⟩ ⟨rS,rS,rS,tr⟩,S8 1 J<|I6 true J (λ_=>Y<|.inr ⟨.ret,J,Xg (have h:=xL g h;ΔL)⟩) (λq=>nomatch q)⟩⟩) λhc h=>b8<|⟨J,⟨_,wK [(1000002,.ptr 2006 0 0),(1000003,.ptr 2005 0 0),(1000004,.ptr 2004 0 0),(1000009,.fn (.func 370) [.rptr [.I a.1],.rptr [.I a.2]]),(0,.fn (.yield b) []),(1,.rptr [.I a.1]),(2,.rptr [.I a.2]),(5,.I a.1),(6,.I c),(17,.bool true)] [(2004,vR (.I 0) 1),(2005,vR (.I k) 1),(2006,vR (.L c8.Pv j) 1)] ⟨J,J,J,J,J,J,J,J,J,J,J,J,J,J,J,J,J,J,J,J,J,J,J,J,J,J,J,J,J,J,tr⟩ ⟨rS,rS,rS,tr⟩,S8 1 J<|I6 false J (λq=>nomatch q) (λ_=>b8<|S6 2 J<|eL h W)⟩⟩⟩)) λhc h=>s6<|b9<|b9<|o0<|.inl ⟨J,have h:=xL g h;eJ h (WP (swp 2001 2004))⟩)
theorem kZ{a b}:PO prog 266 [.L c8.Pv a,.I b] (Q5 a b) λr=>.tup [.I r.1,.I r.2]:=y6 func266 J λr h=>D 2 J<|U 2 J<|cA h oB J J λc _ h=>M 1 J<|c4<|D 2 J<|cN h (λhc h=>D 2 J<|Y<|Ωa) λhc h=>b8<|U 2 J<|iL h J J dL dE λv2 _ h=>M 4 J<|Y<|Ωa
theorem ck{a}:YL prog 335 [.L c8.Pv a] (G9 a) λr=>⟨List.map c8.Pv r,0,true,3,true⟩:=TU func335 J λr h=>by unfold G9 at h;exact D 1 J<|c4<|U 1 J<|HW J dL λb hb=>yN<|I6 b J (λhc=>by obtain rfl:a = []:=(by simpa using hb hc);exact D 1 J<|dv (kD (t:=2) (l:=920000) (z:=3) J J)<|Y<|ΩT) (λhc=>b8<|sR<|y0 J (B9 J dL dE)<|S1 1 J<|y1 J (iu (f:=c8.Pv) h J J (.inl ⟨_,J,J⟩) dL dE Nb Aq J (λ_=>J)) J<|M 1 J<|Y<|⟨J,_,_,J,J,J,J⟩)
theorem oC{e g b}:PO prog 278 [.L c8.Pv e,.I g,c8.Pv b] (ez e g b) λr=>.L c8.Pv r:=y6 func278 J λr h=>by unfold ez at h;exact D 2 J<|U 1 J<|Z h λj c h=>ycN J (EA J ck J c) J J<|M 1 J<|U 3 J<|Z h λv2 a h=>y0 J (X8 (f:=c8.Pv) a J J J J dL dE J)<|fT (f:=c8.Pv) (v:=b) a J J (.inl J) dE<|yN<|D 2 J<|Y<|Λ
theorem va{c e}:PO prog 193 [.L c8.Pv c,.I e] (bf c e) λr=>.tup [.L c8.Pv r.1,.I r.2.1,.I r.2.2]:=y6 func193 J λr h=>D 3 J<|U 2 J<|cA h oB J J λj _ h=>M 1 J<|c4<|D 2 J<|cN h (λhc h=>D 4 J<|Y<|Ωh) λhc h=>b8<|dr [] u5 Φ Φ<|S7 2 J<|d7 J (λ_ g=>u4 (cs:=[.I 2,.I 0,.I 0]) J Nn Aq J J J) J<|Z h λv2 a h=>aZ J (y8 J oC J a) J<|S7 2 J<|Z h λv3 b h=>d0 J (y2 (f:=c8.Pv) (cs:=c8.Pc v3) b J J dL dE J J) J<|S8 5 J<|Y<|Ωh
theorem IH{e f g}:PO prog 330 [.L c8.Pv e,.I f,.I g] (jU e f g) λr=>.tup [.L c8.Pv r.1,.I r.2]:=y6 func330 J λr h=>D 3 J<|U 2 J<|y0 J (u4 (cs:=[.I 1,.I f,.I g]) J Nn Aq J J J)<|M 2 J<|c4<|U 2 J<|cA h oB J J λH _ h=>M 1 J<|D 2 J<|cN h (λhc h=>U 3 J<|cF h oC J J λv2 _ h=>M 2 J<|Y<|Δm) λhc h=>b8<|jq h (λ_=>St.of [(3,.ptr 2004 0 0),(6,.ptr 2003 0 0),(7,.ptr 2002 0 0)] [(2002,vR (.I 0) 1),(2003,vR (.nl) 1),(2004,vR (.L c8.Pv e) 1)]) (λB h=>D 3 J<|Y<|Δm) λu h=>U 1 J<|nL J dL<|S1 1 J<|cF h ve J J λa _ h=>yN<|c9<|dv (Bi (λl=>if l=2005 then 8 else if l=2006 then 7 else if l=2007 then 6 else if l=2008 then 3 else l) [(3,.ptr 2008 0 0),(6,.ptr 2007 0 0),(7,.ptr 2006 0 0),(8,.ptr 2005 0 0),(26,.fn (.func 370) [.rptr [.I a.1],.rptr [.I a.2]])] [(2005,vR (.agg [.I 1,.I f,.I g]) 3),(2006,vR (.I 0) 1),(2007,vR (.nl) 1),(2008,vR (.L c8.Pv e) 1)])<|fB (fn:=Tryz.f370) (N1:=20) J func370 J J nl J Nh J J (λb v x k=>D 2 J<|c9<|lq h (λc=>St.of [(1000003,.ptr 2008 0 0),(1000006,.ptr 2007 0 0),(1000007,.ptr 2006 0 0),(1000008,.ptr 2005 0 0),(1000026,.fn (.func 370) [.rptr [.I a.1],.rptr [.I a.2]]),(0,.fn (.yield b) []),(1,.rptr [.I a.1]),(2,.rptr [.I a.2]),(5,.I a.1),(6,.I c)] [(2005,vR (.agg [.I 1,.I f,.I g]) 3),(2006,vR (.I 0) 1),(2007,vR (.nl) 1),(2008,vR (.L c8.Pv e) 1)]) W λc F h j=>D 1 J<|c4<|cN h (λhc h=>b8<|c4<|c9<|D 2 J<|drY [] 8 u5 Φ Φ Φ Φ nl<|S7 3 J<|Z h λC m h=>d2 J (F3 J vb J m) J<|S7 3 J<|Z h λs o h=>d7 J (λ_ G=>iX J J o) J<|K3<|TR (WE [(1000003,.ptr 2008 0 0),(1000006,.ptr 2007 0 0),(1000007,.ptr 2006 0 0),(1000008,.ptr 2005 0 0),(1000026,.fn (.func 370) [.rptr [.I a.1],.rptr [.I a.2]]),(0,.fn (.yield b) []),(1,.rptr [.I a.1]),(2,.rptr [.I a.2]),(5,.I a.1),(6,.I c),(9,.fn (.yield b) []),(16,.I s)] [(2005,vR (.agg [.I 1,.I f,.I g]) 3),(2006,vR (.I 0) 1),(2007,vR (.nl) 1),(2008,vR (.L c8.Pv e) 1)])<|De J k J J J J J J (λw z A=>S6 1 J<|⟨J,c9<|U 2 J<|iL h J J dL dE λE _ h=>M 3 J<|cN h (λhc h=>U 3 J<|cF h oC J J λt _ h=>M 2 J<|Y<|⟨J,⟨_,wK [(1000003,.ptr 2008 0 0),(1000006,.ptr 2007 0 0),(1000007,.ptr 2006 0 0),(1000008,.ptr 2005 0 0),(1000026,.fn (.func 370) [.rptr [.I a.1],.rptr [.I a.2]]),(0,.fn (.yield b) []),(1,.rptr [.I a.1]),(2,.rptr [.I a.2]),(5,.I a.1),(6,.I c),(17,.bool false)] [(2005,vR (.agg [.I 1,.I f,.I g]) 3),(2006,vR (.I 0) 1),(2007,vR (.L c8.Pv t) 1),(2008,vR (.L c8.Pv e) 1)] ⟨J,J,J,J,J,J,J,J,J,J,J,J,J,J,J,J,J,J,J,J,J,J,J,J,J,J,J,J,J,J,J,J,J,tr⟩ ⟨rS,rS,rS,rS,tr⟩,S8 1 J<|I6 true J (λ_=>Y<|.inr ⟨.ret,J,Xg (have h:=xL j h;Δm)⟩) (λq=>nomatch q)⟩⟩) λhc h=>b8<|⟨J,⟨_,wK [(1000003,.ptr 2008 0 0),(1000006,.ptr 2007 0 0),(1000007,.ptr 2006 0 0),(1000008,.ptr 2005 0 0),(1000026,.fn (.func 370) [.rptr [.I a.1],.rptr [.I a.2]]),(0,.fn (.yield b) []),(1,.rptr [.I a.1]),(2,.rptr [.I a.2]),(5,.I a.1),(6,.I c),(17,.bool true)] [(2005,vR (.agg [.I 1,.I f,.I g]) 3),(2006,vR (.I 0) 1),(2007,vR (.nl) 1),(2008,vR (.L c8.Pv e) 1)] ⟨J,J,J,J,J,J,J,J,J,J,J,J,J,J,J,J,J,J,J,J,J,J,J,J,J,J,J,J,J,J,J,J,J,tr⟩ ⟨rS,rS,rS,rS,tr⟩,S8 1 J<|I6 false J (λq=>nomatch q) (λ_=>b8<|S6 2 J<|eL h W)⟩⟩⟩)) λhc h=>s6<|b9<|b9<|o0<|.inl ⟨J,have h:=xL j h;eJ h (WP (λl=>if l=2004 then 2008 else if l=2003 then 2007 else if l=2002 then 2006 else l))⟩)
theorem FW{a b c}:PO prog 264 [.L c8.Pv a,.I b,.I c] (V0 a b c) λr=>.tup [.L c8.Pv r.1,.I r.2.1,.I r.2.2]:=y6 func264 J λr h=>D 3 J<|c4<|D 2 J<|cN h (λhc h=>D 4 J<|Y<|Ωh) λhc h=>b8<|U 2 J<|cA h kZ J J λe _ h=>M 5 J<|c4<|D 2 J<|cN h (λhc h=>U 2 J<|cF h va J J λv2 _ h=>M 7 J<|D 5 J<|Y<|Ωh) λhc h=>b8<|U 3 J<|cF h IH J J λv3 _ h=>M 5 J<|c4<|D 2 J<|cN h (λhc h=>D 5 J<|Y<|Ωh) λhc h=>b8<|D 5 J<|Y<|Ωh
theorem qc{a b}:PO prog 265 [M0.Pv a,b7.Pv b] (aI a b) λr=>b7.Pv r:=y6 func265 J λr h=>by unfold aI at h;exact D 3 J<|D 4 J<|D 2 J<|Y<|Ωf
theorem dR{b c e f}:PO prog 257 [b7.Pv b,.I c,.I e,.abs (YI 265 [M0.Pv f])] (N4 b c e f) λr=>b7.Pv r:=y6 func257 J λr h=>D 2 J<|U 3 J<|cF h fq J J λg _ h=>Z h λv2 a h=>HV (xs:=[b7.Pv g]) J J VP J (qc.2 _ a)<|S1 1 J<|cF h aT J J λv3 _ h=>M 1 J<|Y<|Ωf
end Go.Proofs.YtppgkaeodaaidaaGreatDoor.Ok
