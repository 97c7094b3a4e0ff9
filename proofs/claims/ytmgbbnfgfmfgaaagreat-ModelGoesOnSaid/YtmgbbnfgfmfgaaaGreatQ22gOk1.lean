/- A part. -/
import Derived.Test.YtmgbbnfgfmfgaaaGreatQ22gPwC
import Derived.Test.YtmgbbnfgfmfgaaaGreatQ22gPwD
import Derived.Test.YtmgbbnfgfmfgaaaGreatSrt
import Derived.Test.YtmgbbnfgfmfgaaaGreatQ22gSh
import Derived.Test.YtmgbbnfgfmfgaaaGreatProg
set_option linter.unusedVariables false
set_option linter.unusedSimpArgs false
set_option linter.unusedSectionVars false
namespace Go.Proofs.YtmgbbnfgfmfgaaaGreat.Ok
open Go Go.Pw Go.Sh Go.Proofs
set_option maxRecDepth 100000
set_option maxHeartbeats 4000000
abbrev _root_.Go.Sh.g9.Pc(x:g9):List PV:=[.I x.Kind,.I x.A,.I x.B,.I x.C]
abbrev _root_.Go.Sh.g9.Pv(x:g9):PV:=.agg x.Pc
abbrev _root_.Go.Sh.b8.Pc(x:b8):List PV:=[.I x.Serial,.I x.Slot,.I x.Prog,.bool x.Started,.bool x.Alive,.bool x.Stuck,.L iF x.Fields]
abbrev _root_.Go.Sh.b8.Pv(x:b8):PV:=.agg x.Pc
abbrev _root_.Go.Sh.k8.Pc(x:k8):List PV:=[.I x.Target,.bool x.Intact,.I x.Call]
abbrev _root_.Go.Sh.k8.Pv(x:k8):PV:=.agg x.Pc
abbrev _root_.Go.Sh.k7.Pc(x:k7):List PV:=[.I x.Key,.I x.Val]
abbrev _root_.Go.Sh.k7.Pv(x:k7):PV:=.agg x.Pc
abbrev _root_.Go.Sh.g5.Pc(x:g5):List PV:=[.I x.Kind,.I x.At,.I x.Prog]
abbrev _root_.Go.Sh.g5.Pv(x:g5):PV:=.agg x.Pc
abbrev _root_.Go.Sh.n8.Pc(x:n8):List PV:=[.I x.Serial,.I x.Strong,.I x.Weak,.I x.Prog,.bool x.Started,.L iF x.Fields]
abbrev _root_.Go.Sh.n8.Pv(x:n8):PV:=.agg x.Pc
abbrev _root_.Go.Sh.c9.Pc(x:c9):List PV:=[.I x.State,.I x.Gen,.I x.Val.Serial,.I x.Val.Strong,.I x.Val.Weak,.I x.Val.Prog,.bool x.Val.Started,.L iF x.Val.Fields]
abbrev _root_.Go.Sh.c9.Pv(x:c9):PV:=.agg x.Pc
abbrev _root_.Go.Sh.g6.Pc(x:g6):List PV:=[.I x.State,.I x.Key,.I x.Val]
abbrev _root_.Go.Sh.g6.Pv(x:g6):PV:=.agg x.Pc
abbrev _root_.Go.Sh.l5.Pc(x:l5):List PV:=[tO x.part,.I x.least,.I x.most,.I x.e]
abbrev _root_.Go.Sh.l5.Pv(x:l5):PV:=.agg x.Pc
abbrev _root_.Go.Sh.l4.Pc(x:l4):List PV:=[.L c9.Pv x.b7,.I x.Last]
abbrev _root_.Go.Sh.l4.Pv(x:l4):PV:=.agg x.Pc
abbrev _root_.Go.Sh.b6.Pc(x:b6):List PV:=[.L c9.Pv x.S.b7,.I x.S.Last,.I x.Serial]
abbrev _root_.Go.Sh.b6.Pv(x:b6):PV:=.agg x.Pc
abbrev _root_.Go.Sh.g8.Pc(x:g8):List PV:=[.L g5.Pv x.L,.I x.Cap]
abbrev _root_.Go.Sh.g8.Pv(x:g8):PV:=.agg x.Pc
abbrev _root_.Go.Sh.b9.Pc(x:b9):List PV:=[.L c9.Pv x.S.S.b7,.I x.S.S.Last,.I x.S.Serial,.L iF x.Roots,.L k8.Pv x.b7,.L g6.Pv x.T,.L g5.Pv x.Q.L,.I x.Q.Cap]
abbrev _root_.Go.Sh.b9.Pv(x:b9):PV:=.agg x.Pc
abbrev _root_.Go.Sh.s7.Pc(x:s7):List PV:=[.L c9.Pv x.X.S.S.b7,.I x.X.S.S.Last,.I x.X.S.Serial,.L iF x.X.Roots,.L k8.Pv x.X.b7,.L g6.Pv x.X.T,.L g5.Pv x.X.Q.L,.I x.X.Q.Cap,.L (Ls g9.Pv) x.Progs]
abbrev _root_.Go.Sh.s7.Pv(x:s7):PV:=.agg x.Pc
abbrev _root_.Go.Sh.a8.Pc(x:a8):List PV:=[.L b8.Pv x.Nodes,.L iF x.Slots,.L iF x.Gens,.I x.Last,.I x.Places,.I x.Serial,.L iF x.Roots,.L k8.Pv x.b7,.L k7.Pv x.Pairs,.L g5.Pv x.Tasks,.L (Ls g9.Pv) x.Progs]
abbrev _root_.Go.Sh.a8.Pv(x:a8):PV:=.agg x.Pc
abbrev _root_.Go.Sh.g7.Pc(x:g7):List PV:=[.I x.V,.I x.E]
abbrev _root_.Go.Sh.g7.Pv(x:g7):PV:=.agg x.Pc
abbrev _root_.Go.Sh.e6.Pc(x:e6):List PV:=[.L iF x.L,.I x.Cap]
abbrev _root_.Go.Sh.e6.Pv(x:e6):PV:=.agg x.Pc
abbrev _root_.Go.Sh.r8.Pc(x:r8):List PV:=[.L c9.Pv x.x.S.S.b7,.I x.x.S.S.Last,.I x.x.S.Serial,.L iF x.x.Roots,.L k8.Pv x.x.b7,.L g6.Pv x.x.T,.L g5.Pv x.x.Q.L,.I x.x.Q.Cap,.I x.o.Kind,.I x.o.A,.I x.o.B,.I x.o.C]
abbrev _root_.Go.Sh.r8.Pv(x:r8):PV:=.agg x.Pc
abbrev _root_.Go.Sh.L8.Pc(x:L8):List PV:=[.I x.r,.I x.h]
abbrev _root_.Go.Sh.L8.Pv(x:L8):PV:=.agg x.Pc
abbrev _root_.Go.Sh.I2.Pc(x:I2):List PV:=[.I x.h,.I x.k,.I x.v]
abbrev _root_.Go.Sh.I2.Pv(x:I2):PV:=.agg x.Pc
abbrev _root_.Go.Sh.L7.Pc(x:L7):List PV:=[.L g6.Pv x.t]
abbrev _root_.Go.Sh.L7.Pv(x:L7):PV:=.agg x.Pc
abbrev _root_.Go.Sh.r9.Pc(x:r9):List PV:=[.I x.V,.I x.E]
abbrev _root_.Go.Sh.r9.Pv(x:r9):PV:=.agg x.Pc
abbrev _root_.Go.Sh.C4.Pc(x:C4):List PV:=[.I x.Serial,.I x.Slot,.I x.Prog,.bool x.Started,.bool x.Alive,.bool x.Stuck,.L iF x.Fields]
abbrev _root_.Go.Sh.C4.Pv(x:C4):PV:=.agg x.Pc
abbrev _root_.Go.Sh.w9.Pc(x:w9):List PV:=[.I x.Target,.bool x.Intact,.I x.Call]
abbrev _root_.Go.Sh.w9.Pv(x:w9):PV:=.agg x.Pc
abbrev _root_.Go.Sh.C0.Pc(x:C0):List PV:=[.I x.Key,.I x.Val]
abbrev _root_.Go.Sh.C0.Pv(x:C0):PV:=.agg x.Pc
abbrev _root_.Go.Sh.A7.Pc(x:A7):List PV:=[.I x.Kind,.I x.At,.I x.Prog]
abbrev _root_.Go.Sh.A7.Pv(x:A7):PV:=.agg x.Pc
abbrev _root_.Go.Sh.B1.Pc(x:B1):List PV:=[.I x.Kind,.I x.A,.I x.B,.I x.C]
abbrev _root_.Go.Sh.B1.Pv(x:B1):PV:=.agg x.Pc
abbrev _root_.Go.Sh.H2.Pc(x:H2):List PV:=[.L A7.Pv x.L,.I x.Cap]
abbrev _root_.Go.Sh.H2.Pv(x:H2):PV:=.agg x.Pc
abbrev _root_.Go.Sh.T9.Pc(x:T9):List PV:=[.L C4.Pv x.Nodes,.L iF x.Slots,.L iF x.Gens,.I x.Last,.I x.Places,.I x.Serial,.L iF x.Roots,.L w9.Pv x.b7,.L C0.Pv x.Pairs,.L A7.Pv x.Tasks,.L (Ls B1.Pv) x.Progs]
abbrev _root_.Go.Sh.T9.Pv(x:T9):PV:=.agg x.Pc
def rM(t:Nat):Nat:=if t=162 then 4 else if t=166 then 0 else if t=170 then 1 else 0
theorem G7:K4 Tryz.prog 3=some false:=by kernel_rfl
theorem kJ:K4 Tryz.prog 4=some false:=by kernel_rfl
theorem UL:K4 Tryz.prog 22=some false:=by kernel_rfl
theorem UM:K4 Tryz.prog 27=some false:=by kernel_rfl
theorem dO:K4 Tryz.prog 28=some false:=by kernel_rfl
theorem Hi:K4 Tryz.prog 29=some false:=by kernel_rfl
theorem UN:K4 Tryz.prog 30=some false:=by kernel_rfl
theorem UO:K4 Tryz.prog 31=some false:=by kernel_rfl
theorem z7:K4 Tryz.prog 33=some true:=by kernel_rfl
theorem vl:K4 Tryz.prog 34=some false:=by kernel_rfl
theorem MI:K4 Tryz.prog 38=some false:=by kernel_rfl
theorem MJ:K4 Tryz.prog 39=some false:=by kernel_rfl
theorem CK:K4 Tryz.prog 40=some false:=by kernel_rfl
theorem UP:K4 Tryz.prog 43=some true:=by kernel_rfl
theorem H7:K4 Tryz.prog 51=some true:=by kernel_rfl
theorem UQ:K4 Tryz.prog 63=some false:=by kernel_rfl
theorem iB:K4 Tryz.prog 65=some true:=by kernel_rfl
theorem mP:K4 Tryz.prog 67=some true:=by kernel_rfl
theorem CL:K4 Tryz.prog 68=some false:=by kernel_rfl
theorem jG:K4 Tryz.prog 70=some true:=by kernel_rfl
theorem u7:K4 Tryz.prog 72=some true:=by kernel_rfl
theorem mQ:K4 Tryz.prog 74=some true:=by kernel_rfl
theorem UR:K4 Tryz.prog 87=some true:=by kernel_rfl
theorem gH:K4 Tryz.prog 100=some true:=by kernel_rfl
theorem cq:K4 Tryz.prog 112=some true:=by kernel_rfl
theorem xA:K4 Tryz.prog 119=some true:=by kernel_rfl
theorem sV:K4 Tryz.prog 178=some true:=by kernel_rfl
theorem CJ:K4 Tryz.prog 196=some false:=by kernel_rfl
theorem jc:K4 Tryz.prog 264=some true:=by kernel_rfl
theorem ql:K4 Tryz.prog 266=some true:=by kernel_rfl
theorem Q9:J3 Tryz.prog 3=some 8:=by kernel_rfl
theorem Hj:J3 Tryz.prog 28=some 24:=by kernel_rfl
theorem MK:J3 Tryz.prog 51=some 16:=by kernel_rfl
theorem Hk:J3 Tryz.prog 54=some 16:=by kernel_rfl
theorem mR:J3 Tryz.prog 100=some 56:=by kernel_rfl
theorem IS:J3 Tryz.prog 107=some 24:=by kernel_rfl
theorem mS:J3 Tryz.prog 112=some 24:=by kernel_rfl
theorem QH:J3 Tryz.prog 126=some 24:=by kernel_rfl
theorem QI:J3 Tryz.prog 127=some 32:=by kernel_rfl
theorem QJ:J3 Tryz.prog 132=some 56:=by kernel_rfl
theorem QK:J3 Tryz.prog 134=some 16:=by kernel_rfl
theorem qm:J3 Tryz.prog 135=some 16:=by kernel_rfl
theorem QM:J3 Tryz.prog 153=some 24:=by kernel_rfl
theorem IT:J3 Tryz.prog 180=some 80:=by kernel_rfl
theorem QN:J3 Tryz.prog 194=some 24:=by kernel_rfl
theorem IU:J3 Tryz.prog 251=some 24:=by kernel_rfl
theorem iC:A2 Tryz.prog 22=some 117:=by kernel_rfl
theorem X6:A2 Tryz.prog 23=some 28:=by kernel_rfl
theorem B2:A2 Tryz.prog 27=some 100:=by kernel_rfl
theorem l7:A2 Tryz.prog 28=some 3:=by kernel_rfl
theorem R6:A2 Tryz.prog 29=some 107:=by kernel_rfl
theorem L5:A2 Tryz.prog 30=some 135:=by kernel_rfl
theorem J2:A2 Tryz.prog 31=some 112:=by kernel_rfl
theorem oU:A2 Tryz.prog 37=some 132:=by kernel_rfl
theorem oV:A2 Tryz.prog 38=some 194:=by kernel_rfl
theorem oW:A2 Tryz.prog 39=some 134:=by kernel_rfl
theorem oX:A2 Tryz.prog 40=some 153:=by kernel_rfl
theorem Hl:A2 Tryz.prog 41=some 126:=by kernel_rfl
theorem br:A2 Tryz.prog 63=some 180:=by kernel_rfl
theorem dP:A2 Tryz.prog 68=some 251:=by kernel_rfl
theorem gj:A2 Tryz.prog 92=some 51:=by kernel_rfl
theorem dC:A2 Tryz.prog 114=some 54:=by kernel_rfl
theorem dD:A2 Tryz.prog 117=some 119:=by kernel_rfl
theorem CM:A2 Tryz.prog 126=some 127:=by kernel_rfl
theorem cr:A2 Tryz.prog 258=some 264:=by kernel_rfl
theorem mT:A2 Tryz.prog 357=some 31:=by kernel_rfl
theorem ML:M8 Tryz.prog 33 0=some (0,27):=by kernel_rfl
theorem MM:M8 Tryz.prog 33 1=some (1,28):=by kernel_rfl
theorem yg:M8 Tryz.prog 33 2=some (2,28):=by kernel_rfl
theorem MN:M8 Tryz.prog 33 6=some (6,28):=by kernel_rfl
theorem EN:M8 Tryz.prog 33 7=some (7,29):=by kernel_rfl
theorem MO:M8 Tryz.prog 33 8=some (8,30):=by kernel_rfl
theorem MP:M8 Tryz.prog 33 9=some (9,31):=by kernel_rfl
theorem Ll:M8 Tryz.prog 33 10=some (10,22):=by kernel_rfl
theorem EO:M8 Tryz.prog 43 1=some (1,28):=by kernel_rfl
theorem EP:M8 Tryz.prog 43 2=some (2,28):=by kernel_rfl
theorem ER:M8 Tryz.prog 43 3=some (3,3):=by kernel_rfl
theorem ES:M8 Tryz.prog 43 4=some (4,3):=by kernel_rfl
theorem ET:M8 Tryz.prog 43 5=some (5,3):=by kernel_rfl
theorem EU:M8 Tryz.prog 43 7=some (7,38):=by kernel_rfl
theorem EV:M8 Tryz.prog 43 8=some (8,39):=by kernel_rfl
theorem EW:M8 Tryz.prog 43 9=some (9,40):=by kernel_rfl
theorem yh:M8 Tryz.prog 51 0=some (0,3):=by kernel_rfl
theorem MQ:M8 Tryz.prog 51 1=some (1,34):=by kernel_rfl
theorem MR:M8 Tryz.prog 65 0=some (0,63):=by kernel_rfl
theorem EX:M8 Tryz.prog 72 1=some (3,28):=by kernel_rfl
theorem MS:M8 Tryz.prog 72 2=some (4,29):=by kernel_rfl
theorem MT:M8 Tryz.prog 72 4=some (6,70):=by kernel_rfl
theorem EY:M8 Tryz.prog 87 0=some (0,40):=by kernel_rfl
theorem BF:M8 Tryz.prog 100 0=some (0,3):=by kernel_rfl
theorem La:M8 Tryz.prog 100 3=some (3,4):=by kernel_rfl
theorem Lb:M8 Tryz.prog 100 4=some (4,4):=by kernel_rfl
theorem Lc:M8 Tryz.prog 100 5=some (5,4):=by kernel_rfl
theorem vm:M8 Tryz.prog 107 0=some (0,3):=by kernel_rfl
theorem Ld:M8 Tryz.prog 107 1=some (1,4):=by kernel_rfl
theorem Le:M8 Tryz.prog 119 0=some (0,3):=by kernel_rfl
theorem BG:M8 Tryz.prog 132 1=some (1,3):=by kernel_rfl
theorem BH:M8 Tryz.prog 132 2=some (2,3):=by kernel_rfl
theorem BI:M8 Tryz.prog 132 3=some (3,4):=by kernel_rfl
theorem BJ:M8 Tryz.prog 132 4=some (4,4):=by kernel_rfl
theorem BK:M8 Tryz.prog 132 5=some (5,4):=by kernel_rfl
theorem BL:M8 Tryz.prog 132 6=some (6,28):=by kernel_rfl
theorem Lf:M8 Tryz.prog 135 0=some (0,3):=by kernel_rfl
theorem BM:M8 Tryz.prog 135 1=some (1,3):=by kernel_rfl
theorem Lg:M8 Tryz.prog 178 1=some (1,3):=by kernel_rfl
theorem Lh:M8 Tryz.prog 178 2=some (2,3):=by kernel_rfl
theorem BN:M8 Tryz.prog 178 4=some (4,4):=by kernel_rfl
theorem BO:M8 Tryz.prog 180 0=some (0,3):=by kernel_rfl
theorem Li:M8 Tryz.prog 180 2=some (2,178):=by kernel_rfl
theorem Lj:M8 Tryz.prog 251 1=some (1,3):=by kernel_rfl
theorem Lk:M8 Tryz.prog 264 2=some (2,3):=by kernel_rfl
theorem Ue:Qi Tryz.prog 3=some .i64:=by kernel_rfl
theorem QO:B7 Tryz.prog 111:=kC Tryz.func111 J
theorem QP:B7 Tryz.prog 130:=kC Tryz.func130 J
theorem QQ:B7 Tryz.prog 133:=kC Tryz.func133 J
theorem QR:B7 Tryz.prog 134:=kC Tryz.func134 J
theorem CN:B7 Tryz.prog 147:=kC Tryz.func147 J
theorem QS:B7 Tryz.prog 200:=kC Tryz.func200 J
theorem IV:B7 Tryz.prog 224:=kC Tryz.func224 J
theorem QT:B7 Tryz.prog 230:=kC Tryz.func230 J
theorem QU:B7 Tryz.prog 267:=kC Tryz.func267 J
theorem IW:B7 Tryz.prog 277:=kC Tryz.func277 J
theorem QV:B7 Tryz.prog 321:=kC Tryz.func321 J
theorem QW:B7 Tryz.prog 325:=kC Tryz.func325 J
theorem QX:B7 Tryz.prog 331:=kC Tryz.func331 J
theorem QY:B7 Tryz.prog 342:=kC Tryz.func342 J
theorem QZ:B7 Tryz.prog 343:=kC Tryz.func343 J
theorem Ra:B7 Tryz.prog 363:=kC Tryz.func363 J
theorem IX:B7 Tryz.prog 364:=kC Tryz.func364 J
theorem IY:B7 Tryz.prog 366:=kC Tryz.func366 J
theorem Rb:B7 Tryz.prog 381:=kC Tryz.func381 J
theorem IZ:B7 Tryz.prog 382:=kC Tryz.func382 J
theorem R1:uY Tryz.prog 196=some (3,4):=by kernel_rfl
theorem bO:uY Tryz.prog 229=some (3,227):=by kernel_rfl
theorem yi:uY Tryz.prog 242=some (3,3):=by kernel_rfl
theorem Z4:uY Tryz.prog 260=some (3,258):=by kernel_rfl
theorem MU:E7 Tryz.prog 33=some (λi=>(#[(0,1),(1,1),(2,1),(3,1),(4,1),(5,1),(6,1),(7,1),(8,1),(9,1),(10,1)]:Array (Nat × Nat))[i]?):=by kernel_rfl
theorem US:E7 Tryz.prog 43=some (λi=>(#[(0,1),(1,1),(2,1),(3,1),(4,1),(5,1),(6,1),(7,1),(8,1),(9,1),(10,1)]:Array (Nat × Nat))[i]?):=by kernel_rfl
theorem bt:E7 Tryz.prog 51=some (λi=>(#[(0,1),(1,1)]:Array (Nat × Nat))[i]?):=by kernel_rfl
theorem MV:E7 Tryz.prog 65=some (λi=>(#[(0,1),(1,1)]:Array (Nat × Nat))[i]?):=by kernel_rfl
theorem MW:E7 Tryz.prog 67=some (λi=>(#[(0,2),(2,1)]:Array (Nat × Nat))[i]?):=by kernel_rfl
theorem Hm:E7 Tryz.prog 70=some (λi=>(#[(0,1),(1,1)]:Array (Nat × Nat))[i]?):=by kernel_rfl
theorem MX:E7 Tryz.prog 72=some (λi=>(#[(0,3),(3,1),(4,1),(5,1),(6,2)]:Array (Nat × Nat))[i]?):=by kernel_rfl
theorem Hn:E7 Tryz.prog 74=some (λi=>(#[(0,8),(8,1)]:Array (Nat × Nat))[i]?):=by kernel_rfl
theorem Ho:E7 Tryz.prog 87=some (λi=>(#[(0,1),(1,1)]:Array (Nat × Nat))[i]?):=by kernel_rfl
theorem Ja:E7 Tryz.prog 100=some (λi=>(#[(0,1),(1,1),(2,1),(3,1),(4,1),(5,1),(6,1)]:Array (Nat × Nat))[i]?):=by kernel_rfl
theorem Rc:E7 Tryz.prog 107=some (λi=>(#[(0,1),(1,1),(2,1)]:Array (Nat × Nat))[i]?):=by kernel_rfl
theorem sW:E7 Tryz.prog 112=some (λi=>(#[(0,1),(1,1),(2,1)]:Array (Nat × Nat))[i]?):=by kernel_rfl
theorem xB:E7 Tryz.prog 119=some (λi=>(#[(0,1),(1,1),(2,1),(3,1)]:Array (Nat × Nat))[i]?):=by kernel_rfl
theorem Re:E7 Tryz.prog 132=some (λi=>(#[(0,1),(1,1),(2,1),(3,1),(4,1),(5,1),(6,1)]:Array (Nat × Nat))[i]?):=by kernel_rfl
theorem CO:E7 Tryz.prog 135=some (λi=>(#[(0,1),(1,1)]:Array (Nat × Nat))[i]?):=by kernel_rfl
theorem Rf:E7 Tryz.prog 162=some (λi=>(#[(0,4)]:Array (Nat × Nat))[i]?):=by kernel_rfl
theorem Rg:E7 Tryz.prog 166=some (λi=>(#[]:Array (Nat × Nat))[i]?):=by kernel_rfl
theorem Rh:E7 Tryz.prog 170=some (λi=>(#[(0,1)]:Array (Nat × Nat))[i]?):=by kernel_rfl
theorem Ri:E7 Tryz.prog 178=some (λi=>(#[(0,1),(1,1),(2,1),(3,1),(4,1),(5,1)]:Array (Nat × Nat))[i]?):=by kernel_rfl
theorem xC:E7 Tryz.prog 180=some (λi=>(#[(0,1),(1,1),(2,6)]:Array (Nat × Nat))[i]?):=by kernel_rfl
theorem Rj:E7 Tryz.prog 233=some (λi=>(#[(0,8),(8,4)]:Array (Nat × Nat))[i]?):=by kernel_rfl
theorem Jb:E7 Tryz.prog 251=some (λi=>(#[(0,1),(1,1),(2,1)]:Array (Nat × Nat))[i]?):=by kernel_rfl
theorem eW:E7 Tryz.prog 264=some (λi=>(#[(0,1),(1,1),(2,1),(3,1)]:Array (Nat × Nat))[i]?):=by kernel_rfl
theorem Rk:E7 Tryz.prog 266=some (λi=>(#[(0,1),(1,1)]:Array (Nat × Nat))[i]?):=by kernel_rfl
theorem Rl:E7 Tryz.prog 403=some (λi=>(#[(0,1),(1,1),(2,1)]:Array (Nat × Nat))[i]?):=by kernel_rfl
theorem Rm:E7 Tryz.prog 407=some (λi=>(#[(0,1)]:Array (Nat × Nat))[i]?):=by kernel_rfl
theorem Rn:E7 Tryz.prog 420=some (λi=>(#[(0,1)]:Array (Nat × Nat))[i]?):=by kernel_rfl
theorem Ro:E7 Tryz.prog 422=some (λi=>(#[(0,1),(1,1)]:Array (Nat × Nat))[i]?):=by kernel_rfl
theorem UT:nm Tryz.prog 54=some [1,1]:=by kernel_rfl
theorem Rp:nm Tryz.prog 134=some [1,1]:=by kernel_rfl
theorem Rq:nm Tryz.prog 153=some [1,1,1]:=by kernel_rfl
theorem Jc:sj Tryz.prog 162=true:=by kernel_rfl
theorem Jd:sj Tryz.prog 166=true:=by kernel_rfl
theorem Je:sj Tryz.prog 170=true:=by kernel_rfl
theorem Rr:nm Tryz.prog 194=some [1,0,1]:=by kernel_rfl
theorem o6:p9 Tryz.prog 3=some 1:=by kernel_rfl
theorem XR:p9 Tryz.prog 4=some 1:=by kernel_rfl
theorem UU:p9 Tryz.prog 27=some 1:=by kernel_rfl
theorem Z5:p9 Tryz.prog 28=some 1:=by kernel_rfl
theorem vn:p9 Tryz.prog 31=some 1:=by kernel_rfl
theorem u9:p9 Tryz.prog 33=some 11:=by kernel_rfl
theorem MY:p9 Tryz.prog 43=some 11:=by kernel_rfl
theorem A9:p9 Tryz.prog 51=some 2:=by kernel_rfl
theorem mU:p9 Tryz.prog 54=some 2:=by kernel_rfl
theorem eX:p9 Tryz.prog 65=some 2:=by kernel_rfl
theorem mV:p9 Tryz.prog 67=some 3:=by kernel_rfl
theorem cX:p9 Tryz.prog 70=some 2:=by kernel_rfl
theorem p7:p9 Tryz.prog 72=some 8:=by kernel_rfl
theorem dQ:p9 Tryz.prog 74=some 9:=by kernel_rfl
theorem UW:p9 Tryz.prog 87=some 2:=by kernel_rfl
theorem w8:p9 Tryz.prog 100=some 7:=by kernel_rfl
theorem V6:p9 Tryz.prog 107=some 3:=by kernel_rfl
theorem D0:p9 Tryz.prog 112=some 3:=by kernel_rfl
theorem qn:p9 Tryz.prog 117=some 1:=by kernel_rfl
theorem gI:p9 Tryz.prog 119=some 4:=by kernel_rfl
theorem CP:p9 Tryz.prog 126=some 1:=by kernel_rfl
theorem CQ:p9 Tryz.prog 127=some 4:=by kernel_rfl
theorem sX:p9 Tryz.prog 132=some 7:=by kernel_rfl
theorem sY:p9 Tryz.prog 134=some 2:=by kernel_rfl
theorem R7:p9 Tryz.prog 135=some 2:=by kernel_rfl
theorem sZ:p9 Tryz.prog 153=some 3:=by kernel_rfl
theorem Rt:p9 Tryz.prog 166=some 0:=by kernel_rfl
theorem kK:p9 Tryz.prog 178=some 6:=by kernel_rfl
theorem aB:p9 Tryz.prog 180=some 8:=by kernel_rfl
theorem ta:p9 Tryz.prog 194=some 3:=by kernel_rfl
theorem dE:p9 Tryz.prog 251=some 3:=by kernel_rfl
theorem O7:p9 Tryz.prog 264=some 4:=by kernel_rfl
theorem kL:p9 Tryz.prog 266=some 2:=by kernel_rfl
theorem J1:Tryz.prog.underlying 3=some (.int .i64):=by kernel_rfl
theorem MZ:Tryz.prog.underlying 4=some (.bool):=by kernel_rfl
theorem Uf:Tryz.prog.underlying 5=some (.int .u8):=by kernel_rfl
theorem C5:z6 Tryz.prog 3=some ((.I 0)):=by kernel_rfl
theorem te:z6 Tryz.prog 4=some ((.bool false)):=by kernel_rfl
theorem rO:z6 Tryz.prog 28=some ((.slice none 0 0)):=by kernel_rfl
theorem UX:z6 Tryz.prog 31=some ((.slice none 0 0)):=by kernel_rfl
theorem Na:z6 Tryz.prog 33=some ((.agg #[(.slice none 0 0),(.slice none 0 0),(.slice none 0 0),(.I 0),(.I 0),(.I 0),(.slice none 0 0),(.slice none 0 0),(.slice none 0 0),(.slice none 0 0),(.slice none 0 0)])):=by kernel_rfl
theorem UY:z6 Tryz.prog 43=some ((.agg #[(.slice none 0 0),(.slice none 0 0),(.slice none 0 0),(.I 0),(.I 0),(.I 0),(.slice none 0 0),(.slice none 0 0),(.slice none 0 0),(.slice none 0 0),(.slice none 0 0)])):=by kernel_rfl
theorem V1:z6 Tryz.prog 51=some ((.agg #[(.I 0),(.I 0)])):=by kernel_rfl
theorem yj:z6 Tryz.prog 54=some ((.agg #[(.I 0),(.I 0)])):=by kernel_rfl
theorem Nb:z6 Tryz.prog 65=some ((.agg #[(.slice none 0 0),(.I 0)])):=by kernel_rfl
theorem Nc:z6 Tryz.prog 67=some ((.agg #[(.slice none 0 0),(.I 0),(.I 0)])):=by kernel_rfl
theorem Hq:z6 Tryz.prog 70=some ((.agg #[(.slice none 0 0),(.I 0)])):=by kernel_rfl
theorem Nd:z6 Tryz.prog 72=some ((.agg #[(.slice none 0 0),(.I 0),(.I 0),(.slice none 0 0),(.slice none 0 0),(.slice none 0 0),(.slice none 0 0),(.I 0)])):=by kernel_rfl
theorem Hr:z6 Tryz.prog 74=some ((.agg #[(.slice none 0 0),(.I 0),(.I 0),(.slice none 0 0),(.slice none 0 0),(.slice none 0 0),(.slice none 0 0),(.I 0),(.slice none 0 0)])):=by kernel_rfl
theorem Hs:z6 Tryz.prog 87=some ((.agg #[(.slice none 0 0),(.I 0)])):=by kernel_rfl
theorem aC:z6 Tryz.prog 100=some ((.agg #[(.I 0),(.I 0),(.I 0),(.bool false),(.bool false),(.bool false),(.slice none 0 0)])):=by kernel_rfl
theorem CR:z6 Tryz.prog 107=some ((.agg #[(.I 0),(.bool false),(.I 0)])):=by kernel_rfl
theorem aD:z6 Tryz.prog 112=some ((.agg #[(.I 0),(.I 0),(.I 0)])):=by kernel_rfl
theorem Ru:z6 Tryz.prog 117=some ((.slice none 0 0)):=by kernel_rfl
theorem tc:z6 Tryz.prog 119=some ((.agg #[(.I 0),(.I 0),(.I 0),(.I 0)])):=by kernel_rfl
theorem Jf:z6 Tryz.prog 126=some ((.slice none 0 0)):=by kernel_rfl
theorem Jg:z6 Tryz.prog 127=some ((.agg #[(.I 0),(.I 0),(.I 0),(.I 0)])):=by kernel_rfl
theorem CS:z6 Tryz.prog 132=some ((.agg #[(.I 0),(.I 0),(.I 0),(.bool false),(.bool false),(.bool false),(.slice none 0 0)])):=by kernel_rfl
theorem Jh:z6 Tryz.prog 134=some ((.agg #[(.I 0),(.I 0)])):=by kernel_rfl
theorem aE:z6 Tryz.prog 135=some ((.agg #[(.I 0),(.I 0)])):=by kernel_rfl
theorem Ji:z6 Tryz.prog 153=some ((.agg #[(.I 0),(.I 0),(.I 0)])):=by kernel_rfl
theorem Jj:z6 Tryz.prog 162=some ((.agg #[(.I 0),(.I 0),(.I 0),(.I 0)])):=by kernel_rfl
theorem Jk:z6 Tryz.prog 166=some ((.agg #[])):=by kernel_rfl
theorem Jl:z6 Tryz.prog 170=some ((.agg #[(.I 0)])):=by kernel_rfl
theorem Rv:z6 Tryz.prog 178=some ((.agg #[(.I 0),(.I 0),(.I 0),(.I 0),(.bool false),(.slice none 0 0)])):=by kernel_rfl
theorem qo:z6 Tryz.prog 180=some ((.agg #[(.I 0),(.I 0),(.I 0),(.I 0),(.I 0),(.I 0),(.bool false),(.slice none 0 0)])):=by kernel_rfl
theorem Jm:z6 Tryz.prog 194=some ((.agg #[(.I 0),(.bool false),(.I 0)])):=by kernel_rfl
theorem Rw:z6 Tryz.prog 227=some (.nilFunc):=by kernel_rfl
theorem Rx:z6 Tryz.prog 233=some ((.agg #[(.slice none 0 0),(.I 0),(.I 0),(.slice none 0 0),(.slice none 0 0),(.slice none 0 0),(.slice none 0 0),(.I 0),(.I 0),(.I 0),(.I 0),(.I 0)])):=by kernel_rfl
theorem xD:z6 Tryz.prog 251=some ((.agg #[(.I 0),(.I 0),(.I 0)])):=by kernel_rfl
theorem Ry:z6 Tryz.prog 258=some ((.slice none 0 0)):=by kernel_rfl
theorem N4:z6 Tryz.prog 264=some ((.agg #[.nilFunc,(.I 0),(.I 0),(.I 0)])):=by kernel_rfl
theorem Rz:z6 Tryz.prog 266=some ((.agg #[(.slice none 0 0),(.I 0)])):=by kernel_rfl
theorem RA:z6 Tryz.prog 403=some ((.agg #[(.I 0),(.I 0),(.I 0)])):=by kernel_rfl
theorem RB:z6 Tryz.prog 407=some ((.agg #[(.slice none 0 0)])):=by kernel_rfl
theorem RC:z6 Tryz.prog 420=some ((.agg #[.nilFunc])):=by kernel_rfl
theorem RD:z6 Tryz.prog 422=some ((.agg #[(.I 0),(.I 0)])):=by kernel_rfl
theorem s6:Tryz.prog.follows .mixedOrders=true:=by kernel_rfl
def tb:TB:=⟨[((33,0),(0,27)),((33,1),(1,28)),((33,2),(2,28)),((33,3),(3,3)),((33,4),(4,3)),((33,5),(5,3)),((33,6),(6,28)),((33,7),(7,29)),((33,8),(8,30)),((33,9),(9,31)),((33,10),(10,22)),((43,0),(0,37)),((43,6),(6,28)),((51,0),(0,3)),((51,1),(1,34)),((65,0),(0,63)),((65,1),(1,3)),((67,0),(0,65)),((67,1),(2,3)),((70,0),(0,31)),((70,1),(1,3)),((72,0),(0,67)),((72,1),(3,28)),((72,2),(4,29)),((72,3),(5,68)),((72,4),(6,70)),((74,0),(0,72)),((74,1),(8,22)),((87,0),(0,40)),((87,1),(1,3)),((100,0),(0,3)),((100,1),(1,3)),((100,2),(2,3)),((100,3),(3,4)),((100,4),(4,4)),((100,5),(5,4)),((100,6),(6,28)),((107,0),(0,3)),((107,1),(1,4)),((107,2),(2,3)),((112,0),(0,3)),((112,1),(1,3)),((112,2),(2,3)),((119,0),(0,3)),((119,1),(1,3)),((119,2),(2,3)),((119,3),(3,3)),((132,0),(0,3)),((135,0),(0,3)),((135,1),(1,3)),((162,0),(0,119)),((170,0),(0,3)),((178,0),(0,3)),((178,1),(1,3)),((178,2),(2,3)),((178,3),(3,3)),((178,4),(4,4)),((178,5),(5,28)),((180,0),(0,3)),((180,1),(1,3)),((180,2),(2,178)),((233,0),(0,72)),((233,1),(8,119)),((251,0),(0,3)),((251,1),(1,3)),((251,2),(2,3)),((264,0),(0,262)),((264,1),(1,3)),((264,3),(3,34)),((266,0),(0,28)),((266,1),(1,3)),((403,0),(0,3)),((403,1),(1,3)),((403,2),(2,3)),((407,0),(0,68)),((420,0),(0,418)),((422,0),(0,3)),((422,1),(1,3))],[(3,false),(4,false),(22,false),(27,false),(28,false),(29,false),(30,false),(31,false),(33,true),(34,false),(37,false),(40,false),(51,true),(54,true),(63,false),(65,true),(67,true),(68,false),(70,true),(72,true),(74,true),(100,true),(107,true),(112,true),(117,false),(119,true),(132,true),(134,true),(135,true),(153,true),(178,true),(180,true),(194,true),(196,false),(233,true),(242,false),(251,true),(262,false),(264,true),(266,true),(285,false),(418,false),(420,true)],[(3,1),(4,1),(27,1),(28,1),(29,1),(30,1),(31,1),(33,11),(34,1),(51,2),(54,2),(63,1),(65,2),(67,3),(68,1),(70,2),(72,8),(74,9),(87,2),(100,7),(107,3),(112,3),(119,4),(132,7),(134,2),(135,2),(153,3),(162,4),(170,1),(178,6),(180,8),(194,3),(196,1),(233,12),(242,1),(251,3),(264,4),(266,2),(420,1)],[(3,.I 0),(4,.bool false),(28,.lst true (List.map iF [])),(29,.lst true (List.map k8.Pv [])),(30,.lst true (List.map k7.Pv [])),(33,.agg [.lst true (List.map b8.Pv []),.lst true (List.map iF []),.lst true (List.map iF []),.I 0,.I 0,.I 0,.lst true (List.map iF []),.lst true (List.map k8.Pv []),.lst true (List.map k7.Pv []),.lst true (List.map g5.Pv []),.lst true (List.map (Ls g9.Pv) [])]),(34,.I 0),(43,.agg [.lst true (List.map C4.Pv []),.lst true (List.map iF []),.lst true (List.map iF []),.I 0,.I 0,.I 0,.lst true (List.map iF []),.lst true (List.map w9.Pv []),.lst true (List.map C0.Pv []),.lst true (List.map A7.Pv []),.lst true (List.map (Ls B1.Pv) [])]),(51,.agg [.I 0,.I 0]),(65,.agg [.lst true (List.map c9.Pv []),.I 0]),(67,.agg [.lst true (List.map c9.Pv []),.I 0,.I 0]),(68,.lst true (List.map g6.Pv [])),(70,.agg [.lst true (List.map g5.Pv []),.I 0]),(72,.agg [.lst true (List.map c9.Pv []),.I 0,.I 0,.lst true (List.map iF []),.lst true (List.map k8.Pv []),.lst true (List.map g6.Pv []),.lst true (List.map g5.Pv []),.I 0]),(74,.agg [.lst true (List.map c9.Pv []),.I 0,.I 0,.lst true (List.map iF []),.lst true (List.map k8.Pv []),.lst true (List.map g6.Pv []),.lst true (List.map g5.Pv []),.I 0,.lst true (List.map (Ls g9.Pv) [])]),(87,.agg [.lst true (List.map A7.Pv []),.I 0]),(100,.agg [.I 0,.I 0,.I 0,.bool false,.bool false,.bool false,.lst true (List.map iF [])]),(107,.agg [.I 0,.bool false,.I 0]),(112,.agg [.I 0,.I 0,.I 0]),(119,.agg [.I 0,.I 0,.I 0,.I 0]),(132,.agg [.I 0,.I 0,.I 0,.bool false,.bool false,.bool false,.lst true (List.map iF [])]),(135,.agg [.I 0,.I 0]),(162,.agg [.I 0,.I 0,.I 0,.I 0]),(166,.agg []),(170,.agg [.I 0]),(178,.agg [.I 0,.I 0,.I 0,.I 0,.bool false,.lst true (List.map iF [])]),(180,.agg [.I 0,.I 0,.I 0,.I 0,.I 0,.I 0,.bool false,.lst true (List.map iF [])]),(196,.abs Hg),(242,.abs Hg),(251,.agg [.I 0,.I 0,.I 0]),(264,.agg [.nilfn,.I 0,.I 0,.I 0]),(266,.agg [.lst true (List.map iF []),.I 0]),(420,.agg [.nilfn])]⟩
theorem Tb:TB.Ok Tryz.prog tb:=⟨by kernel_rfl,by kernel_rfl,by kernel_rfl,by kernel_rfl⟩
section
variable{X:Ctx}{ops:Array Oper}{K:Ctx->St->Prop}{i n:Nat}{l l':List Oper}{env env':Nat->PV}{σ σ':Nat->Option Row}{Q:PX->Ctx->St->Prop}{y:Code}{KD:St->Prop}{bar:List Nat}
theorem S1(n:Nat)(h:run tb n l env σ=some (l',env',σ'))(k:Sq X ops (i+n) l' K ⟨env',σ'⟩)(hb:TB.Ok X.P tb:=by exact Tb):Sq X ops i l K ⟨env,σ⟩:=Xh hb n h k
theorem S2(n:Nat)(h:run tb n l env σ=some ([],env',σ'))(k:K X ⟨env',σ'⟩)(hb:TB.Ok X.P tb:=by exact Tb):Sq X ops i l K ⟨env,σ⟩:=Xh hb n h (yN k)
theorem S3{id:Nat}(n:Nat)(h:run tb n l env σ=some (l',env',σ'))(k:Sq X l.toArray (0+n) l' (λX' s=>au X' y Q s) ⟨env',σ'⟩)(hd:ia X.N l.toArray=true:=by kernel_rfl)(hb:TB.Ok X.P tb:=by exact Tb):au X (.seq (.region id l.toArray false) y) Q ⟨env,σ⟩:=sr hd (Xh hb n h k)
theorem S4{id:Nat}(n:Nat)(h:run tb n l env σ=some ([],env',σ'))(k:au X y Q ⟨env',σ'⟩)(hd:ia X.N l.toArray=true:=by kernel_rfl)(hb:TB.Ok X.P tb:=by exact Tb):au X (.seq (.region id l.toArray false) y) Q ⟨env,σ⟩:=sr hd (Xh hb n h (yN k))
theorem S5{id:Nat}(n:Nat)(h:run tb n l env σ=some (l',env',σ'))(k:Sq X l.toArray (0+n) l' (Q .normal) ⟨env',σ'⟩)(hd:ia X.N l.toArray=true:=by kernel_rfl)(hb:TB.Ok X.P tb:=by exact Tb):au X (.region id l.toArray false) Q ⟨env,σ⟩:=XK hd (Xh hb n h k)
theorem S6{id:Nat}(n:Nat)(h:run tb n l env σ=some ([],env',σ'))(k:Q .normal X ⟨env',σ'⟩)(hd:ia X.N l.toArray=true:=by kernel_rfl)(hb:TB.Ok X.P tb:=by exact Tb):au X (.region id l.toArray false) Q ⟨env,σ⟩:=XK hd (Xh hb n h (yN k))
theorem S7(n:Nat)(h:Tx tb bar n i l env σ=some (l',env',σ'))(k:Ex X.P ops bar true (i+n) l' ⟨env',σ'⟩ KD)(hb:TB.Ok X.P tb:=by exact Tb):Ex X.P ops bar true i l ⟨env,σ⟩ KD:=dG hb n h k
theorem S8(n:Nat)(h:Tx tb bar n i l env σ=some ([],env',σ'))(k:KD ⟨env',σ'⟩)(hb:TB.Ok X.P tb:=by exact Tb):Ex X.P ops bar true i l ⟨env,σ⟩ KD:=dG hb n h k
end
theorem Xn:CI Tryz.prog (Tryz.sortF_ren.f 6):=Ms Tryz.sortF
theorem wX{a0}:PO Tryz.prog 10 [.L (Ls g9.Pv) a0] (iy a0) λr=>.bool r:=by
 refine pO Tryz.func10 λr h _ _=>?_;refine S4 1 J ?_;refine jq h (λ_=>St.of [(0,.L (Ls g9.Pv) a0)] []) (λq6 h=>?_) λκ5 h=>?_
 .refine S3 1 J ?_;refine nL J iC<|S2 2 J<|c5 ?_;cases h;exact f1
 .refine S4 1 J ?_;refine j5<|lq h (λs8=>St.of [(0,.L (Ls g9.Pv) a0),(3,.I s8)] []) W λs8 x9 h hx8=>k9<|S3 2 J<|nL J iC<|S1 2 J<|m7 J (λhg=>mI J)<|m7 J (λhg=>D6 (ct hg) J J)<|y0 J (C9 J J J (λq=>jM q))<|yN ?_;refine cN h (λhc h=>?_) λhc h=>?_
  .refine c7 ?_;refine k9<|j5<|S3 2 J<|iL h J J iC qn λv10 _ h=>S1 1 J<|nL J dD<|S2 1 J ?_;refine cN h (λhc h=>?_) λhc h=>?_
   .refine S4 1 J ?_;refine c5 ?_;have h:=xL hx8 h;cases h;exact f1
   .refine c7 ?_;refine S6 3 J ?_;exact eL h W
  .refine o0 ?_;refine c8<|c8<|l6 ?_;have h:=xL hx8 h;exact eJ h W
theorem vd{a0 a1}:PO Tryz.prog 11 [.L (Ls iF) a0,.I a1] (aq a0 a1) λr=>.bool r:=by
 refine pO Tryz.func11 λr h _ _=>?_;refine S4 1 J ?_;refine jq h (λ_=>St.of [(0,.L (Ls iF) a0),(1,.I a1)] []) (λq6 h=>?_) λκ5 h=>?_
 .refine S3 1 J ?_;refine nL J X6<|S2 3 J<|c5 ?_;cases h;exact f1
 .refine S4 1 J ?_;refine j5<|lq h (λs8=>St.of [(0,.L (Ls iF) a0),(1,.I a1),(5,.I s8)] []) W λs8 x9 h hx8=>k9<|S3 2 J<|nL J X6<|S1 2 J<|m7 J (λhg=>mI J)<|m7 J (λhg=>D6 (ct hg) J J)<|y0 J (C9 J J J (λq=>jM q))<|yN ?_;refine cN h (λhc h=>?_) λhc h=>?_
  .refine c7 ?_;refine k9<|j5<|S3 2 J<|iL h J J X6 Z5 λv10 _ h=>S1 1 J<|nL J l7<|S2 1 J ?_;refine cN h (λhc h=>?_) λhc h=>?_
   .refine S4 1 J ?_;refine c5 ?_;have h:=xL hx8 h;cases h;exact f1
   .refine c7 ?_;refine S6 3 J ?_;exact eL h W
  .refine o0 ?_;refine c8<|c8<|l6 ?_;have h:=xL hx8 h;exact eJ h W
theorem Bj{a0}:PO Tryz.prog 119 [g9.Pv a0] (gk a0) λr=>.bool r:=by
 refine pO Tryz.func119 λr h _ _=>?_;unfold gk at h;refine S4 2 J<|S3 4 J<|m7 J (λhg=>oF J Le J)<|m7 J (λhg=>oS (ct hg) J J G7 J)<|m7 J (λhg=>D6 (ct hg) J J)<|y0 J (C9 J J J (λq=>jM q))<|S2 1 J<|c5 ?_;cases h;exact f1
theorem B0:PO Tryz.prog 250 [.fn (.func 251) []] (bx) λr=>l5.Pv r:=by
 refine pO Tryz.func250 λr h _ _=>?_;unfold bx at h;refine S4 1 J<|S3 1 J<|y0 J (o7 (cs:=[.fn (.func 251) [],.I 0,.I 5,.I 6]) J eW N4 J J J)<|O5 (oD 4 (d':=.agg [tO (some 251),.I 0,.I 5,.I 6]) J)<|S2 1 J<|c5 ?_;cases h;exact⟨J,[_],⟨oL J J J jc O7 nl J,tr⟩,J,io⟩
theorem bE:PO Tryz.prog 253 [.fn (.func 254) []] (X8) λr=>l5.Pv r:=by
 refine pO Tryz.func253 λr h _ _=>?_;unfold X8 at h;refine S4 1 J<|S3 1 J<|y0 J (o7 (cs:=[.fn (.func 254) [],.I (-1),.I 5,.I 13]) J eW N4 J J J)<|O5 (oD 4 (d':=.agg [tO (some 254),.I (-1),.I 5,.I 13]) J)<|S2 1 J<|c5 ?_;cases h;exact⟨J,[_],⟨oL J J J jc O7 nl J,tr⟩,J,io⟩
theorem F8{a0}:PO Tryz.prog 249 [.L l5.Pv a0] (M9 a0) λr=>.L l5.Pv r:=by
 refine pO Tryz.func249 λr h _ _=>?_;unfold M9 at h;refine S4 1 J<|S4 2 J<|c5 ?_;cases h;exact f1
theorem O8:PO Tryz.prog 250 [.fn (.func 252) []] (bz) λr=>l5.Pv r:=by
 refine pO Tryz.func250 λr h _ _=>?_;unfold bz at h;refine S4 1 J<|S3 1 J<|y0 J (o7 (cs:=[.fn (.func 252) [],.I 0,.I 5,.I 6]) J eW N4 J J J)<|O5 (oD 4 (d':=.agg [tO (some 252),.I 0,.I 5,.I 6]) J)<|S2 1 J<|c5 ?_;cases h;exact⟨J,[_],⟨oL J J J jc O7 nl J,tr⟩,J,io⟩
theorem kz:PO Tryz.prog 255 [.fn (.func 254) []] (aG) λr=>l5.Pv r:=by
 refine pO Tryz.func255 λr h _ _=>?_;unfold aG at h;refine S4 1 J<|S3 1 J<|y0 J (o7 (cs:=[.fn (.func 254) [],.I 0,.I 3,.I 5]) J eW N4 J J J)<|O5 (oD 4 (d':=.agg [tO (some 254),.I 0,.I 3,.I 5]) J)<|S2 1 J<|c5 ?_;cases h;exact⟨J,[_],⟨oL J J J jc O7 nl J,tr⟩,J,io⟩
theorem ky:PO Tryz.prog 255 [.fn (.func 252) []] (aF) λr=>l5.Pv r:=by
 refine pO Tryz.func255 λr h _ _=>?_;unfold aF at h;refine S4 1 J<|S3 1 J<|y0 J (o7 (cs:=[.fn (.func 252) [],.I 0,.I 3,.I 5]) J eW N4 J J J)<|O5 (oD 4 (d':=.agg [tO (some 252),.I 0,.I 3,.I 5]) J)<|S2 1 J<|c5 ?_;cases h;exact⟨J,[_],⟨oL J J J jc O7 nl J,tr⟩,J,io⟩
theorem gn:PO Tryz.prog 256 [.fn (.func 254) []] (R9) λr=>l5.Pv r:=by
 refine pO Tryz.func256 λr h _ _=>?_;unfold R9 at h;refine S4 1 J<|S3 1 J<|y0 J (o7 (cs:=[.fn (.func 254) [],.I (-1),.I 5,.I 6]) J eW N4 J J J)<|O5 (oD 4 (d':=.agg [tO (some 254),.I (-1),.I 5,.I 6]) J)<|S2 1 J<|c5 ?_;cases h;exact⟨J,[_],⟨oL J J J jc O7 nl J,tr⟩,J,io⟩
theorem lr:PO Tryz.prog 257 [.fn (.func 251) []] (bu) λr=>l5.Pv r:=by
 refine pO Tryz.func257 λr h _ _=>?_;unfold bu at h;refine S4 1 J<|S3 1 J<|y0 J (o7 (cs:=[.fn (.func 251) [],.I 0,.I 5,.I 7]) J eW N4 J J J)<|O5 (oD 4 (d':=.agg [tO (some 251),.I 0,.I 5,.I 7]) J)<|S2 1 J<|c5 ?_;cases h;exact⟨J,[_],⟨oL J J J jc O7 nl J,tr⟩,J,io⟩
theorem Z6:PO Tryz.prog 256 [.fn (.func 252) []] (R8) λr=>l5.Pv r:=by
 refine pO Tryz.func256 λr h _ _=>?_;unfold R8 at h;refine S4 1 J<|S3 1 J<|y0 J (o7 (cs:=[.fn (.func 252) [],.I (-1),.I 5,.I 6]) J eW N4 J J J)<|O5 (oD 4 (d':=.agg [tO (some 252),.I (-1),.I 5,.I 6]) J)<|S2 1 J<|c5 ?_;cases h;exact⟨J,[_],⟨oL J J J jc O7 nl J,tr⟩,J,io⟩
theorem lu:PO Tryz.prog 257 [.fn (.func 252) []] (bw) λr=>l5.Pv r:=by
 refine pO Tryz.func257 λr h _ _=>?_;unfold bw at h;refine S4 1 J<|S3 1 J<|y0 J (o7 (cs:=[.fn (.func 252) [],.I 0,.I 5,.I 7]) J eW N4 J J J)<|O5 (oD 4 (d':=.agg [tO (some 252),.I 0,.I 5,.I 7]) J)<|S2 1 J<|c5 ?_;cases h;exact⟨J,[_],⟨oL J J J jc O7 nl J,tr⟩,J,io⟩
theorem xi:PO Tryz.prog 144 [] (nc) λr=>.abs (V0 (List.map (cv iF (Ls l5.Pv)) r)):=by
 refine pO Tryz.func144 λr h _ _=>?_;refine S4 1 J<|sR<|CG (KT:=Int) (VT:=List l5) (EK:=iF) (E:=(Ls l5.Pv)) 5000001 J J<|cF h B0 J J λv1 hv1 h=>y0 J (o7 (cs:=[.fn (.func 252) [],.I 0,.I 4,.I 1]) J eW N4 J J J)<|O5 (oD 3 (d':=.agg [tO (some 252),.I 0,.I 4,.I 1]) J)<|cF h bE J J λv2 hv2 h=>y0 J (H4 (f:=l5.Pv) (l:=[v1,(⟨(some 252),0,4,1⟩:l5),v2]) J cr O7 N4 J J nl J J)<|cF h F8 J J λv3 _ h=>ar (es:=[]) (k:=1) (v:=v3) (E:=(Ls l5.Pv)) (EK:=iF) (.inr J) J J J J J J Z4 (y4 J1)<|yc J (u5 J B0 J hv1)<|cF h O8 J J λv4 hv4 h=>y0 J (H4 (f:=l5.Pv) (l:=[v1,v4]) J cr O7 N4 J J nl J J)<|cF h F8 J J λv5 hv5 h=>ar (es:=(p6 [] 1 v3)) (k:=2) (v:=v5) (E:=(Ls l5.Pv)) (EK:=iF) (.inr J) J J J J J J Z4 (y4 J1)<|yc J (u5 J B0 J hv1)<|y0 J (H4 (f:=l5.Pv) (l:=[v1]) J cr O7 N4 J J nl J J)<|cF h F8 J J λv6 _ h=>ar (es:=(p6 (p6 [] 1 v3) 2 v5)) (k:=3) (v:=v6) (E:=(Ls l5.Pv)) (EK:=iF) (.inr J) J J J J J J Z4 (y4 J1)<|yc J (u5 J B0 J hv1)<|yc J (u5 J O8 J hv4)<|cF h kz J J λv7 _ h=>y0 J (H4 (f:=l5.Pv) (l:=[v1,v4,v7]) J cr O7 N4 J J nl J J)<|cF h F8 J J λv8 _ h=>ar (es:=(p6 (p6 (p6 [] 1 v3) 2 v5) 3 v6)) (k:=4) (v:=v8) (E:=(Ls l5.Pv)) (EK:=iF) (.inr J) J J J J J J Z4 (y4 J1)<|yc J (u5 J B0 J hv1)<|cF h ky J J λv9 _ h=>cF h gn J J λv10 _ h=>y0 J (H4 (f:=l5.Pv) (l:=[v1,v9,v10]) J cr O7 N4 J J nl J J)<|cF h F8 J J λv11 _ h=>?_;refine ar (es:=(p6 (p6 (p6 (p6 [] 1 v3) 2 v5) 3 v6) 4 v8)) (k:=5) (v:=v11) (E:=(Ls l5.Pv)) (EK:=iF) (.inr J) J J J J J J Z4 (y4 J1)<|cF h lr J J λv12 _ h=>cF h Z6 J J λv13 hv13 h=>yc J (u5 J bE J hv2)<|y0 J (H4 (f:=l5.Pv) (l:=[v12,v13,v2]) J cr O7 N4 J J nl J J)<|cF h F8 J J λv14 _ h=>ar (es:=(p6 (p6 (p6 (p6 (p6 [] 1 v3) 2 v5) 3 v6) 4 v8) 5 v11)) (k:=6) (v:=v14) (E:=(Ls l5.Pv)) (EK:=iF) (.inr J) J J J J J J Z4 (y4 J1)<|yc J (u5 J B0 J hv1)<|cF h lu J J λv15 _ h=>y0 J (H4 (f:=l5.Pv) (l:=[v1,v15]) J cr O7 N4 J J nl J J)<|cF h F8 J J λv16 _ h=>ar (es:=(p6 (p6 (p6 (p6 (p6 (p6 [] 1 v3) 2 v5) 3 v6) 4 v8) 5 v11) 6 v14)) (k:=7) (v:=v16) (E:=(Ls l5.Pv)) (EK:=iF) (.inr J) J J J J J J Z4 (y4 J1)<|yc J (u5 J B0 J hv1)<|yc J (u5 J Z6 J hv13)<|y0 J (H4 (f:=l5.Pv) (l:=[v1,v13]) J cr O7 N4 J J nl J J)<|cF h F8 J J λv17 _ h=>ar (es:=(p6 (p6 (p6 (p6 (p6 (p6 (p6 [] 1 v3) 2 v5) 3 v6) 4 v8) 5 v11) 6 v14) 7 v16)) (k:=8) (v:=v17) (E:=(Ls l5.Pv)) (EK:=iF) (.inr J) J J J J J J Z4 (y4 J1)<|yc J (u5 J B0 J hv1)<|yc J (u5 J O8 J hv4)<|y0 J (H4 (f:=l5.Pv) (l:=[v1,v4]) J cr O7 N4 J J nl J J)<|yc J (u5 J F8 J hv5)<|ar (es:=(p6 (p6 (p6 (p6 (p6 (p6 (p6 (p6 [] 1 v3) 2 v5) 3 v6) 4 v8) 5 v11) 6 v14) 7 v16) 8 v17)) (k:=9) (v:=v5) (E:=(Ls l5.Pv)) (EK:=iF) (.inr J) J J J J J J Z4 (y4 J1)<|yc J (u5 J B0 J hv1)<|yc J (u5 J O8 J hv4)<|y0 J (H4 (f:=l5.Pv) (l:=[v1,v4]) J cr O7 N4 J J nl J J)<|yc J (u5 J F8 J hv5)<|ar (es:=(p6 (p6 (p6 (p6 (p6 (p6 (p6 (p6 (p6 [] 1 v3) 2 v5) 3 v6) 4 v8) 5 v11) 6 v14) 7 v16) 8 v17) 9 v5)) (k:=10) (v:=v5) (E:=(Ls l5.Pv)) (EK:=iF) (.inr J) J J J J J J Z4 (y4 J1)<|cF h F8 J J λv18 _ h=>ar (es:=(p6 (p6 (p6 (p6 (p6 (p6 (p6 (p6 (p6 (p6 [] 1 v3) 2 v5) 3 v6) 4 v8) 5 v11) 6 v14) 7 v16) 8 v17) 9 v5) 10 v5)) (k:=11) (v:=v18) (E:=(Ls l5.Pv)) (EK:=iF) (.inr J) J J J J J J Z4 (y4 J1)<|y0 J (o7 (cs:=[.fn (.func 251) [],.I 0,.I 200,.I 12]) J eW N4 J J J) ?_;refine O5 (oD 46 (d':=.agg [tO (some 251),.I 0,.I 200,.I 12]) J)<|y0 J (H4 (f:=l5.Pv) (l:=[(⟨(some 251),0,200,12⟩:l5)]) J cr O7 N4 J J nl J J)<|cF h F8 J J λv19 _ h=>ar (es:=(p6 (p6 (p6 (p6 (p6 (p6 (p6 (p6 (p6 (p6 (p6 [] 1 v3) 2 v5) 3 v6) 4 v8) 5 v11) 6 v14) 7 v16) 8 v17) 9 v5) 10 v5) 11 v18)) (k:=12) (v:=v19) (E:=(Ls l5.Pv)) (EK:=iF) (.inr J) J J J J J J Z4 (y4 J1)<|S2 2 J<|bM (EC 0 5000001 J J)<|c5 ?_;cases h;exact f1
theorem rj{a0}:PO Tryz.prog 251 [g9.Pv a0] (rT a0) λr=>.I r:=by
 refine pO Tryz.func251 λr h _ _=>?_;unfold rT at h;refine S4 2 J<|S4 3 J<|c5 ?_;cases h;exact f1
theorem rk{a0}:PO Tryz.prog 252 [g9.Pv a0] (rU a0) λr=>.I r:=by
 refine pO Tryz.func252 λr h _ _=>?_;unfold rU at h;refine S4 2 J<|S4 3 J<|c5 ?_;cases h;exact f1
theorem rm{a0}:PO Tryz.prog 254 [g9.Pv a0] (rV a0) λr=>.I r:=by
 refine pO Tryz.func254 λr h _ _=>?_;unfold rV at h;refine S4 2 J<|S4 3 J<|c5 ?_;cases h;exact f1
theorem HT{f:Fv}{a0:g9}{r:Int}(h:tP f a0=some r):∃n,f=some n/\B7 Tryz.prog n/\bq Tryz.prog n [g9.Pv a0] (.I r):=by
 unfold tP at h;by_cases e251:f=some 251
 .rw[zb e251] at h;exact⟨251,e251,(@rj a0).1,(@rj a0).2 _ h⟩
 rw[za e251] at h;by_cases e252:f=some 252
 .rw[zb e252] at h;exact⟨252,e252,(@rk a0).1,(@rk a0).2 _ h⟩
 rw[za e252] at h;by_cases e254:f=some 254
 .rw[zb e254] at h;exact⟨254,e254,(@rm a0).1,(@rm a0).2 _ h⟩
 rw[za e254] at h;cases h
theorem ln{a0}:PO Tryz.prog 81 [g9.Pv a0] (X7 a0) λr=>.I r:=by
 refine pO Tryz.func81 λr h _ _=>?_;unfold X7 at h;refine S4 2 J<|dr [] s6 (by kernel_rfl) (by kernel_rfl)<|w7 h λv1 hv1 h=>dR J (u5 J xi J hv1) J<|S7 2 J<|d4 J (Cq (es:=v1) (k:=a0.Kind) (E:=(Ls l5.Pv)) (EK:=iF) (d:=.tup [.L l5.Pv ((A0 v1 a0.Kind).getD ([]:List l5)),.bool ((A0 v1 a0.Kind).isSome)]) J J Z4 (y4 J1) Ry J (lk2 _ _ ([]:List l5))) J<|S8 5 J<|k9<|S4 2 J ?_;refine cN h (λhc h=>?_) λhc h=>?_
 .refine S4 1 J ?_;refine c5 ?_;cases h;exact f1
 .refine c7 ?_;refine jq h (λ_=>St.of [] []) (λq9 h=>?_) λκ8 h=>?_
  .refine S4 1 J ?_;refine c5 ?_;cases h;exact f1
  .refine S3 1 J ?_;refine nL J cr<|S2 1 J<|j5<|lq h (λs11=>St.of [(1,.ptr 1 0 0),(17,.L l5.Pv ((A0 v1 a0.Kind).getD ([]:List l5))),(18,.I (((A0 v1 a0.Kind).getD ([]:List l5)).length:Int)),(19,.I s11)] [(1,vR (g9.Pv a0) 4)]) W λs11 x12 h hx13=>S4 1 J<|k9 ?_;refine cN h (λhc h=>?_) λhc h=>?_
   .refine c7 ?_;refine k9<|j5<|sR<|iL h J J cr O7 λv13 _ h=>S2 3 J<|S3 3 J ?_;obtain⟨v14,hv15,h⟩:=rh h;obtain⟨n15,he16,hk17,hp18⟩:=HT hv15;refine O5 (UH 24 J he16)<|y0 J (Ig J hk17 J hp18)<|S2 1 J<|S3 5 J<|m7 J (λhg=>mI J)<|m7 J (λhg=>oF J Lk J)<|m7 J (λhg=>oS (ct hg) J J G7 J)<|m7 J (λhg=>D6 (ct hg) (ct hg) J)<|y0 J (I5 J J J (λq=>kq q))<|yN ?_;refine cN h (λhc h=>?_) λhc h=>?_
    .refine S4 3 J ?_;refine c5 ?_;have h:=xL hx13 h;cases h;exact f1
    .refine c7 ?_;refine S6 2 J ?_;exact eL h W
   .refine o0 ?_;refine c8<|c8<|l6 ?_;have h:=xL hx13 h;exact eJ h W
theorem Bk{a0}:PO Tryz.prog 62 [.L (Ls g9.Pv) a0] (gm a0) λr=>.bool r:=by
 refine pO Tryz.func62 λr h _ _=>?_;refine S4 1 J<|k9<|S3 1 J<|nL J iC<|S2 1 J ?_;refine cN h (λhc h=>?_) λhc h=>?_
 .refine S4 1 J ?_;refine c5 ?_;cases h;exact f1
 .refine c7 ?_;refine jq h (λ_=>St.of [] []) (λq21 h=>?_) λκ20 h=>?_
  .refine S4 1 J ?_;refine c5 ?_;cases h;exact f1
  .refine S3 1 J ?_;refine nL J iC<|S2 1 J<|j5<|lq h (λs23=>St.of [(10,.L (Ls g9.Pv) a0),(11,.I (a0.length:Int)),(12,.I s23)] []) W λs23 x24 h hx22=>S4 1 J<|k9 ?_;refine cN h (λhc h=>?_) λhc h=>?_
   .refine c7 ?_;refine jq h (λ_=>St.of [(10,.L (Ls g9.Pv) a0),(11,.I (a0.length:Int)),(12,.I s23)] []) (λq33 h=>?_) λκ32 h=>?_
    .refine S6 2 J ?_;exact eL h W
    .refine j5 ?_;refine sR<|iL h J J iC qn λv34 _ h=>S2 2 J<|k9<|S3 1 J<|nL J dD<|S2 1 J ?_;refine cN h (λhc h=>?_) λhc h=>?_
     .refine S4 1 J ?_;refine c5 ?_;have h:=xL hx22 h;cases h;exact f1
     .refine c7 ?_;refine S3 1 J<|nL J dD<|S2 1 J<|j5<|lq h (λs36=>St.of [(10,.L (Ls g9.Pv) a0),(11,.I (a0.length:Int)),(12,.I s23),(19,.L g9.Pv v34),(20,.I (v34.length:Int)),(21,.I s36)] []) W λs36 x37 h hx34=>S4 1 J<|k9 ?_;refine cN h (λhc h=>?_) λhc h=>?_
      .refine c7 ?_;refine k9<|j5<|sR<|iL h J J dD gI λv38 _ h=>S2 3 J<|S3 1 J<|cA h Bj J J λv39 _ h=>S1 2 J<|m7 J (λhg=>oL J J J xA gI nl J)<|w7 h λv40 hv37 h=>m7 J (λhg=>M0 J ln (D3 (ct hg) J) (O6 hv37 hg))<|m7 J (λhg=>D6 (ct hg) J J)<|y0 J (I5 J J J (λq=>kq q))<|yN ?_;refine cN h (λhc h=>?_) λhc h=>?_
       .refine S4 1 J ?_;refine c5 ?_;have h:=xL hx34 h;have h:=xL hx22 h;cases h;exact f1
       .refine c7 ?_;refine S6 2 J ?_;exact eL h W
      .refine o0 ?_;refine c8<|c8<|l6 ?_;have h:=xL hx34 h;exact eJ h W
   .refine o0 ?_;refine c8<|c8<|l6 ?_;have h:=xL hx22 h;exact eJ h W
theorem oM{a0 a1}:PO Tryz.prog 201 [.I a0,.I a1] (aQ a0 a1) λr=>l4.Pv r:=by
 refine pO Tryz.func201 λr h _ _=>?_;refine S4 1 J<|k9<|S3 3 J<|m7 J (λhg=>mI J)<|m7 J (λhg=>D6 (ct hg) J J)<|y0 J (I5 J J J (λq=>kq q))<|S1 1 J<|m7 J (λhg=>mI J)<|m7 J (λhg=>D6 (ct hg) J J)<|y0 J (I5 J J J (λq=>kq q))<|S1 1 J<|m7 J (λhg=>mI J)<|m7 J (λhg=>D6 (ct hg) J J)<|y0 J (I5 J J J (λq=>kq q))<|yN ?_;refine cN h (λhc h=>?_) λhc h=>?_
 .refine sR ?_;refine y0 J (o7 (cs:=[.nl,.I 0]) J MV Nb J J J)<|lk (x':=.agg [.nl,.I 0]) (cl':=true) J J (.inl J) eX<|yN<|c5 ?_;cases h;exact⟨J,[_],⟨oL J J J iB eX nl J,tr⟩,J,io⟩
 .refine c7 ?_;refine S3 1 J<|w7 h λv1 hv1 h=>y1 J (Bu (f:=c9.Pv) hv1 J J J br aB qo IT J J J) J<|S1 1 J<|y0 J (o7 (cs:=[.sl 21,.I a1]) J MV Nb J J J)<|S2 1 J<|c5 ?_;cases h;exact⟨J,[_],⟨oL J J J iB eX nl J,tr⟩,J,io⟩
theorem Em{a0 a1}:PO Tryz.prog 120 [.I a0,.I a1] (jE a0 a1) λr=>b6.Pv r:=by
 refine pO Tryz.func120 λr h _ _=>?_;refine S4 1 J<|S3 2 J<|cF h oM J J λv1 _ h=>y0 J (o7 (cs:=[.L c9.Pv v1.b7,.I v1.Last,.I 0]) J MW Nc J J J)<|S2 1 J<|c5 ?_;cases h;exact⟨J,[_],⟨oL J J J mP mV nl J,tr⟩,J,io⟩
theorem xa{a0}:PO Tryz.prog 41 [.I a0] (AW a0) λr=>.L k8.Pv r:=by
 refine pO Tryz.func41 λr h _ _=>?_;refine S4 1 J<|k9<|S3 3 J<|m7 J (λhg=>mI J)<|m7 J (λhg=>D6 (ct hg) J J)<|y0 J (I5 J J J (λq=>kq q))<|yN ?_;refine cN h (λhc h=>?_) λhc h=>?_
 .refine S4 1 J ?_;refine c5 ?_;cases h;exact f1
 .refine c7 ?_;refine S3 1 J<|w7 h λv1 hv1 h=>y1 J (Bu (f:=k8.Pv) hv1 J J J R6 V6 CR IS J J J) J<|S2 1 J ?_;refine jq h (λj9=>St.of [(3,.sl 12)] [(12,⟨List.map k8.Pv j9,0,true,3,true⟩)]) (λj9 h=>?_) λκ8 h=>?_
  .refine S4 2 J ?_;refine c5 ?_;cases h;exact f1
  .refine S3 1 J ?_;refine y0 J (Kf (f:=k8.Pv) J J J R6)<|S2 1 J<|j5<|lq h (λq=>St.of [(3,.sl 12),(14,.I (v1.length:Int)),(15,.I q.1)] [(12,⟨List.map k8.Pv q.2,0,true,3,true⟩)]) W λq14 x13 h hx9=>?_;obtain⟨s11,s12⟩:=q14;refine S4 1 J<|k9 ?_;refine cN h (λhc h=>?_) λhc h=>?_
   .refine c7 ?_;refine k9<|j5<|S4 2 J<|S5 2 J<|w7 h λv15 hv10 h=>y0 J (ba (f:=k8.Pv) hv10 J J J J R6 V6 J)<|S1 1 J<|oE (f:=k8.Pv) (v:=(⟨v15.Target,v15.Intact,(-1)⟩:k8)) hv10 J J (.inl J) o6<|yN<|S6 2 J ?_;exact eL h W
   .refine o0 ?_;refine c8<|c8<|l6 ?_;have h:=xL hx9 h;exact eJ h W
theorem FI{a0}:PO Tryz.prog 121 [.I a0] (tT a0) λr=>.L g6.Pv r:=by
 refine pO Tryz.func121 λr h _ _=>?_;refine S4 1 J<|k9<|S3 3 J<|m7 J (λhg=>mI J)<|m7 J (λhg=>D6 (ct hg) J J)<|y0 J (I5 J J J (λq=>kq q))<|yN ?_;refine cN h (λhc h=>?_) λhc h=>?_
 .refine S4 1 J ?_;refine c5 ?_;cases h;exact f1
 .refine c7 ?_;refine S3 1 J<|w7 h λv1 hv1 h=>y1 J (Bu (f:=g6.Pv) hv1 J J J dP dE xD IU J J J) J<|S2 1 J<|c5 ?_;cases h;exact f1
theorem nE{a0}:PO Tryz.prog 202 [.I a0] (db a0) λr=>g8.Pv r:=by
 refine pO Tryz.func202 λr h _ _=>?_;unfold db at h;refine S4 1 J<|S3 1 J<|y0 J (o7 (cs:=[.nl,.I a0]) J Hm Hq J J J)<|lk (x':=.agg [.nl,.I a0]) (cl':=true) J J (.inl J) cX<|yN<|c5 ?_;cases h;exact⟨J,[_],⟨oL J J J jG cX nl J,tr⟩,J,io⟩
theorem wO:PO Tryz.prog 122 [] (AK) λr=>g8.Pv r:=by
 refine pO Tryz.func122 λr h _ _=>?_;refine S4 1 J<|sR<|cF h nE J J λv1 _ h=>S2 1 J<|c5 ?_;cases h;exact⟨J,[_],⟨oL J J J jG cX nl J,tr⟩,J,io⟩
theorem FK{a0 a1 a2}:PO Tryz.prog 63 [.I a0,.I a1,.I a2] (lR a0 a1 a2) λr=>b9.Pv r:=by
 refine pO Tryz.func63 λr h _ _=>?_;refine S4 1 J<|k9<|S3 3 J<|m7 J (λhg=>mI J)<|m7 J (λhg=>D6 (ct hg) J J)<|y0 J (I5 J J J (λq=>kq q))<|S1 1 J<|m7 J (λhg=>mI J)<|m7 J (λhg=>D6 (ct hg) J J)<|y0 J (I5 J J J (λq=>kq q))<|S1 1 J<|m7 J (λhg=>mI J)<|m7 J (λhg=>D6 (ct hg) J J)<|y0 J (I5 J J J (λq=>kq q))<|S1 1 J<|m7 J (λhg=>mI J)<|m7 J (λhg=>D6 (ct hg) J J)<|y0 J (I5 J J J (λq=>kq q))<|S1 1 J<|m7 J (λhg=>mI J)<|m7 J (λhg=>D6 (ct hg) J J)<|y0 J (I5 J J J (λq=>kq q))<|yN ?_;refine cN h (λhc h=>?_) λhc h=>?_
 .refine sR ?_;refine y0 J (o7 (cs:=[.nl,.I 0,.I 0,.nl,.nl,.nl,.nl,.I 0]) J MX Nd J J J)<|lk (x':=.agg [.nl,.I 0,.I 0,.nl,.nl,.nl,.nl,.I 0]) (cl':=true) J J (.inl J) p7<|yN<|c5 ?_;cases h;exact⟨J,[_],⟨oL J J J u7 p7 nl J,tr⟩,J,io⟩
 .refine c7 ?_;refine dr [] s6 (by kernel_rfl) (by kernel_rfl)<|S7 2 J<|w7 h λv1 hv1 h=>dR J (u5 J Em J hv1) J<|w7 h λv2 hv2 h=>d1 J (Bu (f:=iF) hv2 J J J l7 o6 C5 Q9 J J J) J J J<|w7 h λv3 hv3 h=>dR J (u5 J xa J hv3) J<|S7 1 J<|w7 h λv4 hv4 h=>dR J (u5 J FI J hv4) J<|w7 h λv5 hv5 h=>dR J (u5 J wO J hv5) J<|d7 J (λ_ hN=>o7 (cs:=[.L c9.Pv v1.S.b7,.I v1.S.Last,.I v1.Serial,.sl 33,.L k8.Pv v3,.L g6.Pv v4,.L g5.Pv v5.L,.I v5.Cap]) J MX Nd J J J) J<|D4 (x':=.agg [.L c9.Pv v1.S.b7,.I v1.S.Last,.I v1.Serial,.sl 33,.L k8.Pv v3,.L g6.Pv v4,.L g5.Pv v5.L,.I v5.Cap]) (cl':=false) J J (.inr J) p7<|J7<|c5 ?_;cases h;exact⟨J,[_],⟨oL J J J u7 p7 nl J,tr⟩,J,io⟩
theorem rq{a0 a1 a2 a3}:PO Tryz.prog 26 [.I a0,.I a1,.I a2,.L (Ls g9.Pv) a3] (U1 a0 a1 a2 a3) λr=>.tup [s7.Pv r.1,.I r.2]:=by
 refine pO Tryz.func26 λr h _ _=>?_;refine S4 2 J<|k9<|S3 1 J<|cA h Bk J J λv1 _ h=>S2 1 J ?_;refine cN h (λhc h=>?_) λhc h=>?_
 .refine sR ?_;refine y0 J (o7 (cs:=[.nl,.I 0,.I 0,.nl,.nl,.nl,.nl,.I 0,.nl]) J Hn Hr J J J)<|lk (x':=.agg [.nl,.I 0,.I 0,.nl,.nl,.nl,.nl,.I 0,.nl]) (cl':=true) J J (.inl J) dQ<|S2 1 J<|c5 ?_;cases h;exact⟨J,[_,_],⟨oL J J J mQ dQ nl J,⟨J,tr⟩⟩,J,io⟩
 .refine c7 ?_;refine S3 3 J<|cF h FK J J λv2 _ h=>S2 2 J<|k9<|S3 2 J<|nL J l7<|S2 1 J ?_;refine cN h (λhc h=>?_) λhc h=>?_
  .refine sR ?_;refine y0 J (o7 (cs:=[.nl,.I 0,.I 0,.nl,.nl,.nl,.nl,.I 0,.nl]) J Hn Hr J J J)<|lk (x':=.agg [.nl,.I 0,.I 0,.nl,.nl,.nl,.nl,.I 0,.nl]) (cl':=true) J J (.inl J) dQ<|S2 1 J<|c5 ?_;cases h;exact⟨J,[_,_],⟨oL J J J mQ dQ nl J,⟨J,tr⟩⟩,J,io⟩
  .refine c7 ?_;refine S3 2 J<|y0 J (o7 (cs:=[.L c9.Pv v2.S.S.b7,.I v2.S.S.Last,.I v2.S.Serial,.L iF v2.Roots,.L k8.Pv v2.b7,.L g6.Pv v2.T,.L g5.Pv v2.Q.L,.I v2.Q.Cap,.L (Ls g9.Pv) a3]) J Hn Hr J J J)<|S2 2 J<|c5 ?_;cases h;exact⟨J,[_,_],⟨oL J J J mQ dQ nl J,⟨J,tr⟩⟩,J,io⟩
theorem um{a0 a1 a2 a3}:PO Tryz.prog 13 [.I a0,.I a1,.I a2,.L (Ls g9.Pv) a3] (bh a0 a1 a2 a3) λr=>.tup [a8.Pv r.1,.I r.2]:=by
 refine pO Tryz.func13 λr h _ _=>?_;refine S4 2 J<|k9<|S3 4 J<|cF h rq J J λv1 _ h=>S2 6 J<|S4 2 J ?_;refine cN h (λhc h=>?_) λhc h=>?_
 .refine sR ?_;refine y0 J (o7 (cs:=[.nl,.nl,.nl,.I 0,.I 0,.I 0,.nl,.nl,.nl,.nl,.nl]) J MU Na J J J)<|S1 1 J<|lk (x':=.agg [.nl,.nl,.nl,.I 0,.I 0,.I 0,.nl,.nl,.nl,.nl,.nl]) (cl':=true) J J (.inl J) u9<|S2 1 J<|c5 ?_;cases h;exact⟨J,[_,_],⟨oL J J J z7 u9 nl J,⟨J,tr⟩⟩,J,io⟩
 .refine c7 ?_;refine dr [] s6 (by kernel_rfl) (by kernel_rfl)<|S7 1 J<|w7 h λv2 hv2 h=>d1 J (Bu (f:=iF) hv2 J J J l7 o6 C5 Q9 J J J) J J J<|S7 1 J<|d1 J (Bu (f:=iF) hv2 J J J l7 o6 C5 Q9 J J J) J J J<|S7 2 J<|w7 h λv3 hv3 h=>d1 J (Bu (f:=iF) hv3 J J J l7 o6 C5 Q9 J J J) J J J<|w7 h λv4 hv4 h=>dR J (u5 J xa J hv4) J<|S7 1 J<|d7 J (λ_ hN=>o7 (cs:=[.nl,.sl 25,.sl 27,.I a1,.I a2,.I 0,.sl 30,.L k8.Pv v4,.nl,.nl,.L (Ls g9.Pv) a3]) J MU Na J J J) J<|D4 (x':=.agg [.nl,.sl 25,.sl 27,.I a1,.I a2,.I 0,.sl 30,.L k8.Pv v4,.nl,.nl,.L (Ls g9.Pv) a3]) (cl':=false) J J (.inl J) u9<|S8 1 J<|c5 ?_;cases h;exact⟨J,[_,_],⟨oL J J J z7 u9 nl J,⟨J,tr⟩⟩,J,io⟩
theorem pb{a0}:PO Tryz.prog 50 [.L iF a0] (V7 a0) λr=>.tup [g9.Pv r.1,.I r.2]:=by
 refine pO Tryz.func50 λr h _ _=>?_;refine S4 2 J<|k9<|S3 1 J<|nL J l7<|S2 1 J ?_;refine cN h (λhc h=>?_) λhc h=>?_
 .refine sR ?_;refine y0 J (o7 (cs:=[.I 0,.I 0,.I 0,.I 0]) J xB tc J J J)<|S2 2 J<|c5 ?_;cases h;exact⟨J,[_,_],⟨oL J J J xA gI nl J,⟨J,tr⟩⟩,J,io⟩
 .refine c7 ?_;refine dr [] s6 (by kernel_rfl) (by kernel_rfl)<|S7 1 J<|w7 h λv1 hv1 h=>d0 J (J9 (f:=iF) (cs:=[.I v1]) hv1 J J l7 o6 J J) J<|S7 2 J<|w7 h λv2 hv2 h=>d0 J (J9 (f:=iF) (cs:=[.I v2]) hv2 J J l7 o6 J J) J<|S7 2 J<|w7 h λv3 hv3 h=>d0 J (J9 (f:=iF) (cs:=[.I v3]) hv3 J J l7 o6 J J) J<|S7 2 J<|w7 h λv4 hv4 h=>d0 J (J9 (f:=iF) (cs:=[.I v4]) hv4 J J l7 o6 J J) J<|S7 1 J<|d7 J (λ_ hN=>o7 (cs:=[.I v1,.I v2,.I v3,.I v4]) J xB tc J J J) J<|S7 1 J<|D4 (x':=.agg [.I v1,.I v2,.I v3,.I v4]) (cl':=true) J J (.inl J) gI<|J7<|k9<|S3 1 J<|cA h ln J J λv5 _ h=>S2 1 J<|S4 2 J ?_;refine cN h (λhc h=>?_) λhc h=>?_
  .refine sR ?_;refine y0 J (o7 (cs:=[.I 0,.I 0,.I 0,.I 0]) J xB tc J J J)<|S2 3 J<|c5 ?_;cases h;exact⟨J,[_,_],⟨oL J J J xA gI nl J,⟨J,tr⟩⟩,J,io⟩
  .refine c7 ?_;refine S4 3 J<|c5 ?_;cases h;exact⟨J,[_,_],⟨oL J J J xA gI nl J,⟨J,tr⟩⟩,J,io⟩
theorem sq{a0}:PO Tryz.prog 145 [b8.Pv a0] (iP a0) λr=>.bool r:=by
 refine pO Tryz.func145 λr h _ _=>?_;unfold iP at h;refine S4 2 J<|S4 3 J<|c5 ?_;cases h;exact f1
theorem ay{a0}:PO Tryz.prog 60 [.L b8.Pv a0,.fn (.func 145) []] (D1 a0) λr=>.L b8.Pv r:=by
 refine pO Tryz.func60 λr h _ _=>?_;refine S4 1 J<|S4 1 J ?_;refine jq h (λj15=>St.of [(5,.sl 910005)] [(910005,⟨List.map b8.Pv j15,(List.map b8.Pv j15).length,true,7,true⟩)]) (λj15 h=>?_) λκ14 h=>?_
 .refine S4 2 J ?_;refine c5 ?_;cases h;exact f1
 .refine S3 1 J ?_;refine nL J B2<|S2 1 J<|j5<|lq h (λq=>St.of [(1,.fn (.func 145) []),(5,.sl 910005),(8,.L b8.Pv a0),(9,.I (a0.length:Int)),(10,.I q.1)] [(910005,⟨List.map b8.Pv q.2,(List.map b8.Pv q.2).length,true,7,true⟩)]) (Wk.trans (E4 (t:=5) (l:=920005) (z:=7) J J) (WP (λl=>if l=910005 then 920005 else l))) λq20 x19 h hx14=>?_;obtain⟨s17,s18⟩:=q20;refine S4 1 J<|k9 ?_;refine cN h (λhc h=>?_) λhc h=>?_
  .refine c7 ?_;refine jq h (λj25=>St.of [(1,.fn (.func 145) []),(5,.sl 20),(8,.L b8.Pv a0),(9,.I (a0.length:Int)),(10,.I s17)] [(20,⟨List.map b8.Pv j25,(List.map b8.Pv j25).length,true,7,true⟩)]) (λj25 h=>?_) λκ24 h=>?_
   .refine S6 2 J ?_;exact eL h (Wk.trans (m9 _ [20]) (WP (λl=>if l=910005 then 20 else l)))
   .refine j5 ?_;refine sR<|iL h J J B2 w8 λv26 _ h=>S2 3 J<|S3 2 J<|cA h sq J J λv27 _ h=>yN ?_;refine cN h (λhc h=>?_) λhc h=>?_
    .refine S5 2 J ?_;refine y0 J (H4 (f:=b8.Pv) (l:=[v26]) J B2 w8 aC J J nl J J)<|w7 h λv28 hv21 h=>H3 J (F7 (f:=b8.Pv) hv21 J J J J J J (.inl ⟨_,J,J⟩) B2 w8 mR aC J (λ_=>J)) J J J<|S2 1 J ?_;exact eJ h (Wk.trans (m9 _ [20]) W)
    .refine c7 ?_;exact eJ h (Wk.trans (m9 _ [910005]) (WP (λl=>if l=20 then 910005 else l)))
  .refine o0 ?_;refine c8<|c8<|l6 ?_;have h:=xL hx14 h;exact eJ h (Wk.trans (m9 _ [910005]) W)
theorem ss{a0}:PO Tryz.prog 118 [b8.Pv a0] (iR a0) λr=>.I r:=by
 refine pO Tryz.func118 λr h _ _=>?_;unfold iR at h;refine S4 2 J<|S4 3 J<|c5 ?_;cases h;exact f1
theorem W2{a0}:PO Tryz.prog 117 [.L b8.Pv a0,.fn (.func 118) []] (B9 a0) λr=>.L iF r:=by
 refine pO Tryz.func117 λr h _ _=>?_;refine S4 1 J<|S4 1 J ?_;refine jq h (λj10=>St.of [(5,.sl 910005)] [(910005,⟨List.map iF j10,(List.map iF j10).length,true,1,true⟩)]) (λj10 h=>?_) λκ9 h=>?_
 .refine S4 2 J ?_;refine c5 ?_;cases h;exact f1
 .refine S3 1 J ?_;refine nL J B2<|S2 1 J<|j5<|lq h (λq=>St.of [(1,.fn (.func 118) []),(5,.sl 910005),(8,.L b8.Pv a0),(9,.I (a0.length:Int)),(10,.I q.1)] [(910005,⟨List.map iF q.2,(List.map iF q.2).length,true,1,true⟩)]) (Wk.trans (E4 (t:=5) (l:=920005) (z:=1) J J) (WP (λl=>if l=910005 then 920005 else l))) λq15 x14 h hx10=>?_;obtain⟨s12,s13⟩:=q15;refine S4 1 J<|k9 ?_;refine cN h (λhc h=>?_) λhc h=>?_
  .refine c7 ?_;refine k9<|j5<|sR<|iL h J J B2 w8 λv16 _ h=>S2 3 J<|S5 3 J<|cA h ss J J λv17 _ h=>y0 J (H4 (f:=iF) (l:=[v17]) J l7 o6 C5 J J nl J J)<|w7 h λv18 hv13 h=>H3 J (F7 (f:=iF) hv13 J J J J J J (.inl ⟨_,J,J⟩) l7 o6 Q9 C5 J (λ_=>J)) J J J<|S2 1 J<|S6 2 J ?_;exact eL h (Wk.trans (m9 _ [19]) (WP (λl=>if l=910005 then 19 else l)))
  .refine o0 ?_;refine c8<|c8<|l6 ?_;have h:=xL hx10 h;exact eJ h (Wk.trans (m9 _ [910005]) W)
theorem cI{a0}:PO Tryz.prog 59 [.L b8.Pv a0] (J8 a0) λr=>.L iF r:=by
 refine pO Tryz.func59 λr h _ _=>?_;refine S4 1 J<|S3 1 J<|cF h W2 J J λv1 _ h=>S2 1 J<|c5 ?_;cases h;exact f1
theorem mh{a0}:PO Tryz.prog 146 [.I a0] (bk a0) λr=>e6.Pv r:=by
 refine pO Tryz.func146 λr h _ _=>?_;unfold bk at h;refine S4 1 J<|S3 1 J<|y0 J (o7 (cs:=[.nl,.I a0]) J Rk Rz J J J)<|lk (x':=.agg [.nl,.I a0]) (cl':=true) J J (.inl J) kL<|yN<|c5 ?_;cases h;exact⟨J,[_],⟨oL J J J ql kL nl J,tr⟩,J,io⟩
theorem cK{a0}:PO Tryz.prog 115 [a8.Pv a0] (X9 a0) λr=>g8.Pv r:=by
 refine pO Tryz.func115 λr h _ _=>?_;unfold X9 at h;refine S4 2 J<|dr [] s6 (by kernel_rfl) (by kernel_rfl)<|S7 2 J<|w7 h λv1 hv1 h=>dR J (u5 J wO J hv1) J<|S7 1 J<|d7 J (λ_ hN=>o7 (cs:=[.L g5.Pv a0.Tasks,.I v1.Cap]) J Hm Hq J J J) J<|D4 (x':=.agg [.L g5.Pv a0.Tasks,.I v1.Cap]) (cl':=true) J J (.inr J) cX<|J7<|c5 ?_;cases h;exact⟨J,[_],⟨oL J J J jG cX nl J,tr⟩,J,io⟩
theorem AL{a0 a1}:PO Tryz.prog 199 [g8.Pv a0,.I a1] (qI a0 a1) λr=>.fn (.func 277) [.rptr (g8.Pc r.1),.rptr [.I r.2]]:=by
 refine pO Tryz.func199 λr h _ _=>?_;unfold qI at h;refine S4 3 J<|S4 2 J<|c5 ?_;cases h;exact f1
theorem uX{a0}:PO Tryz.prog 114 [g8.Pv a0] (gD a0) λr=>.L iF r:=by
 refine pO Tryz.func114 λr h _ _=>?_;refine S4 2 J<|S4 1 J ?_;refine jq h (λj10=>St.of [(3,.ptr 2001 0 0)] [(2001,vS (.sl 912501) 1),(912501,⟨List.map iF j10,(List.map iF j10).length,true,1,true⟩)]) (λj10 h=>?_) λκ9 h=>?_
 .refine S4 2 J ?_;refine c5 ?_;cases h;exact f1
 .refine S3 1 J ?_;refine cF h AL J J λv11 _ h=>yN<|j5<|bM (sP (λl=>if l=2011 then 3 else l) [(3,.ptr 2011 0 0),(6,.fn (.func 277) [.rptr (g8.Pc v11.1),.rptr [.I v11.2]])] [(2011,vR (.nl) 1)]) ?_;refine bX (fn:=Tryz.f277) (N1:=24) J Tryz.func277 J J nl J IW J J (λl17 e18 o19 hR20=>?_);refine S3 2 J<|nL J J2<|S2 1 J<|j5<|lq h (λq=>St.of [(1000003,.ptr 2011 0 0),(1000006,.fn (.func 277) [.rptr (g8.Pc v11.1),.rptr [.I v11.2]]),(0,.fn (.yield l17) []),(2,.rptr [.I v11.2]),(7,.L g5.Pv v11.1.L),(8,.I (v11.1.L.length:Int)),(9,.I q.1)] [(2011,vS (.sl 912511) 1),(912511,⟨List.map iF q.2,(List.map iF q.2).length,true,1,true⟩)]) (Wk.trans (vg (l0:=2011) (j:=0) (l:=922511) (z:=1) J J J J J) (WP (λl=>if l=912511 then 922511 else l))) λq16 x15 h hx23=>?_;obtain⟨s13,s14⟩:=q16;refine S4 1 J<|k9 ?_;refine cN h (λhc h=>?_) λhc h=>?_
  .refine c7 ?_;refine k9<|j5<|sR<|iL h J J J2 D0 λv17 _ h=>S2 3 J<|S3 5 J<|m7 J (λhg=>om (d:=.fn (.yield l17) []) J)<|m7 J (λhg=>oL J J J cq D0 nl J) ?_;rcases zaq ((v17.Kind==v11.2)==true) with hg25 | hg25
   .have h:=Se h hg25;refine O5 (sP (λl=>if l=2019 then 912511 else l) [(1000003,.ptr 2011 0 0),(1000006,.fn (.func 277) [.rptr (g8.Pc v11.1),.rptr [.I v11.2]]),(0,.fn (.yield l17) []),(2,.rptr [.I v11.2]),(7,.L g5.Pv v11.1.L),(8,.I (v11.1.L.length:Int)),(9,.I s13),(17,.bool (v17.Kind==v11.2)),(18,.fn (.yield l17) []),(19,g5.Pv v17)] [(2011,vS (.sl 2019) 1),(2019,⟨List.map iF s14,(List.map iF s14).length,true,1,true⟩)]) ?_;refine ju hR20 (zP some hg25) J J J J J (λe26 o27 o28=>?_);refine S6 2 J ?_;refine⟨J,?_⟩;refine j5<|S5 3 J<|y0 J (H4 (f:=iF) (l:=[v17.At]) J l7 o6 C5 J J nl J J)<|w7 h λv18 hv29 h=>H3 J (F7 (f:=iF) hv29 J J J J J J (.inl ⟨_,J,J⟩) l7 o6 Q9 C5 J (λ_=>J)) J J J<|S2 1 J ?_;refine⟨J,?_⟩;refine O5 (sP (λl=>if l=2020 then 12 else l) [(1000003,.ptr 2011 0 0),(1000006,.fn (.func 277) [.rptr (g8.Pc v11.1),.rptr [.I v11.2]]),(0,.fn (.yield l17) []),(2,.rptr [.I v11.2]),(7,.L g5.Pv v11.1.L),(8,.I (v11.1.L.length:Int)),(9,.I s13),(17,.bool (v17.Kind==v11.2)),(20,.bool true)] [(2011,vS (.sl 2020) 1),(2020,⟨List.map iF v18,s14.length,true,1,true⟩)])<|y0 (zP some hg25) (cV J J)<|y0 J (ji J J hg25)<|yN ?_;refine H6 false J (λq=>nomatch q) (λ_=>?_);refine c7<|S6 2 J ?_;exact eL h (Wk.trans (m9 _ [2020]) (WP (λl=>if l=912511 then 2020 else l)))
   .have h:=Sd h hg25;refine df (zP some hg25)<|df (zP some hg25)<|y0 J (jh J J hg25)<|yN ?_;refine H6 false J (λq=>nomatch q) (λ_=>?_);refine c7<|S6 2 J ?_;exact eL h (Wk.trans (m9 _ [912511]) W)
  .refine o0 ?_;refine c8<|c8<|l6 ?_;refine .inl ⟨J,?_⟩;have h:=xL hx23 h;exact eJ h (Wk.trans (m9 _ [912511]) (WP (λl=>if l=2001 then 2011 else if l=912501 then 912511 else l)))
theorem dz{a0}:PO Tryz.prog 116 [.L (Ls iF) a0] (G4 a0) λr=>.L iF r:=by
 refine pO Tryz.func116 λr h _ _=>?_;refine S4 1 J<|S4 1 J ?_;refine jq h (λj11=>St.of [(0,.L (Ls iF) a0),(3,.I j11)] []) (λj11 h=>?_) λκ10 h=>?_
 .refine S3 1 J ?_;refine O5 (WE [(0,.L (Ls iF) a0),(23,.I j11)] []) ?_;refine vj (fn:=Tryz.f200) (N1:=27) J J Tryz.func200 J QS J J nl (λe8 o9=>?_);refine S4 1 J ?_;refine jq h (λ_=>St.of [(1000000,.L (Ls iF) a0),(1000023,.I j11),(0,.nl),(1,.I j11)] []) (λq13 h=>?_) λκ12 h=>?_
  .refine k9 ?_;refine S3 2 J<|KU J J l7<|S1 1 J<|nL (f:=iF) (xs:=[]) J l7<|S2 3 J<|S4 2 J ?_;refine cN h (λhc h=>?_) λhc h=>?_
   .refine S5 2 J ?_;refine KU J J l7<|y0 J (xP (t':=true) (xs:=[]) (ys:=[]) J l7 o6 (λ_ q=>nomatch q) J ⟨_,J⟩ J (λq=>nomatch q) (zG _) (zX _) (zG _) J J)<|S1 1 J<|w7 h λv14 hv11 h=>UJ (f:=iF) J hv11 J nl J J l7 J1 o6 nl C5 Q9 J J J<|S1 1 J<|nL (f:=iF) (xs:=[]) J l7<|Qu [(1000000,.L (Ls iF) a0),(1000023,.I j11),(0,.nl),(1,.I (x4 (j11-(x4 (0-0))))),(8,.I j11),(9,.nl),(10,.I 0),(11,.nl),(12,.I 0),(13,.I (x4 (0-0))),(14,.I (x4 (j11-(x4 (0-0))))),(15,.I (x4 (j11-(x4 (0-0))))),(16,.bool (decide ((x4 (j11-(x4 (0-0)))) > 0))),(17,.nl),(18,.nl),(19,.I 0),(20,.nl),(21,.I (x4 (j11-(x4 (0-0))))),(23,.nl),(24,.I 0)] [] J ⟨J,J,J,J,J,J,J,J,J,J,J,J,J,J,J,J,J,J,J,J,J,J,J,J,J,J,J,J,J,J,J,J,J,J,J,J,J,J,J,J,J,J,J,J,J,J,J,J,J,J,J,J,J,J,J,J,J,J,J,J,tr⟩ tr J J nl J J J l7 o6<|S2 1 J<|S4 2 J<|c5 ?_;refine⟨J,[.sl 25],⟨J,tr⟩,?_⟩;refine O5 (sP (λl=>if l=2001 then 25 else l) [(0,.L (Ls iF) a0),(24,.sl 2001)] [(2001,⟨List.map iF [],0,true,1,true⟩)])<|S2 1 J ?_;refine jq h (λj23=>St.of [(6,.sl 2001)] [(2001,⟨List.map iF j23,(List.map iF j23).length,true,1,true⟩)]) (λj23 h=>?_) λκ22 h=>?_
    .refine S4 2 J ?_;refine c5 ?_;cases h;exact f1
    .refine S3 1 J ?_;refine nL J X6<|S2 1 J<|j5<|lq h (λq=>St.of [(6,.sl 2001),(25,.L (Ls iF) a0),(26,.I (a0.length:Int)),(27,.I q.1)] [(2001,⟨List.map iF q.2,(List.map iF q.2).length,true,1,true⟩)]) (Wk.trans (m9 _ [2001]) W) λq28 x27 h hx20=>?_;obtain⟨s25,s26⟩:=q28;refine S4 1 J<|k9 ?_;refine cN h (λhc h=>?_) λhc h=>?_
     .refine c7 ?_;refine k9<|j5<|sR<|iL h J J X6 Z5 λv29 _ h=>S2 2 J<|S5 2 J<|w7 h λv30 hv22 h=>H3 J (F7 (f:=iF) hv22 J J J J J J (.inl ⟨_,J,J⟩) l7 o6 Q9 C5 J (λ_=>J)) J J J<|S2 1 J<|S6 2 J ?_;exact eL h (Wk.trans (m9 _ [33]) (WP (λl=>if l=2001 then 33 else l)))
     .refine o0 ?_;refine c8<|c8<|l6 ?_;have h:=xL hx20 h;exact eJ h (Wk.trans (m9 _ [2001]) W)
   .refine c7 ?_;refine S4 2 J<|c5 ?_;refine⟨J,[.nl],⟨J,tr⟩,?_⟩;refine O5 (WE [(0,.L (Ls iF) a0),(24,.nl)] [])<|S2 1 J ?_;refine jq h (λj39=>St.of [(6,.sl 910006)] [(910006,⟨List.map iF j39,(List.map iF j39).length,true,1,true⟩)]) (λj39 h=>?_) λκ38 h=>?_
    .refine S4 2 J ?_;refine c5 ?_;cases h;exact f1
    .refine S3 1 J ?_;refine nL J X6<|S2 1 J<|j5<|lq h (λq=>St.of [(6,.sl 910006),(25,.L (Ls iF) a0),(26,.I (a0.length:Int)),(27,.I q.1)] [(910006,⟨List.map iF q.2,(List.map iF q.2).length,true,1,true⟩)]) (Wk.trans (E4 (t:=6) (l:=920006) (z:=1) J J) (WP (λl=>if l=910006 then 920006 else l))) λq44 x43 h hx31=>?_;obtain⟨s41,s42⟩:=q44;refine S4 1 J<|k9 ?_;refine cN h (λhc h=>?_) λhc h=>?_
     .refine c7 ?_;refine k9<|j5<|sR<|iL h J J X6 Z5 λv45 _ h=>S2 2 J<|S5 2 J<|w7 h λv46 hv33 h=>H3 J (F7 (f:=iF) hv33 J J J J J J (.inl ⟨_,J,J⟩) l7 o6 Q9 C5 J (λ_=>J)) J J J<|S2 1 J<|S6 2 J ?_;exact eL h (Wk.trans (m9 _ [33]) (WP (λl=>if l=910006 then 33 else l)))
     .refine o0 ?_;refine c8<|c8<|l6 ?_;have h:=xL hx31 h;exact eJ h (Wk.trans (m9 _ [910006]) W)
  .refine S4 2 J ?_;refine cN h (λhc h=>?_) λhc h=>?_;·cases h
   .refine c7 ?_;exact eJ h W
 .refine S3 1 J ?_;refine nL J X6<|S2 1 J<|j5<|lq h (λq=>St.of [(0,.L (Ls iF) a0),(3,.I q.1),(9,.L (Ls iF) a0),(10,.I (a0.length:Int)),(11,.I q.2)] []) W λq51 x50 h hx36=>?_;obtain⟨s48,s49⟩:=q51;refine S4 1 J<|k9 ?_;refine cN h (λhc h=>?_) λhc h=>?_
  .refine c7 ?_;refine jq h (λj54=>St.of [(0,.L (Ls iF) a0),(3,.I j54),(9,.L (Ls iF) a0),(10,.I (a0.length:Int)),(11,.I s49)] []) (λj54 h=>?_) λκ53 h=>?_
   .refine S6 2 J ?_;exact eL h W
   .refine j5 ?_;refine sR<|iL h J J X6 Z5 λv55 _ h=>S2 2 J<|S3 2 J<|nL J l7<|S2 2 J<|S4 2 J ?_;refine cN h (λhc h=>?_) λhc h=>?_;·cases h
    .refine c7 ?_;exact eJ h W
  .refine o0 ?_;refine c8<|c8<|l6 ?_;have h:=xL hx36 h;exact eJ h W
theorem T8{a0}:PO Tryz.prog 149 [e6.Pv a0] (I4 a0) λr=>.I r:=by
 refine pO Tryz.func149 λr h _ _=>?_;unfold I4 at h;refine S4 2 J<|S3 2 J<|nL J l7<|S2 1 J<|c5 ?_;cases h;exact f1
theorem fK{a0 a1 a2}:PO Tryz.prog 258 [.L iF a0,.I a1,.I a2] (U5 a0 a1 a2) λr=>.lst true (List.map iF r):=by
 refine pO Tryz.func258 λr h _ _=>?_;unfold U5 at h;refine S4 1 J<|S3 4 J<|w7 h λv1 hv1 h=>y0 J (OS (f:=iF) hv1 J ⟨_,J⟩ ⟨_,J⟩ ⟨_,J⟩ J J l7 o6 (λ_=>J))<|S2 1 J<|c5 ?_;cases h;exact f1
theorem W7{a0 a1}:PO Tryz.prog 148 [e6.Pv a0,.I a1] (E0 a0 a1) λr=>.tup [e6.Pv r.1,.I r.2]:=by
 refine pO Tryz.func148 λr h _ _=>?_;unfold E0 at h;refine S4 3 J<|k9<|dr [] s6 (by kernel_rfl) (by kernel_rfl)<|S7 1 J<|w7 h λv1 hv1 h=>d2 J (M0 J T8 J hv1) J<|S8 3 J ?_;refine cN h (λhc h=>?_) λhc h=>?_
 .refine S4 3 J ?_;refine c5 ?_;cases h;exact⟨J,[_,_],⟨oL J J J ql kL nl J,⟨J,tr⟩⟩,J,io⟩
 .refine c7 ?_;refine dr [] s6 (by kernel_rfl) (by kernel_rfl)<|S7 3 J<|d2 J (M0 J T8 J hv1) J<|w7 h λv2 hv2 h=>dR J (u5 J fK J hv2) J<|S7 1 J<|XE J (H4 (f:=iF) (l:=[a1]) J l7 o6 C5 J J nl J J) J<|w7 h λv3 hv3 h=>d3 J (wI (f:=iF) hv3 J J (.inl ⟨_,J,J⟩) l7 o6 Q9 C5 J (λ_=>J)) J J J<|S7 1 J<|D4 (x':=.agg [.sl 19,.I a0.Cap]) (cl':=false) J J (.inl J) Z5<|J7<|S4 3 J<|c5 ?_;cases h;exact⟨J,[_,_],⟨oL J J J ql kL nl J,⟨J,tr⟩⟩,J,io⟩
theorem sF{a0 a1}:PO Tryz.prog 259 [e6.Pv a0,.I a1] (iU a0 a1) λr=>.tup [e6.Pv r.1,.L iF r.2]:=by
 refine pO Tryz.func259 λr h _ _=>?_;refine S4 3 J<|S3 2 J<|cA h T8 J J λv1 hv1 h=>y0 J (UA J J J)<|y0 J (OT J J J)<|S2 1 J<|S3 3 J<|cF h fK J J λv2 _ h=>S2 1 J<|dr [] s6 (by kernel_rfl) (by kernel_rfl)<|S7 4 J<|d2 J (M0 J T8 J hv1) J<|w7 h λv3 hv3 h=>dR J (u5 J fK J hv3) J<|S7 1 J<|D4 (x':=.agg [.L iF v3,.I a0.Cap]) (cl':=true) J J (.inr J) Z5<|J7<|S4 4 J<|c5 ?_;cases h;exact⟨J,[_,_],⟨oL J J J ql kL nl J,⟨J,tr⟩⟩,J,io⟩
theorem mi{a0}:PO Tryz.prog 150 [e6.Pv a0] (Y0 a0) λr=>.tup [e6.Pv r.1,.I r.2.1,.I r.2.2]:=by
 refine pO Tryz.func150 λr h _ _=>?_;refine S4 4 J<|S3 1 J<|cF h sF J J λv1 _ h=>S2 6 J<|k9<|S3 1 J<|nL J l7<|S2 1 J ?_;refine cN h (λhc h=>?_) λhc h=>?_
 .refine S4 1 J ?_;refine S4 5 J<|c5 ?_;cases h;exact⟨J,[_,_,_],⟨oL J J J ql kL nl J,⟨J,⟨J,tr⟩⟩⟩,J,io⟩
 .refine c7 ?_;refine dr [2,3] s6 (by kernel_rfl) (by kernel_rfl)<|S7 2 J<|w7 h λv2 hv2 h=>d7 J (λ_ hN=>J9 (f:=iF) (cs:=[.I v2]) hv2 J J l7 o6 J J) J<|d7 J (λ_ hN=>W4 J G7 J) J<|D4 (x':=e6.Pv v1.1) (cl':=true) J J (.inr J) kL<|S8 2 J<|c5 ?_;cases h;exact⟨J,[_,_,_],⟨oL J J J ql kL nl J,⟨J,⟨J,tr⟩⟩⟩,J,io⟩
theorem xo{a0 a1}:PO Tryz.prog 260 [b8.Pv a0,.rptr [.I a1]] (fE a0 a1) λr=>.bool r:=by
 refine pO Tryz.func260 λr h _ _=>?_;unfold fE at h;refine S4 2 J<|S4 5 J<|c5 ?_;cases h;exact f1
theorem Q2{a0 a1}:PO Tryz.prog 157 [.L b8.Pv a0,.fn (.func 260) [.rptr [.I a1]]] (y9 a0 a1) λr=>.I r:=by
 refine pO Tryz.func157 λr h _ _=>?_;refine S4 1 J ?_;refine jq h (λ_=>St.of [] []) (λq7 h=>?_) λκ6 h=>?_
 .refine S4 1 J ?_;refine c5 ?_;cases h;exact f1
 .refine S3 1 J ?_;refine nL J B2<|S2 1 J<|j5<|lq h (λs9=>St.of [(0,.L b8.Pv a0),(1,.fn (.func 260) [.rptr [.I a1]]),(7,.I (a0.length:Int)),(8,.I s9)] []) W λs9 x10 h hx9=>S4 1 J<|k9 ?_;refine cN h (λhc h=>?_) λhc h=>?_
  .refine c7 ?_;refine k9<|j5<|S4 2 J<|S3 3 J<|iL h J J B2 w8 λv11 _ h=>S1 1 J<|cA h xo J J λv12 _ h=>yN ?_;refine cN h (λhc h=>?_) λhc h=>?_
   .refine S4 2 J ?_;refine c5 ?_;have h:=xL hx9 h;cases h;exact f1
   .refine c7 ?_;refine S6 2 J ?_;exact eL h W
  .refine o0 ?_;refine c8<|c8<|l6 ?_;have h:=xL hx9 h;exact eJ h W
theorem T3{a0 a1}:PO Tryz.prog 151 [a8.Pv a0,.I a1] (K3 a0 a1) λr=>.I r:=by
 refine pO Tryz.func151 λr h _ _=>?_;refine S4 3 J<|S3 3 J<|cA h Q2 J J λv1 _ h=>S2 1 J<|c5 ?_;cases h;exact f1
theorem qV{a0 a1}:PO Tryz.prog 261 [k7.Pv a0,.rptr [.I a1]] (cJ a0 a1) λr=>.bool r:=by
 refine pO Tryz.func261 λr h _ _=>?_;unfold cJ at h;refine S4 2 J<|S4 5 J<|c5 ?_;cases h;exact f1
theorem af{a0 a1}:PO Tryz.prog 163 [.L k7.Pv a0,.fn (.func 261) [.rptr [.I a1]]] (C7 a0 a1) λr=>.L k7.Pv r:=by
 refine pO Tryz.func163 λr h _ _=>?_;refine S4 1 J<|S4 1 J ?_;refine jq h (λj15=>St.of [(5,.sl 910005)] [(910005,⟨List.map k7.Pv j15,(List.map k7.Pv j15).length,true,2,true⟩)]) (λj15 h=>?_) λκ14 h=>?_
 .refine S4 2 J ?_;refine c5 ?_;cases h;exact f1
 .refine S3 1 J ?_;refine nL J L5<|S2 1 J<|j5<|lq h (λq=>St.of [(1,.fn (.func 261) [.rptr [.I a1]]),(5,.sl 910005),(8,.L k7.Pv a0),(9,.I (a0.length:Int)),(10,.I q.1)] [(910005,⟨List.map k7.Pv q.2,(List.map k7.Pv q.2).length,true,2,true⟩)]) (Wk.trans (E4 (t:=5) (l:=920005) (z:=2) J J) (WP (λl=>if l=910005 then 920005 else l))) λq20 x19 h hx14=>?_;obtain⟨s17,s18⟩:=q20;refine S4 1 J<|k9 ?_;refine cN h (λhc h=>?_) λhc h=>?_
  .refine c7 ?_;refine jq h (λj25=>St.of [(1,.fn (.func 261) [.rptr [.I a1]]),(5,.sl 20),(8,.L k7.Pv a0),(9,.I (a0.length:Int)),(10,.I s17)] [(20,⟨List.map k7.Pv j25,(List.map k7.Pv j25).length,true,2,true⟩)]) (λj25 h=>?_) λκ24 h=>?_
   .refine S6 2 J ?_;exact eL h (Wk.trans (m9 _ [20]) (WP (λl=>if l=910005 then 20 else l)))
   .refine j5 ?_;refine sR<|iL h J J L5 R7 λv26 _ h=>S2 3 J<|S3 2 J<|cA h qV J J λv27 _ h=>yN ?_;refine cN h (λhc h=>?_) λhc h=>?_
    .refine S5 2 J ?_;refine y0 J (H4 (f:=k7.Pv) (l:=[v26]) J L5 R7 aE J J nl J J)<|w7 h λv28 hv21 h=>H3 J (F7 (f:=k7.Pv) hv21 J J J J J J (.inl ⟨_,J,J⟩) L5 R7 qm aE J (λ_=>J)) J J J<|S2 1 J ?_;exact eJ h (Wk.trans (m9 _ [20]) W)
    .refine c7 ?_;exact eJ h (Wk.trans (m9 _ [910005]) (WP (λl=>if l=20 then 910005 else l)))
  .refine o0 ?_;refine c8<|c8<|l6 ?_;have h:=xL hx14 h;exact eJ h (Wk.trans (m9 _ [910005]) W)
theorem qW{a0}:PO Tryz.prog 262 [k7.Pv a0] (gu a0) λr=>.I r:=by
 refine pO Tryz.func262 λr h _ _=>?_;unfold gu at h;refine S4 2 J<|S4 3 J<|c5 ?_;cases h;exact f1
theorem V2{a0}:PO Tryz.prog 112 [.L k7.Pv a0,.fn (.func 262) []] (E6 a0) λr=>.L iF r:=by
 refine pO Tryz.func112 λr h _ _=>?_;refine S4 1 J<|S4 1 J ?_;refine jq h (λj10=>St.of [(5,.sl 910005)] [(910005,⟨List.map iF j10,(List.map iF j10).length,true,1,true⟩)]) (λj10 h=>?_) λκ9 h=>?_
 .refine S4 2 J ?_;refine c5 ?_;cases h;exact f1
 .refine S3 1 J ?_;refine nL J L5<|S2 1 J<|j5<|lq h (λq=>St.of [(1,.fn (.func 262) []),(5,.sl 910005),(8,.L k7.Pv a0),(9,.I (a0.length:Int)),(10,.I q.1)] [(910005,⟨List.map iF q.2,(List.map iF q.2).length,true,1,true⟩)]) (Wk.trans (E4 (t:=5) (l:=920005) (z:=1) J J) (WP (λl=>if l=910005 then 920005 else l))) λq15 x14 h hx10=>?_;obtain⟨s12,s13⟩:=q15;refine S4 1 J<|k9 ?_;refine cN h (λhc h=>?_) λhc h=>?_
  .refine c7 ?_;refine k9<|j5<|sR<|iL h J J L5 R7 λv16 _ h=>S2 3 J<|S5 3 J<|cA h qW J J λv17 _ h=>y0 J (H4 (f:=iF) (l:=[v17]) J l7 o6 C5 J J nl J J)<|w7 h λv18 hv13 h=>H3 J (F7 (f:=iF) hv13 J J J J J J (.inl ⟨_,J,J⟩) l7 o6 Q9 C5 J (λ_=>J)) J J J<|S2 1 J<|S6 2 J ?_;exact eL h (Wk.trans (m9 _ [19]) (WP (λl=>if l=910005 then 19 else l)))
  .refine o0 ?_;refine c8<|c8<|l6 ?_;have h:=xL hx10 h;exact eJ h (Wk.trans (m9 _ [910005]) W)
theorem kZ{a0 a1}:PO Tryz.prog 152 [a8.Pv a0,.I a1] (P8 a0 a1) λr=>.L iF r:=by
 refine pO Tryz.func152 λr h _ _=>?_;unfold P8 at h;refine S4 3 J<|S3 3 J<|w7 h λv1 hv1 h=>KV J (u5 J af J hv1) J<|S2 1 J<|S3 1 J<|cF h V2 J J λv2 _ h=>S2 1 J<|c5 ?_;cases h;exact f1
theorem vQ{a0}:PO Tryz.prog 82 [a8.Pv a0] (gS a0) λr=>.abs (V0 (List.map (cv iF PV.bool) r)):=by
 refine pO Tryz.func82 λr h _ _=>?_;refine S4 2 J<|S3 2 J<|cF h ay J J λv1 _ h=>cF h cI J J λv2 _ h=>S2 1 J<|sR<|CG (KT:=Int) (VT:=Bool) (EK:=iF) (E:=PV.bool) 5000012 J J<|ar (es:=[]) (k:=0) (v:=true) (E:=PV.bool) (EK:=iF) (.inr J) J J J J J J R1 (y4 J1)<|S2 3 J<|S3 2 J<|nL J B2<|cF h mh J J λv3 _ h=>S2 2 J<|S4 2 J<|Zm [] 9 s6 (by kernel_rfl) (by kernel_rfl) (by kernel_rfl) (by kernel_rfl) nl<|S7 4 J<|w7 h λv4 hv4 h=>dR J (u5 J cK J hv4) J<|w7 h λv5 hv5 h=>dR J (u5 J uX J hv5) J<|S7 1 J<|XE J (H4 (f:=(Ls iF)) (l:=[a0.Roots,v5,v2]) J X6 Z5 rO J J nl J J) J<|w7 h λv6 hv6 h=>dR J (u5 J dz J hv6) J<|J7<|DM (sP (λl=>if l=2001 then 5 else if l=2002 then 4 else if l=2003 then 1 else if l=5002004 then 5000012 else l) [(1,.ptr 2003 0 0),(4,.ptr 2002 0 0),(5,.ptr 2001 0 0),(6,.fn (.func 147) [.ptr 2002 0 0,.ptr 2001 0 0]),(19,.fn (.func 147) [.ptr 2002 0 0,.ptr 2001 0 0]),(27,.L iF v6)] [(2001,vR (e6.Pv v3) 2),(2002,vS (.mp 5002004) 1),(5002004,⟨[.mapc (List.map (cv iF PV.bool) (p6 [] 0 true))],0,false,0,false⟩),(2003,vR (a8.Pv a0) 11)]) ?_;refine IM (fn:=Tryz.f147) (N1:=25) J J J Tryz.func147 J CN J J nl (λe7 o8=>?_);refine XI h (λq=>St.of [(1000001,.ptr 2003 0 0),(1000004,.ptr 2002 0 0),(1000005,.ptr 2001 0 0),(1000006,.fn (.func 147) [.ptr 2002 0 0,.ptr 2001 0 0]),(1000019,.fn (.func 147) [.ptr 2002 0 0,.ptr 2001 0 0]),(1000027,.L iF v6)] [(2001,vR (e6.Pv q.1) 2),(2002,vS (.mp 5002004) 1),(5002004,⟨[.mapc (List.map (cv iF PV.bool) q.2)],0,false,0,false⟩),(2003,vR (a8.Pv a0) 11)]) (λq24 h=>dup ?_) λκ21 h=>?_
 .obtain⟨j22,j23⟩:=q24;refine⟨J,[],tr,?_⟩;refine⟨_,vh [(1,.ptr 2003 0 0),(4,.ptr 2002 0 0),(5,.ptr 2001 0 0),(6,.fn (.func 147) [.ptr 2002 0 0,.ptr 2001 0 0])] [(2001,vR (e6.Pv j22) 2),(2002,vS (.mp 5002004) 1),(5002004,⟨[.mapc (List.map (cv iF PV.bool) j23)],0,false,0,false⟩),(2003,vR (a8.Pv a0) 11)] ⟨J,J,J,J,J,J,J,J,J,J,J,J,tr⟩ ⟨rS,Y3 J J J (λq=>nomatch q) J J J J,Y3 J J J (λq=>nomatch q) J J J J,rS,tr⟩,?_⟩;refine J7 ?_;refine jq h (λj100=>St.of [(4,.ptr 2002 0 0)] [(2002,vS (.mp 5002004) 1),(5002004,⟨[.mapc (List.map (cv iF PV.bool) j100)],0,false,0,false⟩)]) (λj100 h=>?_) λκ99 h=>?_
  .refine S4 2 J ?_;refine bM (EC 2 5002004 J J)<|c5 ?_;cases h;exact f1
  .refine j5 ?_;refine lq h (λq=>St.of [(1,.ptr 2003 0 0),(4,.ptr 2002 0 0),(5,.ptr 2001 0 0),(6,.fn (.func 147) [.ptr 2002 0 0,.ptr 2001 0 0])] [(2001,vR (e6.Pv q.1) 2),(2002,vS (.mp 5002004) 1),(5002004,⟨[.mapc (List.map (cv iF PV.bool) q.2)],0,false,0,false⟩),(2003,vR (a8.Pv a0) 11)]) W λq105 x104 h hx67=>?_;obtain⟨s102,s103⟩:=q105;refine k9<|S3 1 J<|cA h T8 J J λv106 _ h=>S2 1 J ?_;refine cN h (λhc h=>?_) λhc h=>?_
   .refine c7 ?_;refine j5<|S4 1 J<|S3 1 J<|cF h mi J J λv107 _ h=>S2 6 J<|Zm [] 9 s6 (by kernel_rfl) (by kernel_rfl) (by kernel_rfl) (by kernel_rfl) nl<|S7 5 J<|w7 h λv108 hv70 h=>d2 J (M0 J T3 J hv70) J<|w7 h λv109 hv71 h=>d0 J (J9 (f:=b8.Pv) (cs:=b8.Pc v109) hv71 J J B2 w8 J J) J<|S8 2 J<|DM (WE [(1,.ptr 2003 0 0),(4,.ptr 2002 0 0),(5,.ptr 2001 0 0),(6,.fn (.func 147) [.ptr 2002 0 0,.ptr 2001 0 0]),(7,.I v107.2.1),(38,.fn (.func 147) [.ptr 2002 0 0,.ptr 2001 0 0]),(46,.L iF v109.Fields)] [(2001,vR (e6.Pv v107.1) 2),(2002,vS (.mp 5002004) 1),(5002004,⟨[.mapc (List.map (cv iF PV.bool) s103)],0,false,0,false⟩),(2003,vR (a8.Pv a0) 11)]) ?_;refine IM (fn:=Tryz.f147) (N1:=25) J J J Tryz.func147 J CN J J nl (λe72 o73=>?_);refine XI h (λq=>St.of [(1000001,.ptr 2003 0 0),(1000004,.ptr 2002 0 0),(1000005,.ptr 2001 0 0),(1000006,.fn (.func 147) [.ptr 2002 0 0,.ptr 2001 0 0]),(1000007,.I v107.2.1),(1000038,.fn (.func 147) [.ptr 2002 0 0,.ptr 2001 0 0]),(1000046,.L iF v109.Fields)] [(2001,vR (e6.Pv q.1) 2),(2002,vS (.mp 5002004) 1),(5002004,⟨[.mapc (List.map (cv iF PV.bool) q.2)],0,false,0,false⟩),(2003,vR (a8.Pv a0) 11)]) (λq127 h=>dup ?_) λκ124 h=>?_
    .obtain⟨j125,j126⟩:=q127;refine⟨J,[],tr,?_⟩;refine⟨_,vh [(1,.ptr 2003 0 0),(4,.ptr 2002 0 0),(5,.ptr 2001 0 0),(6,.fn (.func 147) [.ptr 2002 0 0,.ptr 2001 0 0]),(7,.I v107.2.1)] [(2001,vR (e6.Pv j125) 2),(2002,vS (.mp 5002004) 1),(5002004,⟨[.mapc (List.map (cv iF PV.bool) j126)],0,false,0,false⟩),(2003,vR (a8.Pv a0) 11)] ⟨J,J,J,J,J,J,J,J,J,J,J,J,J,J,J,tr⟩ ⟨rS,Y3 J J J (λq=>nomatch q) J J J J,Y3 J J J (λq=>nomatch q) J J J J,rS,tr⟩,?_⟩;refine J7<|S5 3 J<|cF h kZ J J λv128 _ h=>O5 (WE [(1,.ptr 2003 0 0),(4,.ptr 2002 0 0),(5,.ptr 2001 0 0),(6,.fn (.func 147) [.ptr 2002 0 0,.ptr 2001 0 0]),(48,.fn (.func 147) [.ptr 2002 0 0,.ptr 2001 0 0]),(51,.L iF v128)] [(2001,vR (e6.Pv j125) 2),(2002,vS (.mp 5002004) 1),(5002004,⟨[.mapc (List.map (cv iF PV.bool) j126)],0,false,0,false⟩),(2003,vR (a8.Pv a0) 11)]) ?_;refine vj (fn:=Tryz.f147) (N1:=25) J J Tryz.func147 J CN J J nl (λe84 o85=>?_);refine XI h (λq=>St.of [(1000001,.ptr 2003 0 0),(1000004,.ptr 2002 0 0),(1000005,.ptr 2001 0 0),(1000006,.fn (.func 147) [.ptr 2002 0 0,.ptr 2001 0 0]),(1000048,.fn (.func 147) [.ptr 2002 0 0,.ptr 2001 0 0]),(1000051,.L iF v128)] [(2001,vR (e6.Pv q.1) 2),(2002,vS (.mp 5002004) 1),(5002004,⟨[.mapc (List.map (cv iF PV.bool) q.2)],0,false,0,false⟩),(2003,vR (a8.Pv a0) 11)]) (λq146 h=>dup ?_) λκ143 h=>?_
     .obtain⟨j144,j145⟩:=q146;refine⟨J,[],tr,?_⟩;refine O5 (WE [(1,.ptr 2003 0 0),(4,.ptr 2002 0 0),(5,.ptr 2001 0 0),(6,.fn (.func 147) [.ptr 2002 0 0,.ptr 2001 0 0])] [(2001,vR (e6.Pv j144) 2),(2002,vS (.mp 5002004) 1),(5002004,⟨[.mapc (List.map (cv iF PV.bool) j145)],0,false,0,false⟩),(2003,vR (a8.Pv a0) 11)])<|yN ?_;exact eL h W
     .refine S3 1 J ?_;refine nL J l7<|S2 1 J<|j5<|lq h (λq=>St.of [(1000001,.ptr 2003 0 0),(1000004,.ptr 2002 0 0),(1000005,.ptr 2001 0 0),(1000006,.fn (.func 147) [.ptr 2002 0 0,.ptr 2001 0 0]),(1000048,.fn (.func 147) [.ptr 2002 0 0,.ptr 2001 0 0]),(1000051,.L iF v128),(1,.ptr 2002 0 0),(2,.ptr 2001 0 0),(6,.L iF v128),(7,.I (v128.length:Int)),(8,.I q.1)] [(2001,vR (e6.Pv q.2.1) 2),(2002,vS (.mp 5002004) 1),(5002004,⟨[.mapc (List.map (cv iF PV.bool) q.2.2)],0,false,0,false⟩),(2003,vR (a8.Pv a0) 11)]) W λq152 x151 h hx97=>?_;obtain⟨s148,s149,s150⟩:=q152;refine S4 1 J<|k9 ?_;refine cN h (λhc h=>?_) λhc h=>?_
      .refine c7 ?_;refine jq h (λq=>St.of [(1000001,.ptr 2003 0 0),(1000004,.ptr 2002 0 0),(1000005,.ptr 2001 0 0),(1000006,.fn (.func 147) [.ptr 2002 0 0,.ptr 2001 0 0]),(1000048,.fn (.func 147) [.ptr 2002 0 0,.ptr 2001 0 0]),(1000051,.L iF v128),(1,.ptr 2002 0 0),(2,.ptr 2001 0 0),(6,.L iF v128),(7,.I (v128.length:Int)),(8,.I s148)] [(2001,vR (e6.Pv q.1) 2),(2002,vS (.mp 5002004) 1),(5002004,⟨[.mapc (List.map (cv iF PV.bool) q.2)],0,false,0,false⟩),(2003,vR (a8.Pv a0) 11)]) (λq158 h=>?_) λκ155 h=>?_
       .obtain⟨j156,j157⟩:=q158;refine S6 2 J ?_;exact eL h W
       .refine j5 ?_;refine sR<|iL h J J l7 o6 λv159 _ h=>S2 2 J<|S3 2 J<|CF (es:=s150) (k:=v159) (E:=PV.bool) (EK:=iF) (d:=.bool ((A0 s150 v159).getD (false:Bool))) J J J J R1 (y4 J1) te J (Ou _ _ _)<|S2 1 J ?_;refine cN h (λhc h=>?_) λhc h=>?_
        .refine S3 2 J ?_;refine ar (es:=s150) (k:=v159) (v:=true) (E:=PV.bool) (EK:=iF) (.inl J) J J J J J J R1 (y4 J1)<|yN<|S5 2 J<|cF h W7 J J λv160 _ h=>S2 4 J ?_;exact eJ h W
        .refine c7 ?_;exact eJ h W
      .refine o0 ?_;refine c8<|c8<|l6 ?_;have h:=xL hx97 h;exact eJ h W
    .refine S3 1 J ?_;refine nL J l7<|S2 1 J<|j5<|lq h (λq=>St.of [(1000001,.ptr 2003 0 0),(1000004,.ptr 2002 0 0),(1000005,.ptr 2001 0 0),(1000006,.fn (.func 147) [.ptr 2002 0 0,.ptr 2001 0 0]),(1000007,.I v107.2.1),(1000038,.fn (.func 147) [.ptr 2002 0 0,.ptr 2001 0 0]),(1000046,.L iF v109.Fields),(1,.ptr 2002 0 0),(2,.ptr 2001 0 0),(6,.L iF v109.Fields),(7,.I (v109.Fields.length:Int)),(8,.I q.1)] [(2001,vR (e6.Pv q.2.1) 2),(2002,vS (.mp 5002004) 1),(5002004,⟨[.mapc (List.map (cv iF PV.bool) q.2.2)],0,false,0,false⟩),(2003,vR (a8.Pv a0) 11)]) W λq166 x165 h hx105=>?_;obtain⟨s162,s163,s164⟩:=q166;refine S4 1 J<|k9 ?_;refine cN h (λhc h=>?_) λhc h=>?_
     .refine c7 ?_;refine jq h (λq=>St.of [(1000001,.ptr 2003 0 0),(1000004,.ptr 2002 0 0),(1000005,.ptr 2001 0 0),(1000006,.fn (.func 147) [.ptr 2002 0 0,.ptr 2001 0 0]),(1000007,.I v107.2.1),(1000038,.fn (.func 147) [.ptr 2002 0 0,.ptr 2001 0 0]),(1000046,.L iF v109.Fields),(1,.ptr 2002 0 0),(2,.ptr 2001 0 0),(6,.L iF v109.Fields),(7,.I (v109.Fields.length:Int)),(8,.I s162)] [(2001,vR (e6.Pv q.1) 2),(2002,vS (.mp 5002004) 1),(5002004,⟨[.mapc (List.map (cv iF PV.bool) q.2)],0,false,0,false⟩),(2003,vR (a8.Pv a0) 11)]) (λq172 h=>?_) λκ169 h=>?_
      .obtain⟨j170,j171⟩:=q172;refine S6 2 J ?_;exact eL h W
      .refine j5 ?_;refine sR<|iL h J J l7 o6 λv173 _ h=>S2 2 J<|S3 2 J<|CF (es:=s164) (k:=v173) (E:=PV.bool) (EK:=iF) (d:=.bool ((A0 s164 v173).getD (false:Bool))) J J J J R1 (y4 J1) te J (Ou _ _ _)<|S2 1 J ?_;refine cN h (λhc h=>?_) λhc h=>?_
       .refine S3 2 J ?_;refine ar (es:=s164) (k:=v173) (v:=true) (E:=PV.bool) (EK:=iF) (.inl J) J J J J J J R1 (y4 J1)<|yN<|S5 2 J<|cF h W7 J J λv174 _ h=>S2 4 J ?_;exact eJ h W
       .refine c7 ?_;exact eJ h W
     .refine o0 ?_;refine c8<|c8<|l6 ?_;have h:=xL hx105 h;exact eJ h W
   .refine o0 ?_;refine c8<|c8<|l6 ?_;have h:=xL hx67 h;exact eJ h W
 .refine S3 1 J ?_;refine nL J l7<|S2 1 J<|j5<|lq h (λq=>St.of [(1000001,.ptr 2003 0 0),(1000004,.ptr 2002 0 0),(1000005,.ptr 2001 0 0),(1000006,.fn (.func 147) [.ptr 2002 0 0,.ptr 2001 0 0]),(1000019,.fn (.func 147) [.ptr 2002 0 0,.ptr 2001 0 0]),(1000027,.L iF v6),(1,.ptr 2002 0 0),(2,.ptr 2001 0 0),(6,.L iF v6),(7,.I (v6.length:Int)),(8,.I q.1)] [(2001,vR (e6.Pv q.2.1) 2),(2002,vS (.mp 5002004) 1),(5002004,⟨[.mapc (List.map (cv iF PV.bool) q.2.2)],0,false,0,false⟩),(2003,vR (a8.Pv a0) 11)]) W λq180 x179 h hx113=>?_;obtain⟨s176,s177,s178⟩:=q180;refine S4 1 J<|k9 ?_;refine cN h (λhc h=>?_) λhc h=>?_
  .refine c7 ?_;refine jq h (λq=>St.of [(1000001,.ptr 2003 0 0),(1000004,.ptr 2002 0 0),(1000005,.ptr 2001 0 0),(1000006,.fn (.func 147) [.ptr 2002 0 0,.ptr 2001 0 0]),(1000019,.fn (.func 147) [.ptr 2002 0 0,.ptr 2001 0 0]),(1000027,.L iF v6),(1,.ptr 2002 0 0),(2,.ptr 2001 0 0),(6,.L iF v6),(7,.I (v6.length:Int)),(8,.I s176)] [(2001,vR (e6.Pv q.1) 2),(2002,vS (.mp 5002004) 1),(5002004,⟨[.mapc (List.map (cv iF PV.bool) q.2)],0,false,0,false⟩),(2003,vR (a8.Pv a0) 11)]) (λq186 h=>?_) λκ183 h=>?_
   .obtain⟨j184,j185⟩:=q186;refine S6 2 J ?_;exact eL h W
   .refine j5 ?_;refine sR<|iL h J J l7 o6 λv187 _ h=>S2 2 J<|S3 2 J<|CF (es:=s178) (k:=v187) (E:=PV.bool) (EK:=iF) (d:=.bool ((A0 s178 v187).getD (false:Bool))) J J J J R1 (y4 J1) te J (Ou _ _ _)<|S2 1 J ?_;refine cN h (λhc h=>?_) λhc h=>?_
    .refine S3 2 J ?_;refine ar (es:=s178) (k:=v187) (v:=true) (E:=PV.bool) (EK:=iF) (.inl J) J J J J J J R1 (y4 J1)<|yN<|S5 2 J<|cF h W7 J J λv188 _ h=>S2 4 J ?_;exact eJ h W
    .refine c7 ?_;exact eJ h W
  .refine o0 ?_;refine c8<|c8<|l6 ?_;have h:=xL hx113 h;exact eJ h W
theorem pG{a0 a1}:PO Tryz.prog 83 [b8.Pv a0,.rptr [.abs (V0 (List.map (cv iF PV.bool) a1))]] (bJ a0 a1) λr=>.bool r:=by
 refine pO Tryz.func83 λr h _ _=>?_;unfold bJ at h;refine S4 2 J<|S3 3 J<|m7 J (λhg=>W4 J CJ J)<|m7 J (λhg=>oF J BF J)<|m7 J (λhg=>oS (ct hg) J J G7 J)<|m7 J (λhg=>Cq (es:=a1) (k:=a0.Serial) (E:=PV.bool) (EK:=iF) (d:=.bool ((A0 a1 a0.Serial).getD (false:Bool))) (ct hg) (ct hg) R1 (y4 J1) te J (Ou _ _ _))<|m7 J (λhg=>cV (ct hg) J)<|y0 J (C9 J J J (λq=>jM q))<|S2 1 J<|c5 ?_;cases h;exact f1
theorem Y8{a0 a1}:PO Tryz.prog 60 [.L b8.Pv a0,.fn (.func 83) [.rptr [.abs (V0 (List.map (cv iF PV.bool) a1))]]] (C3 a0 a1) λr=>.L b8.Pv r:=by
 refine pO Tryz.func60 λr h _ _=>?_;refine S4 1 J<|S4 1 J ?_;refine jq h (λj15=>St.of [(5,.sl 910005)] [(910005,⟨List.map b8.Pv j15,(List.map b8.Pv j15).length,true,7,true⟩)]) (λj15 h=>?_) λκ14 h=>?_
 .refine S4 2 J ?_;refine c5 ?_;cases h;exact f1
 .refine S3 1 J ?_;refine nL J B2<|S2 1 J<|j5<|lq h (λq=>St.of [(1,.fn (.func 83) [.rptr [.abs (V0 (List.map (cv iF PV.bool) a1))]]),(5,.sl 910005),(8,.L b8.Pv a0),(9,.I (a0.length:Int)),(10,.I q.1)] [(910005,⟨List.map b8.Pv q.2,(List.map b8.Pv q.2).length,true,7,true⟩)]) (Wk.trans (E4 (t:=5) (l:=920005) (z:=7) J J) (WP (λl=>if l=910005 then 920005 else l))) λq20 x19 h hx14=>?_;obtain⟨s17,s18⟩:=q20;refine S4 1 J<|k9 ?_;refine cN h (λhc h=>?_) λhc h=>?_
  .refine c7 ?_;refine jq h (λj25=>St.of [(1,.fn (.func 83) [.rptr [.abs (V0 (List.map (cv iF PV.bool) a1))]]),(5,.sl 20),(8,.L b8.Pv a0),(9,.I (a0.length:Int)),(10,.I s17)] [(20,⟨List.map b8.Pv j25,(List.map b8.Pv j25).length,true,7,true⟩)]) (λj25 h=>?_) λκ24 h=>?_
   .refine S6 2 J ?_;exact eL h (Wk.trans (m9 _ [20]) (WP (λl=>if l=910005 then 20 else l)))
   .refine j5 ?_;refine sR<|iL h J J B2 w8 λv26 _ h=>S2 3 J<|S3 2 J<|cA h pG J J λv27 _ h=>yN ?_;refine cN h (λhc h=>?_) λhc h=>?_
    .refine S5 2 J ?_;refine y0 J (H4 (f:=b8.Pv) (l:=[v26]) J B2 w8 aC J J nl J J)<|w7 h λv28 hv21 h=>H3 J (F7 (f:=b8.Pv) hv21 J J J J J J (.inl ⟨_,J,J⟩) B2 w8 mR aC J (λ_=>J)) J J J<|S2 1 J ?_;exact eJ h (Wk.trans (m9 _ [20]) W)
    .refine c7 ?_;exact eJ h (Wk.trans (m9 _ [910005]) (WP (λl=>if l=20 then 910005 else l)))
  .refine o0 ?_;refine c8<|c8<|l6 ?_;have h:=xL hx14 h;exact eJ h (Wk.trans (m9 _ [910005]) W)
theorem lY{a0}:PO Tryz.prog 84 [b8.Pv a0] (du a0) λr=>.bool r:=by
 refine pO Tryz.func84 λr h _ _=>?_;unfold du at h;refine S4 2 J<|S3 4 J<|m7 J (λhg=>oF J La J)<|m7 J (λhg=>oS (ct hg) J J kJ J)<|m7 J (λhg=>cV (ct hg) J)<|y0 J (C9 J J J (λq=>jM q))<|S2 1 J<|c5 ?_;cases h;exact f1
theorem aY{a0}:PO Tryz.prog 60 [.L b8.Pv a0,.fn (.func 84) []] (D9 a0) λr=>.L b8.Pv r:=by
 refine pO Tryz.func60 λr h _ _=>?_;refine S4 1 J<|S4 1 J ?_;refine jq h (λj15=>St.of [(5,.sl 910005)] [(910005,⟨List.map b8.Pv j15,(List.map b8.Pv j15).length,true,7,true⟩)]) (λj15 h=>?_) λκ14 h=>?_
 .refine S4 2 J ?_;refine c5 ?_;cases h;exact f1
 .refine S3 1 J ?_;refine nL J B2<|S2 1 J<|j5<|lq h (λq=>St.of [(1,.fn (.func 84) []),(5,.sl 910005),(8,.L b8.Pv a0),(9,.I (a0.length:Int)),(10,.I q.1)] [(910005,⟨List.map b8.Pv q.2,(List.map b8.Pv q.2).length,true,7,true⟩)]) (Wk.trans (E4 (t:=5) (l:=920005) (z:=7) J J) (WP (λl=>if l=910005 then 920005 else l))) λq20 x19 h hx14=>?_;obtain⟨s17,s18⟩:=q20;refine S4 1 J<|k9 ?_;refine cN h (λhc h=>?_) λhc h=>?_
  .refine c7 ?_;refine jq h (λj25=>St.of [(1,.fn (.func 84) []),(5,.sl 20),(8,.L b8.Pv a0),(9,.I (a0.length:Int)),(10,.I s17)] [(20,⟨List.map b8.Pv j25,(List.map b8.Pv j25).length,true,7,true⟩)]) (λj25 h=>?_) λκ24 h=>?_
   .refine S6 2 J ?_;exact eL h (Wk.trans (m9 _ [20]) (WP (λl=>if l=910005 then 20 else l)))
   .refine j5 ?_;refine sR<|iL h J J B2 w8 λv26 _ h=>S2 3 J<|S3 2 J<|cA h lY J J λv27 _ h=>yN ?_;refine cN h (λhc h=>?_) λhc h=>?_
    .refine S5 2 J ?_;refine y0 J (H4 (f:=b8.Pv) (l:=[v26]) J B2 w8 aC J J nl J J)<|w7 h λv28 hv21 h=>H3 J (F7 (f:=b8.Pv) hv21 J J J J J J (.inl ⟨_,J,J⟩) B2 w8 mR aC J (λ_=>J)) J J J<|S2 1 J ?_;exact eJ h (Wk.trans (m9 _ [20]) W)
    .refine c7 ?_;exact eJ h (Wk.trans (m9 _ [910005]) (WP (λl=>if l=20 then 910005 else l)))
  .refine o0 ?_;refine c8<|c8<|l6 ?_;have h:=xL hx14 h;exact eJ h (Wk.trans (m9 _ [910005]) W)
theorem Af{a0}:PO Tryz.prog 58 [a8.Pv a0] (kX a0) λr=>.fn (.func 111) [.rptr (a8.Pc r)]:=by
 refine pO Tryz.func58 λr h _ _=>?_;unfold kX at h;refine S4 2 J<|S4 2 J<|c5 ?_;cases h;exact f1
theorem sp{a0}:PO Tryz.prog 113 [k7.Pv a0] (iO a0) λr=>.I r:=by
 refine pO Tryz.func113 λr h _ _=>?_;unfold iO at h;refine S4 2 J<|S4 3 J<|c5 ?_;cases h;exact f1
theorem W1{a0}:PO Tryz.prog 112 [.L k7.Pv a0,.fn (.func 113) []] (B8 a0) λr=>.L iF r:=by
 refine pO Tryz.func112 λr h _ _=>?_;refine S4 1 J<|S4 1 J ?_;refine jq h (λj10=>St.of [(5,.sl 910005)] [(910005,⟨List.map iF j10,(List.map iF j10).length,true,1,true⟩)]) (λj10 h=>?_) λκ9 h=>?_
 .refine S4 2 J ?_;refine c5 ?_;cases h;exact f1
 .refine S3 1 J ?_;refine nL J L5<|S2 1 J<|j5<|lq h (λq=>St.of [(1,.fn (.func 113) []),(5,.sl 910005),(8,.L k7.Pv a0),(9,.I (a0.length:Int)),(10,.I q.1)] [(910005,⟨List.map iF q.2,(List.map iF q.2).length,true,1,true⟩)]) (Wk.trans (E4 (t:=5) (l:=920005) (z:=1) J J) (WP (λl=>if l=910005 then 920005 else l))) λq15 x14 h hx10=>?_;obtain⟨s12,s13⟩:=q15;refine S4 1 J<|k9 ?_;refine cN h (λhc h=>?_) λhc h=>?_
  .refine c7 ?_;refine k9<|j5<|sR<|iL h J J L5 R7 λv16 _ h=>S2 3 J<|S5 3 J<|cA h sp J J λv17 _ h=>y0 J (H4 (f:=iF) (l:=[v17]) J l7 o6 C5 J J nl J J)<|w7 h λv18 hv13 h=>H3 J (F7 (f:=iF) hv13 J J J J J J (.inl ⟨_,J,J⟩) l7 o6 Q9 C5 J (λ_=>J)) J J J<|S2 1 J<|S6 2 J ?_;exact eL h (Wk.trans (m9 _ [19]) (WP (λl=>if l=910005 then 19 else l)))
  .refine o0 ?_;refine c8<|c8<|l6 ?_;have h:=xL hx10 h;exact eJ h (Wk.trans (m9 _ [910005]) W)
theorem vP{a0}:PO Tryz.prog 61 [b8.Pv a0] (lB a0) λr=>.bool r:=by
 refine pO Tryz.func61 λr h _ _=>?_;unfold lB at h;refine S4 2 J<|S4 3 J<|c5 ?_;cases h;exact f1
theorem N2{a0}:PO Tryz.prog 60 [.L b8.Pv a0,.fn (.func 61) []] (B3 a0) λr=>.L b8.Pv r:=by
 refine pO Tryz.func60 λr h _ _=>?_;refine S4 1 J<|S4 1 J ?_;refine jq h (λj15=>St.of [(5,.sl 910005)] [(910005,⟨List.map b8.Pv j15,(List.map b8.Pv j15).length,true,7,true⟩)]) (λj15 h=>?_) λκ14 h=>?_
 .refine S4 2 J ?_;refine c5 ?_;cases h;exact f1
 .refine S3 1 J ?_;refine nL J B2<|S2 1 J<|j5<|lq h (λq=>St.of [(1,.fn (.func 61) []),(5,.sl 910005),(8,.L b8.Pv a0),(9,.I (a0.length:Int)),(10,.I q.1)] [(910005,⟨List.map b8.Pv q.2,(List.map b8.Pv q.2).length,true,7,true⟩)]) (Wk.trans (E4 (t:=5) (l:=920005) (z:=7) J J) (WP (λl=>if l=910005 then 920005 else l))) λq20 x19 h hx14=>?_;obtain⟨s17,s18⟩:=q20;refine S4 1 J<|k9 ?_;refine cN h (λhc h=>?_) λhc h=>?_
  .refine c7 ?_;refine jq h (λj25=>St.of [(1,.fn (.func 61) []),(5,.sl 20),(8,.L b8.Pv a0),(9,.I (a0.length:Int)),(10,.I s17)] [(20,⟨List.map b8.Pv j25,(List.map b8.Pv j25).length,true,7,true⟩)]) (λj25 h=>?_) λκ24 h=>?_
   .refine S6 2 J ?_;exact eL h (Wk.trans (m9 _ [20]) (WP (λl=>if l=910005 then 20 else l)))
   .refine j5 ?_;refine sR<|iL h J J B2 w8 λv26 _ h=>S2 3 J<|S3 2 J<|cA h vP J J λv27 _ h=>yN ?_;refine cN h (λhc h=>?_) λhc h=>?_
    .refine S5 2 J ?_;refine y0 J (H4 (f:=b8.Pv) (l:=[v26]) J B2 w8 aC J J nl J J)<|w7 h λv28 hv21 h=>H3 J (F7 (f:=b8.Pv) hv21 J J J J J J (.inl ⟨_,J,J⟩) B2 w8 mR aC J (λ_=>J)) J J J<|S2 1 J ?_;exact eJ h (Wk.trans (m9 _ [20]) W)
    .refine c7 ?_;exact eJ h (Wk.trans (m9 _ [910005]) (WP (λl=>if l=20 then 910005 else l)))
  .refine o0 ?_;refine c8<|c8<|l6 ?_;have h:=xL hx14 h;exact eJ h (Wk.trans (m9 _ [910005]) W)
theorem pF{a0 a1}:PO Tryz.prog 21 [a8.Pv a0,.I a1] (eM a0 a1) λr=>.I r:=by
 refine pO Tryz.func21 λr h _ _=>?_;refine S4 3 J<|S4 2 J ?_;refine jq h (λj33=>St.of [(5,.ptr 2001 0 0)] [(2001,vR (.I j33) 1)]) (λj33 h=>?_) λκ32 h=>?_
 .refine S4 2 J ?_;refine c5 ?_;cases h;exact f1
 .refine S3 1 J ?_;refine cF h Af J J λv34 _ h=>yN<|j5<|bM (sP (λl=>if l=2003 then 5 else if l=2004 then 3 else l) [(3,.ptr 2004 0 0),(5,.ptr 2003 0 0),(8,.fn (.func 111) [.rptr (a8.Pc v34)])] [(2003,vR (.I 0) 1),(2004,vR (.I a1) 1)]) ?_;refine bX (fn:=Tryz.f111) (N1:=43) J Tryz.func111 J J nl J QO J J (λl33 e34 o35 hR36=>?_);refine dr [] s6 (by kernel_rfl) (by kernel_rfl)<|S7 4 J<|w7 h λv35 hv37 h=>dR J (u5 J W1 J hv37) J<|S7 1 J<|w7 h λv36 hv38 h=>dR J (u5 J cK J hv38) J<|w7 h λv37 hv39 h=>dR J (u5 J uX J hv39) J<|XE J (H4 (f:=(Ls iF)) (l:=[v34.Roots,v35,v37]) J X6 Z5 rO J J nl J J) J<|S8 1 J ?_;refine jq h (λj47=>St.of [(1000003,.ptr 2004 0 0),(1000005,.ptr 2003 0 0),(1000008,.fn (.func 111) [.rptr (a8.Pc v34)]),(0,.fn (.yield l33) []),(3,.sl 910003)] [(910003,⟨List.map (Ls iF) j47,(List.map (Ls iF) j47).length,true,1,true⟩),(2003,vR (.I 0) 1),(2004,vR (.I a1) 1)]) (λj47 h=>?_) λκ46 h=>?_
  .refine S3 1 J ?_;obtain⟨v48,hv47,h⟩:=rh h;refine KV J (u5 J dz J hv47) J<|nL J l7<|S2 1 J<|j5<|lq h (λq=>St.of [(1000003,.ptr 2004 0 0),(1000005,.ptr 2003 0 0),(1000008,.fn (.func 111) [.rptr (a8.Pc v34)]),(0,.fn (.yield l33) []),(32,.L iF v48),(33,.I (v48.length:Int)),(34,.I q.1)] [(2003,vR (.I q.2) 1),(2004,vR (.I a1) 1)]) W λq53 x52 h hx50=>?_;obtain⟨s50,s51⟩:=q53;refine S4 1 J<|k9 ?_;refine cN h (λhc h=>?_) λhc h=>?_
   .refine c7 ?_;refine k9<|j5<|sR<|iL h J J l7 o6 λv54 _ h=>S2 2 J<|S3 2 J<|O5 (WE [(1000003,.ptr 2004 0 0),(1000005,.ptr 2003 0 0),(1000008,.fn (.func 111) [.rptr (a8.Pc v34)]),(0,.fn (.yield l33) []),(32,.L iF v48),(33,.I (v48.length:Int)),(34,.I s50),(38,.fn (.yield l33) []),(39,.I v54)] [(2003,vR (.I s51) 1),(2004,vR (.I a1) 1)]) ?_;refine ju hR36 J J J J J J (λe52 o53 o54=>?_);refine S6 1 J ?_;refine⟨J,?_⟩;refine Zq h (λj56=>St.of [(2000003,.ptr 2004 0 0),(2000005,.ptr 2003 0 0),(2000008,.fn (.func 111) [.rptr (a8.Pc v34)]),(1000000,.fn (.yield l33) []),(1000032,.L iF v48),(1000033,.I (v48.length:Int)),(1000034,.I s50),(1000038,.fn (.yield l33) []),(1000039,.I v54)] [(2003,vR (.I j56) 1),(2004,vR (.I a1) 1)]) (λj56 h=>?_) λκ55 h=>?_
    .refine⟨J,?_⟩;refine O5 (WE [(1000003,.ptr 2004 0 0),(1000005,.ptr 2003 0 0),(1000008,.fn (.func 111) [.rptr (a8.Pc v34)]),(0,.fn (.yield l33) []),(32,.L iF v48),(33,.I (v48.length:Int)),(34,.I s50),(40,.bool true)] [(2003,vR (.I j56) 1),(2004,vR (.I a1) 1)])<|S2 1 J ?_;refine H6 false J (λq=>nomatch q) (λ_=>?_);refine c7<|S6 2 J ?_;exact eL h W
    .refine j5 ?_;refine S3 3 J<|m7 J (λhg=>mI J)<|m7 J (λhg=>oS J J J G7 J)<|m7 J (λhg=>D6 (ct hg) (ct hg) J)<|y0 J (C9 J J J (λq=>jM q))<|yN ?_;refine cN h (λhc h=>?_) λhc h=>?_
     .refine S6 3 J ?_;exact eJ h W
     .refine c7 ?_;exact eJ h W
   .refine o0 ?_;refine c8<|c8<|l6 ?_;refine .inl ⟨J,?_⟩;have h:=xL hx50 h;exact eJ h (WP (λl=>if l=2001 then 2003 else l))
  .refine S3 2 J ?_;refine cF h N2 J J λv57 _ h=>nL J B2<|S2 1 J<|j5<|lq h (λq=>St.of [(1000003,.ptr 2004 0 0),(1000005,.ptr 2003 0 0),(1000008,.fn (.func 111) [.rptr (a8.Pc v34)]),(0,.fn (.yield l33) []),(3,.sl 910003),(19,.L b8.Pv v57),(20,.I (v57.length:Int)),(21,.I q.1)] [(2003,vR (.I 0) 1),(2004,vR (.I a1) 1),(910003,⟨List.map (Ls iF) q.2,(List.map (Ls iF) q.2).length,true,1,true⟩)]) (Wk.trans (Qr (f:=(Ls iF)) (t:=3) (l:=920003) (z:=1) J J (λ_=>J)) (WP (λl=>if l=910003 then 920003 else l))) λq62 x61 h hx59=>?_;obtain⟨s59,s60⟩:=q62;refine S4 1 J<|k9 ?_;refine cN h (λhc h=>?_) λhc h=>?_
   .refine c7 ?_;refine k9<|j5<|sR<|iL h J J B2 w8 λv63 _ h=>S2 3 J<|S5 3 J<|y0 J (H4 (f:=(Ls iF)) (l:=[v63.Fields]) J X6 Z5 rO J J nl J J)<|w7 h λv64 hv61 h=>H3 J (F7 (f:=(Ls iF)) hv61 J J J J J J (.inl ⟨_,J,J⟩) X6 Z5 Hj rO J (λ_=>J)) J J J<|S2 1 J<|S6 2 J ?_;exact eL h (Wk.trans (m9 _ [29]) (WP (λl=>if l=910003 then 29 else l)))
   .refine o0 ?_;refine c8<|c8<|l6 ?_;have h:=xL hx59 h;exact eJ h (Wk.trans (m9 _ [910003]) W)
theorem B4{a0}:MH Tryz.prog 181 [.L b8.Pv a0] (r7 a0) λr=>⟨List.map b8.Pv r,0,true,7,true⟩:=by
 refine Tc Tryz.func181 λr h _ _=>?_;unfold r7 at h;refine S4 1 J<|k9<|S3 1 J<|vi J B2 λb hb=>yN ?_;refine H6 b J (λhc=>?_) (λhc=>?_)
 .obtain rfl:a0 = []:=by simpa using hb hc
  refine S4 1 J<|bM (E4 (t:=2) (l:=920000) (z:=7) J J)<|c5 ?_;cases h;exact⟨J,_,_,J,J,J,J⟩
 .refine c7 ?_;refine sR<|y0 J (W5 J B2 w8)<|S1 1 J<|y1 J (wI (f:=b8.Pv) h J J (.inl ⟨_,J,J⟩) B2 w8 mR aC J (λ_=>J)) J<|S2 1 J<|c5 ?_;exact⟨J,_,_,J,J,J,J⟩
theorem xn{a0}:PO Tryz.prog 263 [b8.Pv a0] (ny a0) λr=>b8.Pv r:=by
 refine pO Tryz.func263 λr h _ _=>?_;unfold ny at h;refine S4 2 J<|S4 2 J<|S4 2 J<|c5 ?_;cases h;exact⟨J,[_],⟨oL J J J gH w8 nl J,tr⟩,J,io⟩
theorem gr{a0 a1}:PO Tryz.prog 154 [a8.Pv a0,.I a1,.fn (.func 263) []] (S9 a0 a1) λr=>a8.Pv r:=by
 refine pO Tryz.func154 λr h _ _=>?_;refine S4 2 J<|S3 2 J<|cA h T3 J J λv1 _ h=>S2 1 J<|S3 2 J<|w7 h λv2 hv2 h=>KW J (gb J B4 J hv2) J J<|S2 2 J<|dr [] s6 (by kernel_rfl) (by kernel_rfl)<|S7 7 J<|w7 h λv3 hv3 h=>d0 J (ba (f:=b8.Pv) hv3 J J J J B2 w8 J) J<|d0 J (Ke (f:=b8.Pv) (cs:=b8.Pc v3) hv3 J J J gH w8 nl J) J<|w7 h λv4 hv4 h=>dR J (u5 J xn J hv4) J<|d0 J (ba (f:=b8.Pv) hv3 J J J J B2 w8 J) J<|Jy (f:=b8.Pv) (v:=v4) hv3 J J (.inr J) w8<|J7<|S4 2 J<|c5 ?_;cases h;exact⟨J,[_],⟨oL J J J z7 u9 nl J,tr⟩,J,io⟩
theorem gQ{a0 a1}:PO Tryz.prog 153 [a8.Pv a0,.I a1] (dZ a0 a1) λr=>a8.Pv r:=by
 refine pO Tryz.func153 λr h _ _=>?_;refine S4 2 J<|k9<|S3 2 J<|cA h pF J J λv1 _ h=>S2 1 J ?_;refine cN h (λhc h=>?_) λhc h=>?_
 .refine S4 2 J ?_;refine c5 ?_;cases h;exact⟨J,[_],⟨oL J J J z7 u9 nl J,tr⟩,J,io⟩
 .refine c7 ?_;refine S3 2 J<|cF h gr J J λv2 _ h=>S2 1 J<|c5 ?_;cases h;exact⟨J,[_],⟨oL J J J z7 u9 nl J,tr⟩,J,io⟩
theorem sw{a0}:PO Tryz.prog 155 [b8.Pv a0] (iS a0) λr=>b8.Pv r:=by
 refine pO Tryz.func155 λr h _ _=>?_;unfold iS at h;refine S4 2 J<|S4 2 J<|S4 2 J<|c5 ?_;cases h;exact⟨J,[_],⟨oL J J J gH w8 nl J,tr⟩,J,io⟩
theorem eV{a0 a1}:PO Tryz.prog 154 [a8.Pv a0,.I a1,.fn (.func 155) []] (O0 a0 a1) λr=>a8.Pv r:=by
 refine pO Tryz.func154 λr h _ _=>?_;refine S4 2 J<|S3 2 J<|cA h T3 J J λv1 _ h=>S2 1 J<|S3 2 J<|w7 h λv2 hv2 h=>KW J (gb J B4 J hv2) J J<|S2 2 J<|dr [] s6 (by kernel_rfl) (by kernel_rfl)<|S7 7 J<|w7 h λv3 hv3 h=>d0 J (ba (f:=b8.Pv) hv3 J J J J B2 w8 J) J<|d0 J (Ke (f:=b8.Pv) (cs:=b8.Pc v3) hv3 J J J gH w8 nl J) J<|w7 h λv4 hv4 h=>dR J (u5 J sw J hv4) J<|d0 J (ba (f:=b8.Pv) hv3 J J J J B2 w8 J) J<|Jy (f:=b8.Pv) (v:=v4) hv3 J J (.inr J) w8<|J7<|S4 2 J<|c5 ?_;cases h;exact⟨J,[_],⟨oL J J J z7 u9 nl J,tr⟩,J,io⟩
theorem dd{a0}:MH Tryz.prog 156 [.L g5.Pv a0] (H0 a0) λr=>⟨List.map g5.Pv r,0,true,3,true⟩:=by
 refine Tc Tryz.func156 λr h _ _=>?_;unfold H0 at h;refine S4 1 J<|k9<|S3 1 J<|vi J J2 λb hb=>yN ?_;refine H6 b J (λhc=>?_) (λhc=>?_)
 .obtain rfl:a0 = []:=by simpa using hb hc
  refine S4 1 J<|bM (E4 (t:=2) (l:=920000) (z:=3) J J)<|c5 ?_;cases h;exact⟨J,_,_,J,J,J,J⟩
 .refine c7 ?_;refine sR<|y0 J (W5 J J2 D0)<|S1 1 J<|y1 J (wI (f:=g5.Pv) h J J (.inl ⟨_,J,J⟩) J2 D0 mS aD J (λ_=>J)) J<|S2 1 J<|c5 ?_;exact⟨J,_,_,J,J,J,J⟩
theorem lZ{a0 a1}:PO Tryz.prog 85 [a8.Pv a0,.I a1] (bj a0 a1) λr=>a8.Pv r:=by
 refine pO Tryz.func85 λr h _ _=>?_;refine S4 2 J<|S3 2 J<|cF h gQ J J λv1 _ h=>S2 1 J<|dr [] s6 (by kernel_rfl) (by kernel_rfl)<|S7 4 J<|w7 h λv2 hv2 h=>d2 J (M0 J T3 J hv2) J<|w7 h λv3 hv3 h=>d0 J (J9 (f:=b8.Pv) (cs:=b8.Pc v3) hv3 J J B2 w8 J J) J<|S8 3 J<|S3 2 J<|cF h eV J J λv4 _ h=>S2 1 J<|S3 2 J<|w7 h λv5 hv5 h=>KW J (gb J dd J hv5) J J<|S1 2 J<|y0 J (o7 (cs:=[.I 1,.I a1,.I v3.Prog]) J sW aD J J J)<|y0 J (H4 (f:=g5.Pv) (l:=[(⟨1,a1,v3.Prog⟩:g5)]) J J2 D0 aD J J nl J J)<|w7 h λv6 hv6 h=>H3 J (F7 (f:=g5.Pv) hv6 J J J J J J (.inl ⟨_,J,J⟩) J2 D0 mS aD J (λ_=>J)) J J J<|S2 2 J<|S4 2 J<|c5 ?_;cases h;exact⟨J,[_],⟨oL J J J z7 u9 nl J,tr⟩,J,io⟩
theorem eR{a0 a1}:PO Tryz.prog 179 [.L iF a0,.I a1] (I0 a0 a1) λr=>.I r:=by
 refine pO Tryz.func179 λr h _ _=>?_;refine S4 1 J ?_;refine jq h (λ_=>St.of [] []) (λq6 h=>?_) λκ5 h=>?_
 .refine S4 1 J ?_;refine c5 ?_;cases h;exact f1
 .refine S3 1 J ?_;refine nL J l7<|S2 1 J<|j5<|lq h (λs8=>St.of [(0,.L iF a0),(1,.I a1),(7,.I (a0.length:Int)),(8,.I s8)] []) W λs8 x9 h hx8=>S4 1 J<|k9 ?_;refine cN h (λhc h=>?_) λhc h=>?_
  .refine c7 ?_;refine k9<|j5<|S4 2 J<|S3 3 J<|iL h J J l7 o6 λv10 _ h=>S2 2 J ?_;refine cN h (λhc h=>?_) λhc h=>?_
   .refine S4 2 J ?_;refine c5 ?_;have h:=xL hx8 h;cases h;exact f1
   .refine c7 ?_;refine S6 2 J ?_;exact eL h W
  .refine o0 ?_;refine c8<|c8<|l6 ?_;have h:=xL hx8 h;exact eJ h W
theorem M3{a0 a1}:PO Tryz.prog 165 [.L iF a0,.I a1] (F0 a0 a1) λr=>.bool r:=by
 refine pO Tryz.func165 λr h _ _=>?_;refine S4 1 J<|S3 2 J<|cA h eR J J λv1 _ h=>S2 2 J<|c5 ?_;cases h;exact f1
theorem xz{a0 a1}:PO Tryz.prog 265 [k8.Pv a0,.rptr [.L iF a1]] (cR a0 a1) λr=>.bool r:=by
 refine pO Tryz.func265 λr h _ _=>?_;unfold cR at h;refine S4 2 J<|S3 3 J<|m7 J (λhg=>oF J vm J)<|m7 J (λhg=>oS (ct hg) J J G7 J)<|m7 J (λhg=>D6 (ct hg) J J)<|y0 J (C9 J J J (λq=>jM q))<|S1 1 J<|m7 J (λhg=>W4 J dO J)<|m7 J (λhg=>oF J vm J)<|m7 J (λhg=>oS (ct hg) J J G7 J)<|w7 h λv1 hv1 h=>m7 J (λhg=>M0 J M3 (D3 (ct hg) (D3 (ct hg) J)) (O6 hv1 hg))<|y0 J (C9 J J J (λq=>jM q))<|S2 1 J<|c5 ?_;cases h;exact f1
theorem iY{a0 a1}:PO Tryz.prog 264 [.L k8.Pv a0,.fn (.func 265) [.rptr [.L iF a1]]] (N5 a0 a1) λr=>.L iF r:=by
 refine pO Tryz.func264 λr h _ _=>?_;refine S4 1 J<|S4 1 J ?_;refine jq h (λj15=>St.of [(5,.sl 910005)] [(910005,⟨List.map iF j15,(List.map iF j15).length,true,1,true⟩)]) (λj15 h=>?_) λκ14 h=>?_
 .refine S4 2 J ?_;refine c5 ?_;cases h;exact f1
 .refine S3 1 J ?_;refine nL J R6<|S2 1 J<|j5<|lq h (λq=>St.of [(1,.fn (.func 265) [.rptr [.L iF a1]]),(5,.sl 910005),(8,.L k8.Pv a0),(9,.I (a0.length:Int)),(10,.I q.1)] [(910005,⟨List.map iF q.2,(List.map iF q.2).length,true,1,true⟩)]) (Wk.trans (E4 (t:=5) (l:=920005) (z:=1) J J) (WP (λl=>if l=910005 then 920005 else l))) λq20 x19 h hx14=>?_;obtain⟨s17,s18⟩:=q20;refine S4 1 J<|k9 ?_;refine cN h (λhc h=>?_) λhc h=>?_
  .refine c7 ?_;refine jq h (λj25=>St.of [(1,.fn (.func 265) [.rptr [.L iF a1]]),(5,.sl 21),(8,.L k8.Pv a0),(9,.I (a0.length:Int)),(10,.I s17)] [(21,⟨List.map iF j25,(List.map iF j25).length,true,1,true⟩)]) (λj25 h=>?_) λκ24 h=>?_
   .refine S6 2 J ?_;exact eL h (Wk.trans (m9 _ [21]) (WP (λl=>if l=910005 then 21 else l)))
   .refine j5 ?_;refine S3 1 J<|iL h J J R6 V6 λv26 _ h=>S2 4 J<|S3 2 J<|cA h xz J J λv27 _ h=>yN ?_;refine cN h (λhc h=>?_) λhc h=>?_
    .refine S5 2 J ?_;refine y0 J (H4 (f:=iF) (l:=[s17]) J l7 o6 C5 J J nl J J)<|w7 h λv28 hv21 h=>H3 J (F7 (f:=iF) hv21 J J J J J J (.inl ⟨_,J,J⟩) l7 o6 Q9 C5 J (λ_=>J)) J J J<|S2 1 J ?_;exact eJ h (Wk.trans (m9 _ [21]) W)
    .refine c7 ?_;exact eJ h (Wk.trans (m9 _ [910005]) (WP (λl=>if l=21 then 910005 else l)))
  .refine o0 ?_;refine c8<|c8<|l6 ?_;have h:=xL hx14 h;exact eJ h (Wk.trans (m9 _ [910005]) W)
theorem oC{a0}:MH Tryz.prog 266 [.L k8.Pv a0] (cp a0) λr=>⟨List.map k8.Pv r,0,true,3,true⟩:=by
 refine Tc Tryz.func266 λr h _ _=>?_;unfold cp at h;refine S4 1 J<|S3 1 J<|nL J R6<|w7 h λv1 hv1 h=>y1 J (Bu (f:=k8.Pv) hv1 J J J R6 V6 CR IS J J J) J<|S2 1 J<|S3 2 J<|w7 h λv2 hv2 h=>Zd (f:=k8.Pv) hv2 J J J (.inl ⟨_,J,J⟩) R6 V6 (λ_=>J) (by decide)<|yN<|S4 2 J<|c5 ?_;cases h;exact⟨J,_,_,J,J,J,J⟩
theorem rL{a0 a1}:PO Tryz.prog 159 [.L k8.Pv a0,.L iF a1] (gF a0 a1) λr=>.tup [.L k8.Pv r.1,.L iF r.2]:=by
 refine pO Tryz.func159 λr h _ _=>?_;unfold gF at h;refine S4 3 J<|S3 2 J<|w7 h λv1 hv1 h=>KV J (u5 J iY J hv1) J<|S2 1 J<|S3 1 J<|w7 h λv2 hv2 h=>KW J (gb J oC J hv2) J J<|S2 1 J<|S4 1 J ?_;refine jq h (λq=>St.of [(7,.sl 15),(8,.sl 910008)] [(910008,⟨List.map iF q.1,(List.map iF q.1).length,true,1,true⟩),(15,⟨List.map k8.Pv q.2,0,true,3,true⟩)]) (λq24 h=>?_) λκ21 h=>?_
 .obtain⟨j22,j23⟩:=q24;refine S4 4 J<|c5 ?_;cases h;exact f2
 .refine S3 1 J ?_;refine nL J l7<|S2 1 J<|j5<|lq h (λq=>St.of [(7,.sl 15),(8,.sl 910008),(16,.L iF v1),(17,.I (v1.length:Int)),(18,.I q.1)] [(15,⟨List.map k8.Pv q.2.1,0,true,3,true⟩),(910008,⟨List.map iF q.2.2,(List.map iF q.2.2).length,true,1,true⟩)]) (Wk.trans (E4 (t:=8) (l:=920008) (z:=1) J J) (WP (λl=>if l=910008 then 920008 else l))) λq30 x29 h hx18=>?_;obtain⟨s26,s27,s28⟩:=q30;refine S4 1 J<|k9 ?_;refine cN h (λhc h=>?_) λhc h=>?_
  .refine c7 ?_;refine jq h (λq=>St.of [(7,.sl 15),(8,.sl 35),(16,.L iF v1),(17,.I (v1.length:Int)),(18,.I s26)] [(35,⟨List.map iF q.1,(List.map iF q.1).length,true,1,true⟩),(15,⟨List.map k8.Pv q.2,0,true,3,true⟩)]) (λq38 h=>?_) λκ35 h=>?_
   .obtain⟨j36,j37⟩:=q38;refine S6 2 J ?_;exact eL h (Wk.trans (m9 _ [35]) (WP (λl=>if l=910008 then 35 else l)))
   .refine j5 ?_;refine sR<|iL h J J l7 o6 λv39 _ h=>S2 2 J<|S3 2 J<|w7 h λv40 hv25 h=>y0 J (ba (f:=k8.Pv) hv25 J J J J R6 V6 J)<|S1 1 J<|oE (f:=k8.Pv) (v:=(⟨v40.Target,false,v40.Call⟩:k8)) hv25 J J (.inl J) XR<|yN<|S3 2 J<|w7 h λv41 hv26 h=>y0 J (ba (f:=k8.Pv) hv26 J J J J R6 V6 J)<|S1 1 J<|y0 J (Gf (f:=k8.Pv) hv26 J J J G7 J)<|S2 1 J ?_;refine cN h (λhc h=>?_) λhc h=>?_
    .refine S5 2 J ?_;refine y0 J (H4 (f:=iF) (l:=[v39]) J l7 o6 C5 J J nl J J)<|w7 h λv42 hv27 h=>H3 J (F7 (f:=iF) hv27 J J J J J J (.inl ⟨_,J,J⟩) l7 o6 Q9 C5 J (λ_=>J)) J J J<|S2 1 J ?_;exact eJ h (Wk.trans (m9 _ [35]) W)
    .refine c7 ?_;exact eJ h (Wk.trans (m9 _ [910008]) (WP (λl=>if l=35 then 910008 else l)))
  .refine o0 ?_;refine c8<|c8<|l6 ?_;have h:=xL hx18 h;exact eJ h (Wk.trans (m9 _ [910008]) W)
theorem uo{a0 a1}:PO Tryz.prog 161 [.I a0,.rptr [.L k8.Pv a1]] (fA a0 a1) λr=>g5.Pv r:=by
 refine pO Tryz.func161 λr h _ _=>?_;refine S4 1 J<|S3 3 J<|iL h J J R6 V6 λv1 _ h=>S1 2 J<|y0 J (o7 (cs:=[.I 2,.I a0,.I v1.Call]) J sW aD J J J)<|S2 1 J<|c5 ?_;cases h;exact⟨J,[_],⟨oL J J J cq D0 nl J,tr⟩,J,io⟩
theorem Y7{a0 a1}:PO Tryz.prog 160 [.L iF a0,.fn (.func 161) [.rptr [.L k8.Pv a1]]] (C2 a0 a1) λr=>.L g5.Pv r:=by
 refine pO Tryz.func160 λr h _ _=>?_;refine S4 1 J<|S4 1 J ?_;refine jq h (λj10=>St.of [(5,.sl 910005)] [(910005,⟨List.map g5.Pv j10,(List.map g5.Pv j10).length,true,3,true⟩)]) (λj10 h=>?_) λκ9 h=>?_
 .refine S4 2 J ?_;refine c5 ?_;cases h;exact f1
 .refine S3 1 J ?_;refine nL J l7<|S2 1 J<|j5<|lq h (λq=>St.of [(1,.fn (.func 161) [.rptr [.L k8.Pv a1]]),(5,.sl 910005),(8,.L iF a0),(9,.I (a0.length:Int)),(10,.I q.1)] [(910005,⟨List.map g5.Pv q.2,(List.map g5.Pv q.2).length,true,3,true⟩)]) (Wk.trans (E4 (t:=5) (l:=920005) (z:=3) J J) (WP (λl=>if l=910005 then 920005 else l))) λq15 x14 h hx10=>?_;obtain⟨s12,s13⟩:=q15;refine S4 1 J<|k9 ?_;refine cN h (λhc h=>?_) λhc h=>?_
  .refine c7 ?_;refine k9<|j5<|sR<|iL h J J l7 o6 λv16 _ h=>S2 2 J<|S5 3 J<|cA h uo J J λv17 _ h=>y0 J (H4 (f:=g5.Pv) (l:=[v17]) J J2 D0 aD J J nl J J)<|w7 h λv18 hv13 h=>H3 J (F7 (f:=g5.Pv) hv13 J J J J J J (.inl ⟨_,J,J⟩) J2 D0 mS aD J (λ_=>J)) J J J<|S2 1 J<|S6 2 J ?_;exact eL h (Wk.trans (m9 _ [19]) (WP (λl=>if l=910005 then 19 else l)))
  .refine o0 ?_;refine c8<|c8<|l6 ?_;have h:=xL hx10 h;exact eJ h (Wk.trans (m9 _ [910005]) W)
theorem de{a0}:PO Tryz.prog 162 [.L (Ls g5.Pv) a0] (F9 a0) λr=>.L g5.Pv r:=by
 refine pO Tryz.func162 λr h _ _=>?_;refine S4 1 J<|S4 1 J ?_;refine jq h (λj11=>St.of [(0,.L (Ls g5.Pv) a0),(3,.I j11)] []) (λj11 h=>?_) λκ10 h=>?_
 .refine S3 1 J ?_;refine O5 (WE [(0,.L (Ls g5.Pv) a0),(23,.I j11)] []) ?_;refine vj (fn:=Tryz.f267) (N1:=27) J J Tryz.func267 J QU J J nl (λe8 o9=>?_);refine S4 1 J ?_;refine jq h (λ_=>St.of [(1000000,.L (Ls g5.Pv) a0),(1000023,.I j11),(0,.nl),(1,.I j11)] []) (λq13 h=>?_) λκ12 h=>?_
  .refine k9 ?_;refine S3 2 J<|KU J J J2<|S1 1 J<|nL (f:=g5.Pv) (xs:=[]) J J2<|S2 3 J<|S4 2 J ?_;refine cN h (λhc h=>?_) λhc h=>?_
   .refine S5 2 J ?_;refine KU J J J2<|y0 J (xP (t':=true) (xs:=[]) (ys:=[]) J J2 D0 (λ_ q=>nomatch q) J ⟨_,J⟩ J (λq=>nomatch q) (zG _) (zX _) (zG _) J J)<|S1 1 J<|w7 h λv14 hv11 h=>UJ (f:=g5.Pv) J hv11 J nl J J J2 J1 D0 nl aD mS J J J<|S1 1 J<|nL (f:=g5.Pv) (xs:=[]) J J2<|Qu [(1000000,.L (Ls g5.Pv) a0),(1000023,.I j11),(0,.nl),(1,.I (x4 (j11-(x4 (0-0))))),(8,.I j11),(9,.nl),(10,.I 0),(11,.nl),(12,.I 0),(13,.I (x4 (0-0))),(14,.I (x4 (j11-(x4 (0-0))))),(15,.I (x4 (j11-(x4 (0-0))))),(16,.bool (decide ((x4 (j11-(x4 (0-0)))) > 0))),(17,.nl),(18,.nl),(19,.I 0),(20,.nl),(21,.I (x4 (j11-(x4 (0-0))))),(23,.nl),(24,.I 0)] [] J ⟨J,J,J,J,J,J,J,J,J,J,J,J,J,J,J,J,J,J,J,J,J,J,J,J,J,J,J,J,J,J,J,J,J,J,J,J,J,J,J,J,J,J,J,J,J,J,J,J,J,J,J,J,J,J,J,J,J,J,J,J,tr⟩ tr J J nl J J J J2 D0<|S2 1 J<|S4 2 J<|c5 ?_;refine⟨J,[.sl 25],⟨J,tr⟩,?_⟩;refine O5 (sP (λl=>if l=2001 then 25 else l) [(0,.L (Ls g5.Pv) a0),(24,.sl 2001)] [(2001,⟨List.map g5.Pv [],0,true,3,true⟩)])<|S2 1 J ?_;refine jq h (λj23=>St.of [(6,.sl 2001)] [(2001,⟨List.map g5.Pv j23,(List.map g5.Pv j23).length,true,3,true⟩)]) (λj23 h=>?_) λκ22 h=>?_
    .refine S4 2 J ?_;refine c5 ?_;cases h;exact f1
    .refine S3 1 J ?_;refine nL J mT<|S2 1 J<|j5<|lq h (λq=>St.of [(6,.sl 2001),(25,.L (Ls g5.Pv) a0),(26,.I (a0.length:Int)),(27,.I q.1)] [(2001,⟨List.map g5.Pv q.2,(List.map g5.Pv q.2).length,true,3,true⟩)]) (Wk.trans (m9 _ [2001]) W) λq28 x27 h hx20=>?_;obtain⟨s25,s26⟩:=q28;refine S4 1 J<|k9 ?_;refine cN h (λhc h=>?_) λhc h=>?_
     .refine c7 ?_;refine k9<|j5<|sR<|iL h J J mT vn λv29 _ h=>S2 2 J<|S5 2 J<|w7 h λv30 hv22 h=>H3 J (F7 (f:=g5.Pv) hv22 J J J J J J (.inl ⟨_,J,J⟩) J2 D0 mS aD J (λ_=>J)) J J J<|S2 1 J<|S6 2 J ?_;exact eL h (Wk.trans (m9 _ [33]) (WP (λl=>if l=2001 then 33 else l)))
     .refine o0 ?_;refine c8<|c8<|l6 ?_;have h:=xL hx20 h;exact eJ h (Wk.trans (m9 _ [2001]) W)
   .refine c7 ?_;refine S4 2 J<|c5 ?_;refine⟨J,[.nl],⟨J,tr⟩,?_⟩;refine O5 (WE [(0,.L (Ls g5.Pv) a0),(24,.nl)] [])<|S2 1 J ?_;refine jq h (λj39=>St.of [(6,.sl 910006)] [(910006,⟨List.map g5.Pv j39,(List.map g5.Pv j39).length,true,3,true⟩)]) (λj39 h=>?_) λκ38 h=>?_
    .refine S4 2 J ?_;refine c5 ?_;cases h;exact f1
    .refine S3 1 J ?_;refine nL J mT<|S2 1 J<|j5<|lq h (λq=>St.of [(6,.sl 910006),(25,.L (Ls g5.Pv) a0),(26,.I (a0.length:Int)),(27,.I q.1)] [(910006,⟨List.map g5.Pv q.2,(List.map g5.Pv q.2).length,true,3,true⟩)]) (Wk.trans (E4 (t:=6) (l:=920006) (z:=3) J J) (WP (λl=>if l=910006 then 920006 else l))) λq44 x43 h hx31=>?_;obtain⟨s41,s42⟩:=q44;refine S4 1 J<|k9 ?_;refine cN h (λhc h=>?_) λhc h=>?_
     .refine c7 ?_;refine k9<|j5<|sR<|iL h J J mT vn λv45 _ h=>S2 2 J<|S5 2 J<|w7 h λv46 hv33 h=>H3 J (F7 (f:=g5.Pv) hv33 J J J J J J (.inl ⟨_,J,J⟩) J2 D0 mS aD J (λ_=>J)) J J J<|S2 1 J<|S6 2 J ?_;exact eL h (Wk.trans (m9 _ [33]) (WP (λl=>if l=910006 then 33 else l)))
     .refine o0 ?_;refine c8<|c8<|l6 ?_;have h:=xL hx31 h;exact eJ h (Wk.trans (m9 _ [910006]) W)
  .refine S4 2 J ?_;refine cN h (λhc h=>?_) λhc h=>?_;·cases h
   .refine c7 ?_;exact eJ h W
 .refine S3 1 J ?_;refine nL J mT<|S2 1 J<|j5<|lq h (λq=>St.of [(0,.L (Ls g5.Pv) a0),(3,.I q.1),(9,.L (Ls g5.Pv) a0),(10,.I (a0.length:Int)),(11,.I q.2)] []) W λq51 x50 h hx36=>?_;obtain⟨s48,s49⟩:=q51;refine S4 1 J<|k9 ?_;refine cN h (λhc h=>?_) λhc h=>?_
  .refine c7 ?_;refine jq h (λj54=>St.of [(0,.L (Ls g5.Pv) a0),(3,.I j54),(9,.L (Ls g5.Pv) a0),(10,.I (a0.length:Int)),(11,.I s49)] []) (λj54 h=>?_) λκ53 h=>?_
   .refine S6 2 J ?_;exact eL h W
   .refine j5 ?_;refine sR<|iL h J J mT vn λv55 _ h=>S2 2 J<|S3 2 J<|nL J J2<|S2 2 J<|S4 2 J ?_;refine cN h (λhc h=>?_) λhc h=>?_;·cases h
    .refine c7 ?_;exact eJ h W
  .refine o0 ?_;refine c8<|c8<|l6 ?_;have h:=xL hx36 h;exact eJ h W
theorem ur{a0 a1}:PO Tryz.prog 164 [k7.Pv a0,.rptr [.L iF a1]] (fB a0 a1) λr=>.bool r:=by
 refine pO Tryz.func164 λr h _ _=>?_;refine S4 2 J<|S3 3 J<|cA h M3 J J λv1 _ h=>S2 2 J<|c5 ?_;cases h;exact f1
theorem aM{a0 a1}:PO Tryz.prog 163 [.L k7.Pv a0,.fn (.func 164) [.rptr [.L iF a1]]] (D7 a0 a1) λr=>.L k7.Pv r:=by
 refine pO Tryz.func163 λr h _ _=>?_;refine S4 1 J<|S4 1 J ?_;refine jq h (λj15=>St.of [(5,.sl 910005)] [(910005,⟨List.map k7.Pv j15,(List.map k7.Pv j15).length,true,2,true⟩)]) (λj15 h=>?_) λκ14 h=>?_
 .refine S4 2 J ?_;refine c5 ?_;cases h;exact f1
 .refine S3 1 J ?_;refine nL J L5<|S2 1 J<|j5<|lq h (λq=>St.of [(1,.fn (.func 164) [.rptr [.L iF a1]]),(5,.sl 910005),(8,.L k7.Pv a0),(9,.I (a0.length:Int)),(10,.I q.1)] [(910005,⟨List.map k7.Pv q.2,(List.map k7.Pv q.2).length,true,2,true⟩)]) (Wk.trans (E4 (t:=5) (l:=920005) (z:=2) J J) (WP (λl=>if l=910005 then 920005 else l))) λq20 x19 h hx14=>?_;obtain⟨s17,s18⟩:=q20;refine S4 1 J<|k9 ?_;refine cN h (λhc h=>?_) λhc h=>?_
  .refine c7 ?_;refine jq h (λj25=>St.of [(1,.fn (.func 164) [.rptr [.L iF a1]]),(5,.sl 20),(8,.L k7.Pv a0),(9,.I (a0.length:Int)),(10,.I s17)] [(20,⟨List.map k7.Pv j25,(List.map k7.Pv j25).length,true,2,true⟩)]) (λj25 h=>?_) λκ24 h=>?_
   .refine S6 2 J ?_;exact eL h (Wk.trans (m9 _ [20]) (WP (λl=>if l=910005 then 20 else l)))
   .refine j5 ?_;refine sR<|iL h J J L5 R7 λv26 _ h=>S2 3 J<|S3 2 J<|cA h ur J J λv27 _ h=>yN ?_;refine cN h (λhc h=>?_) λhc h=>?_
    .refine S5 2 J ?_;refine y0 J (H4 (f:=k7.Pv) (l:=[v26]) J L5 R7 aE J J nl J J)<|w7 h λv28 hv21 h=>H3 J (F7 (f:=k7.Pv) hv21 J J J J J J (.inl ⟨_,J,J⟩) L5 R7 qm aE J (λ_=>J)) J J J<|S2 1 J ?_;exact eJ h (Wk.trans (m9 _ [20]) W)
    .refine c7 ?_;exact eJ h (Wk.trans (m9 _ [910005]) (WP (λl=>if l=20 then 910005 else l)))
  .refine o0 ?_;refine c8<|c8<|l6 ?_;have h:=xL hx14 h;exact eJ h (Wk.trans (m9 _ [910005]) W)
theorem uu{a0}:PO Tryz.prog 166 [b8.Pv a0] (jV a0) λr=>b8.Pv r:=by
 refine pO Tryz.func166 λr h _ _=>?_;unfold jV at h;refine S4 2 J<|S3 3 J<|lk (x':=.agg [.I a0.Serial,.I a0.Slot,.I a0.Prog,.bool a0.Started,.bool false,.bool a0.Stuck,.nl]) (cl':=true) J J (.inl J) Z5<|yN<|S3 1 J<|lk (x':=.agg [.I a0.Serial,.I a0.Slot,.I a0.Prog,.bool a0.Started,.bool false,.bool a0.Stuck,.nl]) (cl':=true) J J (.inl J) w8<|yN<|c5 ?_;cases h;exact⟨J,[_],⟨oL J J J gH w8 nl J,tr⟩,J,io⟩
theorem fC{a0 a1}:PO Tryz.prog 154 [a8.Pv a0,.I a1,.fn (.func 166) []] (D5 a0 a1) λr=>a8.Pv r:=by
 refine pO Tryz.func154 λr h _ _=>?_;refine S4 2 J<|S3 2 J<|cA h T3 J J λv1 _ h=>S2 1 J<|S3 2 J<|w7 h λv2 hv2 h=>KW J (gb J B4 J hv2) J J<|S2 2 J<|dr [] s6 (by kernel_rfl) (by kernel_rfl)<|S7 7 J<|w7 h λv3 hv3 h=>d0 J (ba (f:=b8.Pv) hv3 J J J J B2 w8 J) J<|d0 J (Ke (f:=b8.Pv) (cs:=b8.Pc v3) hv3 J J J gH w8 nl J) J<|w7 h λv4 hv4 h=>dR J (u5 J uu J hv4) J<|d0 J (ba (f:=b8.Pv) hv3 J J J J B2 w8 J) J<|Jy (f:=b8.Pv) (v:=v4) hv3 J J (.inr J) w8<|J7<|S4 2 J<|c5 ?_;cases h;exact⟨J,[_],⟨oL J J J z7 u9 nl J,tr⟩,J,io⟩
theorem wA{a0 a1}:PO Tryz.prog 315 [k8.Pv a0,.rptr [.I a1]] (gW a0 a1) λr=>.bool r:=by
 refine pO Tryz.func315 λr h _ _=>?_;unfold gW at h;refine S4 2 J<|S3 3 J<|m7 J (λhg=>oF J vm J)<|m7 J (λhg=>oS (ct hg) J J G7 J)<|m7 J (λhg=>W4 J G7 J)<|m7 J (λhg=>D6 (ct hg) (ct hg) J)<|y0 J (C9 J J J (λq=>jM q))<|S2 1 J<|c5 ?_;cases h;exact f1
theorem iz{a0 a1}:PO Tryz.prog 264 [.L k8.Pv a0,.fn (.func 315) [.rptr [.I a1]]] (U7 a0 a1) λr=>.L iF r:=by
 refine pO Tryz.func264 λr h _ _=>?_;refine S4 1 J<|S4 1 J ?_;refine jq h (λj15=>St.of [(5,.sl 910005)] [(910005,⟨List.map iF j15,(List.map iF j15).length,true,1,true⟩)]) (λj15 h=>?_) λκ14 h=>?_
 .refine S4 2 J ?_;refine c5 ?_;cases h;exact f1
 .refine S3 1 J ?_;refine nL J R6<|S2 1 J<|j5<|lq h (λq=>St.of [(1,.fn (.func 315) [.rptr [.I a1]]),(5,.sl 910005),(8,.L k8.Pv a0),(9,.I (a0.length:Int)),(10,.I q.1)] [(910005,⟨List.map iF q.2,(List.map iF q.2).length,true,1,true⟩)]) (Wk.trans (E4 (t:=5) (l:=920005) (z:=1) J J) (WP (λl=>if l=910005 then 920005 else l))) λq20 x19 h hx14=>?_;obtain⟨s17,s18⟩:=q20;refine S4 1 J<|k9 ?_;refine cN h (λhc h=>?_) λhc h=>?_
  .refine c7 ?_;refine jq h (λj25=>St.of [(1,.fn (.func 315) [.rptr [.I a1]]),(5,.sl 21),(8,.L k8.Pv a0),(9,.I (a0.length:Int)),(10,.I s17)] [(21,⟨List.map iF j25,(List.map iF j25).length,true,1,true⟩)]) (λj25 h=>?_) λκ24 h=>?_
   .refine S6 2 J ?_;exact eL h (Wk.trans (m9 _ [21]) (WP (λl=>if l=910005 then 21 else l)))
   .refine j5 ?_;refine S3 1 J<|iL h J J R6 V6 λv26 _ h=>S2 4 J<|S3 2 J<|cA h wA J J λv27 _ h=>yN ?_;refine cN h (λhc h=>?_) λhc h=>?_
    .refine S5 2 J ?_;refine y0 J (H4 (f:=iF) (l:=[s17]) J l7 o6 C5 J J nl J J)<|w7 h λv28 hv21 h=>H3 J (F7 (f:=iF) hv21 J J J J J J (.inl ⟨_,J,J⟩) l7 o6 Q9 C5 J (λ_=>J)) J J J<|S2 1 J ?_;exact eJ h (Wk.trans (m9 _ [21]) W)
    .refine c7 ?_;exact eJ h (Wk.trans (m9 _ [910005]) (WP (λl=>if l=21 then 910005 else l)))
  .refine o0 ?_;refine c8<|c8<|l6 ?_;have h:=xL hx14 h;exact eJ h (Wk.trans (m9 _ [910005]) W)
theorem AV{a0 a1}:PO Tryz.prog 268 [.L k8.Pv a0,.I a1] (eU a0 a1) λr=>.I r:=by
 refine pO Tryz.func268 λr h _ _=>?_;unfold eU at h;refine S4 2 J<|S3 2 J<|w7 h λv1 hv1 h=>KV J (u5 J iz J hv1) J<|nL J l7<|S2 1 J<|c5 ?_;cases h;exact f1
theorem qU{a0 a1}:PO Tryz.prog 269 [b8.Pv a0,.rptr [.I a1]] (cH a0 a1) λr=>.bool r:=by
 refine pO Tryz.func269 λr h _ _=>?_;unfold cH at h;refine S4 2 J<|S4 5 J<|c5 ?_;cases h;exact f1
theorem ah{a0 a1}:PO Tryz.prog 60 [.L b8.Pv a0,.fn (.func 269) [.rptr [.I a1]]] (C8 a0 a1) λr=>.L b8.Pv r:=by
 refine pO Tryz.func60 λr h _ _=>?_;refine S4 1 J<|S4 1 J ?_;refine jq h (λj15=>St.of [(5,.sl 910005)] [(910005,⟨List.map b8.Pv j15,(List.map b8.Pv j15).length,true,7,true⟩)]) (λj15 h=>?_) λκ14 h=>?_
 .refine S4 2 J ?_;refine c5 ?_;cases h;exact f1
 .refine S3 1 J ?_;refine nL J B2<|S2 1 J<|j5<|lq h (λq=>St.of [(1,.fn (.func 269) [.rptr [.I a1]]),(5,.sl 910005),(8,.L b8.Pv a0),(9,.I (a0.length:Int)),(10,.I q.1)] [(910005,⟨List.map b8.Pv q.2,(List.map b8.Pv q.2).length,true,7,true⟩)]) (Wk.trans (E4 (t:=5) (l:=920005) (z:=7) J J) (WP (λl=>if l=910005 then 920005 else l))) λq20 x19 h hx14=>?_;obtain⟨s17,s18⟩:=q20;refine S4 1 J<|k9 ?_;refine cN h (λhc h=>?_) λhc h=>?_
  .refine c7 ?_;refine jq h (λj25=>St.of [(1,.fn (.func 269) [.rptr [.I a1]]),(5,.sl 20),(8,.L b8.Pv a0),(9,.I (a0.length:Int)),(10,.I s17)] [(20,⟨List.map b8.Pv j25,(List.map b8.Pv j25).length,true,7,true⟩)]) (λj25 h=>?_) λκ24 h=>?_
   .refine S6 2 J ?_;exact eL h (Wk.trans (m9 _ [20]) (WP (λl=>if l=910005 then 20 else l)))
   .refine j5 ?_;refine sR<|iL h J J B2 w8 λv26 _ h=>S2 3 J<|S3 2 J<|cA h qU J J λv27 _ h=>yN ?_;refine cN h (λhc h=>?_) λhc h=>?_
    .refine S5 2 J ?_;refine y0 J (H4 (f:=b8.Pv) (l:=[v26]) J B2 w8 aC J J nl J J)<|w7 h λv28 hv21 h=>H3 J (F7 (f:=b8.Pv) hv21 J J J J J J (.inl ⟨_,J,J⟩) B2 w8 mR aC J (λ_=>J)) J J J<|S2 1 J ?_;exact eJ h (Wk.trans (m9 _ [20]) W)
    .refine c7 ?_;exact eJ h (Wk.trans (m9 _ [910005]) (WP (λl=>if l=20 then 910005 else l)))
  .refine o0 ?_;refine c8<|c8<|l6 ?_;have h:=xL hx14 h;exact eJ h (Wk.trans (m9 _ [910005]) W)
theorem K0{a0}:MH Tryz.prog 180 [.L iF a0] (y7 a0) λr=>⟨List.map iF r,0,true,1,true⟩:=by
 refine Tc Tryz.func180 λr h _ _=>?_;unfold y7 at h;refine S4 1 J<|k9<|S3 1 J<|vi J l7 λb hb=>yN ?_;refine H6 b J (λhc=>?_) (λhc=>?_)
 .obtain rfl:a0 = []:=by simpa using hb hc
  refine S4 1 J<|bM (E4 (t:=2) (l:=920000) (z:=1) J J)<|c5 ?_;cases h;exact⟨J,_,_,J,J,J,J⟩
 .refine c7 ?_;refine sR<|y0 J (W5 J l7 o6)<|S1 1 J<|y1 J (wI (f:=iF) h J J (.inl ⟨_,J,J⟩) l7 o6 Q9 C5 J (λ_=>J)) J<|S2 1 J<|c5 ?_;exact⟨J,_,_,J,J,J,J⟩
theorem kY{a0 a1}:PO Tryz.prog 167 [a8.Pv a0,.I a1] (P7 a0 a1) λr=>a8.Pv r:=by
 refine pO Tryz.func167 λr h _ _=>?_;refine S4 3 J<|S3 2 J<|cA h T3 J J λv1 _ h=>S2 1 J<|k9<|S3 3 J<|m7 J (λhg=>oF J ML J)<|m7 J (λhg=>oS (ct hg) J J UM J)<|m7 J (λhg=>mI J)<|w7 h λv2 hv2 h=>m7 J (λhg=>J9 (f:=b8.Pv) (cs:=b8.Pc v2) (O6 hv2 hg) (ct hg) (ct hg) B2 w8 J J)<|m7 J (λhg=>aO (ct hg) Lb J)<|m7 J (λhg=>W4 (ct hg) kJ J)<|y0 J (I5 J J J (λq=>kq q))<|S1 1 J<|m7 J (λhg=>oF J EN J)<|m7 J (λhg=>oS (ct hg) J J Hi J)<|m7 J (λhg=>oS J J J G7 J)<|w7 h λv3 hv3 h=>m7 J (λhg=>M0 J AV (D3 (ct hg) (D3 (ct hg) J)) (O6 hv3 hg))<|m7 J (λhg=>D6 (ct hg) J J)<|y0 J (I5 J J J (λq=>kq q))<|yN ?_;refine cN h (λhc h=>?_) λhc h=>?_
 .refine S4 2 J ?_;refine c5 ?_;cases h;exact⟨J,[_],⟨oL J J J z7 u9 nl J,tr⟩,J,io⟩
 .refine c7 ?_;refine S3 3 J<|iL h J J B2 w8 λv4 _ h=>S2 3 J<|S3 3 J<|w7 h λv5 hv5 h=>KV J (u5 J ah J hv5) J<|S2 2 J<|dr [] s6 (by kernel_rfl) (by kernel_rfl)<|S7 2 J<|w7 h λv6 hv6 h=>Zk J (gb J K0 J hv6) J J J<|S7 2 J<|w7 h λv7 hv7 h=>Zk J (gb J K0 J hv7) J J J<|S7 1 J<|D4 (x':=.agg [.L b8.Pv v5,.sl 41,.L iF a0.Gens,.I a0.Last,.I a0.Places,.I a0.Serial,.L iF a0.Roots,.L k8.Pv a0.b7,.L k7.Pv a0.Pairs,.L g5.Pv a0.Tasks,.L (Ls g9.Pv) a0.Progs]) (cl':=false) J J (.inl J) Z5<|S7 1 J<|D4 (x':=.agg [.L b8.Pv v5,.sl 41,.sl 44,.I a0.Last,.I a0.Places,.I a0.Serial,.L iF a0.Roots,.L k8.Pv a0.b7,.L k7.Pv a0.Pairs,.L g5.Pv a0.Tasks,.L (Ls g9.Pv) a0.Progs]) (cl':=false) J J (.inl J) Z5<|J7<|k9<|dr [] s6 (by kernel_rfl) (by kernel_rfl)<|S7 3 J<|w7 h λv8 hv8 h=>d0 J (ba (f:=iF) hv8 J J J J l7 o6 J) J<|d0 J (Gf (f:=iF) hv8 J J J G7 J) J<|S8 3 J ?_;refine cN h (λhc h=>?_) λhc h=>?_
  .refine S3 3 J ?_;obtain⟨v9,hv9,h⟩:=rh h;refine y0 J (ba (f:=iF) hv9 J J J J l7 o6 J)<|oE (f:=iF) (v:=(-1)) hv9 J J (.inl J) o6<|yN<|S4 2 J<|c5 ?_;cases h;exact⟨J,[_],⟨oL J J J z7 u9 nl J,tr⟩,J,io⟩
  .refine c7 ?_;refine S3 3 J<|w7 h λv10 hv10 h=>y0 J (ba (f:=iF) hv10 J J J J l7 o6 J)<|oE (f:=iF) (v:=0) hv10 J J (.inl J) o6<|yN<|S3 3 J<|y0 J (ba (f:=iF) hv8 J J J J l7 o6 J)<|y0 J (Gf (f:=iF) hv8 J J J G7 J)<|S1 1 J<|y0 J (ba (f:=iF) hv8 J J J J l7 o6 J)<|oE (f:=iF) (v:=x4 (v8+1)) hv8 J J (.inl J) o6<|yN<|S4 2 J<|c5 ?_;cases h;exact⟨J,[_],⟨oL J J J z7 u9 nl J,tr⟩,J,io⟩
theorem ov{a0 a1}:PO Tryz.prog 87 [a8.Pv a0,.L iF a1] (fz a0 a1) λr=>a8.Pv r:=by
 refine pO Tryz.func87 λr h _ _=>?_;refine S4 3 J<|S3 3 J<|cF h rL J J λv1 _ h=>S2 6 J<|S4 3 J<|S3 2 J<|w7 h λv2 hv2 h=>KV J (u5 J Y7 J hv2) J<|S2 1 J<|S3 3 J<|y0 J (H4 (f:=(Ls g5.Pv)) (l:=[a0.Tasks,v2]) J mT vn UX J J nl J J)<|cF h de J J λv3 _ h=>S2 2 J<|S3 3 J<|w7 h λv4 hv4 h=>KV J (u5 J aM J hv4) J<|S2 2 J ?_;refine jq h (λj14=>St.of [(2,.ptr 2 0 0),(4,.ptr 4 0 0)] [(4,vR (.agg [.nl,.nl,.nl,.I 0,.I 0,.I 0,.nl,.nl,.nl,.nl,.nl]) 11),(2,vR (a8.Pv j14) 11)]) (λj14 h=>?_) λκ13 h=>?_
 .refine S4 2 J ?_;refine c5 ?_;cases h;exact⟨J,[_],⟨oL J J J z7 u9 nl J,tr⟩,J,io⟩
 .refine S3 1 J ?_;refine nL J l7<|S2 1 J<|j5<|lq h (λq=>St.of [(2,.ptr 2 0 0),(4,.ptr 4 0 0),(33,.L iF a1),(34,.I (a1.length:Int)),(35,.I q.1)] [(4,vR (.agg [.nl,.nl,.nl,.I 0,.I 0,.I 0,.nl,.nl,.nl,.nl,.nl]) 11),(2,vR (a8.Pv q.2) 11)]) W λq19 x18 h hx14=>?_;obtain⟨s16,s17⟩:=q19;refine S4 1 J<|k9 ?_;refine cN h (λhc h=>?_) λhc h=>?_
  .refine c7 ?_;refine k9<|j5<|sR<|iL h J J l7 o6 λv20 _ h=>S2 2 J<|S3 2 J<|cF h fC J J λv21 _ h=>S2 1 J<|S5 2 J<|cF h kY J J λv22 _ h=>S2 1 J<|S6 2 J ?_;exact eL h W
  .refine o0 ?_;refine c8<|c8<|l6 ?_;have h:=xL hx14 h;exact eJ h W
theorem su{a0 a1}:PO Tryz.prog 158 [b8.Pv a0,.rptr (a8.Pc a1)] (aZ a0 a1) λr=>.bool r:=by
 refine pO Tryz.func158 λr h _ _=>?_;unfold aZ at h;refine S4 2 J<|S3 3 J<|m7 J (λhg=>oF J Lc J)<|m7 J (λhg=>oS (ct hg) J J kJ J)<|m7 J (λhg=>cV (ct hg) J)<|y0 J (C9 J J J (λq=>jM q))<|S1 1 J<|m7 J (λhg=>Gg J z7 u9 nl J)<|m7 J (λhg=>oF J BF J)<|m7 J (λhg=>oS (ct hg) J J G7 J)<|w7 h λv1 hv1 h=>m7 J (λhg=>M0 J pF (D3 (ct hg) (D3 (ct hg) J)) (O6 hv1 hg))<|m7 J (λhg=>D6 (ct hg) J J)<|y0 J (C9 J J J (λq=>jM q))<|S2 1 J<|c5 ?_;cases h;exact f1
theorem O3{a0 a1}:PO Tryz.prog 157 [.L b8.Pv a0,.fn (.func 158) [.rptr (a8.Pc a1)]] (x8 a0 a1) λr=>.I r:=by
 refine pO Tryz.func157 λr h _ _=>?_;refine S4 1 J ?_;refine jq h (λ_=>St.of [] []) (λq7 h=>?_) λκ6 h=>?_
 .refine S4 1 J ?_;refine c5 ?_;cases h;exact f1
 .refine S3 1 J ?_;refine nL J B2<|S2 1 J<|j5<|lq h (λs9=>St.of [(0,.L b8.Pv a0),(1,.fn (.func 158) [.rptr (a8.Pc a1)]),(7,.I (a0.length:Int)),(8,.I s9)] []) W λs9 x10 h hx9=>S4 1 J<|k9 ?_;refine cN h (λhc h=>?_) λhc h=>?_
  .refine c7 ?_;refine k9<|j5<|S4 2 J<|S3 3 J<|iL h J J B2 w8 λv11 _ h=>S1 1 J<|cA h su J J λv12 _ h=>yN ?_;refine cN h (λhc h=>?_) λhc h=>?_
   .refine S4 2 J ?_;refine c5 ?_;have h:=xL hx9 h;cases h;exact f1
   .refine c7 ?_;refine S6 2 J ?_;exact eL h W
  .refine o0 ?_;refine c8<|c8<|l6 ?_;have h:=xL hx9 h;exact eJ h W
theorem O1{a0}:PO Tryz.prog 86 [a8.Pv a0] (I3 a0) λr=>a8.Pv r:=by
 refine pO Tryz.func86 λr h _ _=>?_;refine S4 2 J<|j5<|lq h (λs2=>St.of [(1,.ptr 1 0 0),(2,.ptr 2 0 0)] [(2,vR (.agg [.nl,.nl,.nl,.I 0,.I 0,.I 0,.nl,.nl,.nl,.nl,.nl]) 11),(1,vR (a8.Pv s2) 11)]) W λs2 x3 h hx3=>j5<|S3 3 J<|cA h O3 J J λv4 _ h=>S2 1 J<|k9<|S4 2 J ?_;refine cN h (λhc h=>?_) λhc h=>?_
 .refine S4 2 J ?_;refine c5 ?_;have h:=xL hx3 h;cases h;exact⟨J,[_],⟨oL J J J z7 u9 nl J,tr⟩,J,io⟩
 .refine c7 ?_;refine S3 3 J<|iL h J J B2 w8 λv5 _ h=>S2 3 J<|S3 1 J<|cA h lY J J λv6 _ h=>yN ?_;refine cN h (λhc h=>?_) λhc h=>?_
  .refine S5 3 J ?_;refine cF h lZ J J λv7 _ h=>S2 1 J ?_;exact eL h W
  .refine S5 3 J ?_;refine y0 J (H4 (f:=iF) (l:=[v5.Serial]) J l7 o6 C5 J J nl J J)<|cF h ov J J λv8 _ h=>S2 1 J ?_;exact eL h W
theorem jU{a0}:PO Tryz.prog 24 [a8.Pv a0] (eK a0) λr=>.L iF r:=by
 refine pO Tryz.func24 λr h _ _=>?_;refine S4 2 J<|S3 2 J<|cF h N2 J J λv1 _ h=>cF h cI J J λv2 _ h=>S2 1 J<|c5 ?_;cases h;exact f1
theorem sm{a0}:PO Tryz.prog 51 [a8.Pv a0] (dJ a0) λr=>.tup [a8.Pv r.1,g7.Pv r.2]:=by
 refine pO Tryz.func51 λr h _ _=>?_;refine S4 3 J<|S3 1 J<|cF h vQ J J λv1 _ h=>S2 2 J<|S3 3 J<|w7 h λv2 hv2 h=>KV J (u5 J Y8 J hv2) J<|S2 1 J<|S3 1 J<|cF h aY J J λv3 _ h=>cF h cI J J λv4 _ h=>S2 1 J ?_;refine jq h (λj13=>St.of [(1,.ptr 1 0 0),(2,.ptr 2 0 0),(3,.ptr 3 0 0),(5,.L b8.Pv v2),(6,.L iF v4)] [(3,vR (.agg [.I 0,.I 0]) 2),(2,vR (.agg [.nl,.nl,.nl,.I 0,.I 0,.I 0,.nl,.nl,.nl,.nl,.nl]) 11),(1,vR (a8.Pv j13) 11)]) (λj13 h=>?_) λκ12 h=>?_
 .refine k9 ?_;refine S3 1 J<|nL J l7<|S2 1 J ?_;refine cN h (λhc h=>?_) λhc h=>?_
  .refine S3 2 J ?_;refine nL J l7<|y0 J (.neg _ _ _ _ J)<|y0 J (o7 (cs:=[.I (x4 (0-(v4.length:Int))),.I 0]) J bt V1 J J J)<|S2 2 J<|c5 ?_;cases h;exact⟨J,[_,_],⟨oL J J J z7 u9 nl J,⟨oL J J J H7 A9 nl J,tr⟩⟩,J,io⟩
  .refine c7 ?_;refine dr [] s6 (by kernel_rfl) (by kernel_rfl)<|S7 2 J<|w7 h λv14 hv11 h=>dR J (u5 J cI J hv11) J<|w7 h λv15 hv12 h=>dR J (u5 J ov J hv12) J<|w7 h λv16 hv13 h=>dR J (u5 J O1 J hv13) J<|S7 1 J<|D4 (x':=a8.Pv v16) (cl':=true) J J (.inr J) u9<|J7<|dr [3,6] s6 (by kernel_rfl) (by kernel_rfl)<|S7 2 J<|w7 h λv17 hv14 h=>dR J (u5 J jU J hv14) J<|d7 J (λ_ hN=>bW (f:=iF) J l7) J<|S7 1 J<|w7 h λv18 hv15 h=>dR J (u5 J jU J hv15) J<|d7 J (λ_ hN=>bW (f:=iF) J l7) J<|S7 1 J<|d7 J (λ_ hN=>o7 (cs:=[.I (x4 ((v17.length:Int)-(v18.length:Int))),.I 0]) J bt V1 J J J) J<|D4 (x':=a8.Pv v16) (cl':=true) J J (.inr J) u9<|D4 (x':=.agg [.I (x4 ((v17.length:Int)-(v18.length:Int))),.I 0]) (cl':=true) J J (.inl J) A9<|J7<|c5 ?_;cases h;exact⟨J,[_,_],⟨oL J J J z7 u9 nl J,⟨oL J J J H7 A9 nl J,tr⟩⟩,J,io⟩
 .refine S3 1 J ?_;refine nL J l7<|S2 1 J<|j5<|lq h (λq=>St.of [(1,.ptr 1 0 0),(2,.ptr 2 0 0),(3,.ptr 3 0 0),(5,.L b8.Pv v2),(6,.L iF v4),(19,.L iF v4),(20,.I (v4.length:Int)),(21,.I q.1)] [(3,vR (.agg [.I 0,.I 0]) 2),(2,vR (.agg [.nl,.nl,.nl,.I 0,.I 0,.I 0,.nl,.nl,.nl,.nl,.nl]) 11),(1,vR (a8.Pv q.2) 11)]) W λq23 x22 h hx18=>?_;obtain⟨s20,s21⟩:=q23;refine S4 1 J<|k9 ?_;refine cN h (λhc h=>?_) λhc h=>?_
  .refine c7 ?_;refine k9<|j5<|sR<|iL h J J l7 o6 λv24 _ h=>S2 2 J<|S5 2 J<|cF h lZ J J λv25 _ h=>S2 1 J<|S6 2 J ?_;exact eL h W
  .refine o0 ?_;refine c8<|c8<|l6 ?_;have h:=xL hx18 h;exact eJ h W
theorem ly{a0 a1}:PO Tryz.prog 168 [.L (Ls g9.Pv) a0,.I a1] (dS a0 a1) λr=>.L g9.Pv r:=by
 refine pO Tryz.func168 λr h _ _=>?_;refine S4 1 J<|k9<|S3 3 J<|m7 J (λhg=>mI J)<|m7 J (λhg=>om (d:=.L (Ls g9.Pv) a0) J)<|m7 J (λhg=>bW (f:=(Ls g9.Pv)) (ct hg) iC)<|m7 J (λhg=>D6 (ct hg) (ct hg) J)<|y0 J (I5 J J J (λq=>kq q))<|yN ?_;refine cN h (λhc h=>?_) λhc h=>?_
 .refine S4 1 J ?_;refine c5 ?_;cases h;exact f1
 .refine c7 ?_;refine S3 2 J<|iL h J J iC qn λv1 _ h=>S2 2 J<|c5 ?_;cases h;exact f1
theorem rp{a0 a1}:PO Tryz.prog 88 [.L (Ls g9.Pv) a0,g5.Pv a1] (bR a0 a1) λr=>.I r:=by
 refine pO Tryz.func88 λr h _ _=>?_;refine S4 2 J<|S3 3 J<|cF h ly J J λv1 _ h=>nL J dD<|S2 2 J<|c5 ?_;cases h;exact f1
theorem iQ{a0 a1 a2}:PO Tryz.prog 169 [a8.Pv a0,.I a1,.I a2] (W3 a0 a1 a2) λr=>a8.Pv r:=by
 refine pO Tryz.func169 λr h _ _=>?_;refine S4 2 J<|S3 2 J<|cF h gQ J J λv1 _ h=>S2 1 J<|S3 2 J<|w7 h λv2 hv2 h=>KW J (gb J K0 J hv2) J J<|S2 2 J<|S3 4 J<|w7 h λv3 hv3 h=>y0 J (ba (f:=iF) hv3 J J J J l7 o6 J)<|oE (f:=iF) (v:=a2) hv3 J J (.inl J) o6<|yN<|S4 2 J<|c5 ?_;cases h;exact⟨J,[_],⟨oL J J J z7 u9 nl J,tr⟩,J,io⟩
theorem T0{a0}:PO Tryz.prog 328 [g8.Pv a0] (M5 a0) λr=>.I r:=by
 refine pO Tryz.func328 λr h _ _=>?_;unfold M5 at h;refine S4 2 J<|S3 2 J<|nL J J2<|S2 1 J<|c5 ?_;cases h;exact f1
theorem ak{a0 a1 a2}:PO Tryz.prog 329 [.L g5.Pv a0,.I a1,.I a2] (H8 a0 a1 a2) λr=>.lst true (List.map g5.Pv r):=by
 refine pO Tryz.func329 λr h _ _=>?_;unfold H8 at h;refine S4 1 J<|S3 4 J<|w7 h λv1 hv1 h=>y0 J (OS (f:=g5.Pv) hv1 J ⟨_,J⟩ ⟨_,J⟩ ⟨_,J⟩ J J J2 D0 (λ_=>J))<|S2 1 J<|c5 ?_;cases h;exact f1
theorem lC{a0 a1}:PO Tryz.prog 316 [g8.Pv a0,.I a1] (bA a0 a1) λr=>.tup [g8.Pv r.1,.L g5.Pv r.2]:=by
 refine pO Tryz.func316 λr h _ _=>?_;refine S4 3 J<|S3 2 J<|cA h T0 J J λv1 hv1 h=>y0 J (UA J J J)<|y0 J (OT J J J)<|S2 1 J<|S3 3 J<|cF h ak J J λv2 _ h=>S2 1 J<|dr [] s6 (by kernel_rfl) (by kernel_rfl)<|S7 4 J<|d2 J (M0 J T0 J hv1) J<|w7 h λv3 hv3 h=>dR J (u5 J ak J hv3) J<|S7 1 J<|D4 (x':=.agg [.L g5.Pv v3,.I a0.Cap]) (cl':=true) J J (.inr J) vn<|J7<|S4 4 J<|c5 ?_;cases h;exact⟨J,[_,_],⟨oL J J J jG cX nl J,⟨J,tr⟩⟩,J,io⟩
theorem nF{a0}:PO Tryz.prog 270 [g8.Pv a0] (dc a0) λr=>.tup [g8.Pv r.1,g5.Pv r.2.1,.I r.2.2]:=by
 refine pO Tryz.func270 λr h _ _=>?_;refine S4 4 J<|S3 1 J<|cF h lC J J λv1 _ h=>S2 6 J<|k9<|S3 1 J<|nL J J2<|S2 1 J ?_;refine cN h (λhc h=>?_) λhc h=>?_
 .refine S4 1 J ?_;refine dr [1,1007] s6 (by kernel_rfl) (by kernel_rfl)<|S7 1 J<|d7 J (λ_ hN=>nA (cs:=[.I 0,.I 0,.I 0]) hN J J J J cq D0 nl J) J<|D4 (x':=g8.Pv a0) (cl':=true) J J (.inr J) cX<|D4 (x':=.agg [.I 0,.I 0,.I 0]) (cl':=true) J J (.inl J) D0<|S8 1 J<|c5 ?_;cases h;exact⟨J,[_,_,_],⟨oL J J J jG cX nl J,⟨oL J J J cq D0 nl J,⟨J,tr⟩⟩⟩,J,io⟩
 .refine c7 ?_;refine dr [2,3] s6 (by kernel_rfl) (by kernel_rfl)<|S7 2 J<|w7 h λv2 hv2 h=>d7 J (λ_ hN=>J9 (f:=g5.Pv) (cs:=g5.Pc v2) hv2 J J J2 D0 J J) J<|d7 J (λ_ hN=>Gg J cq D0 nl J) J<|D4 (x':=g8.Pv v1.1) (cl':=true) J J (.inr J) cX<|D4 (x':=g5.Pv v2) (cl':=true) J J (.inl J) D0<|S8 1 J<|c5 ?_;cases h;exact⟨J,[_,_,_],⟨oL J J J jG cX nl J,⟨oL J J J cq D0 nl J,⟨J,tr⟩⟩⟩,J,io⟩
theorem js{a0}:PO Tryz.prog 170 [g8.Pv a0] (bo a0) λr=>.tup [g8.Pv r.1,g5.Pv r.2.1,.I r.2.2]:=by
 refine pO Tryz.func170 λr h _ _=>?_;refine S4 4 J<|S3 1 J<|cF h nF J J λv1 _ h=>S2 6 J<|c5 ?_;cases h;exact⟨J,[_,_,_],⟨oL J J J jG cX nl J,⟨oL J J J cq D0 nl J,⟨J,tr⟩⟩⟩,J,io⟩
theorem dv{a0 a1}:PO Tryz.prog 91 [a8.Pv a0,.I a1] (U4 a0 a1) λr=>.I r:=by
 refine pO Tryz.func91 λr h _ _=>?_;refine S4 2 J<|k9<|S4 2 J ?_;refine cN h (λhc h=>?_) λhc h=>?_
 .refine S4 1 J ?_;refine c5 ?_;cases h;exact f1
 .refine c7 ?_;refine S3 3 J<|iL h J J l7 o6 λv1 _ h=>S2 2 J<|c5 ?_;cases h;exact f1
theorem dK{a0 a1}:PO Tryz.prog 172 [a8.Pv a0,.I a1] (P2 a0 a1) λr=>.tup [b8.Pv r.1,.I r.2]:=by
 refine pO Tryz.func172 λr h _ _=>?_;refine S4 3 J<|k9<|S3 2 J<|cA h dv J J λv1 hv1 h=>S2 1 J ?_;refine cN h (λhc h=>?_) λhc h=>?_
 .refine sR ?_;refine y0 J (o7 (cs:=[.I 0,.I 0,.I 0,.bool false,.bool false,.bool false,.nl]) J Ja aC J J J)<|lk (x':=.agg [.I 0,.I 0,.I 0,.bool false,.bool false,.bool false,.nl]) (cl':=true) J J (.inl J) w8<|S2 1 J<|c5 ?_;cases h;exact⟨J,[_,_],⟨oL J J J gH w8 nl J,⟨J,tr⟩⟩,J,io⟩
 .refine c7 ?_;refine dr [] s6 (by kernel_rfl) (by kernel_rfl)<|S7 5 J<|d2 J (M0 J dv J hv1) J<|w7 h λv2 hv2 h=>d2 J (M0 J T3 J hv2) J<|w7 h λv3 hv3 h=>d0 J (J9 (f:=b8.Pv) (cs:=b8.Pc v3) hv3 J J B2 w8 J J) J<|S7 1 J<|D4 (x':=b8.Pv v3) (cl':=true) J J (.inr J) w8<|S8 1 J<|c5 ?_;cases h;exact⟨J,[_,_],⟨oL J J J gH w8 nl J,⟨J,tr⟩⟩,J,io⟩
theorem AS{a0 a1}:PO Tryz.prog 271 [.L iF a0,.I a1] (gV a0 a1) λr=>.bool r:=by
 refine pO Tryz.func271 λr h _ _=>?_;unfold gV at h;refine S4 1 J<|S3 3 J<|m7 J (λhg=>mI J)<|m7 J (λhg=>om (d:=.L iF a0) J)<|m7 J (λhg=>bW (f:=iF) (ct hg) l7)<|m7 J (λhg=>D6 (ct hg) (ct hg) J)<|y0 J (C9 J J J (λq=>jM q))<|S2 1 J<|c5 ?_;cases h;exact f1
theorem wU{a0 a1 a2}:PO Tryz.prog 173 [.L iF a0,.I a1,.I a2] (mH a0 a1 a2) λr=>.tup [.L iF r.1,.I r.2]:=by
 refine pO Tryz.func173 λr h _ _=>?_;refine S4 2 J<|k9<|S3 2 J<|cA h AS J J λv1 _ h=>S2 1 J ?_;refine cN h (λhc h=>?_) λhc h=>?_
 .refine S4 3 J ?_;refine c5 ?_;cases h;exact f2
 .refine c7 ?_;refine S3 1 J<|nL J l7<|w7 h λv2 hv2 h=>y1 J (Bu (f:=iF) hv2 J J J l7 o6 C5 Q9 J J J) J<|S2 1 J<|S3 2 J<|w7 h λv3 hv3 h=>Zd (f:=iF) hv3 J J J (.inl ⟨_,J,J⟩) l7 o6 (λ_=>J) (by decide)<|yN<|S3 3 J<|w7 h λv4 hv4 h=>y0 J (ba (f:=iF) hv4 J J J J l7 o6 J)<|oE (f:=iF) (v:=a2) hv4 J J (.inl J) o6<|yN<|S4 3 J<|c5 ?_;cases h;exact f2
theorem uw{a0 a1}:PO Tryz.prog 174 [b8.Pv a0,.rptr [.L iF a1]] (fG a0 a1) λr=>b8.Pv r:=by
 refine pO Tryz.func174 λr h _ _=>?_;unfold fG at h;refine S4 2 J<|S4 3 J<|S4 2 J<|c5 ?_;cases h;exact⟨J,[_],⟨oL J J J gH w8 nl J,tr⟩,J,io⟩
theorem fD{a0 a1 a2}:PO Tryz.prog 154 [a8.Pv a0,.I a1,.fn (.func 174) [.rptr [.L iF a2]]] (P6 a0 a1 a2) λr=>a8.Pv r:=by
 refine pO Tryz.func154 λr h _ _=>?_;refine S4 2 J<|S3 2 J<|cA h T3 J J λv1 _ h=>S2 1 J<|S3 2 J<|w7 h λv2 hv2 h=>KW J (gb J B4 J hv2) J J<|S2 2 J<|dr [] s6 (by kernel_rfl) (by kernel_rfl)<|S7 7 J<|w7 h λv3 hv3 h=>d0 J (ba (f:=b8.Pv) hv3 J J J J B2 w8 J) J<|d0 J (Ke (f:=b8.Pv) (cs:=b8.Pc v3) hv3 J J J gH w8 nl J) J<|w7 h λv4 hv4 h=>dR J (u5 J uw J hv4) J<|d0 J (ba (f:=b8.Pv) hv3 J J J J B2 w8 J) J<|Jy (f:=b8.Pv) (v:=v4) hv3 J J (.inr J) w8<|J7<|S4 2 J<|c5 ?_;cases h;exact⟨J,[_],⟨oL J J J z7 u9 nl J,tr⟩,J,io⟩
theorem xq{a0 a1 a2}:PO Tryz.prog 92 [a8.Pv a0,.I a1,g9.Pv a2] (jg a0 a1 a2) λr=>.tup [a8.Pv r.1,.I r.2]:=by
 refine pO Tryz.func92 λr h _ _=>?_;refine S4 4 J<|S3 3 J<|cF h dK J J λv1 _ h=>S2 6 J<|k9<|S4 2 J ?_;refine cN h (λhc h=>?_) λhc h=>?_
 .refine S4 4 J ?_;refine c5 ?_;cases h;exact⟨J,[_,_],⟨oL J J J z7 u9 nl J,⟨J,tr⟩⟩,J,io⟩
 .refine c7 ?_;refine S3 5 J<|cF h wU J J λv2 _ h=>S2 6 J<|k9<|S4 2 J ?_;refine cN h (λhc h=>?_) λhc h=>?_
  .refine S4 4 J ?_;refine c5 ?_;cases h;exact⟨J,[_,_],⟨oL J J J z7 u9 nl J,⟨J,tr⟩⟩,J,io⟩
  .refine c7 ?_;refine S3 2 J<|cF h gQ J J λv3 _ h=>S2 1 J<|S3 4 J<|w7 h λv4 hv4 h=>KV J (u5 J fD J hv4) J<|S2 2 J<|c5 ?_;cases h;exact⟨J,[_,_],⟨oL J J J z7 u9 nl J,⟨J,tr⟩⟩,J,io⟩
theorem gw{a0 a1 a2}:PO Tryz.prog 90 [a8.Pv a0,.I a1,g9.Pv a2,.fn (.func 92) []] (K9 a0 a1 a2) λr=>.tup [a8.Pv r.1,g7.Pv r.2]:=by
 refine pO Tryz.func90 λr h _ _=>?_;refine S4 4 J<|S3 4 J<|cF h xq J J λv1 _ h=>S2 6 J<|k9<|S4 2 J ?_;refine cN h (λhc h=>?_) λhc h=>?_
 .refine S3 2 J ?_;refine y0 J (o7 (cs:=[.I 0,.I v1.2]) J bt V1 J J J)<|S2 2 J<|c5 ?_;cases h;exact⟨J,[_,_],⟨oL J J J z7 u9 nl J,⟨oL J J J H7 A9 nl J,tr⟩⟩,J,io⟩
 .refine c7 ?_;refine S3 1 J<|cF h O1 J J λv2 _ h=>S1 1 J<|y0 J (o7 (cs:=[.I a1,.I 0]) J bt V1 J J J)<|S2 2 J<|c5 ?_;cases h;exact⟨J,[_,_],⟨oL J J J z7 u9 nl J,⟨oL J J J H7 A9 nl J,tr⟩⟩,J,io⟩
end Go.Proofs.YtmgbbnfgfmfgaaaGreat.Ok
