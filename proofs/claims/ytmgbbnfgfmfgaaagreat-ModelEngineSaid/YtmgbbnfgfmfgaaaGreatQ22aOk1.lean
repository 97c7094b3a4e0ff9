/- A part. -/
import Derived.Test.YtmgbbnfgfmfgaaaGreatQ22aPwC
import Derived.Test.YtmgbbnfgfmfgaaaGreatQ22aPwD
import Derived.Test.YtmgbbnfgfmfgaaaGreatSrt
import Derived.Test.YtmgbbnfgfmfgaaaGreatSrtI
import Derived.Test.YtmgbbnfgfmfgaaaGreatQ22aSh
import Derived.Test.YtmgbbnfgfmfgaaaGreatProg
set_option linter.unusedVariables false
set_option linter.unusedSimpArgs false
set_option linter.unusedSectionVars false
namespace Go.Proofs.YtmgbbnfgfmfgaaaGreat.Ok
open Go Go.Pw Go.Sh Go.Proofs
set_option maxRecDepth 100000
set_option maxHeartbeats 4000000
abbrev _root_.Go.Sh.k8.Pc(x:k8):List PV:=[.I x.Kind,.I x.A,.I x.B,.I x.C]
abbrev _root_.Go.Sh.k8.Pv(x:k8):PV:=.agg x.Pc
abbrev _root_.Go.Sh.b8.Pc(x:b8):List PV:=[.I x.Serial,.I x.Slot,.I x.Prog,.bool x.Started,.bool x.Alive,.bool x.Stuck,.L iF x.Fields]
abbrev _root_.Go.Sh.b8.Pv(x:b8):PV:=.agg x.Pc
abbrev _root_.Go.Sh.j5.Pc(x:j5):List PV:=[.I x.Target,.bool x.Intact,.I x.Call]
abbrev _root_.Go.Sh.j5.Pv(x:j5):PV:=.agg x.Pc
abbrev _root_.Go.Sh.k7.Pc(x:k7):List PV:=[.I x.Key,.I x.Val]
abbrev _root_.Go.Sh.k7.Pv(x:k7):PV:=.agg x.Pc
abbrev _root_.Go.Sh.g6.Pc(x:g6):List PV:=[.I x.Kind,.I x.At,.I x.Prog]
abbrev _root_.Go.Sh.g6.Pv(x:g6):PV:=.agg x.Pc
abbrev _root_.Go.Sh.n0.Pc(x:n0):List PV:=[.I x.Serial,.I x.Strong,.I x.Weak,.I x.Prog,.bool x.Started,.L iF x.Fields]
abbrev _root_.Go.Sh.n0.Pv(x:n0):PV:=.agg x.Pc
abbrev _root_.Go.Sh.c8.Pc(x:c8):List PV:=[.I x.State,.I x.Gen,.I x.Val.Serial,.I x.Val.Strong,.I x.Val.Weak,.I x.Val.Prog,.bool x.Val.Started,.L iF x.Val.Fields]
abbrev _root_.Go.Sh.c8.Pv(x:c8):PV:=.agg x.Pc
abbrev _root_.Go.Sh.g5.Pc(x:g5):List PV:=[.I x.State,.I x.Key,.I x.Val]
abbrev _root_.Go.Sh.g5.Pv(x:g5):PV:=.agg x.Pc
abbrev _root_.Go.Sh.l5.Pc(x:l5):List PV:=[tf x.part,.I x.least,.I x.most,.I x.e]
abbrev _root_.Go.Sh.l5.Pv(x:l5):PV:=.agg x.Pc
abbrev _root_.Go.Sh.l4.Pc(x:l4):List PV:=[.L c8.Pv x.b7,.I x.Last]
abbrev _root_.Go.Sh.l4.Pv(x:l4):PV:=.agg x.Pc
abbrev _root_.Go.Sh.b6.Pc(x:b6):List PV:=[.L c8.Pv x.S.b7,.I x.S.Last,.I x.Serial]
abbrev _root_.Go.Sh.b6.Pv(x:b6):PV:=.agg x.Pc
abbrev _root_.Go.Sh.g7.Pc(x:g7):List PV:=[.L g6.Pv x.L,.I x.Cap]
abbrev _root_.Go.Sh.g7.Pv(x:g7):PV:=.agg x.Pc
abbrev _root_.Go.Sh.b9.Pc(x:b9):List PV:=[.L c8.Pv x.S.S.b7,.I x.S.S.Last,.I x.S.Serial,.L iF x.Roots,.L j5.Pv x.b7,.L g5.Pv x.T,.L g6.Pv x.Q.L,.I x.Q.Cap]
abbrev _root_.Go.Sh.b9.Pv(x:b9):PV:=.agg x.Pc
abbrev _root_.Go.Sh.n9.Pc(x:n9):List PV:=[.L c8.Pv x.X.S.S.b7,.I x.X.S.S.Last,.I x.X.S.Serial,.L iF x.X.Roots,.L j5.Pv x.X.b7,.L g5.Pv x.X.T,.L g6.Pv x.X.Q.L,.I x.X.Q.Cap,.L (Ls k8.Pv) x.Progs]
abbrev _root_.Go.Sh.n9.Pv(x:n9):PV:=.agg x.Pc
abbrev _root_.Go.Sh.a8.Pc(x:a8):List PV:=[.L b8.Pv x.Nodes,.L iF x.Slots,.L iF x.Gens,.I x.Last,.I x.Places,.I x.Serial,.L iF x.Roots,.L j5.Pv x.b7,.L k7.Pv x.Pairs,.L g6.Pv x.Tasks,.L (Ls k8.Pv) x.Progs]
abbrev _root_.Go.Sh.a8.Pv(x:a8):PV:=.agg x.Pc
abbrev _root_.Go.Sh.g8.Pc(x:g8):List PV:=[.I x.V,.I x.E]
abbrev _root_.Go.Sh.g8.Pv(x:g8):PV:=.agg x.Pc
abbrev _root_.Go.Sh.c9.Pc(x:c9):List PV:=[.L iF x.L,.I x.Cap]
abbrev _root_.Go.Sh.c9.Pv(x:c9):PV:=.agg x.Pc
abbrev _root_.Go.Sh.s6.Pc(x:s6):List PV:=[.L c8.Pv x.x.S.S.b7,.I x.x.S.S.Last,.I x.x.S.Serial,.L iF x.x.Roots,.L j5.Pv x.x.b7,.L g5.Pv x.x.T,.L g6.Pv x.x.Q.L,.I x.x.Q.Cap,.I x.o.Kind,.I x.o.A,.I x.o.B,.I x.o.C]
abbrev _root_.Go.Sh.s6.Pv(x:s6):PV:=.agg x.Pc
abbrev _root_.Go.Sh.L7.Pc(x:L7):List PV:=[.I x.r,.I x.h]
abbrev _root_.Go.Sh.L7.Pv(x:L7):PV:=.agg x.Pc
abbrev _root_.Go.Sh.H9.Pc(x:H9):List PV:=[.I x.h,.I x.k,.I x.v]
abbrev _root_.Go.Sh.H9.Pv(x:H9):PV:=.agg x.Pc
abbrev _root_.Go.Sh.L6.Pc(x:L6):List PV:=[.L g5.Pv x.t]
abbrev _root_.Go.Sh.L6.Pv(x:L6):PV:=.agg x.Pc
abbrev _root_.Go.Sh.z8.Pc(x:z8):List PV:=[.I x.V,.I x.E]
abbrev _root_.Go.Sh.z8.Pv(x:z8):PV:=.agg x.Pc
abbrev _root_.Go.Sh.bH.Pc(x:bH):List PV:=[.I x.Serial,.I x.Strong,.I x.Weak,.I x.Prog,.bool x.Started,.L iF x.Fields]
abbrev _root_.Go.Sh.bH.Pv(x:bH):PV:=.agg x.Pc
abbrev _root_.Go.Sh.B8.Pc(x:B8):List PV:=[.I x.State,.I x.Gen,.I x.Val.Serial,.I x.Val.Strong,.I x.Val.Weak,.I x.Val.Prog,.bool x.Val.Started,.L iF x.Val.Fields]
abbrev _root_.Go.Sh.B8.Pv(x:B8):PV:=.agg x.Pc
abbrev _root_.Go.Sh.D4.Pc(x:D4):List PV:=[.I x.Target,.bool x.Intact,.I x.Call]
abbrev _root_.Go.Sh.D4.Pv(x:D4):PV:=.agg x.Pc
abbrev _root_.Go.Sh.u9.Pc(x:u9):List PV:=[.I x.State,.I x.Key,.I x.Val]
abbrev _root_.Go.Sh.u9.Pv(x:u9):PV:=.agg x.Pc
abbrev _root_.Go.Sh.G7.Pc(x:G7):List PV:=[.I x.Kind,.I x.At,.I x.Prog]
abbrev _root_.Go.Sh.G7.Pv(x:G7):PV:=.agg x.Pc
abbrev _root_.Go.Sh.F1.Pc(x:F1):List PV:=[.L B8.Pv x.b7,.I x.Last,.I x.Serial]
abbrev _root_.Go.Sh.F1.Pv(x:F1):PV:=.agg x.Pc
abbrev _root_.Go.Sh.ai.Pc(x:ai):List PV:=[.L G7.Pv x.L,.I x.Cap]
abbrev _root_.Go.Sh.ai.Pv(x:ai):PV:=.agg x.Pc
abbrev _root_.Go.Sh.P5.Pc(x:P5):List PV:=[.L B8.Pv x.S.b7,.I x.S.Last,.I x.S.Serial,.L iF x.Roots,.L D4.Pv x.b7,.L u9.Pv x.T,.L G7.Pv x.Q.L,.I x.Q.Cap]
abbrev _root_.Go.Sh.P5.Pv(x:P5):PV:=.agg x.Pc
abbrev _root_.Go.Sh.G6.Pc(x:G6):List PV:=[.I x.State,.I x.Gen,.I x.Val]
abbrev _root_.Go.Sh.G6.Pv(x:G6):PV:=.agg x.Pc
abbrev _root_.Go.Sh.U0.Pc(x:U0):List PV:=[.L G6.Pv x.b7,.I x.Last]
abbrev _root_.Go.Sh.U0.Pv(x:U0):PV:=.agg x.Pc
def rp(t:Nat):Nat:=if t=162 then 4 else if t=166 then 0 else if t=170 then 1 else 0
theorem K1:J9 Tryz.prog 3=some false:=by kernel_rfl
theorem vZ:J9 Tryz.prog 4=some false:=by kernel_rfl
theorem Ux:J9 Tryz.prog 22=some false:=by kernel_rfl
theorem Uy:J9 Tryz.prog 27=some false:=by kernel_rfl
theorem iu:J9 Tryz.prog 28=some false:=by kernel_rfl
theorem Cv:J9 Tryz.prog 29=some false:=by kernel_rfl
theorem Uz:J9 Tryz.prog 30=some false:=by kernel_rfl
theorem Mu:J9 Tryz.prog 31=some false:=by kernel_rfl
theorem A1:J9 Tryz.prog 33=some true:=by kernel_rfl
theorem uS:J9 Tryz.prog 34=some false:=by kernel_rfl
theorem H4:J9 Tryz.prog 51=some true:=by kernel_rfl
theorem UA:J9 Tryz.prog 63=some false:=by kernel_rfl
theorem iv:J9 Tryz.prog 65=some true:=by kernel_rfl
theorem mJ:J9 Tryz.prog 67=some true:=by kernel_rfl
theorem xU:J9 Tryz.prog 68=some false:=by kernel_rfl
theorem jE:J9 Tryz.prog 70=some true:=by kernel_rfl
theorem u5:J9 Tryz.prog 72=some true:=by kernel_rfl
theorem lj:J9 Tryz.prog 74=some true:=by kernel_rfl
theorem UB:J9 Tryz.prog 84=some true:=by kernel_rfl
theorem UC:J9 Tryz.prog 87=some true:=by kernel_rfl
theorem UD:J9 Tryz.prog 89=some true:=by kernel_rfl
theorem gC:J9 Tryz.prog 100=some true:=by kernel_rfl
theorem Ct:J9 Tryz.prog 102=some true:=by kernel_rfl
theorem cp:J9 Tryz.prog 112=some true:=by kernel_rfl
theorem xi:J9 Tryz.prog 119=some true:=by kernel_rfl
theorem sx:J9 Tryz.prog 178=some true:=by kernel_rfl
theorem Qn:J9 Tryz.prog 188=some false:=by kernel_rfl
theorem Qp:J9 Tryz.prog 190=some true:=by kernel_rfl
theorem Cu:J9 Tryz.prog 196=some false:=by kernel_rfl
theorem iY:J9 Tryz.prog 264=some true:=by kernel_rfl
theorem pS:J9 Tryz.prog 266=some true:=by kernel_rfl
theorem Q0:J7 Tryz.prog 3=some 8:=by kernel_rfl
theorem UE:J7 Tryz.prog 28=some 24:=by kernel_rfl
theorem Mv:J7 Tryz.prog 51=some 16:=by kernel_rfl
theorem UF:J7 Tryz.prog 54=some 16:=by kernel_rfl
theorem mK:J7 Tryz.prog 100=some 56:=by kernel_rfl
theorem IG:J7 Tryz.prog 107=some 24:=by kernel_rfl
theorem mL:J7 Tryz.prog 112=some 24:=by kernel_rfl
theorem pT:J7 Tryz.prog 135=some 16:=by kernel_rfl
theorem Qq:J7 Tryz.prog 153=some 24:=by kernel_rfl
theorem IH:J7 Tryz.prog 180=some 80:=by kernel_rfl
theorem Qr:J7 Tryz.prog 183=some 80:=by kernel_rfl
theorem Qt:J7 Tryz.prog 194=some 24:=by kernel_rfl
theorem Qu:J7 Tryz.prog 250=some 24:=by kernel_rfl
theorem II:J7 Tryz.prog 251=some 24:=by kernel_rfl
theorem Qv:J7 Tryz.prog 253=some 24:=by kernel_rfl
theorem mM:A3 Tryz.prog 22=some 117:=by kernel_rfl
theorem X4:A3 Tryz.prog 23=some 28:=by kernel_rfl
theorem B7:A3 Tryz.prog 27=some 100:=by kernel_rfl
theorem l6:A3 Tryz.prog 28=some 3:=by kernel_rfl
theorem Q4:A3 Tryz.prog 29=some 107:=by kernel_rfl
theorem N3:A3 Tryz.prog 30=some 135:=by kernel_rfl
theorem I2:A3 Tryz.prog 31=some 112:=by kernel_rfl
theorem GV:A3 Tryz.prog 38=some 194:=by kernel_rfl
theorem GW:A3 Tryz.prog 40=some 153:=by kernel_rfl
theorem T4:A3 Tryz.prog 63=some 180:=by kernel_rfl
theorem bo:A3 Tryz.prog 68=some 251:=by kernel_rfl
theorem rn:A3 Tryz.prog 82=some 183:=by kernel_rfl
theorem GX:A3 Tryz.prog 85=some 250:=by kernel_rfl
theorem jF:A3 Tryz.prog 92=some 51:=by kernel_rfl
theorem kE:A3 Tryz.prog 114=some 54:=by kernel_rfl
theorem gD:A3 Tryz.prog 117=some 119:=by kernel_rfl
theorem pU:A3 Tryz.prog 188=some 253:=by kernel_rfl
theorem cq:A3 Tryz.prog 258=some 264:=by kernel_rfl
theorem mN:A3 Tryz.prog 357=some 31:=by kernel_rfl
theorem Mw:R9 Tryz.prog 33 0=some (0,27):=by kernel_rfl
theorem Mx:R9 Tryz.prog 33 1=some (1,28):=by kernel_rfl
theorem xV:R9 Tryz.prog 33 2=some (2,28):=by kernel_rfl
theorem EF:R9 Tryz.prog 33 6=some (6,28):=by kernel_rfl
theorem EG:R9 Tryz.prog 33 7=some (7,29):=by kernel_rfl
theorem My:R9 Tryz.prog 33 8=some (8,30):=by kernel_rfl
theorem Mz:R9 Tryz.prog 33 9=some (9,31):=by kernel_rfl
theorem KZ:R9 Tryz.prog 33 10=some (10,22):=by kernel_rfl
theorem xW:R9 Tryz.prog 51 0=some (0,3):=by kernel_rfl
theorem MA:R9 Tryz.prog 51 1=some (1,34):=by kernel_rfl
theorem MC:R9 Tryz.prog 65 0=some (0,63):=by kernel_rfl
theorem MD:R9 Tryz.prog 70 0=some (0,31):=by kernel_rfl
theorem sy:R9 Tryz.prog 72 1=some (3,28):=by kernel_rfl
theorem EH:R9 Tryz.prog 72 2=some (4,29):=by kernel_rfl
theorem ME:R9 Tryz.prog 72 3=some (5,68):=by kernel_rfl
theorem EI:R9 Tryz.prog 72 4=some (6,70):=by kernel_rfl
theorem EJ:R9 Tryz.prog 74 0=some (0,72):=by kernel_rfl
theorem Bt:R9 Tryz.prog 100 0=some (0,3):=by kernel_rfl
theorem KM:R9 Tryz.prog 100 3=some (3,4):=by kernel_rfl
theorem KN:R9 Tryz.prog 100 4=some (4,4):=by kernel_rfl
theorem KO:R9 Tryz.prog 100 5=some (5,4):=by kernel_rfl
theorem uT:R9 Tryz.prog 107 0=some (0,3):=by kernel_rfl
theorem KP:R9 Tryz.prog 107 1=some (1,4):=by kernel_rfl
theorem KQ:R9 Tryz.prog 119 0=some (0,3):=by kernel_rfl
theorem KR:R9 Tryz.prog 135 0=some (0,3):=by kernel_rfl
theorem Bu:R9 Tryz.prog 135 1=some (1,3):=by kernel_rfl
theorem KS:R9 Tryz.prog 178 1=some (1,3):=by kernel_rfl
theorem KU:R9 Tryz.prog 178 2=some (2,3):=by kernel_rfl
theorem Bv:R9 Tryz.prog 178 4=some (4,4):=by kernel_rfl
theorem Bw:R9 Tryz.prog 180 0=some (0,3):=by kernel_rfl
theorem KV:R9 Tryz.prog 180 2=some (2,178):=by kernel_rfl
theorem KW:R9 Tryz.prog 190 0=some (0,188):=by kernel_rfl
theorem KX:R9 Tryz.prog 251 1=some (1,3):=by kernel_rfl
theorem Bx:R9 Tryz.prog 253 0=some (0,3):=by kernel_rfl
theorem KY:R9 Tryz.prog 264 2=some (2,3):=by kernel_rfl
theorem UG:A7 Tryz.prog 71:=kC Tryz.func71 J
theorem Qw:A7 Tryz.prog 111:=kC Tryz.func111 J
theorem Qx:A7 Tryz.prog 130:=kC Tryz.func130 J
theorem Qy:A7 Tryz.prog 133:=kC Tryz.func133 J
theorem Qz:A7 Tryz.prog 134:=kC Tryz.func134 J
theorem Cx:A7 Tryz.prog 147:=kC Tryz.func147 J
theorem QA:A7 Tryz.prog 200:=kC Tryz.func200 J
theorem IJ:A7 Tryz.prog 224:=kC Tryz.func224 J
theorem QB:A7 Tryz.prog 230:=kC Tryz.func230 J
theorem QC:A7 Tryz.prog 267:=kC Tryz.func267 J
theorem IK:A7 Tryz.prog 277:=kC Tryz.func277 J
theorem QD:A7 Tryz.prog 321:=kC Tryz.func321 J
theorem QE:A7 Tryz.prog 325:=kC Tryz.func325 J
theorem QF:A7 Tryz.prog 331:=kC Tryz.func331 J
theorem QG:A7 Tryz.prog 342:=kC Tryz.func342 J
theorem QH:A7 Tryz.prog 343:=kC Tryz.func343 J
theorem QI:A7 Tryz.prog 363:=kC Tryz.func363 J
theorem IL:A7 Tryz.prog 364:=kC Tryz.func364 J
theorem IM:A7 Tryz.prog 366:=kC Tryz.func366 J
theorem QJ:A7 Tryz.prog 381:=kC Tryz.func381 J
theorem IN:A7 Tryz.prog 382:=kC Tryz.func382 J
theorem Q7:uE Tryz.prog 196=some (3,4):=by kernel_rfl
theorem bJ:uE Tryz.prog 229=some (3,227):=by kernel_rfl
theorem xX:uE Tryz.prog 242=some (3,3):=by kernel_rfl
theorem Z2:uE Tryz.prog 260=some (3,258):=by kernel_rfl
theorem MF:C9 Tryz.prog 33=some (λi=>(#[(0,1),(1,1),(2,1),(3,1),(4,1),(5,1),(6,1),(7,1),(8,1),(9,1),(10,1)]:Array (Nat × Nat))[i]?):=by kernel_rfl
theorem bp:C9 Tryz.prog 51=some (λi=>(#[(0,1),(1,1)]:Array (Nat × Nat))[i]?):=by kernel_rfl
theorem MG:C9 Tryz.prog 65=some (λi=>(#[(0,1),(1,1)]:Array (Nat × Nat))[i]?):=by kernel_rfl
theorem MH:C9 Tryz.prog 67=some (λi=>(#[(0,2),(2,1)]:Array (Nat × Nat))[i]?):=by kernel_rfl
theorem MI:C9 Tryz.prog 70=some (λi=>(#[(0,1),(1,1)]:Array (Nat × Nat))[i]?):=by kernel_rfl
theorem MJ:C9 Tryz.prog 72=some (λi=>(#[(0,3),(3,1),(4,1),(5,1),(6,2)]:Array (Nat × Nat))[i]?):=by kernel_rfl
theorem GY:C9 Tryz.prog 74=some (λi=>(#[(0,8),(8,1)]:Array (Nat × Nat))[i]?):=by kernel_rfl
theorem UH:C9 Tryz.prog 84=some (λi=>(#[(0,1),(1,1),(2,1)]:Array (Nat × Nat))[i]?):=by kernel_rfl
theorem UI:C9 Tryz.prog 87=some (λi=>(#[(0,1),(1,1)]:Array (Nat × Nat))[i]?):=by kernel_rfl
theorem UJ:C9 Tryz.prog 89=some (λi=>(#[(0,3),(3,1),(4,1),(5,1),(6,2)]:Array (Nat × Nat))[i]?):=by kernel_rfl
theorem IP:C9 Tryz.prog 100=some (λi=>(#[(0,1),(1,1),(2,1),(3,1),(4,1),(5,1),(6,1)]:Array (Nat × Nat))[i]?):=by kernel_rfl
theorem IQ:C9 Tryz.prog 102=some (λi=>(#[(0,1),(1,1),(2,1),(3,1),(4,1),(5,1)]:Array (Nat × Nat))[i]?):=by kernel_rfl
theorem QK:C9 Tryz.prog 107=some (λi=>(#[(0,1),(1,1),(2,1)]:Array (Nat × Nat))[i]?):=by kernel_rfl
theorem sz:C9 Tryz.prog 112=some (λi=>(#[(0,1),(1,1),(2,1)]:Array (Nat × Nat))[i]?):=by kernel_rfl
theorem xj:C9 Tryz.prog 119=some (λi=>(#[(0,1),(1,1),(2,1),(3,1)]:Array (Nat × Nat))[i]?):=by kernel_rfl
theorem Cy:C9 Tryz.prog 135=some (λi=>(#[(0,1),(1,1)]:Array (Nat × Nat))[i]?):=by kernel_rfl
theorem QM:C9 Tryz.prog 162=some (λi=>(#[(0,4)]:Array (Nat × Nat))[i]?):=by kernel_rfl
theorem QN:C9 Tryz.prog 166=some (λi=>(#[]:Array (Nat × Nat))[i]?):=by kernel_rfl
theorem QO:C9 Tryz.prog 170=some (λi=>(#[(0,1)]:Array (Nat × Nat))[i]?):=by kernel_rfl
theorem QP:C9 Tryz.prog 178=some (λi=>(#[(0,1),(1,1),(2,1),(3,1),(4,1),(5,1)]:Array (Nat × Nat))[i]?):=by kernel_rfl
theorem xk:C9 Tryz.prog 180=some (λi=>(#[(0,1),(1,1),(2,6)]:Array (Nat × Nat))[i]?):=by kernel_rfl
theorem QQ:C9 Tryz.prog 183=some (λi=>(#[(0,1),(1,1),(2,6)]:Array (Nat × Nat))[i]?):=by kernel_rfl
theorem QR:C9 Tryz.prog 190=some (λi=>(#[(0,1),(1,1)]:Array (Nat × Nat))[i]?):=by kernel_rfl
theorem QS:C9 Tryz.prog 233=some (λi=>(#[(0,8),(8,4)]:Array (Nat × Nat))[i]?):=by kernel_rfl
theorem IS:C9 Tryz.prog 251=some (λi=>(#[(0,1),(1,1),(2,1)]:Array (Nat × Nat))[i]?):=by kernel_rfl
theorem QT:C9 Tryz.prog 253=some (λi=>(#[(0,1),(1,1),(2,1)]:Array (Nat × Nat))[i]?):=by kernel_rfl
theorem eQ:C9 Tryz.prog 264=some (λi=>(#[(0,1),(1,1),(2,1),(3,1)]:Array (Nat × Nat))[i]?):=by kernel_rfl
theorem QU:C9 Tryz.prog 266=some (λi=>(#[(0,1),(1,1)]:Array (Nat × Nat))[i]?):=by kernel_rfl
theorem QV:C9 Tryz.prog 403=some (λi=>(#[(0,1),(1,1),(2,1)]:Array (Nat × Nat))[i]?):=by kernel_rfl
theorem QW:C9 Tryz.prog 407=some (λi=>(#[(0,1)]:Array (Nat × Nat))[i]?):=by kernel_rfl
theorem QX:C9 Tryz.prog 420=some (λi=>(#[(0,1)]:Array (Nat × Nat))[i]?):=by kernel_rfl
theorem QY:C9 Tryz.prog 422=some (λi=>(#[(0,1),(1,1)]:Array (Nat × Nat))[i]?):=by kernel_rfl
theorem UK:rE Tryz.prog 51=some [1,1]:=by kernel_rfl
theorem UL:rE Tryz.prog 54=some [1,1]:=by kernel_rfl
theorem IT:rI Tryz.prog 162=true:=by kernel_rfl
theorem IU:rI Tryz.prog 166=true:=by kernel_rfl
theorem IV:rI Tryz.prog 170=true:=by kernel_rfl
theorem o6:p9 Tryz.prog 3=some 1:=by kernel_rfl
theorem XF:p9 Tryz.prog 4=some 1:=by kernel_rfl
theorem UM:p9 Tryz.prog 27=some 1:=by kernel_rfl
theorem aA:p9 Tryz.prog 28=some 1:=by kernel_rfl
theorem uU:p9 Tryz.prog 31=some 1:=by kernel_rfl
theorem u7:p9 Tryz.prog 33=some 11:=by kernel_rfl
theorem A6:p9 Tryz.prog 51=some 2:=by kernel_rfl
theorem xY:p9 Tryz.prog 54=some 2:=by kernel_rfl
theorem eR:p9 Tryz.prog 65=some 2:=by kernel_rfl
theorem mO:p9 Tryz.prog 67=some 3:=by kernel_rfl
theorem cW:p9 Tryz.prog 70=some 2:=by kernel_rfl
theorem p8:p9 Tryz.prog 72=some 8:=by kernel_rfl
theorem bK:p9 Tryz.prog 74=some 9:=by kernel_rfl
theorem UN:p9 Tryz.prog 84=some 3:=by kernel_rfl
theorem UO:p9 Tryz.prog 87=some 2:=by kernel_rfl
theorem MK:p9 Tryz.prog 89=some 8:=by kernel_rfl
theorem w8:p9 Tryz.prog 100=some 7:=by kernel_rfl
theorem xl:p9 Tryz.prog 102=some 6:=by kernel_rfl
theorem V4:p9 Tryz.prog 107=some 3:=by kernel_rfl
theorem C8:p9 Tryz.prog 112=some 3:=by kernel_rfl
theorem xm:p9 Tryz.prog 117=some 1:=by kernel_rfl
theorem iZ:p9 Tryz.prog 119=some 4:=by kernel_rfl
theorem U5:p9 Tryz.prog 135=some 2:=by kernel_rfl
theorem Cz:p9 Tryz.prog 153=some 3:=by kernel_rfl
theorem QZ:p9 Tryz.prog 166=some 0:=by kernel_rfl
theorem kG:p9 Tryz.prog 178=some 6:=by kernel_rfl
theorem V5:p9 Tryz.prog 180=some 8:=by kernel_rfl
theorem pV:p9 Tryz.prog 183=some 8:=by kernel_rfl
theorem Ra:p9 Tryz.prog 188=some 1:=by kernel_rfl
theorem IW:p9 Tryz.prog 190=some 2:=by kernel_rfl
theorem CA:p9 Tryz.prog 194=some 3:=by kernel_rfl
theorem CB:p9 Tryz.prog 250=some 3:=by kernel_rfl
theorem cr:p9 Tryz.prog 251=some 3:=by kernel_rfl
theorem sA:p9 Tryz.prog 253=some 3:=by kernel_rfl
theorem O1:p9 Tryz.prog 264=some 4:=by kernel_rfl
theorem kH:p9 Tryz.prog 266=some 2:=by kernel_rfl
theorem I5:Tryz.prog.underlying 3=some (.int .i64):=by kernel_rfl
theorem B9:y7 Tryz.prog 3=some ((.I 0)):=by kernel_rfl
theorem sD:y7 Tryz.prog 4=some ((.bool false)):=by kernel_rfl
theorem xZ:y7 Tryz.prog 28=some ((.slice none 0 0)):=by kernel_rfl
theorem UP:y7 Tryz.prog 31=some ((.slice none 0 0)):=by kernel_rfl
theorem ML:y7 Tryz.prog 33=some ((.agg #[(.slice none 0 0),(.slice none 0 0),(.slice none 0 0),(.I 0),(.I 0),(.I 0),(.slice none 0 0),(.slice none 0 0),(.slice none 0 0),(.slice none 0 0),(.slice none 0 0)])):=by kernel_rfl
theorem U9:y7 Tryz.prog 51=some ((.agg #[(.I 0),(.I 0)])):=by kernel_rfl
theorem MM:y7 Tryz.prog 54=some ((.agg #[(.I 0),(.I 0)])):=by kernel_rfl
theorem MN:y7 Tryz.prog 65=some ((.agg #[(.slice none 0 0),(.I 0)])):=by kernel_rfl
theorem MO:y7 Tryz.prog 67=some ((.agg #[(.slice none 0 0),(.I 0),(.I 0)])):=by kernel_rfl
theorem MP:y7 Tryz.prog 70=some ((.agg #[(.slice none 0 0),(.I 0)])):=by kernel_rfl
theorem MQ:y7 Tryz.prog 72=some ((.agg #[(.slice none 0 0),(.I 0),(.I 0),(.slice none 0 0),(.slice none 0 0),(.slice none 0 0),(.slice none 0 0),(.I 0)])):=by kernel_rfl
theorem GZ:y7 Tryz.prog 74=some ((.agg #[(.slice none 0 0),(.I 0),(.I 0),(.slice none 0 0),(.slice none 0 0),(.slice none 0 0),(.slice none 0 0),(.I 0),(.slice none 0 0)])):=by kernel_rfl
theorem UQ:y7 Tryz.prog 84=some ((.agg #[(.slice none 0 0),(.I 0),(.I 0)])):=by kernel_rfl
theorem UR:y7 Tryz.prog 87=some ((.agg #[(.slice none 0 0),(.I 0)])):=by kernel_rfl
theorem US:y7 Tryz.prog 89=some ((.agg #[(.slice none 0 0),(.I 0),(.I 0),(.slice none 0 0),(.slice none 0 0),(.slice none 0 0),(.slice none 0 0),(.I 0)])):=by kernel_rfl
theorem aB:y7 Tryz.prog 100=some ((.agg #[(.I 0),(.I 0),(.I 0),(.bool false),(.bool false),(.bool false),(.slice none 0 0)])):=by kernel_rfl
theorem IX:y7 Tryz.prog 102=some ((.agg #[(.I 0),(.I 0),(.I 0),(.I 0),(.bool false),(.slice none 0 0)])):=by kernel_rfl
theorem CC:y7 Tryz.prog 107=some ((.agg #[(.I 0),(.bool false),(.I 0)])):=by kernel_rfl
theorem aC:y7 Tryz.prog 112=some ((.agg #[(.I 0),(.I 0),(.I 0)])):=by kernel_rfl
theorem Rb:y7 Tryz.prog 117=some ((.slice none 0 0)):=by kernel_rfl
theorem sC:y7 Tryz.prog 119=some ((.agg #[(.I 0),(.I 0),(.I 0),(.I 0)])):=by kernel_rfl
theorem aD:y7 Tryz.prog 135=some ((.agg #[(.I 0),(.I 0)])):=by kernel_rfl
theorem IY:y7 Tryz.prog 153=some ((.agg #[(.I 0),(.I 0),(.I 0)])):=by kernel_rfl
theorem IZ:y7 Tryz.prog 162=some ((.agg #[(.I 0),(.I 0),(.I 0),(.I 0)])):=by kernel_rfl
theorem Ja:y7 Tryz.prog 166=some ((.agg #[])):=by kernel_rfl
theorem Jb:y7 Tryz.prog 170=some ((.agg #[(.I 0)])):=by kernel_rfl
theorem Rc:y7 Tryz.prog 178=some ((.agg #[(.I 0),(.I 0),(.I 0),(.I 0),(.bool false),(.slice none 0 0)])):=by kernel_rfl
theorem pW:y7 Tryz.prog 180=some ((.agg #[(.I 0),(.I 0),(.I 0),(.I 0),(.I 0),(.I 0),(.bool false),(.slice none 0 0)])):=by kernel_rfl
theorem CD:y7 Tryz.prog 183=some ((.agg #[(.I 0),(.I 0),(.I 0),(.I 0),(.I 0),(.I 0),(.bool false),(.slice none 0 0)])):=by kernel_rfl
theorem Re:y7 Tryz.prog 190=some ((.agg #[(.slice none 0 0),(.I 0)])):=by kernel_rfl
theorem Jc:y7 Tryz.prog 194=some ((.agg #[(.I 0),(.bool false),(.I 0)])):=by kernel_rfl
theorem Rf:y7 Tryz.prog 227=some (.nilFunc):=by kernel_rfl
theorem Rg:y7 Tryz.prog 233=some ((.agg #[(.slice none 0 0),(.I 0),(.I 0),(.slice none 0 0),(.slice none 0 0),(.slice none 0 0),(.slice none 0 0),(.I 0),(.I 0),(.I 0),(.I 0),(.I 0)])):=by kernel_rfl
theorem Jd:y7 Tryz.prog 250=some ((.agg #[(.I 0),(.I 0),(.I 0)])):=by kernel_rfl
theorem xn:y7 Tryz.prog 251=some ((.agg #[(.I 0),(.I 0),(.I 0)])):=by kernel_rfl
theorem CE:y7 Tryz.prog 253=some ((.agg #[(.I 0),(.I 0),(.I 0)])):=by kernel_rfl
theorem Rh:y7 Tryz.prog 258=some ((.slice none 0 0)):=by kernel_rfl
theorem M8:y7 Tryz.prog 264=some ((.agg #[.nilFunc,(.I 0),(.I 0),(.I 0)])):=by kernel_rfl
theorem Ri:y7 Tryz.prog 266=some ((.agg #[(.slice none 0 0),(.I 0)])):=by kernel_rfl
theorem Rj:y7 Tryz.prog 403=some ((.agg #[(.I 0),(.I 0),(.I 0)])):=by kernel_rfl
theorem Rk:y7 Tryz.prog 407=some ((.agg #[(.slice none 0 0)])):=by kernel_rfl
theorem Rl:y7 Tryz.prog 420=some ((.agg #[.nilFunc])):=by kernel_rfl
theorem Rm:y7 Tryz.prog 422=some ((.agg #[(.I 0),(.I 0)])):=by kernel_rfl
theorem r9:Tryz.prog.follows .mixedOrders=true:=by kernel_rfl
def tb:TB:=⟨[((33,0),(0,27)),((33,1),(1,28)),((33,2),(2,28)),((33,3),(3,3)),((33,4),(4,3)),((33,5),(5,3)),((33,6),(6,28)),((33,7),(7,29)),((33,8),(8,30)),((33,9),(9,31)),((33,10),(10,22)),((51,0),(0,3)),((51,1),(1,34)),((65,0),(0,63)),((65,1),(1,3)),((67,0),(0,65)),((67,1),(2,3)),((70,0),(0,31)),((70,1),(1,3)),((72,0),(0,67)),((72,1),(3,28)),((72,2),(4,29)),((72,3),(5,68)),((72,4),(6,70)),((74,0),(0,72)),((74,1),(8,22)),((84,0),(0,82)),((84,1),(1,3)),((89,0),(0,84)),((89,1),(3,28)),((100,0),(0,3)),((100,1),(1,3)),((100,2),(2,3)),((100,3),(3,4)),((100,4),(4,4)),((100,5),(5,4)),((100,6),(6,28)),((102,0),(0,3)),((107,0),(0,3)),((107,1),(1,4)),((107,2),(2,3)),((112,0),(0,3)),((112,1),(1,3)),((112,2),(2,3)),((119,0),(0,3)),((119,1),(1,3)),((119,2),(2,3)),((119,3),(3,3)),((135,0),(0,3)),((135,1),(1,3)),((162,0),(0,119)),((170,0),(0,3)),((178,0),(0,3)),((178,1),(1,3)),((178,2),(2,3)),((178,3),(3,3)),((178,4),(4,4)),((178,5),(5,28)),((180,0),(0,3)),((180,1),(1,3)),((180,2),(2,178)),((183,0),(0,3)),((183,1),(1,3)),((183,2),(2,102)),((190,0),(0,188)),((233,0),(0,72)),((233,1),(8,119)),((251,0),(0,3)),((251,1),(1,3)),((251,2),(2,3)),((253,0),(0,3)),((253,1),(1,3)),((253,2),(2,3)),((264,0),(0,262)),((264,1),(1,3)),((264,3),(3,34)),((266,0),(0,28)),((266,1),(1,3)),((403,0),(0,3)),((403,1),(1,3)),((403,2),(2,3)),((407,0),(0,68)),((420,0),(0,418)),((422,0),(0,3)),((422,1),(1,3))],[(3,false),(4,false),(22,false),(27,false),(28,false),(29,false),(30,false),(31,false),(33,true),(34,false),(51,true),(54,true),(63,false),(65,true),(67,true),(68,false),(70,true),(72,true),(74,true),(82,false),(84,true),(89,true),(100,true),(102,true),(107,true),(112,true),(117,false),(119,true),(135,true),(178,true),(180,true),(188,false),(190,true),(196,false),(233,true),(242,false),(251,true),(253,true),(262,false),(264,true),(266,true),(285,false),(418,false),(420,true)],[(3,1),(4,1),(27,1),(28,1),(29,1),(30,1),(31,1),(33,11),(34,1),(51,2),(54,2),(63,1),(65,2),(67,3),(68,1),(70,2),(72,8),(74,9),(84,3),(87,2),(89,8),(100,7),(102,6),(107,3),(112,3),(119,4),(135,2),(162,4),(170,1),(178,6),(180,8),(190,2),(196,1),(233,12),(242,1),(251,3),(253,3),(264,4),(266,2),(420,1)],[(3,.I 0),(4,.bool false),(28,.lst true (List.map iF [])),(29,.lst true (List.map j5.Pv [])),(30,.lst true (List.map k7.Pv [])),(33,.agg [.lst true (List.map b8.Pv []),.lst true (List.map iF []),.lst true (List.map iF []),.I 0,.I 0,.I 0,.lst true (List.map iF []),.lst true (List.map j5.Pv []),.lst true (List.map k7.Pv []),.lst true (List.map g6.Pv []),.lst true (List.map (Ls k8.Pv) [])]),(34,.I 0),(51,.agg [.I 0,.I 0]),(65,.agg [.lst true (List.map c8.Pv []),.I 0]),(67,.agg [.lst true (List.map c8.Pv []),.I 0,.I 0]),(68,.lst true (List.map g5.Pv [])),(70,.agg [.lst true (List.map g6.Pv []),.I 0]),(72,.agg [.lst true (List.map c8.Pv []),.I 0,.I 0,.lst true (List.map iF []),.lst true (List.map j5.Pv []),.lst true (List.map g5.Pv []),.lst true (List.map g6.Pv []),.I 0]),(74,.agg [.lst true (List.map c8.Pv []),.I 0,.I 0,.lst true (List.map iF []),.lst true (List.map j5.Pv []),.lst true (List.map g5.Pv []),.lst true (List.map g6.Pv []),.I 0,.lst true (List.map (Ls k8.Pv) [])]),(84,.agg [.lst true (List.map B8.Pv []),.I 0,.I 0]),(87,.agg [.lst true (List.map G7.Pv []),.I 0]),(89,.agg [.lst true (List.map B8.Pv []),.I 0,.I 0,.lst true (List.map iF []),.lst true (List.map D4.Pv []),.lst true (List.map u9.Pv []),.lst true (List.map G7.Pv []),.I 0]),(100,.agg [.I 0,.I 0,.I 0,.bool false,.bool false,.bool false,.lst true (List.map iF [])]),(102,.agg [.I 0,.I 0,.I 0,.I 0,.bool false,.lst true (List.map iF [])]),(107,.agg [.I 0,.bool false,.I 0]),(112,.agg [.I 0,.I 0,.I 0]),(119,.agg [.I 0,.I 0,.I 0,.I 0]),(135,.agg [.I 0,.I 0]),(162,.agg [.I 0,.I 0,.I 0,.I 0]),(166,.agg []),(170,.agg [.I 0]),(178,.agg [.I 0,.I 0,.I 0,.I 0,.bool false,.lst true (List.map iF [])]),(180,.agg [.I 0,.I 0,.I 0,.I 0,.I 0,.I 0,.bool false,.lst true (List.map iF [])]),(190,.agg [.lst true (List.map G6.Pv []),.I 0]),(196,.abs GS),(242,.abs GS),(251,.agg [.I 0,.I 0,.I 0]),(253,.agg [.I 0,.I 0,.I 0]),(264,.agg [.nilfn,.I 0,.I 0,.I 0]),(266,.agg [.lst true (List.map iF []),.I 0]),(420,.agg [.nilfn])]⟩
theorem Tb:TB.Ok Tryz.prog tb:=⟨by kernel_rfl,by kernel_rfl,by kernel_rfl,by kernel_rfl⟩
section
variable{X:Ctx}{ops:Array Oper}{K:Ctx->St->Prop}{i n:Nat}{l l':List Oper}{env env':Nat->PV}{σ σ':Nat->Option Row}{Q:PX->Ctx->St->Prop}{y:Code}{KD:St->Prop}{bar:List Nat}
theorem S1(n:Nat)(h:run tb n l env σ=some (l',env',σ'))(k:Sq X ops (i+n) l' K ⟨env',σ'⟩)(hb:TB.Ok X.P tb:=by exact Tb):Sq X ops i l K ⟨env,σ⟩:=WY hb n h k
theorem S2(n:Nat)(h:run tb n l env σ=some ([],env',σ'))(k:K X ⟨env',σ'⟩)(hb:TB.Ok X.P tb:=by exact Tb):Sq X ops i l K ⟨env,σ⟩:=WY hb n h (yN k)
theorem S3{id:Nat}(n:Nat)(h:run tb n l env σ=some (l',env',σ'))(k:Sq X l.toArray (0+n) l' (λX' s=>al X' y Q s) ⟨env',σ'⟩)(hd:gW X.N l.toArray=true:=by kernel_rfl)(hb:TB.Ok X.P tb:=by exact Tb):al X (.seq (.region id l.toArray false) y) Q ⟨env,σ⟩:=sr hd (WY hb n h k)
theorem S4{id:Nat}(n:Nat)(h:run tb n l env σ=some ([],env',σ'))(k:al X y Q ⟨env',σ'⟩)(hd:gW X.N l.toArray=true:=by kernel_rfl)(hb:TB.Ok X.P tb:=by exact Tb):al X (.seq (.region id l.toArray false) y) Q ⟨env,σ⟩:=sr hd (WY hb n h (yN k))
theorem S5{id:Nat}(n:Nat)(h:run tb n l env σ=some (l',env',σ'))(k:Sq X l.toArray (0+n) l' (Q .normal) ⟨env',σ'⟩)(hd:gW X.N l.toArray=true:=by kernel_rfl)(hb:TB.Ok X.P tb:=by exact Tb):al X (.region id l.toArray false) Q ⟨env,σ⟩:=Xy hd (WY hb n h k)
theorem S6{id:Nat}(n:Nat)(h:run tb n l env σ=some ([],env',σ'))(k:Q .normal X ⟨env',σ'⟩)(hd:gW X.N l.toArray=true:=by kernel_rfl)(hb:TB.Ok X.P tb:=by exact Tb):al X (.region id l.toArray false) Q ⟨env,σ⟩:=Xy hd (WY hb n h (yN k))
theorem S7(n:Nat)(h:Te tb bar n i l env σ=some (l',env',σ'))(k:Ex X.P ops bar true (i+n) l' ⟨env',σ'⟩ KD)(hb:TB.Ok X.P tb:=by exact Tb):Ex X.P ops bar true i l ⟨env,σ⟩ KD:=dG hb n h k
theorem S8(n:Nat)(h:Te tb bar n i l env σ=some ([],env',σ'))(k:KD ⟨env',σ'⟩)(hb:TB.Ok X.P tb:=by exact Tb):Ex X.P ops bar true i l ⟨env,σ⟩ KD:=dG hb n h k
end
theorem Xd:Cs Tryz.prog (Tryz.sortF_ren.f 6):=Mg Tryz.sortF
theorem Tp:xh Tryz.prog (Tryz.sortI_ren.f 5):=Io Tryz.sortI
theorem wA{a0}:PO Tryz.prog 10 [.L (Ls k8.Pv) a0] (iq a0) λr=>.bool r:=by
 refine pO Tryz.func10 λr h _ _=>?_;refine S4 1 J ?_;refine jq h (λ_=>St.of [(0,.L (Ls k8.Pv) a0)] []) (λq6 h=>?_) λκ5 h=>?_
 .refine S3 1 J ?_;refine nL J mM<|S2 2 J<|c5 ?_;cases h;exact f1
 .refine S4 1 J ?_;refine g9<|lq h (λs8=>St.of [(0,.L (Ls k8.Pv) a0),(3,.I s8)] []) W λs8 x9 h hx8=>k9<|S3 2 J<|nL J mM<|S1 2 J<|m8 J (λhg=>mI J)<|m8 J (λhg=>B2 (ct hg) J J)<|y0 J (C7 J J J (λq=>jJ q))<|yN ?_;refine cN h (λhc h=>?_) λhc h=>?_
  .refine c7 ?_;refine k9<|g9<|S3 2 J<|iL h J J mM xm λv10 _ h=>S1 1 J<|nL J gD<|S2 1 J ?_;refine cN h (λhc h=>?_) λhc h=>?_
   .refine S4 1 J ?_;refine c5 ?_;have h:=xL hx8 h;cases h;exact f1
   .refine c7 ?_;refine S6 3 J ?_;exact eL h W
  .refine o5 ?_;refine e6<|e6<|l7 ?_;have h:=xL hx8 h;exact eJ h W
theorem Ek{a0 a1}:PO Tryz.prog 11 [.L (Ls iF) a0,.I a1] (gz a0 a1) λr=>.bool r:=by
 refine pO Tryz.func11 λr h _ _=>?_;refine S4 1 J ?_;refine jq h (λ_=>St.of [(0,.L (Ls iF) a0),(1,.I a1)] []) (λq6 h=>?_) λκ5 h=>?_
 .refine S3 1 J ?_;refine nL J X4<|S2 3 J<|c5 ?_;cases h;exact f1
 .refine S4 1 J ?_;refine g9<|lq h (λs8=>St.of [(0,.L (Ls iF) a0),(1,.I a1),(5,.I s8)] []) W λs8 x9 h hx8=>k9<|S3 2 J<|nL J X4<|S1 2 J<|m8 J (λhg=>mI J)<|m8 J (λhg=>B2 (ct hg) J J)<|y0 J (C7 J J J (λq=>jJ q))<|yN ?_;refine cN h (λhc h=>?_) λhc h=>?_
  .refine c7 ?_;refine k9<|g9<|S3 2 J<|iL h J J X4 aA λv10 _ h=>S1 1 J<|nL J l6<|S2 1 J ?_;refine cN h (λhc h=>?_) λhc h=>?_
   .refine S4 1 J ?_;refine c5 ?_;have h:=xL hx8 h;cases h;exact f1
   .refine c7 ?_;refine S6 3 J ?_;exact eL h W
  .refine o5 ?_;refine e6<|e6<|l7 ?_;have h:=xL hx8 h;exact eJ h W
theorem AZ{a0}:PO Tryz.prog 119 [k8.Pv a0] (ga a0) λr=>.bool r:=by
 refine pO Tryz.func119 λr h _ _=>?_;unfold ga at h;refine S4 2 J<|S3 4 J<|m8 J (λhg=>oF J KQ J)<|m8 J (λhg=>oS (ct hg) J J K1 J)<|m8 J (λhg=>B2 (ct hg) J J)<|y0 J (C7 J J J (λq=>jJ q))<|S2 1 J<|c5 ?_;cases h;exact f1
theorem A9:PO Tryz.prog 250 [.fn (.func 251) []] (bt) λr=>l5.Pv r:=by
 refine pO Tryz.func250 λr h _ _=>?_;unfold bt at h;refine S4 1 J<|S3 1 J<|y0 J (p6 (cs:=[.fn (.func 251) [],.I 0,.I 5,.I 6]) J eQ M8 J J J)<|O8 (ot 4 (d':=.agg [tf (some 251),.I 0,.I 5,.I 6]) J)<|S2 1 J<|c5 ?_;cases h;exact⟨J,[_],⟨oL J J J iY O1 nl J,tr⟩,J,io⟩
theorem bz:PO Tryz.prog 253 [.fn (.func 254) []] (X6) λr=>l5.Pv r:=by
 refine pO Tryz.func253 λr h _ _=>?_;unfold X6 at h;refine S4 1 J<|S3 1 J<|y0 J (p6 (cs:=[.fn (.func 254) [],.I (-1),.I 5,.I 13]) J eQ M8 J J J)<|O8 (ot 4 (d':=.agg [tf (some 254),.I (-1),.I 5,.I 13]) J)<|S2 1 J<|c5 ?_;cases h;exact⟨J,[_],⟨oL J J J iY O1 nl J,tr⟩,J,io⟩
theorem F8{a0}:PO Tryz.prog 249 [.L l5.Pv a0] (M6 a0) λr=>.L l5.Pv r:=by
 refine pO Tryz.func249 λr h _ _=>?_;unfold M6 at h;refine S4 1 J<|S4 2 J<|c5 ?_;cases h;exact f1
theorem O2:PO Tryz.prog 250 [.fn (.func 252) []] (bu) λr=>l5.Pv r:=by
 refine pO Tryz.func250 λr h _ _=>?_;unfold bu at h;refine S4 1 J<|S3 1 J<|y0 J (p6 (cs:=[.fn (.func 252) [],.I 0,.I 5,.I 6]) J eQ M8 J J J)<|O8 (ot 4 (d':=.agg [tf (some 252),.I 0,.I 5,.I 6]) J)<|S2 1 J<|c5 ?_;cases h;exact⟨J,[_],⟨oL J J J iY O1 nl J,tr⟩,J,io⟩
theorem kq:PO Tryz.prog 255 [.fn (.func 254) []] (aF) λr=>l5.Pv r:=by
 refine pO Tryz.func255 λr h _ _=>?_;unfold aF at h;refine S4 1 J<|S3 1 J<|y0 J (p6 (cs:=[.fn (.func 254) [],.I 0,.I 3,.I 5]) J eQ M8 J J J)<|O8 (ot 4 (d':=.agg [tf (some 254),.I 0,.I 3,.I 5]) J)<|S2 1 J<|c5 ?_;cases h;exact⟨J,[_],⟨oL J J J iY O1 nl J,tr⟩,J,io⟩
theorem kp:PO Tryz.prog 255 [.fn (.func 252) []] (aE) λr=>l5.Pv r:=by
 refine pO Tryz.func255 λr h _ _=>?_;unfold aE at h;refine S4 1 J<|S3 1 J<|y0 J (p6 (cs:=[.fn (.func 252) [],.I 0,.I 3,.I 5]) J eQ M8 J J J)<|O8 (ot 4 (d':=.agg [tf (some 252),.I 0,.I 3,.I 5]) J)<|S2 1 J<|c5 ?_;cases h;exact⟨J,[_],⟨oL J J J iY O1 nl J,tr⟩,J,io⟩
theorem gh:PO Tryz.prog 256 [.fn (.func 254) []] (R2) λr=>l5.Pv r:=by
 refine pO Tryz.func256 λr h _ _=>?_;unfold R2 at h;refine S4 1 J<|S3 1 J<|y0 J (p6 (cs:=[.fn (.func 254) [],.I (-1),.I 5,.I 6]) J eQ M8 J J J)<|O8 (ot 4 (d':=.agg [tf (some 254),.I (-1),.I 5,.I 6]) J)<|S2 1 J<|c5 ?_;cases h;exact⟨J,[_],⟨oL J J J iY O1 nl J,tr⟩,J,io⟩
theorem ln:PO Tryz.prog 257 [.fn (.func 251) []] (bq) λr=>l5.Pv r:=by
 refine pO Tryz.func257 λr h _ _=>?_;unfold bq at h;refine S4 1 J<|S3 1 J<|y0 J (p6 (cs:=[.fn (.func 251) [],.I 0,.I 5,.I 7]) J eQ M8 J J J)<|O8 (ot 4 (d':=.agg [tf (some 251),.I 0,.I 5,.I 7]) J)<|S2 1 J<|c5 ?_;cases h;exact⟨J,[_],⟨oL J J J iY O1 nl J,tr⟩,J,io⟩
theorem Z3:PO Tryz.prog 256 [.fn (.func 252) []] (R1) λr=>l5.Pv r:=by
 refine pO Tryz.func256 λr h _ _=>?_;unfold R1 at h;refine S4 1 J<|S3 1 J<|y0 J (p6 (cs:=[.fn (.func 252) [],.I (-1),.I 5,.I 6]) J eQ M8 J J J)<|O8 (ot 4 (d':=.agg [tf (some 252),.I (-1),.I 5,.I 6]) J)<|S2 1 J<|c5 ?_;cases h;exact⟨J,[_],⟨oL J J J iY O1 nl J,tr⟩,J,io⟩
theorem lr:PO Tryz.prog 257 [.fn (.func 252) []] (br) λr=>l5.Pv r:=by
 refine pO Tryz.func257 λr h _ _=>?_;unfold br at h;refine S4 1 J<|S3 1 J<|y0 J (p6 (cs:=[.fn (.func 252) [],.I 0,.I 5,.I 7]) J eQ M8 J J J)<|O8 (ot 4 (d':=.agg [tf (some 252),.I 0,.I 5,.I 7]) J)<|S2 1 J<|c5 ?_;cases h;exact⟨J,[_],⟨oL J J J iY O1 nl J,tr⟩,J,io⟩
theorem wM:PO Tryz.prog 144 [] (mV) λr=>.abs (U8 (List.map (cu iF (Ls l5.Pv)) r)):=by
 refine pO Tryz.func144 λr h _ _=>?_;refine S4 1 J<|sR<|Cr (KT:=Int) (VT:=List l5) (EK:=iF) (E:=(Ls l5.Pv)) 5000001 J J<|cF h A9 J J λv1 hv1 h=>y0 J (p6 (cs:=[.fn (.func 252) [],.I 0,.I 4,.I 1]) J eQ M8 J J J)<|O8 (ot 3 (d':=.agg [tf (some 252),.I 0,.I 4,.I 1]) J)<|cF h bz J J λv2 hv2 h=>y0 J (H6 (f:=l5.Pv) (l:=[v1,(⟨(some 252),0,4,1⟩:l5),v2]) J cq O1 M8 J J nl J J)<|cF h F8 J J λv3 _ h=>ak (es:=[]) (k:=1) (v:=v3) (E:=(Ls l5.Pv)) (EK:=iF) (.inr J) J J J J J J Z2 (y5 I5)<|yc J (u4 J A9 J hv1)<|cF h O2 J J λv4 hv4 h=>y0 J (H6 (f:=l5.Pv) (l:=[v1,v4]) J cq O1 M8 J J nl J J)<|cF h F8 J J λv5 hv5 h=>ak (es:=(p7 [] 1 v3)) (k:=2) (v:=v5) (E:=(Ls l5.Pv)) (EK:=iF) (.inr J) J J J J J J Z2 (y5 I5)<|yc J (u4 J A9 J hv1)<|y0 J (H6 (f:=l5.Pv) (l:=[v1]) J cq O1 M8 J J nl J J)<|cF h F8 J J λv6 _ h=>ak (es:=(p7 (p7 [] 1 v3) 2 v5)) (k:=3) (v:=v6) (E:=(Ls l5.Pv)) (EK:=iF) (.inr J) J J J J J J Z2 (y5 I5)<|yc J (u4 J A9 J hv1)<|yc J (u4 J O2 J hv4)<|cF h kq J J λv7 _ h=>y0 J (H6 (f:=l5.Pv) (l:=[v1,v4,v7]) J cq O1 M8 J J nl J J)<|cF h F8 J J λv8 _ h=>ak (es:=(p7 (p7 (p7 [] 1 v3) 2 v5) 3 v6)) (k:=4) (v:=v8) (E:=(Ls l5.Pv)) (EK:=iF) (.inr J) J J J J J J Z2 (y5 I5)<|yc J (u4 J A9 J hv1)<|cF h kp J J λv9 _ h=>cF h gh J J λv10 _ h=>y0 J (H6 (f:=l5.Pv) (l:=[v1,v9,v10]) J cq O1 M8 J J nl J J)<|cF h F8 J J λv11 _ h=>?_;refine ak (es:=(p7 (p7 (p7 (p7 [] 1 v3) 2 v5) 3 v6) 4 v8)) (k:=5) (v:=v11) (E:=(Ls l5.Pv)) (EK:=iF) (.inr J) J J J J J J Z2 (y5 I5)<|cF h ln J J λv12 _ h=>cF h Z3 J J λv13 hv13 h=>yc J (u4 J bz J hv2)<|y0 J (H6 (f:=l5.Pv) (l:=[v12,v13,v2]) J cq O1 M8 J J nl J J)<|cF h F8 J J λv14 _ h=>ak (es:=(p7 (p7 (p7 (p7 (p7 [] 1 v3) 2 v5) 3 v6) 4 v8) 5 v11)) (k:=6) (v:=v14) (E:=(Ls l5.Pv)) (EK:=iF) (.inr J) J J J J J J Z2 (y5 I5)<|yc J (u4 J A9 J hv1)<|cF h lr J J λv15 _ h=>y0 J (H6 (f:=l5.Pv) (l:=[v1,v15]) J cq O1 M8 J J nl J J)<|cF h F8 J J λv16 _ h=>ak (es:=(p7 (p7 (p7 (p7 (p7 (p7 [] 1 v3) 2 v5) 3 v6) 4 v8) 5 v11) 6 v14)) (k:=7) (v:=v16) (E:=(Ls l5.Pv)) (EK:=iF) (.inr J) J J J J J J Z2 (y5 I5)<|yc J (u4 J A9 J hv1)<|yc J (u4 J Z3 J hv13)<|y0 J (H6 (f:=l5.Pv) (l:=[v1,v13]) J cq O1 M8 J J nl J J)<|cF h F8 J J λv17 _ h=>ak (es:=(p7 (p7 (p7 (p7 (p7 (p7 (p7 [] 1 v3) 2 v5) 3 v6) 4 v8) 5 v11) 6 v14) 7 v16)) (k:=8) (v:=v17) (E:=(Ls l5.Pv)) (EK:=iF) (.inr J) J J J J J J Z2 (y5 I5)<|yc J (u4 J A9 J hv1)<|yc J (u4 J O2 J hv4)<|y0 J (H6 (f:=l5.Pv) (l:=[v1,v4]) J cq O1 M8 J J nl J J)<|yc J (u4 J F8 J hv5)<|ak (es:=(p7 (p7 (p7 (p7 (p7 (p7 (p7 (p7 [] 1 v3) 2 v5) 3 v6) 4 v8) 5 v11) 6 v14) 7 v16) 8 v17)) (k:=9) (v:=v5) (E:=(Ls l5.Pv)) (EK:=iF) (.inr J) J J J J J J Z2 (y5 I5)<|yc J (u4 J A9 J hv1)<|yc J (u4 J O2 J hv4)<|y0 J (H6 (f:=l5.Pv) (l:=[v1,v4]) J cq O1 M8 J J nl J J)<|yc J (u4 J F8 J hv5)<|ak (es:=(p7 (p7 (p7 (p7 (p7 (p7 (p7 (p7 (p7 [] 1 v3) 2 v5) 3 v6) 4 v8) 5 v11) 6 v14) 7 v16) 8 v17) 9 v5)) (k:=10) (v:=v5) (E:=(Ls l5.Pv)) (EK:=iF) (.inr J) J J J J J J Z2 (y5 I5)<|cF h F8 J J λv18 _ h=>ak (es:=(p7 (p7 (p7 (p7 (p7 (p7 (p7 (p7 (p7 (p7 [] 1 v3) 2 v5) 3 v6) 4 v8) 5 v11) 6 v14) 7 v16) 8 v17) 9 v5) 10 v5)) (k:=11) (v:=v18) (E:=(Ls l5.Pv)) (EK:=iF) (.inr J) J J J J J J Z2 (y5 I5)<|y0 J (p6 (cs:=[.fn (.func 251) [],.I 0,.I 200,.I 12]) J eQ M8 J J J) ?_;refine O8 (ot 46 (d':=.agg [tf (some 251),.I 0,.I 200,.I 12]) J)<|y0 J (H6 (f:=l5.Pv) (l:=[(⟨(some 251),0,200,12⟩:l5)]) J cq O1 M8 J J nl J J)<|cF h F8 J J λv19 _ h=>ak (es:=(p7 (p7 (p7 (p7 (p7 (p7 (p7 (p7 (p7 (p7 (p7 [] 1 v3) 2 v5) 3 v6) 4 v8) 5 v11) 6 v14) 7 v16) 8 v17) 9 v5) 10 v5) 11 v18)) (k:=12) (v:=v19) (E:=(Ls l5.Pv)) (EK:=iF) (.inr J) J J J J J J Z2 (y5 I5)<|S2 2 J<|bW (Eo 0 5000001 J J)<|c5 ?_;cases h;exact f1
theorem qN{a0}:PO Tryz.prog 251 [k8.Pv a0] (ry a0) λr=>.I r:=by
 refine pO Tryz.func251 λr h _ _=>?_;unfold ry at h;refine S4 2 J<|S4 3 J<|c5 ?_;cases h;exact f1
theorem qO{a0}:PO Tryz.prog 252 [k8.Pv a0] (rz a0) λr=>.I r:=by
 refine pO Tryz.func252 λr h _ _=>?_;unfold rz at h;refine S4 2 J<|S4 3 J<|c5 ?_;cases h;exact f1
theorem qP{a0}:PO Tryz.prog 254 [k8.Pv a0] (rA a0) λr=>.I r:=by
 refine pO Tryz.func254 λr h _ _=>?_;unfold rA at h;refine S4 2 J<|S4 3 J<|c5 ?_;cases h;exact f1
theorem HC{f:Fv}{a0:k8}{r:Int}(h:tg f a0=some r):∃n,f=some n/\A7 Tryz.prog n/\bm Tryz.prog n [k8.Pv a0] (.I r):=by
 unfold tg at h;by_cases e251:f=some 251
 .rw[zb e251] at h;exact⟨251,e251,(@qN a0).1,(@qN a0).2 _ h⟩
 rw[za e251] at h;by_cases e252:f=some 252
 .rw[zb e252] at h;exact⟨252,e252,(@qO a0).1,(@qO a0).2 _ h⟩
 rw[za e252] at h;by_cases e254:f=some 254
 .rw[zb e254] at h;exact⟨254,e254,(@qP a0).1,(@qP a0).2 _ h⟩
 rw[za e254] at h;cases h
theorem ll{a0}:PO Tryz.prog 81 [k8.Pv a0] (X5 a0) λr=>.I r:=by
 refine pO Tryz.func81 λr h _ _=>?_;unfold X5 at h;refine S4 2 J<|dr [] r9 (by kernel_rfl) (by kernel_rfl)<|w7 h λv1 hv1 h=>cY J (u4 J wM J hv1) J<|S7 2 J<|d4 J (BZ (es:=v1) (k:=a0.Kind) (E:=(Ls l5.Pv)) (EK:=iF) (d:=.tup [.L l5.Pv ((A2 v1 a0.Kind).getD ([]:List l5)),.bool ((A2 v1 a0.Kind).isSome)]) J J Z2 (y5 I5) Rh J (lk2 _ _ ([]:List l5))) J<|S8 5 J<|k9<|S4 2 J ?_;refine cN h (λhc h=>?_) λhc h=>?_
 .refine S4 1 J ?_;refine c5 ?_;cases h;exact f1
 .refine c7 ?_;refine jq h (λ_=>St.of [] []) (λq9 h=>?_) λκ8 h=>?_
  .refine S4 1 J ?_;refine c5 ?_;cases h;exact f1
  .refine S3 1 J ?_;refine nL J cq<|S2 1 J<|g9<|lq h (λs11=>St.of [(1,.ptr 1 0 0),(17,.L l5.Pv ((A2 v1 a0.Kind).getD ([]:List l5))),(18,.I (((A2 v1 a0.Kind).getD ([]:List l5)).length:Int)),(19,.I s11)] [(1,vR (k8.Pv a0) 4)]) W λs11 x12 h hx13=>S4 1 J<|k9 ?_;refine cN h (λhc h=>?_) λhc h=>?_
   .refine c7 ?_;refine k9<|g9<|sR<|iL h J J cq O1 λv13 _ h=>S2 3 J<|S3 3 J ?_;obtain⟨v14,hv15,h⟩:=qM h;obtain⟨n15,he16,hk17,hp18⟩:=HC hv15;refine O8 (Us 24 J he16)<|y0 J (HK J hk17 J hp18)<|S2 1 J<|S3 5 J<|m8 J (λhg=>mI J)<|m8 J (λhg=>oF J KY J)<|m8 J (λhg=>oS (ct hg) J J K1 J)<|m8 J (λhg=>B2 (ct hg) (ct hg) J)<|y0 J (I7 J J J (λq=>kr q))<|yN ?_;refine cN h (λhc h=>?_) λhc h=>?_
    .refine S4 3 J ?_;refine c5 ?_;have h:=xL hx13 h;cases h;exact f1
    .refine c7 ?_;refine S6 2 J ?_;exact eL h W
   .refine o5 ?_;refine e6<|e6<|l7 ?_;have h:=xL hx13 h;exact eJ h W
theorem Ba{a0}:PO Tryz.prog 62 [.L (Ls k8.Pv) a0] (gb a0) λr=>.bool r:=by
 refine pO Tryz.func62 λr h _ _=>?_;refine S4 1 J<|k9<|S3 1 J<|nL J mM<|S2 1 J ?_;refine cN h (λhc h=>?_) λhc h=>?_
 .refine S4 1 J ?_;refine c5 ?_;cases h;exact f1
 .refine c7 ?_;refine jq h (λ_=>St.of [] []) (λq21 h=>?_) λκ20 h=>?_
  .refine S4 1 J ?_;refine c5 ?_;cases h;exact f1
  .refine S3 1 J ?_;refine nL J mM<|S2 1 J<|g9<|lq h (λs23=>St.of [(10,.L (Ls k8.Pv) a0),(11,.I (a0.length:Int)),(12,.I s23)] []) W λs23 x24 h hx22=>S4 1 J<|k9 ?_;refine cN h (λhc h=>?_) λhc h=>?_
   .refine c7 ?_;refine jq h (λ_=>St.of [(10,.L (Ls k8.Pv) a0),(11,.I (a0.length:Int)),(12,.I s23)] []) (λq33 h=>?_) λκ32 h=>?_
    .refine S6 2 J ?_;exact eL h W
    .refine g9 ?_;refine sR<|iL h J J mM xm λv34 _ h=>S2 2 J<|k9<|S3 1 J<|nL J gD<|S2 1 J ?_;refine cN h (λhc h=>?_) λhc h=>?_
     .refine S4 1 J ?_;refine c5 ?_;have h:=xL hx22 h;cases h;exact f1
     .refine c7 ?_;refine S3 1 J<|nL J gD<|S2 1 J<|g9<|lq h (λs36=>St.of [(10,.L (Ls k8.Pv) a0),(11,.I (a0.length:Int)),(12,.I s23),(19,.L k8.Pv v34),(20,.I (v34.length:Int)),(21,.I s36)] []) W λs36 x37 h hx34=>S4 1 J<|k9 ?_;refine cN h (λhc h=>?_) λhc h=>?_
      .refine c7 ?_;refine k9<|g9<|sR<|iL h J J gD iZ λv38 _ h=>S2 3 J<|S3 1 J<|cA h AZ J J λv39 _ h=>S1 2 J<|m8 J (λhg=>oL J J J xi iZ nl J)<|w7 h λv40 hv37 h=>m8 J (λhg=>P4 J ll (T5 (ct hg) J) (W3 hv37 hg))<|m8 J (λhg=>B2 (ct hg) J J)<|y0 J (I7 J J J (λq=>kr q))<|yN ?_;refine cN h (λhc h=>?_) λhc h=>?_
       .refine S4 1 J ?_;refine c5 ?_;have h:=xL hx34 h;have h:=xL hx22 h;cases h;exact f1
       .refine c7 ?_;refine S6 2 J ?_;exact eL h W
      .refine o5 ?_;refine e6<|e6<|l7 ?_;have h:=xL hx34 h;exact eJ h W
   .refine o5 ?_;refine e6<|e6<|l7 ?_;have h:=xL hx22 h;exact eJ h W
theorem oB{a0 a1}:PO Tryz.prog 201 [.I a0,.I a1] (aO a0 a1) λr=>l4.Pv r:=by
 refine pO Tryz.func201 λr h _ _=>?_;refine S4 1 J<|k9<|S3 3 J<|m8 J (λhg=>mI J)<|m8 J (λhg=>B2 (ct hg) J J)<|y0 J (I7 J J J (λq=>kr q))<|S1 1 J<|m8 J (λhg=>mI J)<|m8 J (λhg=>B2 (ct hg) J J)<|y0 J (I7 J J J (λq=>kr q))<|S1 1 J<|m8 J (λhg=>mI J)<|m8 J (λhg=>B2 (ct hg) J J)<|y0 J (I7 J J J (λq=>kr q))<|yN ?_;refine cN h (λhc h=>?_) λhc h=>?_
 .refine sR ?_;refine y0 J (p6 (cs:=[.nl,.I 0]) J MG MN J J J)<|iX (x':=.agg [.nl,.I 0]) (cl':=true) J J (.inl J) eR<|yN<|c5 ?_;cases h;exact⟨J,[_],⟨oL J J J iv eR nl J,tr⟩,J,io⟩
 .refine c7 ?_;refine S3 1 J<|w7 h λv1 hv1 h=>y1 J (Bg (f:=c8.Pv) hv1 J J J T4 V5 pW IH J J J) J<|S1 1 J<|y0 J (p6 (cs:=[.sl 21,.I a1]) J MG MN J J J)<|S2 1 J<|c5 ?_;cases h;exact⟨J,[_],⟨oL J J J iv eR nl J,tr⟩,J,io⟩
theorem Ec{a0 a1}:PO Tryz.prog 120 [.I a0,.I a1] (jC a0 a1) λr=>b6.Pv r:=by
 refine pO Tryz.func120 λr h _ _=>?_;refine S4 1 J<|S3 2 J<|cF h oB J J λv1 _ h=>y0 J (p6 (cs:=[.L c8.Pv v1.b7,.I v1.Last,.I 0]) J MH MO J J J)<|S2 1 J<|c5 ?_;cases h;exact⟨J,[_],⟨oL J J J mJ mO nl J,tr⟩,J,io⟩
theorem wE{a0}:PO Tryz.prog 41 [.I a0] (AM a0) λr=>.L j5.Pv r:=by
 refine pO Tryz.func41 λr h _ _=>?_;refine S4 1 J<|k9<|S3 3 J<|m8 J (λhg=>mI J)<|m8 J (λhg=>B2 (ct hg) J J)<|y0 J (I7 J J J (λq=>kr q))<|yN ?_;refine cN h (λhc h=>?_) λhc h=>?_
 .refine S4 1 J ?_;refine c5 ?_;cases h;exact f1
 .refine c7 ?_;refine S3 1 J<|w7 h λv1 hv1 h=>y1 J (Bg (f:=j5.Pv) hv1 J J J Q4 V4 CC IG J J J) J<|S2 1 J ?_;refine jq h (λj9=>St.of [(3,.sl 12)] [(12,⟨List.map j5.Pv j9,0,true,3,true⟩)]) (λj9 h=>?_) λκ8 h=>?_
  .refine S4 2 J ?_;refine c5 ?_;cases h;exact f1
  .refine S3 1 J ?_;refine y0 J (JU (f:=j5.Pv) J J J Q4)<|S2 1 J<|g9<|lq h (λq=>St.of [(3,.sl 12),(14,.I (v1.length:Int)),(15,.I q.1)] [(12,⟨List.map j5.Pv q.2,0,true,3,true⟩)]) W λq14 x13 h hx9=>?_;obtain⟨s11,s12⟩:=q14;refine S4 1 J<|k9 ?_;refine cN h (λhc h=>?_) λhc h=>?_
   .refine c7 ?_;refine k9<|g9<|S4 2 J<|S5 2 J<|w7 h λv15 hv10 h=>y0 J (aY (f:=j5.Pv) hv10 J J J J Q4 V4 J)<|S1 1 J<|ou (f:=j5.Pv) (v:=(⟨v15.Target,v15.Intact,(-1)⟩:j5)) hv10 J J (.inl J) o6<|yN<|S6 2 J ?_;exact eL h W
   .refine o5 ?_;refine e6<|e6<|l7 ?_;have h:=xL hx9 h;exact eJ h W
theorem Fq{a0}:PO Tryz.prog 121 [.I a0] (tt a0) λr=>.L g5.Pv r:=by
 refine pO Tryz.func121 λr h _ _=>?_;refine S4 1 J<|k9<|S3 3 J<|m8 J (λhg=>mI J)<|m8 J (λhg=>B2 (ct hg) J J)<|y0 J (I7 J J J (λq=>kr q))<|yN ?_;refine cN h (λhc h=>?_) λhc h=>?_
 .refine S4 1 J ?_;refine c5 ?_;cases h;exact f1
 .refine c7 ?_;refine S3 1 J<|w7 h λv1 hv1 h=>y1 J (Bg (f:=g5.Pv) hv1 J J J bo cr xn II J J J) J<|S2 1 J<|c5 ?_;cases h;exact f1
theorem nu{a0}:PO Tryz.prog 202 [.I a0] (dd a0) λr=>g7.Pv r:=by
 refine pO Tryz.func202 λr h _ _=>?_;unfold dd at h;refine S4 1 J<|S3 1 J<|y0 J (p6 (cs:=[.nl,.I a0]) J MI MP J J J)<|iX (x':=.agg [.nl,.I a0]) (cl':=true) J J (.inl J) cW<|yN<|c5 ?_;cases h;exact⟨J,[_],⟨oL J J J jE cW nl J,tr⟩,J,io⟩
theorem wv:PO Tryz.prog 122 [] (Az) λr=>g7.Pv r:=by
 refine pO Tryz.func122 λr h _ _=>?_;refine S4 1 J<|sR<|cF h nu J J λv1 _ h=>S2 1 J<|c5 ?_;cases h;exact⟨J,[_],⟨oL J J J jE cW nl J,tr⟩,J,io⟩
theorem Ft{a0 a1 a2}:PO Tryz.prog 63 [.I a0,.I a1,.I a2] (lO a0 a1 a2) λr=>b9.Pv r:=by
 refine pO Tryz.func63 λr h _ _=>?_;refine S4 1 J<|k9<|S3 3 J<|m8 J (λhg=>mI J)<|m8 J (λhg=>B2 (ct hg) J J)<|y0 J (I7 J J J (λq=>kr q))<|S1 1 J<|m8 J (λhg=>mI J)<|m8 J (λhg=>B2 (ct hg) J J)<|y0 J (I7 J J J (λq=>kr q))<|S1 1 J<|m8 J (λhg=>mI J)<|m8 J (λhg=>B2 (ct hg) J J)<|y0 J (I7 J J J (λq=>kr q))<|S1 1 J<|m8 J (λhg=>mI J)<|m8 J (λhg=>B2 (ct hg) J J)<|y0 J (I7 J J J (λq=>kr q))<|S1 1 J<|m8 J (λhg=>mI J)<|m8 J (λhg=>B2 (ct hg) J J)<|y0 J (I7 J J J (λq=>kr q))<|yN ?_;refine cN h (λhc h=>?_) λhc h=>?_
 .refine sR ?_;refine y0 J (p6 (cs:=[.nl,.I 0,.I 0,.nl,.nl,.nl,.nl,.I 0]) J MJ MQ J J J)<|iX (x':=.agg [.nl,.I 0,.I 0,.nl,.nl,.nl,.nl,.I 0]) (cl':=true) J J (.inl J) p8<|yN<|c5 ?_;cases h;exact⟨J,[_],⟨oL J J J u5 p8 nl J,tr⟩,J,io⟩
 .refine c7 ?_;refine dr [] r9 (by kernel_rfl) (by kernel_rfl)<|S7 2 J<|w7 h λv1 hv1 h=>cY J (u4 J Ec J hv1) J<|w7 h λv2 hv2 h=>d1 J (Bg (f:=iF) hv2 J J J l6 o6 B9 Q0 J J J) J J J<|w7 h λv3 hv3 h=>cY J (u4 J wE J hv3) J<|S7 1 J<|w7 h λv4 hv4 h=>cY J (u4 J Fq J hv4) J<|w7 h λv5 hv5 h=>cY J (u4 J wv J hv5) J<|d7 J (λ_ hN=>p6 (cs:=[.L c8.Pv v1.S.b7,.I v1.S.Last,.I v1.Serial,.sl 33,.L j5.Pv v3,.L g5.Pv v4,.L g6.Pv v5.L,.I v5.Cap]) J MJ MQ J J J) J<|C0 (x':=.agg [.L c8.Pv v1.S.b7,.I v1.S.Last,.I v1.Serial,.sl 33,.L j5.Pv v3,.L g5.Pv v4,.L g6.Pv v5.L,.I v5.Cap]) (cl':=false) J J (.inr J) p8<|I6<|c5 ?_;cases h;exact⟨J,[_],⟨oL J J J u5 p8 nl J,tr⟩,J,io⟩
theorem ly{a0 a1 a2 a3}:PO Tryz.prog 26 [.I a0,.I a1,.I a2,.L (Ls k8.Pv) a3] (X7 a0 a1 a2 a3) λr=>.tup [n9.Pv r.1,.I r.2]:=by
 refine pO Tryz.func26 λr h _ _=>?_;refine S4 2 J<|k9<|S3 1 J<|cA h Ba J J λv1 _ h=>S2 1 J ?_;refine cN h (λhc h=>?_) λhc h=>?_
 .refine sR ?_;refine y0 J (p6 (cs:=[.nl,.I 0,.I 0,.nl,.nl,.nl,.nl,.I 0,.nl]) J GY GZ J J J)<|iX (x':=.agg [.nl,.I 0,.I 0,.nl,.nl,.nl,.nl,.I 0,.nl]) (cl':=true) J J (.inl J) bK<|S2 1 J<|c5 ?_;cases h;exact⟨J,[_,_],⟨oL J J J lj bK nl J,⟨J,tr⟩⟩,J,io⟩
 .refine c7 ?_;refine S3 3 J<|cF h Ft J J λv2 _ h=>S2 2 J<|k9<|S3 2 J<|nL J l6<|S2 1 J ?_;refine cN h (λhc h=>?_) λhc h=>?_
  .refine sR ?_;refine y0 J (p6 (cs:=[.nl,.I 0,.I 0,.nl,.nl,.nl,.nl,.I 0,.nl]) J GY GZ J J J)<|iX (x':=.agg [.nl,.I 0,.I 0,.nl,.nl,.nl,.nl,.I 0,.nl]) (cl':=true) J J (.inl J) bK<|S2 1 J<|c5 ?_;cases h;exact⟨J,[_,_],⟨oL J J J lj bK nl J,⟨J,tr⟩⟩,J,io⟩
  .refine c7 ?_;refine S3 2 J<|y0 J (p6 (cs:=[.L c8.Pv v2.S.S.b7,.I v2.S.S.Last,.I v2.S.Serial,.L iF v2.Roots,.L j5.Pv v2.b7,.L g5.Pv v2.T,.L g6.Pv v2.Q.L,.I v2.Q.Cap,.L (Ls k8.Pv) a3]) J GY GZ J J J)<|S2 2 J<|c5 ?_;cases h;exact⟨J,[_,_],⟨oL J J J lj bK nl J,⟨J,tr⟩⟩,J,io⟩
theorem tN{a0 a1 a2 a3}:PO Tryz.prog 13 [.I a0,.I a1,.I a2,.L (Ls k8.Pv) a3] (eH a0 a1 a2 a3) λr=>.tup [a8.Pv r.1,.I r.2]:=by
 refine pO Tryz.func13 λr h _ _=>?_;refine S4 2 J<|k9<|S3 4 J<|cF h ly J J λv1 _ h=>S2 6 J<|S4 2 J ?_;refine cN h (λhc h=>?_) λhc h=>?_
 .refine sR ?_;refine y0 J (p6 (cs:=[.nl,.nl,.nl,.I 0,.I 0,.I 0,.nl,.nl,.nl,.nl,.nl]) J MF ML J J J)<|S1 1 J<|iX (x':=.agg [.nl,.nl,.nl,.I 0,.I 0,.I 0,.nl,.nl,.nl,.nl,.nl]) (cl':=true) J J (.inl J) u7<|S2 1 J<|c5 ?_;cases h;exact⟨J,[_,_],⟨oL J J J A1 u7 nl J,⟨J,tr⟩⟩,J,io⟩
 .refine c7 ?_;refine dr [] r9 (by kernel_rfl) (by kernel_rfl)<|S7 1 J<|w7 h λv2 hv2 h=>d1 J (Bg (f:=iF) hv2 J J J l6 o6 B9 Q0 J J J) J J J<|S7 1 J<|d1 J (Bg (f:=iF) hv2 J J J l6 o6 B9 Q0 J J J) J J J<|S7 2 J<|w7 h λv3 hv3 h=>d1 J (Bg (f:=iF) hv3 J J J l6 o6 B9 Q0 J J J) J J J<|w7 h λv4 hv4 h=>cY J (u4 J wE J hv4) J<|S7 1 J<|d7 J (λ_ hN=>p6 (cs:=[.nl,.sl 25,.sl 27,.I a1,.I a2,.I 0,.sl 30,.L j5.Pv v4,.nl,.nl,.L (Ls k8.Pv) a3]) J MF ML J J J) J<|C0 (x':=.agg [.nl,.sl 25,.sl 27,.I a1,.I a2,.I 0,.sl 30,.L j5.Pv v4,.nl,.nl,.L (Ls k8.Pv) a3]) (cl':=false) J J (.inl J) u7<|S8 1 J<|c5 ?_;cases h;exact⟨J,[_,_],⟨oL J J J A1 u7 nl J,⟨J,tr⟩⟩,J,io⟩
theorem oM{a0}:PO Tryz.prog 50 [.L iF a0] (V6 a0) λr=>.tup [k8.Pv r.1,.I r.2]:=by
 refine pO Tryz.func50 λr h _ _=>?_;refine S4 2 J<|k9<|S3 1 J<|nL J l6<|S2 1 J ?_;refine cN h (λhc h=>?_) λhc h=>?_
 .refine sR ?_;refine y0 J (p6 (cs:=[.I 0,.I 0,.I 0,.I 0]) J xj sC J J J)<|S2 2 J<|c5 ?_;cases h;exact⟨J,[_,_],⟨oL J J J xi iZ nl J,⟨J,tr⟩⟩,J,io⟩
 .refine c7 ?_;refine dr [] r9 (by kernel_rfl) (by kernel_rfl)<|S7 1 J<|w7 h λv1 hv1 h=>d0 J (J5 (f:=iF) (cs:=[.I v1]) hv1 J J l6 o6 J J) J<|S7 2 J<|w7 h λv2 hv2 h=>d0 J (J5 (f:=iF) (cs:=[.I v2]) hv2 J J l6 o6 J J) J<|S7 2 J<|w7 h λv3 hv3 h=>d0 J (J5 (f:=iF) (cs:=[.I v3]) hv3 J J l6 o6 J J) J<|S7 2 J<|w7 h λv4 hv4 h=>d0 J (J5 (f:=iF) (cs:=[.I v4]) hv4 J J l6 o6 J J) J<|S7 1 J<|d7 J (λ_ hN=>p6 (cs:=[.I v1,.I v2,.I v3,.I v4]) J xj sC J J J) J<|S7 1 J<|C0 (x':=.agg [.I v1,.I v2,.I v3,.I v4]) (cl':=true) J J (.inl J) iZ<|I6<|k9<|S3 1 J<|cA h ll J J λv5 _ h=>S2 1 J<|S4 2 J ?_;refine cN h (λhc h=>?_) λhc h=>?_
  .refine sR ?_;refine y0 J (p6 (cs:=[.I 0,.I 0,.I 0,.I 0]) J xj sC J J J)<|S2 3 J<|c5 ?_;cases h;exact⟨J,[_,_],⟨oL J J J xi iZ nl J,⟨J,tr⟩⟩,J,io⟩
  .refine c7 ?_;refine S4 3 J<|c5 ?_;cases h;exact⟨J,[_,_],⟨oL J J J xi iZ nl J,⟨J,tr⟩⟩,J,io⟩
theorem rL{a0}:PO Tryz.prog 145 [b8.Pv a0] (iG a0) λr=>.bool r:=by
 refine pO Tryz.func145 λr h _ _=>?_;unfold iG at h;refine S4 2 J<|S4 3 J<|c5 ?_;cases h;exact f1
theorem au{a0}:PO Tryz.prog 60 [.L b8.Pv a0,.fn (.func 145) []] (D0 a0) λr=>.L b8.Pv r:=by
 refine pO Tryz.func60 λr h _ _=>?_;refine S4 1 J<|S4 1 J ?_;refine jq h (λj15=>St.of [(5,.sl 910005)] [(910005,⟨List.map b8.Pv j15,(List.map b8.Pv j15).length,true,7,true⟩)]) (λj15 h=>?_) λκ14 h=>?_
 .refine S4 2 J ?_;refine c5 ?_;cases h;exact f1
 .refine S3 1 J ?_;refine nL J B7<|S2 1 J<|g9<|lq h (λq=>St.of [(1,.fn (.func 145) []),(5,.sl 910005),(8,.L b8.Pv a0),(9,.I (a0.length:Int)),(10,.I q.1)] [(910005,⟨List.map b8.Pv q.2,(List.map b8.Pv q.2).length,true,7,true⟩)]) (Wk.trans (E7 (t:=5) (l:=920005) (z:=7) J J) (WP (λl=>if l=910005 then 920005 else l))) λq20 x19 h hx14=>?_;obtain⟨s17,s18⟩:=q20;refine S4 1 J<|k9 ?_;refine cN h (λhc h=>?_) λhc h=>?_
  .refine c7 ?_;refine jq h (λj25=>St.of [(1,.fn (.func 145) []),(5,.sl 20),(8,.L b8.Pv a0),(9,.I (a0.length:Int)),(10,.I s17)] [(20,⟨List.map b8.Pv j25,(List.map b8.Pv j25).length,true,7,true⟩)]) (λj25 h=>?_) λκ24 h=>?_
   .refine S6 2 J ?_;exact eL h (Wk.trans (m9 _ [20]) (WP (λl=>if l=910005 then 20 else l)))
   .refine g9 ?_;refine sR<|iL h J J B7 w8 λv26 _ h=>S2 3 J<|S3 2 J<|cA h rL J J λv27 _ h=>yN ?_;refine cN h (λhc h=>?_) λhc h=>?_
    .refine S5 2 J ?_;refine y0 J (H6 (f:=b8.Pv) (l:=[v26]) J B7 w8 aB J J nl J J)<|w7 h λv28 hv21 h=>J2 J (H0 (f:=b8.Pv) hv21 J J J J J J (.inl ⟨_,J,J⟩) B7 w8 mK aB J (λ_=>J)) J J J<|S2 1 J ?_;exact eJ h (Wk.trans (m9 _ [20]) W)
    .refine c7 ?_;exact eJ h (Wk.trans (m9 _ [910005]) (WP (λl=>if l=20 then 910005 else l)))
  .refine o5 ?_;refine e6<|e6<|l7 ?_;have h:=xL hx14 h;exact eJ h (Wk.trans (m9 _ [910005]) W)
theorem rM{a0}:PO Tryz.prog 118 [b8.Pv a0] (iI a0) λr=>.I r:=by
 refine pO Tryz.func118 λr h _ _=>?_;unfold iI at h;refine S4 2 J<|S4 3 J<|c5 ?_;cases h;exact f1
theorem W0{a0}:PO Tryz.prog 117 [.L b8.Pv a0,.fn (.func 118) []] (B6 a0) λr=>.L iF r:=by
 refine pO Tryz.func117 λr h _ _=>?_;refine S4 1 J<|S4 1 J ?_;refine jq h (λj10=>St.of [(5,.sl 910005)] [(910005,⟨List.map iF j10,(List.map iF j10).length,true,1,true⟩)]) (λj10 h=>?_) λκ9 h=>?_
 .refine S4 2 J ?_;refine c5 ?_;cases h;exact f1
 .refine S3 1 J ?_;refine nL J B7<|S2 1 J<|g9<|lq h (λq=>St.of [(1,.fn (.func 118) []),(5,.sl 910005),(8,.L b8.Pv a0),(9,.I (a0.length:Int)),(10,.I q.1)] [(910005,⟨List.map iF q.2,(List.map iF q.2).length,true,1,true⟩)]) (Wk.trans (E7 (t:=5) (l:=920005) (z:=1) J J) (WP (λl=>if l=910005 then 920005 else l))) λq15 x14 h hx10=>?_;obtain⟨s12,s13⟩:=q15;refine S4 1 J<|k9 ?_;refine cN h (λhc h=>?_) λhc h=>?_
  .refine c7 ?_;refine k9<|g9<|sR<|iL h J J B7 w8 λv16 _ h=>S2 3 J<|S5 3 J<|cA h rM J J λv17 _ h=>y0 J (H6 (f:=iF) (l:=[v17]) J l6 o6 B9 J J nl J J)<|w7 h λv18 hv13 h=>J2 J (H0 (f:=iF) hv13 J J J J J J (.inl ⟨_,J,J⟩) l6 o6 Q0 B9 J (λ_=>J)) J J J<|S2 1 J<|S6 2 J ?_;exact eL h (Wk.trans (m9 _ [19]) (WP (λl=>if l=910005 then 19 else l)))
  .refine o5 ?_;refine e6<|e6<|l7 ?_;have h:=xL hx10 h;exact eJ h (Wk.trans (m9 _ [910005]) W)
theorem cI{a0}:PO Tryz.prog 59 [.L b8.Pv a0] (J4 a0) λr=>.L iF r:=by
 refine pO Tryz.func59 λr h _ _=>?_;refine S4 1 J<|S3 1 J<|cF h W0 J J λv1 _ h=>S2 1 J<|c5 ?_;cases h;exact f1
theorem mb{a0}:PO Tryz.prog 146 [.I a0] (bg a0) λr=>c9.Pv r:=by
 refine pO Tryz.func146 λr h _ _=>?_;unfold bg at h;refine S4 1 J<|S3 1 J<|y0 J (p6 (cs:=[.nl,.I a0]) J QU Ri J J J)<|iX (x':=.agg [.nl,.I a0]) (cl':=true) J J (.inl J) kH<|yN<|c5 ?_;cases h;exact⟨J,[_],⟨oL J J J pS kH nl J,tr⟩,J,io⟩
theorem cK{a0}:PO Tryz.prog 115 [a8.Pv a0] (X8 a0) λr=>g7.Pv r:=by
 refine pO Tryz.func115 λr h _ _=>?_;unfold X8 at h;refine S4 2 J<|dr [] r9 (by kernel_rfl) (by kernel_rfl)<|S7 2 J<|w7 h λv1 hv1 h=>cY J (u4 J wv J hv1) J<|S7 1 J<|d7 J (λ_ hN=>p6 (cs:=[.L g6.Pv a0.Tasks,.I v1.Cap]) J MI MP J J J) J<|C0 (x':=.agg [.L g6.Pv a0.Tasks,.I v1.Cap]) (cl':=true) J J (.inr J) cW<|I6<|c5 ?_;cases h;exact⟨J,[_],⟨oL J J J jE cW nl J,tr⟩,J,io⟩
theorem AA{a0 a1}:PO Tryz.prog 199 [g7.Pv a0,.I a1] (qs a0 a1) λr=>.fn (.func 277) [.rptr (g7.Pc r.1),.rptr [.I r.2]]:=by
 refine pO Tryz.func199 λr h _ _=>?_;unfold qs at h;refine S4 3 J<|S4 2 J<|c5 ?_;cases h;exact f1
theorem uD{a0}:PO Tryz.prog 114 [g7.Pv a0] (gy a0) λr=>.L iF r:=by
 refine pO Tryz.func114 λr h _ _=>?_;refine S4 2 J<|S4 1 J ?_;refine jq h (λj10=>St.of [(3,.ptr 2001 0 0)] [(2001,vS (.sl 912501) 1),(912501,⟨List.map iF j10,(List.map iF j10).length,true,1,true⟩)]) (λj10 h=>?_) λκ9 h=>?_
 .refine S4 2 J ?_;refine c5 ?_;cases h;exact f1
 .refine S3 1 J ?_;refine cF h AA J J λv11 _ h=>yN<|g9<|bW (sq (λl=>if l=2011 then 3 else l) [(3,.ptr 2011 0 0),(6,.fn (.func 277) [.rptr (g7.Pc v11.1),.rptr [.I v11.2]])] [(2011,vR (.nl) 1)]) ?_;refine bV (fn:=Tryz.f277) (N1:=24) J Tryz.func277 J J nl J IK J J (λl17 e18 o19 hR20=>?_);refine S3 2 J<|nL J I2<|S2 1 J<|g9<|lq h (λq=>St.of [(1000003,.ptr 2011 0 0),(1000006,.fn (.func 277) [.rptr (g7.Pc v11.1),.rptr [.I v11.2]]),(0,.fn (.yield l17) []),(2,.rptr [.I v11.2]),(7,.L g6.Pv v11.1.L),(8,.I (v11.1.L.length:Int)),(9,.I q.1)] [(2011,vS (.sl 912511) 1),(912511,⟨List.map iF q.2,(List.map iF q.2).length,true,1,true⟩)]) (Wk.trans (qB (l0:=2011) (j:=0) (l:=922511) (z:=1) J J J J J) (WP (λl=>if l=912511 then 922511 else l))) λq16 x15 h hx23=>?_;obtain⟨s13,s14⟩:=q16;refine S4 1 J<|k9 ?_;refine cN h (λhc h=>?_) λhc h=>?_
  .refine c7 ?_;refine k9<|g9<|sR<|iL h J J I2 C8 λv17 _ h=>S2 3 J<|S3 5 J<|m8 J (λhg=>om (d:=.fn (.yield l17) []) J)<|m8 J (λhg=>oL J J J cp C8 nl J) ?_;rcases zau ((v17.Kind==v11.2)==true) with hg25 | hg25
   .have h:=Uc h hg25;refine O8 (sq (λl=>if l=2019 then 912511 else l) [(1000003,.ptr 2011 0 0),(1000006,.fn (.func 277) [.rptr (g7.Pc v11.1),.rptr [.I v11.2]]),(0,.fn (.yield l17) []),(2,.rptr [.I v11.2]),(7,.L g6.Pv v11.1.L),(8,.I (v11.1.L.length:Int)),(9,.I s13),(17,.bool (v17.Kind==v11.2)),(18,.fn (.yield l17) []),(19,g6.Pv v17)] [(2011,vS (.sl 2019) 1),(2019,⟨List.map iF s14,(List.map iF s14).length,true,1,true⟩)]) ?_;refine js hR20 (wd some hg25) J J J J J (λe26 o27 o28=>?_);refine S6 2 J ?_;refine⟨J,?_⟩;refine g9<|S5 3 J<|y0 J (H6 (f:=iF) (l:=[v17.At]) J l6 o6 B9 J J nl J J)<|w7 h λv18 hv29 h=>J2 J (H0 (f:=iF) hv29 J J J J J J (.inl ⟨_,J,J⟩) l6 o6 Q0 B9 J (λ_=>J)) J J J<|S2 1 J ?_;refine⟨J,?_⟩;refine O8 (sq (λl=>if l=2020 then 12 else l) [(1000003,.ptr 2011 0 0),(1000006,.fn (.func 277) [.rptr (g7.Pc v11.1),.rptr [.I v11.2]]),(0,.fn (.yield l17) []),(2,.rptr [.I v11.2]),(7,.L g6.Pv v11.1.L),(8,.I (v11.1.L.length:Int)),(9,.I s13),(17,.bool (v17.Kind==v11.2)),(20,.bool true)] [(2011,vS (.sl 2020) 1),(2020,⟨List.map iF v18,s14.length,true,1,true⟩)])<|y0 (wd some hg25) (dA J J)<|y0 J (kZ J J hg25)<|yN ?_;refine H3 false J (λq=>nomatch q) (λ_=>?_);refine c7<|S6 2 J ?_;exact eL h (Wk.trans (m9 _ [2020]) (WP (λl=>if l=912511 then 2020 else l)))
   .have h:=Ub h hg25;refine dj (wd some hg25)<|dj (wd some hg25)<|y0 J (nq J J hg25)<|yN ?_;refine H3 false J (λq=>nomatch q) (λ_=>?_);refine c7<|S6 2 J ?_;exact eL h (Wk.trans (m9 _ [912511]) W)
  .refine o5 ?_;refine e6<|e6<|l7 ?_;refine .inl ⟨J,?_⟩;have h:=xL hx23 h;exact eJ h (Wk.trans (m9 _ [912511]) (WP (λl=>if l=2001 then 2011 else if l=912501 then 912511 else l)))
theorem dE{a0}:PO Tryz.prog 116 [.L (Ls iF) a0] (G3 a0) λr=>.L iF r:=by
 refine pO Tryz.func116 λr h _ _=>?_;refine S4 1 J<|S4 1 J ?_;refine jq h (λj11=>St.of [(0,.L (Ls iF) a0),(3,.I j11)] []) (λj11 h=>?_) λκ10 h=>?_
 .refine S3 1 J ?_;refine O8 (WE [(0,.L (Ls iF) a0),(23,.I j11)] []) ?_;refine uQ (fn:=Tryz.f200) (N1:=27) J J Tryz.func200 J QA J J nl (λe8 o9=>?_);refine S4 1 J ?_;refine jq h (λ_=>St.of [(1000000,.L (Ls iF) a0),(1000023,.I j11),(0,.nl),(1,.I j11)] []) (λq13 h=>?_) λκ12 h=>?_
  .refine k9 ?_;refine S3 2 J<|KG J J l6<|S1 1 J<|nL (f:=iF) (xs:=[]) J l6<|S2 3 J<|S4 2 J ?_;refine cN h (λhc h=>?_) λhc h=>?_
   .refine S5 2 J ?_;refine KG J J l6<|y0 J (xy (t':=true) (xs:=[]) (ys:=[]) J l6 o6 (λ_ q=>nomatch q) J ⟨_,J⟩ J (λq=>nomatch q) (zF _) (zX _) (zF _) J J)<|S1 1 J<|w7 h λv14 hv11 h=>Uu (f:=iF) J hv11 J nl J J l6 I5 o6 nl B9 Q0 J J J<|S1 1 J<|nL (f:=iF) (xs:=[]) J l6<|PY [(1000000,.L (Ls iF) a0),(1000023,.I j11),(0,.nl),(1,.I (w9 (j11-(w9 (0-0))))),(8,.I j11),(9,.nl),(10,.I 0),(11,.nl),(12,.I 0),(13,.I (w9 (0-0))),(14,.I (w9 (j11-(w9 (0-0))))),(15,.I (w9 (j11-(w9 (0-0))))),(16,.bool (decide ((w9 (j11-(w9 (0-0)))) > 0))),(17,.nl),(18,.nl),(19,.I 0),(20,.nl),(21,.I (w9 (j11-(w9 (0-0))))),(23,.nl),(24,.I 0)] [] J ⟨J,J,J,J,J,J,J,J,J,J,J,J,J,J,J,J,J,J,J,J,J,J,J,J,J,J,J,J,J,J,J,J,J,J,J,J,J,J,J,J,J,J,J,J,J,J,J,J,J,J,J,J,J,J,J,J,J,J,J,J,tr⟩ tr J J nl J J J l6 o6<|S2 1 J<|S4 2 J<|c5 ?_;refine⟨J,[.sl 25],⟨J,tr⟩,?_⟩;refine O8 (sq (λl=>if l=2001 then 25 else l) [(0,.L (Ls iF) a0),(24,.sl 2001)] [(2001,⟨List.map iF [],0,true,1,true⟩)])<|S2 1 J ?_;refine jq h (λj23=>St.of [(6,.sl 2001)] [(2001,⟨List.map iF j23,(List.map iF j23).length,true,1,true⟩)]) (λj23 h=>?_) λκ22 h=>?_
    .refine S4 2 J ?_;refine c5 ?_;cases h;exact f1
    .refine S3 1 J ?_;refine nL J X4<|S2 1 J<|g9<|lq h (λq=>St.of [(6,.sl 2001),(25,.L (Ls iF) a0),(26,.I (a0.length:Int)),(27,.I q.1)] [(2001,⟨List.map iF q.2,(List.map iF q.2).length,true,1,true⟩)]) (Wk.trans (m9 _ [2001]) W) λq28 x27 h hx20=>?_;obtain⟨s25,s26⟩:=q28;refine S4 1 J<|k9 ?_;refine cN h (λhc h=>?_) λhc h=>?_
     .refine c7 ?_;refine k9<|g9<|sR<|iL h J J X4 aA λv29 _ h=>S2 2 J<|S5 2 J<|w7 h λv30 hv22 h=>J2 J (H0 (f:=iF) hv22 J J J J J J (.inl ⟨_,J,J⟩) l6 o6 Q0 B9 J (λ_=>J)) J J J<|S2 1 J<|S6 2 J ?_;exact eL h (Wk.trans (m9 _ [33]) (WP (λl=>if l=2001 then 33 else l)))
     .refine o5 ?_;refine e6<|e6<|l7 ?_;have h:=xL hx20 h;exact eJ h (Wk.trans (m9 _ [2001]) W)
   .refine c7 ?_;refine S4 2 J<|c5 ?_;refine⟨J,[.nl],⟨J,tr⟩,?_⟩;refine O8 (WE [(0,.L (Ls iF) a0),(24,.nl)] [])<|S2 1 J ?_;refine jq h (λj39=>St.of [(6,.sl 910006)] [(910006,⟨List.map iF j39,(List.map iF j39).length,true,1,true⟩)]) (λj39 h=>?_) λκ38 h=>?_
    .refine S4 2 J ?_;refine c5 ?_;cases h;exact f1
    .refine S3 1 J ?_;refine nL J X4<|S2 1 J<|g9<|lq h (λq=>St.of [(6,.sl 910006),(25,.L (Ls iF) a0),(26,.I (a0.length:Int)),(27,.I q.1)] [(910006,⟨List.map iF q.2,(List.map iF q.2).length,true,1,true⟩)]) (Wk.trans (E7 (t:=6) (l:=920006) (z:=1) J J) (WP (λl=>if l=910006 then 920006 else l))) λq44 x43 h hx31=>?_;obtain⟨s41,s42⟩:=q44;refine S4 1 J<|k9 ?_;refine cN h (λhc h=>?_) λhc h=>?_
     .refine c7 ?_;refine k9<|g9<|sR<|iL h J J X4 aA λv45 _ h=>S2 2 J<|S5 2 J<|w7 h λv46 hv33 h=>J2 J (H0 (f:=iF) hv33 J J J J J J (.inl ⟨_,J,J⟩) l6 o6 Q0 B9 J (λ_=>J)) J J J<|S2 1 J<|S6 2 J ?_;exact eL h (Wk.trans (m9 _ [33]) (WP (λl=>if l=910006 then 33 else l)))
     .refine o5 ?_;refine e6<|e6<|l7 ?_;have h:=xL hx31 h;exact eJ h (Wk.trans (m9 _ [910006]) W)
  .refine S4 2 J ?_;refine cN h (λhc h=>?_) λhc h=>?_;·cases h
   .refine c7 ?_;exact eJ h W
 .refine S3 1 J ?_;refine nL J X4<|S2 1 J<|g9<|lq h (λq=>St.of [(0,.L (Ls iF) a0),(3,.I q.1),(9,.L (Ls iF) a0),(10,.I (a0.length:Int)),(11,.I q.2)] []) W λq51 x50 h hx36=>?_;obtain⟨s48,s49⟩:=q51;refine S4 1 J<|k9 ?_;refine cN h (λhc h=>?_) λhc h=>?_
  .refine c7 ?_;refine jq h (λj54=>St.of [(0,.L (Ls iF) a0),(3,.I j54),(9,.L (Ls iF) a0),(10,.I (a0.length:Int)),(11,.I s49)] []) (λj54 h=>?_) λκ53 h=>?_
   .refine S6 2 J ?_;exact eL h W
   .refine g9 ?_;refine sR<|iL h J J X4 aA λv55 _ h=>S2 2 J<|S3 2 J<|nL J l6<|S2 2 J<|S4 2 J ?_;refine cN h (λhc h=>?_) λhc h=>?_;·cases h
    .refine c7 ?_;exact eJ h W
  .refine o5 ?_;refine e6<|e6<|l7 ?_;have h:=xL hx36 h;exact eJ h W
theorem T0{a0}:PO Tryz.prog 149 [c9.Pv a0] (I1 a0) λr=>.I r:=by
 refine pO Tryz.func149 λr h _ _=>?_;unfold I1 at h;refine S4 2 J<|S3 2 J<|nL J l6<|S2 1 J<|c5 ?_;cases h;exact f1
theorem fE{a0 a1 a2}:PO Tryz.prog 258 [.L iF a0,.I a1,.I a2] (T9 a0 a1 a2) λr=>.lst true (List.map iF r):=by
 refine pO Tryz.func258 λr h _ _=>?_;unfold T9 at h;refine S4 1 J<|S3 4 J<|w7 h λv1 hv1 h=>y0 J (OA (f:=iF) hv1 J ⟨_,J⟩ ⟨_,J⟩ ⟨_,J⟩ J J l6 o6 (λ_=>J))<|S2 1 J<|c5 ?_;cases h;exact f1
theorem W4{a0 a1}:PO Tryz.prog 148 [c9.Pv a0,.I a1] (D8 a0 a1) λr=>.tup [c9.Pv r.1,.I r.2]:=by
 refine pO Tryz.func148 λr h _ _=>?_;unfold D8 at h;refine S4 3 J<|k9<|dr [] r9 (by kernel_rfl) (by kernel_rfl)<|S7 1 J<|w7 h λv1 hv1 h=>d2 J (P4 J T0 J hv1) J<|S8 3 J ?_;refine cN h (λhc h=>?_) λhc h=>?_
 .refine S4 3 J ?_;refine c5 ?_;cases h;exact⟨J,[_,_],⟨oL J J J pS kH nl J,⟨J,tr⟩⟩,J,io⟩
 .refine c7 ?_;refine dr [] r9 (by kernel_rfl) (by kernel_rfl)<|S7 3 J<|d2 J (P4 J T0 J hv1) J<|w7 h λv2 hv2 h=>cY J (u4 J fE J hv2) J<|S7 1 J<|Vk J (H6 (f:=iF) (l:=[a1]) J l6 o6 B9 J J nl J J) J<|w7 h λv3 hv3 h=>d3 J (yW (f:=iF) hv3 J J (.inl ⟨_,J,J⟩) l6 o6 Q0 B9 J (λ_=>J)) J J J<|S7 1 J<|C0 (x':=.agg [.sl 19,.I a0.Cap]) (cl':=false) J J (.inl J) aA<|I6<|S4 3 J<|c5 ?_;cases h;exact⟨J,[_,_],⟨oL J J J pS kH nl J,⟨J,tr⟩⟩,J,io⟩
theorem rX{a0 a1}:PO Tryz.prog 259 [c9.Pv a0,.I a1] (iM a0 a1) λr=>.tup [c9.Pv r.1,.L iF r.2]:=by
 refine pO Tryz.func259 λr h _ _=>?_;refine S4 3 J<|S3 2 J<|cA h T0 J J λv1 hv1 h=>y0 J (Uj J J J)<|y0 J (OB J J J)<|S2 1 J<|S3 3 J<|cF h fE J J λv2 _ h=>S2 1 J<|dr [] r9 (by kernel_rfl) (by kernel_rfl)<|S7 4 J<|d2 J (P4 J T0 J hv1) J<|w7 h λv3 hv3 h=>cY J (u4 J fE J hv3) J<|S7 1 J<|C0 (x':=.agg [.L iF v3,.I a0.Cap]) (cl':=true) J J (.inr J) aA<|I6<|S4 4 J<|c5 ?_;cases h;exact⟨J,[_,_],⟨oL J J J pS kH nl J,⟨J,tr⟩⟩,J,io⟩
theorem md{a0}:PO Tryz.prog 150 [c9.Pv a0] (X9 a0) λr=>.tup [c9.Pv r.1,.I r.2.1,.I r.2.2]:=by
 refine pO Tryz.func150 λr h _ _=>?_;refine S4 4 J<|S3 1 J<|cF h rX J J λv1 _ h=>S2 6 J<|k9<|S3 1 J<|nL J l6<|S2 1 J ?_;refine cN h (λhc h=>?_) λhc h=>?_
 .refine S4 1 J ?_;refine S4 5 J<|c5 ?_;cases h;exact⟨J,[_,_,_],⟨oL J J J pS kH nl J,⟨J,⟨J,tr⟩⟩⟩,J,io⟩
 .refine c7 ?_;refine dr [2,3] r9 (by kernel_rfl) (by kernel_rfl)<|S7 2 J<|w7 h λv2 hv2 h=>d7 J (λ_ hN=>J5 (f:=iF) (cs:=[.I v2]) hv2 J J l6 o6 J J) J<|d7 J (λ_ hN=>W2 J K1 J) J<|C0 (x':=c9.Pv v1.1) (cl':=true) J J (.inr J) kH<|S8 2 J<|c5 ?_;cases h;exact⟨J,[_,_,_],⟨oL J J J pS kH nl J,⟨J,⟨J,tr⟩⟩⟩,J,io⟩
theorem wY{a0 a1}:PO Tryz.prog 260 [b8.Pv a0,.rptr [.I a1]] (fy a0 a1) λr=>.bool r:=by
 refine pO Tryz.func260 λr h _ _=>?_;unfold fy at h;refine S4 2 J<|S4 5 J<|c5 ?_;cases h;exact f1
theorem P9{a0 a1}:PO Tryz.prog 157 [.L b8.Pv a0,.fn (.func 260) [.rptr [.I a1]]] (z7 a0 a1) λr=>.I r:=by
 refine pO Tryz.func157 λr h _ _=>?_;refine S4 1 J ?_;refine jq h (λ_=>St.of [] []) (λq7 h=>?_) λκ6 h=>?_
 .refine S4 1 J ?_;refine c5 ?_;cases h;exact f1
 .refine S3 1 J ?_;refine nL J B7<|S2 1 J<|g9<|lq h (λs9=>St.of [(0,.L b8.Pv a0),(1,.fn (.func 260) [.rptr [.I a1]]),(7,.I (a0.length:Int)),(8,.I s9)] []) W λs9 x10 h hx9=>S4 1 J<|k9 ?_;refine cN h (λhc h=>?_) λhc h=>?_
  .refine c7 ?_;refine k9<|g9<|S4 2 J<|S3 3 J<|iL h J J B7 w8 λv11 _ h=>S1 1 J<|cA h wY J J λv12 _ h=>yN ?_;refine cN h (λhc h=>?_) λhc h=>?_
   .refine S4 2 J ?_;refine c5 ?_;have h:=xL hx9 h;cases h;exact f1
   .refine c7 ?_;refine S6 2 J ?_;exact eL h W
  .refine o5 ?_;refine e6<|e6<|l7 ?_;have h:=xL hx9 h;exact eJ h W
theorem R7{a0 a1}:PO Tryz.prog 151 [a8.Pv a0,.I a1] (K0 a0 a1) λr=>.I r:=by
 refine pO Tryz.func151 λr h _ _=>?_;refine S4 3 J<|S3 3 J<|cA h P9 J J λv1 _ h=>S2 1 J<|c5 ?_;cases h;exact f1
theorem qG{a0 a1}:PO Tryz.prog 261 [k7.Pv a0,.rptr [.I a1]] (cJ a0 a1) λr=>.bool r:=by
 refine pO Tryz.func261 λr h _ _=>?_;unfold cJ at h;refine S4 2 J<|S4 5 J<|c5 ?_;cases h;exact f1
theorem aa{a0 a1}:PO Tryz.prog 163 [.L k7.Pv a0,.fn (.func 261) [.rptr [.I a1]]] (C5 a0 a1) λr=>.L k7.Pv r:=by
 refine pO Tryz.func163 λr h _ _=>?_;refine S4 1 J<|S4 1 J ?_;refine jq h (λj15=>St.of [(5,.sl 910005)] [(910005,⟨List.map k7.Pv j15,(List.map k7.Pv j15).length,true,2,true⟩)]) (λj15 h=>?_) λκ14 h=>?_
 .refine S4 2 J ?_;refine c5 ?_;cases h;exact f1
 .refine S3 1 J ?_;refine nL J N3<|S2 1 J<|g9<|lq h (λq=>St.of [(1,.fn (.func 261) [.rptr [.I a1]]),(5,.sl 910005),(8,.L k7.Pv a0),(9,.I (a0.length:Int)),(10,.I q.1)] [(910005,⟨List.map k7.Pv q.2,(List.map k7.Pv q.2).length,true,2,true⟩)]) (Wk.trans (E7 (t:=5) (l:=920005) (z:=2) J J) (WP (λl=>if l=910005 then 920005 else l))) λq20 x19 h hx14=>?_;obtain⟨s17,s18⟩:=q20;refine S4 1 J<|k9 ?_;refine cN h (λhc h=>?_) λhc h=>?_
  .refine c7 ?_;refine jq h (λj25=>St.of [(1,.fn (.func 261) [.rptr [.I a1]]),(5,.sl 20),(8,.L k7.Pv a0),(9,.I (a0.length:Int)),(10,.I s17)] [(20,⟨List.map k7.Pv j25,(List.map k7.Pv j25).length,true,2,true⟩)]) (λj25 h=>?_) λκ24 h=>?_
   .refine S6 2 J ?_;exact eL h (Wk.trans (m9 _ [20]) (WP (λl=>if l=910005 then 20 else l)))
   .refine g9 ?_;refine sR<|iL h J J N3 U5 λv26 _ h=>S2 3 J<|S3 2 J<|cA h qG J J λv27 _ h=>yN ?_;refine cN h (λhc h=>?_) λhc h=>?_
    .refine S5 2 J ?_;refine y0 J (H6 (f:=k7.Pv) (l:=[v26]) J N3 U5 aD J J nl J J)<|w7 h λv28 hv21 h=>J2 J (H0 (f:=k7.Pv) hv21 J J J J J J (.inl ⟨_,J,J⟩) N3 U5 pT aD J (λ_=>J)) J J J<|S2 1 J ?_;exact eJ h (Wk.trans (m9 _ [20]) W)
    .refine c7 ?_;exact eJ h (Wk.trans (m9 _ [910005]) (WP (λl=>if l=20 then 910005 else l)))
  .refine o5 ?_;refine e6<|e6<|l7 ?_;have h:=xL hx14 h;exact eJ h (Wk.trans (m9 _ [910005]) W)
theorem qH{a0}:PO Tryz.prog 262 [k7.Pv a0] (gn a0) λr=>.I r:=by
 refine pO Tryz.func262 λr h _ _=>?_;unfold gn at h;refine S4 2 J<|S4 3 J<|c5 ?_;cases h;exact f1
theorem V0{a0}:PO Tryz.prog 112 [.L k7.Pv a0,.fn (.func 262) []] (E3 a0) λr=>.L iF r:=by
 refine pO Tryz.func112 λr h _ _=>?_;refine S4 1 J<|S4 1 J ?_;refine jq h (λj10=>St.of [(5,.sl 910005)] [(910005,⟨List.map iF j10,(List.map iF j10).length,true,1,true⟩)]) (λj10 h=>?_) λκ9 h=>?_
 .refine S4 2 J ?_;refine c5 ?_;cases h;exact f1
 .refine S3 1 J ?_;refine nL J N3<|S2 1 J<|g9<|lq h (λq=>St.of [(1,.fn (.func 262) []),(5,.sl 910005),(8,.L k7.Pv a0),(9,.I (a0.length:Int)),(10,.I q.1)] [(910005,⟨List.map iF q.2,(List.map iF q.2).length,true,1,true⟩)]) (Wk.trans (E7 (t:=5) (l:=920005) (z:=1) J J) (WP (λl=>if l=910005 then 920005 else l))) λq15 x14 h hx10=>?_;obtain⟨s12,s13⟩:=q15;refine S4 1 J<|k9 ?_;refine cN h (λhc h=>?_) λhc h=>?_
  .refine c7 ?_;refine k9<|g9<|sR<|iL h J J N3 U5 λv16 _ h=>S2 3 J<|S5 3 J<|cA h qH J J λv17 _ h=>y0 J (H6 (f:=iF) (l:=[v17]) J l6 o6 B9 J J nl J J)<|w7 h λv18 hv13 h=>J2 J (H0 (f:=iF) hv13 J J J J J J (.inl ⟨_,J,J⟩) l6 o6 Q0 B9 J (λ_=>J)) J J J<|S2 1 J<|S6 2 J ?_;exact eL h (Wk.trans (m9 _ [19]) (WP (λl=>if l=910005 then 19 else l)))
  .refine o5 ?_;refine e6<|e6<|l7 ?_;have h:=xL hx10 h;exact eJ h (Wk.trans (m9 _ [910005]) W)
theorem kX{a0 a1}:PO Tryz.prog 152 [a8.Pv a0,.I a1] (P3 a0 a1) λr=>.L iF r:=by
 refine pO Tryz.func152 λr h _ _=>?_;unfold P3 at h;refine S4 3 J<|S3 3 J<|w7 h λv1 hv1 h=>KH J (u4 J aa J hv1) J<|S2 1 J<|S3 1 J<|cF h V0 J J λv2 _ h=>S2 1 J<|c5 ?_;cases h;exact f1
theorem vx{a0}:PO Tryz.prog 82 [a8.Pv a0] (gM a0) λr=>.abs (U8 (List.map (cu iF PV.bool) r)):=by
 refine pO Tryz.func82 λr h _ _=>?_;refine S4 2 J<|S3 2 J<|cF h au J J λv1 _ h=>cF h cI J J λv2 _ h=>S2 1 J<|sR<|Cr (KT:=Int) (VT:=Bool) (EK:=iF) (E:=PV.bool) 5000012 J J<|ak (es:=[]) (k:=0) (v:=true) (E:=PV.bool) (EK:=iF) (.inr J) J J J J J J Q7 (y5 I5)<|S2 3 J<|S3 2 J<|nL J B7<|cF h mb J J λv3 _ h=>S2 2 J<|S4 2 J<|Zd [] 9 r9 (by kernel_rfl) (by kernel_rfl) (by kernel_rfl) (by kernel_rfl) nl<|S7 4 J<|w7 h λv4 hv4 h=>cY J (u4 J cK J hv4) J<|w7 h λv5 hv5 h=>cY J (u4 J uD J hv5) J<|S7 1 J<|Vk J (H6 (f:=(Ls iF)) (l:=[a0.Roots,v5,v2]) J X4 aA xZ J J nl J J) J<|w7 h λv6 hv6 h=>cY J (u4 J dE J hv6) J<|I6<|DA (sq (λl=>if l=2001 then 5 else if l=2002 then 4 else if l=2003 then 1 else if l=5002004 then 5000012 else l) [(1,.ptr 2003 0 0),(4,.ptr 2002 0 0),(5,.ptr 2001 0 0),(6,.fn (.func 147) [.ptr 2002 0 0,.ptr 2001 0 0]),(19,.fn (.func 147) [.ptr 2002 0 0,.ptr 2001 0 0]),(27,.L iF v6)] [(2001,vR (c9.Pv v3) 2),(2002,vS (.mp 5002004) 1),(5002004,⟨[.mapc (List.map (cu iF PV.bool) (p7 [] 0 true))],0,false,0,false⟩),(2003,vR (a8.Pv a0) 11)]) ?_;refine IC (fn:=Tryz.f147) (N1:=25) J J J Tryz.func147 J Cx J J nl (λe7 o8=>?_);refine Xw h (λq=>St.of [(1000001,.ptr 2003 0 0),(1000004,.ptr 2002 0 0),(1000005,.ptr 2001 0 0),(1000006,.fn (.func 147) [.ptr 2002 0 0,.ptr 2001 0 0]),(1000019,.fn (.func 147) [.ptr 2002 0 0,.ptr 2001 0 0]),(1000027,.L iF v6)] [(2001,vR (c9.Pv q.1) 2),(2002,vS (.mp 5002004) 1),(5002004,⟨[.mapc (List.map (cu iF PV.bool) q.2)],0,false,0,false⟩),(2003,vR (a8.Pv a0) 11)]) (λq24 h=>dup ?_) λκ21 h=>?_
 .obtain⟨j22,j23⟩:=q24;refine⟨J,[],tr,?_⟩;refine⟨_,uO [(1,.ptr 2003 0 0),(4,.ptr 2002 0 0),(5,.ptr 2001 0 0),(6,.fn (.func 147) [.ptr 2002 0 0,.ptr 2001 0 0])] [(2001,vR (c9.Pv j22) 2),(2002,vS (.mp 5002004) 1),(5002004,⟨[.mapc (List.map (cu iF PV.bool) j23)],0,false,0,false⟩),(2003,vR (a8.Pv a0) 11)] ⟨J,J,J,J,J,J,J,J,J,J,J,J,tr⟩ ⟨rS,Y2 J J J (λq=>nomatch q) J J J J,Y2 J J J (λq=>nomatch q) J J J J,rS,tr⟩,?_⟩;refine I6 ?_;refine jq h (λj100=>St.of [(4,.ptr 2002 0 0)] [(2002,vS (.mp 5002004) 1),(5002004,⟨[.mapc (List.map (cu iF PV.bool) j100)],0,false,0,false⟩)]) (λj100 h=>?_) λκ99 h=>?_
  .refine S4 2 J ?_;refine bW (Eo 2 5002004 J J)<|c5 ?_;cases h;exact f1
  .refine g9 ?_;refine lq h (λq=>St.of [(1,.ptr 2003 0 0),(4,.ptr 2002 0 0),(5,.ptr 2001 0 0),(6,.fn (.func 147) [.ptr 2002 0 0,.ptr 2001 0 0])] [(2001,vR (c9.Pv q.1) 2),(2002,vS (.mp 5002004) 1),(5002004,⟨[.mapc (List.map (cu iF PV.bool) q.2)],0,false,0,false⟩),(2003,vR (a8.Pv a0) 11)]) W λq105 x104 h hx67=>?_;obtain⟨s102,s103⟩:=q105;refine k9<|S3 1 J<|cA h T0 J J λv106 _ h=>S2 1 J ?_;refine cN h (λhc h=>?_) λhc h=>?_
   .refine c7 ?_;refine g9<|S4 1 J<|S3 1 J<|cF h md J J λv107 _ h=>S2 6 J<|Zd [] 9 r9 (by kernel_rfl) (by kernel_rfl) (by kernel_rfl) (by kernel_rfl) nl<|S7 5 J<|w7 h λv108 hv70 h=>d2 J (P4 J R7 J hv70) J<|w7 h λv109 hv71 h=>d0 J (J5 (f:=b8.Pv) (cs:=b8.Pc v109) hv71 J J B7 w8 J J) J<|S8 2 J<|DA (WE [(1,.ptr 2003 0 0),(4,.ptr 2002 0 0),(5,.ptr 2001 0 0),(6,.fn (.func 147) [.ptr 2002 0 0,.ptr 2001 0 0]),(7,.I v107.2.1),(38,.fn (.func 147) [.ptr 2002 0 0,.ptr 2001 0 0]),(46,.L iF v109.Fields)] [(2001,vR (c9.Pv v107.1) 2),(2002,vS (.mp 5002004) 1),(5002004,⟨[.mapc (List.map (cu iF PV.bool) s103)],0,false,0,false⟩),(2003,vR (a8.Pv a0) 11)]) ?_;refine IC (fn:=Tryz.f147) (N1:=25) J J J Tryz.func147 J Cx J J nl (λe72 o73=>?_);refine Xw h (λq=>St.of [(1000001,.ptr 2003 0 0),(1000004,.ptr 2002 0 0),(1000005,.ptr 2001 0 0),(1000006,.fn (.func 147) [.ptr 2002 0 0,.ptr 2001 0 0]),(1000007,.I v107.2.1),(1000038,.fn (.func 147) [.ptr 2002 0 0,.ptr 2001 0 0]),(1000046,.L iF v109.Fields)] [(2001,vR (c9.Pv q.1) 2),(2002,vS (.mp 5002004) 1),(5002004,⟨[.mapc (List.map (cu iF PV.bool) q.2)],0,false,0,false⟩),(2003,vR (a8.Pv a0) 11)]) (λq127 h=>dup ?_) λκ124 h=>?_
    .obtain⟨j125,j126⟩:=q127;refine⟨J,[],tr,?_⟩;refine⟨_,uO [(1,.ptr 2003 0 0),(4,.ptr 2002 0 0),(5,.ptr 2001 0 0),(6,.fn (.func 147) [.ptr 2002 0 0,.ptr 2001 0 0]),(7,.I v107.2.1)] [(2001,vR (c9.Pv j125) 2),(2002,vS (.mp 5002004) 1),(5002004,⟨[.mapc (List.map (cu iF PV.bool) j126)],0,false,0,false⟩),(2003,vR (a8.Pv a0) 11)] ⟨J,J,J,J,J,J,J,J,J,J,J,J,J,J,J,tr⟩ ⟨rS,Y2 J J J (λq=>nomatch q) J J J J,Y2 J J J (λq=>nomatch q) J J J J,rS,tr⟩,?_⟩;refine I6<|S5 3 J<|cF h kX J J λv128 _ h=>O8 (WE [(1,.ptr 2003 0 0),(4,.ptr 2002 0 0),(5,.ptr 2001 0 0),(6,.fn (.func 147) [.ptr 2002 0 0,.ptr 2001 0 0]),(48,.fn (.func 147) [.ptr 2002 0 0,.ptr 2001 0 0]),(51,.L iF v128)] [(2001,vR (c9.Pv j125) 2),(2002,vS (.mp 5002004) 1),(5002004,⟨[.mapc (List.map (cu iF PV.bool) j126)],0,false,0,false⟩),(2003,vR (a8.Pv a0) 11)]) ?_;refine uQ (fn:=Tryz.f147) (N1:=25) J J Tryz.func147 J Cx J J nl (λe84 o85=>?_);refine Xw h (λq=>St.of [(1000001,.ptr 2003 0 0),(1000004,.ptr 2002 0 0),(1000005,.ptr 2001 0 0),(1000006,.fn (.func 147) [.ptr 2002 0 0,.ptr 2001 0 0]),(1000048,.fn (.func 147) [.ptr 2002 0 0,.ptr 2001 0 0]),(1000051,.L iF v128)] [(2001,vR (c9.Pv q.1) 2),(2002,vS (.mp 5002004) 1),(5002004,⟨[.mapc (List.map (cu iF PV.bool) q.2)],0,false,0,false⟩),(2003,vR (a8.Pv a0) 11)]) (λq146 h=>dup ?_) λκ143 h=>?_
     .obtain⟨j144,j145⟩:=q146;refine⟨J,[],tr,?_⟩;refine O8 (WE [(1,.ptr 2003 0 0),(4,.ptr 2002 0 0),(5,.ptr 2001 0 0),(6,.fn (.func 147) [.ptr 2002 0 0,.ptr 2001 0 0])] [(2001,vR (c9.Pv j144) 2),(2002,vS (.mp 5002004) 1),(5002004,⟨[.mapc (List.map (cu iF PV.bool) j145)],0,false,0,false⟩),(2003,vR (a8.Pv a0) 11)])<|yN ?_;exact eL h W
     .refine S3 1 J ?_;refine nL J l6<|S2 1 J<|g9<|lq h (λq=>St.of [(1000001,.ptr 2003 0 0),(1000004,.ptr 2002 0 0),(1000005,.ptr 2001 0 0),(1000006,.fn (.func 147) [.ptr 2002 0 0,.ptr 2001 0 0]),(1000048,.fn (.func 147) [.ptr 2002 0 0,.ptr 2001 0 0]),(1000051,.L iF v128),(1,.ptr 2002 0 0),(2,.ptr 2001 0 0),(6,.L iF v128),(7,.I (v128.length:Int)),(8,.I q.1)] [(2001,vR (c9.Pv q.2.1) 2),(2002,vS (.mp 5002004) 1),(5002004,⟨[.mapc (List.map (cu iF PV.bool) q.2.2)],0,false,0,false⟩),(2003,vR (a8.Pv a0) 11)]) W λq152 x151 h hx97=>?_;obtain⟨s148,s149,s150⟩:=q152;refine S4 1 J<|k9 ?_;refine cN h (λhc h=>?_) λhc h=>?_
      .refine c7 ?_;refine jq h (λq=>St.of [(1000001,.ptr 2003 0 0),(1000004,.ptr 2002 0 0),(1000005,.ptr 2001 0 0),(1000006,.fn (.func 147) [.ptr 2002 0 0,.ptr 2001 0 0]),(1000048,.fn (.func 147) [.ptr 2002 0 0,.ptr 2001 0 0]),(1000051,.L iF v128),(1,.ptr 2002 0 0),(2,.ptr 2001 0 0),(6,.L iF v128),(7,.I (v128.length:Int)),(8,.I s148)] [(2001,vR (c9.Pv q.1) 2),(2002,vS (.mp 5002004) 1),(5002004,⟨[.mapc (List.map (cu iF PV.bool) q.2)],0,false,0,false⟩),(2003,vR (a8.Pv a0) 11)]) (λq158 h=>?_) λκ155 h=>?_
       .obtain⟨j156,j157⟩:=q158;refine S6 2 J ?_;exact eL h W
       .refine g9 ?_;refine sR<|iL h J J l6 o6 λv159 _ h=>S2 2 J<|S3 2 J<|Cq (es:=s150) (k:=v159) (E:=PV.bool) (EK:=iF) (d:=.bool ((A2 s150 v159).getD (false:Bool))) J J J J Q7 (y5 I5) sD J (NZ _ _ _)<|S2 1 J ?_;refine cN h (λhc h=>?_) λhc h=>?_
        .refine S3 2 J ?_;refine ak (es:=s150) (k:=v159) (v:=true) (E:=PV.bool) (EK:=iF) (.inl J) J J J J J J Q7 (y5 I5)<|yN<|S5 2 J<|cF h W4 J J λv160 _ h=>S2 4 J ?_;exact eJ h W
        .refine c7 ?_;exact eJ h W
      .refine o5 ?_;refine e6<|e6<|l7 ?_;have h:=xL hx97 h;exact eJ h W
    .refine S3 1 J ?_;refine nL J l6<|S2 1 J<|g9<|lq h (λq=>St.of [(1000001,.ptr 2003 0 0),(1000004,.ptr 2002 0 0),(1000005,.ptr 2001 0 0),(1000006,.fn (.func 147) [.ptr 2002 0 0,.ptr 2001 0 0]),(1000007,.I v107.2.1),(1000038,.fn (.func 147) [.ptr 2002 0 0,.ptr 2001 0 0]),(1000046,.L iF v109.Fields),(1,.ptr 2002 0 0),(2,.ptr 2001 0 0),(6,.L iF v109.Fields),(7,.I (v109.Fields.length:Int)),(8,.I q.1)] [(2001,vR (c9.Pv q.2.1) 2),(2002,vS (.mp 5002004) 1),(5002004,⟨[.mapc (List.map (cu iF PV.bool) q.2.2)],0,false,0,false⟩),(2003,vR (a8.Pv a0) 11)]) W λq166 x165 h hx105=>?_;obtain⟨s162,s163,s164⟩:=q166;refine S4 1 J<|k9 ?_;refine cN h (λhc h=>?_) λhc h=>?_
     .refine c7 ?_;refine jq h (λq=>St.of [(1000001,.ptr 2003 0 0),(1000004,.ptr 2002 0 0),(1000005,.ptr 2001 0 0),(1000006,.fn (.func 147) [.ptr 2002 0 0,.ptr 2001 0 0]),(1000007,.I v107.2.1),(1000038,.fn (.func 147) [.ptr 2002 0 0,.ptr 2001 0 0]),(1000046,.L iF v109.Fields),(1,.ptr 2002 0 0),(2,.ptr 2001 0 0),(6,.L iF v109.Fields),(7,.I (v109.Fields.length:Int)),(8,.I s162)] [(2001,vR (c9.Pv q.1) 2),(2002,vS (.mp 5002004) 1),(5002004,⟨[.mapc (List.map (cu iF PV.bool) q.2)],0,false,0,false⟩),(2003,vR (a8.Pv a0) 11)]) (λq172 h=>?_) λκ169 h=>?_
      .obtain⟨j170,j171⟩:=q172;refine S6 2 J ?_;exact eL h W
      .refine g9 ?_;refine sR<|iL h J J l6 o6 λv173 _ h=>S2 2 J<|S3 2 J<|Cq (es:=s164) (k:=v173) (E:=PV.bool) (EK:=iF) (d:=.bool ((A2 s164 v173).getD (false:Bool))) J J J J Q7 (y5 I5) sD J (NZ _ _ _)<|S2 1 J ?_;refine cN h (λhc h=>?_) λhc h=>?_
       .refine S3 2 J ?_;refine ak (es:=s164) (k:=v173) (v:=true) (E:=PV.bool) (EK:=iF) (.inl J) J J J J J J Q7 (y5 I5)<|yN<|S5 2 J<|cF h W4 J J λv174 _ h=>S2 4 J ?_;exact eJ h W
       .refine c7 ?_;exact eJ h W
     .refine o5 ?_;refine e6<|e6<|l7 ?_;have h:=xL hx105 h;exact eJ h W
   .refine o5 ?_;refine e6<|e6<|l7 ?_;have h:=xL hx67 h;exact eJ h W
 .refine S3 1 J ?_;refine nL J l6<|S2 1 J<|g9<|lq h (λq=>St.of [(1000001,.ptr 2003 0 0),(1000004,.ptr 2002 0 0),(1000005,.ptr 2001 0 0),(1000006,.fn (.func 147) [.ptr 2002 0 0,.ptr 2001 0 0]),(1000019,.fn (.func 147) [.ptr 2002 0 0,.ptr 2001 0 0]),(1000027,.L iF v6),(1,.ptr 2002 0 0),(2,.ptr 2001 0 0),(6,.L iF v6),(7,.I (v6.length:Int)),(8,.I q.1)] [(2001,vR (c9.Pv q.2.1) 2),(2002,vS (.mp 5002004) 1),(5002004,⟨[.mapc (List.map (cu iF PV.bool) q.2.2)],0,false,0,false⟩),(2003,vR (a8.Pv a0) 11)]) W λq180 x179 h hx113=>?_;obtain⟨s176,s177,s178⟩:=q180;refine S4 1 J<|k9 ?_;refine cN h (λhc h=>?_) λhc h=>?_
  .refine c7 ?_;refine jq h (λq=>St.of [(1000001,.ptr 2003 0 0),(1000004,.ptr 2002 0 0),(1000005,.ptr 2001 0 0),(1000006,.fn (.func 147) [.ptr 2002 0 0,.ptr 2001 0 0]),(1000019,.fn (.func 147) [.ptr 2002 0 0,.ptr 2001 0 0]),(1000027,.L iF v6),(1,.ptr 2002 0 0),(2,.ptr 2001 0 0),(6,.L iF v6),(7,.I (v6.length:Int)),(8,.I s176)] [(2001,vR (c9.Pv q.1) 2),(2002,vS (.mp 5002004) 1),(5002004,⟨[.mapc (List.map (cu iF PV.bool) q.2)],0,false,0,false⟩),(2003,vR (a8.Pv a0) 11)]) (λq186 h=>?_) λκ183 h=>?_
   .obtain⟨j184,j185⟩:=q186;refine S6 2 J ?_;exact eL h W
   .refine g9 ?_;refine sR<|iL h J J l6 o6 λv187 _ h=>S2 2 J<|S3 2 J<|Cq (es:=s178) (k:=v187) (E:=PV.bool) (EK:=iF) (d:=.bool ((A2 s178 v187).getD (false:Bool))) J J J J Q7 (y5 I5) sD J (NZ _ _ _)<|S2 1 J ?_;refine cN h (λhc h=>?_) λhc h=>?_
    .refine S3 2 J ?_;refine ak (es:=s178) (k:=v187) (v:=true) (E:=PV.bool) (EK:=iF) (.inl J) J J J J J J Q7 (y5 I5)<|yN<|S5 2 J<|cF h W4 J J λv188 _ h=>S2 4 J ?_;exact eJ h W
    .refine c7 ?_;exact eJ h W
  .refine o5 ?_;refine e6<|e6<|l7 ?_;have h:=xL hx113 h;exact eJ h W
theorem po{a0 a1}:PO Tryz.prog 83 [b8.Pv a0,.rptr [.abs (U8 (List.map (cu iF PV.bool) a1))]] (bF a0 a1) λr=>.bool r:=by
 refine pO Tryz.func83 λr h _ _=>?_;unfold bF at h;refine S4 2 J<|S3 3 J<|m8 J (λhg=>W2 J Cu J)<|m8 J (λhg=>oF J Bt J)<|m8 J (λhg=>oS (ct hg) J J K1 J)<|m8 J (λhg=>BZ (es:=a1) (k:=a0.Serial) (E:=PV.bool) (EK:=iF) (d:=.bool ((A2 a1 a0.Serial).getD (false:Bool))) (ct hg) (ct hg) Q7 (y5 I5) sD J (NZ _ _ _))<|m8 J (λhg=>dA (ct hg) J)<|y0 J (C7 J J J (λq=>jJ q))<|S2 1 J<|c5 ?_;cases h;exact f1
theorem Y7{a0 a1}:PO Tryz.prog 60 [.L b8.Pv a0,.fn (.func 83) [.rptr [.abs (U8 (List.map (cu iF PV.bool) a1))]]] (C3 a0 a1) λr=>.L b8.Pv r:=by
 refine pO Tryz.func60 λr h _ _=>?_;refine S4 1 J<|S4 1 J ?_;refine jq h (λj15=>St.of [(5,.sl 910005)] [(910005,⟨List.map b8.Pv j15,(List.map b8.Pv j15).length,true,7,true⟩)]) (λj15 h=>?_) λκ14 h=>?_
 .refine S4 2 J ?_;refine c5 ?_;cases h;exact f1
 .refine S3 1 J ?_;refine nL J B7<|S2 1 J<|g9<|lq h (λq=>St.of [(1,.fn (.func 83) [.rptr [.abs (U8 (List.map (cu iF PV.bool) a1))]]),(5,.sl 910005),(8,.L b8.Pv a0),(9,.I (a0.length:Int)),(10,.I q.1)] [(910005,⟨List.map b8.Pv q.2,(List.map b8.Pv q.2).length,true,7,true⟩)]) (Wk.trans (E7 (t:=5) (l:=920005) (z:=7) J J) (WP (λl=>if l=910005 then 920005 else l))) λq20 x19 h hx14=>?_;obtain⟨s17,s18⟩:=q20;refine S4 1 J<|k9 ?_;refine cN h (λhc h=>?_) λhc h=>?_
  .refine c7 ?_;refine jq h (λj25=>St.of [(1,.fn (.func 83) [.rptr [.abs (U8 (List.map (cu iF PV.bool) a1))]]),(5,.sl 20),(8,.L b8.Pv a0),(9,.I (a0.length:Int)),(10,.I s17)] [(20,⟨List.map b8.Pv j25,(List.map b8.Pv j25).length,true,7,true⟩)]) (λj25 h=>?_) λκ24 h=>?_
   .refine S6 2 J ?_;exact eL h (Wk.trans (m9 _ [20]) (WP (λl=>if l=910005 then 20 else l)))
   .refine g9 ?_;refine sR<|iL h J J B7 w8 λv26 _ h=>S2 3 J<|S3 2 J<|cA h po J J λv27 _ h=>yN ?_;refine cN h (λhc h=>?_) λhc h=>?_
    .refine S5 2 J ?_;refine y0 J (H6 (f:=b8.Pv) (l:=[v26]) J B7 w8 aB J J nl J J)<|w7 h λv28 hv21 h=>J2 J (H0 (f:=b8.Pv) hv21 J J J J J J (.inl ⟨_,J,J⟩) B7 w8 mK aB J (λ_=>J)) J J J<|S2 1 J ?_;exact eJ h (Wk.trans (m9 _ [20]) W)
    .refine c7 ?_;exact eJ h (Wk.trans (m9 _ [910005]) (WP (λl=>if l=20 then 910005 else l)))
  .refine o5 ?_;refine e6<|e6<|l7 ?_;have h:=xL hx14 h;exact eJ h (Wk.trans (m9 _ [910005]) W)
theorem lV{a0}:PO Tryz.prog 84 [b8.Pv a0] (dx a0) λr=>.bool r:=by
 refine pO Tryz.func84 λr h _ _=>?_;unfold dx at h;refine S4 2 J<|S3 4 J<|m8 J (λhg=>oF J KM J)<|m8 J (λhg=>oS (ct hg) J J vZ J)<|m8 J (λhg=>dA (ct hg) J)<|y0 J (C7 J J J (λq=>jJ q))<|S2 1 J<|c5 ?_;cases h;exact f1
theorem aW{a0}:PO Tryz.prog 60 [.L b8.Pv a0,.fn (.func 84) []] (D7 a0) λr=>.L b8.Pv r:=by
 refine pO Tryz.func60 λr h _ _=>?_;refine S4 1 J<|S4 1 J ?_;refine jq h (λj15=>St.of [(5,.sl 910005)] [(910005,⟨List.map b8.Pv j15,(List.map b8.Pv j15).length,true,7,true⟩)]) (λj15 h=>?_) λκ14 h=>?_
 .refine S4 2 J ?_;refine c5 ?_;cases h;exact f1
 .refine S3 1 J ?_;refine nL J B7<|S2 1 J<|g9<|lq h (λq=>St.of [(1,.fn (.func 84) []),(5,.sl 910005),(8,.L b8.Pv a0),(9,.I (a0.length:Int)),(10,.I q.1)] [(910005,⟨List.map b8.Pv q.2,(List.map b8.Pv q.2).length,true,7,true⟩)]) (Wk.trans (E7 (t:=5) (l:=920005) (z:=7) J J) (WP (λl=>if l=910005 then 920005 else l))) λq20 x19 h hx14=>?_;obtain⟨s17,s18⟩:=q20;refine S4 1 J<|k9 ?_;refine cN h (λhc h=>?_) λhc h=>?_
  .refine c7 ?_;refine jq h (λj25=>St.of [(1,.fn (.func 84) []),(5,.sl 20),(8,.L b8.Pv a0),(9,.I (a0.length:Int)),(10,.I s17)] [(20,⟨List.map b8.Pv j25,(List.map b8.Pv j25).length,true,7,true⟩)]) (λj25 h=>?_) λκ24 h=>?_
   .refine S6 2 J ?_;exact eL h (Wk.trans (m9 _ [20]) (WP (λl=>if l=910005 then 20 else l)))
   .refine g9 ?_;refine sR<|iL h J J B7 w8 λv26 _ h=>S2 3 J<|S3 2 J<|cA h lV J J λv27 _ h=>yN ?_;refine cN h (λhc h=>?_) λhc h=>?_
    .refine S5 2 J ?_;refine y0 J (H6 (f:=b8.Pv) (l:=[v26]) J B7 w8 aB J J nl J J)<|w7 h λv28 hv21 h=>J2 J (H0 (f:=b8.Pv) hv21 J J J J J J (.inl ⟨_,J,J⟩) B7 w8 mK aB J (λ_=>J)) J J J<|S2 1 J ?_;exact eJ h (Wk.trans (m9 _ [20]) W)
    .refine c7 ?_;exact eJ h (Wk.trans (m9 _ [910005]) (WP (λl=>if l=20 then 910005 else l)))
  .refine o5 ?_;refine e6<|e6<|l7 ?_;have h:=xL hx14 h;exact eJ h (Wk.trans (m9 _ [910005]) W)
theorem yU{a0}:PO Tryz.prog 58 [a8.Pv a0] (kV a0) λr=>.fn (.func 111) [.rptr (a8.Pc r)]:=by
 refine pO Tryz.func58 λr h _ _=>?_;unfold kV at h;refine S4 2 J<|S4 2 J<|c5 ?_;cases h;exact f1
theorem rK{a0}:PO Tryz.prog 113 [k7.Pv a0] (iE a0) λr=>.I r:=by
 refine pO Tryz.func113 λr h _ _=>?_;unfold iE at h;refine S4 2 J<|S4 3 J<|c5 ?_;cases h;exact f1
theorem V9{a0}:PO Tryz.prog 112 [.L k7.Pv a0,.fn (.func 113) []] (B5 a0) λr=>.L iF r:=by
 refine pO Tryz.func112 λr h _ _=>?_;refine S4 1 J<|S4 1 J ?_;refine jq h (λj10=>St.of [(5,.sl 910005)] [(910005,⟨List.map iF j10,(List.map iF j10).length,true,1,true⟩)]) (λj10 h=>?_) λκ9 h=>?_
 .refine S4 2 J ?_;refine c5 ?_;cases h;exact f1
 .refine S3 1 J ?_;refine nL J N3<|S2 1 J<|g9<|lq h (λq=>St.of [(1,.fn (.func 113) []),(5,.sl 910005),(8,.L k7.Pv a0),(9,.I (a0.length:Int)),(10,.I q.1)] [(910005,⟨List.map iF q.2,(List.map iF q.2).length,true,1,true⟩)]) (Wk.trans (E7 (t:=5) (l:=920005) (z:=1) J J) (WP (λl=>if l=910005 then 920005 else l))) λq15 x14 h hx10=>?_;obtain⟨s12,s13⟩:=q15;refine S4 1 J<|k9 ?_;refine cN h (λhc h=>?_) λhc h=>?_
  .refine c7 ?_;refine k9<|g9<|sR<|iL h J J N3 U5 λv16 _ h=>S2 3 J<|S5 3 J<|cA h rK J J λv17 _ h=>y0 J (H6 (f:=iF) (l:=[v17]) J l6 o6 B9 J J nl J J)<|w7 h λv18 hv13 h=>J2 J (H0 (f:=iF) hv13 J J J J J J (.inl ⟨_,J,J⟩) l6 o6 Q0 B9 J (λ_=>J)) J J J<|S2 1 J<|S6 2 J ?_;exact eL h (Wk.trans (m9 _ [19]) (WP (λl=>if l=910005 then 19 else l)))
  .refine o5 ?_;refine e6<|e6<|l7 ?_;have h:=xL hx10 h;exact eJ h (Wk.trans (m9 _ [910005]) W)
theorem vu{a0}:PO Tryz.prog 61 [b8.Pv a0] (lB a0) λr=>.bool r:=by
 refine pO Tryz.func61 λr h _ _=>?_;unfold lB at h;refine S4 2 J<|S4 3 J<|c5 ?_;cases h;exact f1
theorem M7{a0}:PO Tryz.prog 60 [.L b8.Pv a0,.fn (.func 61) []] (B0 a0) λr=>.L b8.Pv r:=by
 refine pO Tryz.func60 λr h _ _=>?_;refine S4 1 J<|S4 1 J ?_;refine jq h (λj15=>St.of [(5,.sl 910005)] [(910005,⟨List.map b8.Pv j15,(List.map b8.Pv j15).length,true,7,true⟩)]) (λj15 h=>?_) λκ14 h=>?_
 .refine S4 2 J ?_;refine c5 ?_;cases h;exact f1
 .refine S3 1 J ?_;refine nL J B7<|S2 1 J<|g9<|lq h (λq=>St.of [(1,.fn (.func 61) []),(5,.sl 910005),(8,.L b8.Pv a0),(9,.I (a0.length:Int)),(10,.I q.1)] [(910005,⟨List.map b8.Pv q.2,(List.map b8.Pv q.2).length,true,7,true⟩)]) (Wk.trans (E7 (t:=5) (l:=920005) (z:=7) J J) (WP (λl=>if l=910005 then 920005 else l))) λq20 x19 h hx14=>?_;obtain⟨s17,s18⟩:=q20;refine S4 1 J<|k9 ?_;refine cN h (λhc h=>?_) λhc h=>?_
  .refine c7 ?_;refine jq h (λj25=>St.of [(1,.fn (.func 61) []),(5,.sl 20),(8,.L b8.Pv a0),(9,.I (a0.length:Int)),(10,.I s17)] [(20,⟨List.map b8.Pv j25,(List.map b8.Pv j25).length,true,7,true⟩)]) (λj25 h=>?_) λκ24 h=>?_
   .refine S6 2 J ?_;exact eL h (Wk.trans (m9 _ [20]) (WP (λl=>if l=910005 then 20 else l)))
   .refine g9 ?_;refine sR<|iL h J J B7 w8 λv26 _ h=>S2 3 J<|S3 2 J<|cA h vu J J λv27 _ h=>yN ?_;refine cN h (λhc h=>?_) λhc h=>?_
    .refine S5 2 J ?_;refine y0 J (H6 (f:=b8.Pv) (l:=[v26]) J B7 w8 aB J J nl J J)<|w7 h λv28 hv21 h=>J2 J (H0 (f:=b8.Pv) hv21 J J J J J J (.inl ⟨_,J,J⟩) B7 w8 mK aB J (λ_=>J)) J J J<|S2 1 J ?_;exact eJ h (Wk.trans (m9 _ [20]) W)
    .refine c7 ?_;exact eJ h (Wk.trans (m9 _ [910005]) (WP (λl=>if l=20 then 910005 else l)))
  .refine o5 ?_;refine e6<|e6<|l7 ?_;have h:=xL hx14 h;exact eJ h (Wk.trans (m9 _ [910005]) W)
theorem pn{a0 a1}:PO Tryz.prog 21 [a8.Pv a0,.I a1] (eG a0 a1) λr=>.I r:=by
 refine pO Tryz.func21 λr h _ _=>?_;refine S4 3 J<|S4 2 J ?_;refine jq h (λj33=>St.of [(5,.ptr 2001 0 0)] [(2001,vR (.I j33) 1)]) (λj33 h=>?_) λκ32 h=>?_
 .refine S4 2 J ?_;refine c5 ?_;cases h;exact f1
 .refine S3 1 J ?_;refine cF h yU J J λv34 _ h=>yN<|g9<|bW (sq (λl=>if l=2003 then 5 else if l=2004 then 3 else l) [(3,.ptr 2004 0 0),(5,.ptr 2003 0 0),(8,.fn (.func 111) [.rptr (a8.Pc v34)])] [(2003,vR (.I 0) 1),(2004,vR (.I a1) 1)]) ?_;refine bV (fn:=Tryz.f111) (N1:=43) J Tryz.func111 J J nl J Qw J J (λl33 e34 o35 hR36=>?_);refine dr [] r9 (by kernel_rfl) (by kernel_rfl)<|S7 4 J<|w7 h λv35 hv37 h=>cY J (u4 J V9 J hv37) J<|S7 1 J<|w7 h λv36 hv38 h=>cY J (u4 J cK J hv38) J<|w7 h λv37 hv39 h=>cY J (u4 J uD J hv39) J<|Vk J (H6 (f:=(Ls iF)) (l:=[v34.Roots,v35,v37]) J X4 aA xZ J J nl J J) J<|S8 1 J ?_;refine jq h (λj47=>St.of [(1000003,.ptr 2004 0 0),(1000005,.ptr 2003 0 0),(1000008,.fn (.func 111) [.rptr (a8.Pc v34)]),(0,.fn (.yield l33) []),(3,.sl 910003)] [(910003,⟨List.map (Ls iF) j47,(List.map (Ls iF) j47).length,true,1,true⟩),(2003,vR (.I 0) 1),(2004,vR (.I a1) 1)]) (λj47 h=>?_) λκ46 h=>?_
  .refine S3 1 J ?_;obtain⟨v48,hv47,h⟩:=qM h;refine KH J (u4 J dE J hv47) J<|nL J l6<|S2 1 J<|g9<|lq h (λq=>St.of [(1000003,.ptr 2004 0 0),(1000005,.ptr 2003 0 0),(1000008,.fn (.func 111) [.rptr (a8.Pc v34)]),(0,.fn (.yield l33) []),(32,.L iF v48),(33,.I (v48.length:Int)),(34,.I q.1)] [(2003,vR (.I q.2) 1),(2004,vR (.I a1) 1)]) W λq53 x52 h hx50=>?_;obtain⟨s50,s51⟩:=q53;refine S4 1 J<|k9 ?_;refine cN h (λhc h=>?_) λhc h=>?_
   .refine c7 ?_;refine k9<|g9<|sR<|iL h J J l6 o6 λv54 _ h=>S2 2 J<|S3 2 J<|O8 (WE [(1000003,.ptr 2004 0 0),(1000005,.ptr 2003 0 0),(1000008,.fn (.func 111) [.rptr (a8.Pc v34)]),(0,.fn (.yield l33) []),(32,.L iF v48),(33,.I (v48.length:Int)),(34,.I s50),(38,.fn (.yield l33) []),(39,.I v54)] [(2003,vR (.I s51) 1),(2004,vR (.I a1) 1)]) ?_;refine js hR36 J J J J J J (λe52 o53 o54=>?_);refine S6 1 J ?_;refine⟨J,?_⟩;refine Zh h (λj56=>St.of [(2000003,.ptr 2004 0 0),(2000005,.ptr 2003 0 0),(2000008,.fn (.func 111) [.rptr (a8.Pc v34)]),(1000000,.fn (.yield l33) []),(1000032,.L iF v48),(1000033,.I (v48.length:Int)),(1000034,.I s50),(1000038,.fn (.yield l33) []),(1000039,.I v54)] [(2003,vR (.I j56) 1),(2004,vR (.I a1) 1)]) (λj56 h=>?_) λκ55 h=>?_
    .refine⟨J,?_⟩;refine O8 (WE [(1000003,.ptr 2004 0 0),(1000005,.ptr 2003 0 0),(1000008,.fn (.func 111) [.rptr (a8.Pc v34)]),(0,.fn (.yield l33) []),(32,.L iF v48),(33,.I (v48.length:Int)),(34,.I s50),(40,.bool true)] [(2003,vR (.I j56) 1),(2004,vR (.I a1) 1)])<|S2 1 J ?_;refine H3 false J (λq=>nomatch q) (λ_=>?_);refine c7<|S6 2 J ?_;exact eL h W
    .refine g9 ?_;refine S3 3 J<|m8 J (λhg=>mI J)<|m8 J (λhg=>oS J J J K1 J)<|m8 J (λhg=>B2 (ct hg) (ct hg) J)<|y0 J (C7 J J J (λq=>jJ q))<|yN ?_;refine cN h (λhc h=>?_) λhc h=>?_
     .refine S6 3 J ?_;exact eJ h W
     .refine c7 ?_;exact eJ h W
   .refine o5 ?_;refine e6<|e6<|l7 ?_;refine .inl ⟨J,?_⟩;have h:=xL hx50 h;exact eJ h (WP (λl=>if l=2001 then 2003 else l))
  .refine S3 2 J ?_;refine cF h M7 J J λv57 _ h=>nL J B7<|S2 1 J<|g9<|lq h (λq=>St.of [(1000003,.ptr 2004 0 0),(1000005,.ptr 2003 0 0),(1000008,.fn (.func 111) [.rptr (a8.Pc v34)]),(0,.fn (.yield l33) []),(3,.sl 910003),(19,.L b8.Pv v57),(20,.I (v57.length:Int)),(21,.I q.1)] [(2003,vR (.I 0) 1),(2004,vR (.I a1) 1),(910003,⟨List.map (Ls iF) q.2,(List.map (Ls iF) q.2).length,true,1,true⟩)]) (Wk.trans (PW (f:=(Ls iF)) (t:=3) (l:=920003) (z:=1) J J (λ_=>J)) (WP (λl=>if l=910003 then 920003 else l))) λq62 x61 h hx59=>?_;obtain⟨s59,s60⟩:=q62;refine S4 1 J<|k9 ?_;refine cN h (λhc h=>?_) λhc h=>?_
   .refine c7 ?_;refine k9<|g9<|sR<|iL h J J B7 w8 λv63 _ h=>S2 3 J<|S5 3 J<|y0 J (H6 (f:=(Ls iF)) (l:=[v63.Fields]) J X4 aA xZ J J nl J J)<|w7 h λv64 hv61 h=>J2 J (H0 (f:=(Ls iF)) hv61 J J J J J J (.inl ⟨_,J,J⟩) X4 aA UE xZ J (λ_=>J)) J J J<|S2 1 J<|S6 2 J ?_;exact eL h (Wk.trans (m9 _ [29]) (WP (λl=>if l=910003 then 29 else l)))
   .refine o5 ?_;refine e6<|e6<|l7 ?_;have h:=xL hx59 h;exact eJ h (Wk.trans (m9 _ [910003]) W)
theorem B1{a0}:Qc Tryz.prog 181 [.L b8.Pv a0] (r7 a0) λr=>⟨List.map b8.Pv r,0,true,7,true⟩:=by
 refine Ul Tryz.func181 λr h _ _=>?_;unfold r7 at h;refine S4 1 J<|k9<|S3 1 J<|uP J B7 λb hb=>yN ?_;refine H3 b J (λhc=>?_) (λhc=>?_)
 .obtain rfl:a0 = []:=by simpa using hb hc
  refine S4 1 J<|bW (E7 (t:=2) (l:=920000) (z:=7) J J)<|c5 ?_;cases h;exact⟨J,_,_,J,J,J,J⟩
 .refine c7 ?_;refine sR<|y0 J (dB J B7 w8)<|S1 1 J<|y1 J (yW (f:=b8.Pv) h J J (.inl ⟨_,J,J⟩) B7 w8 mK aB J (λ_=>J)) J<|S2 1 J<|c5 ?_;exact⟨J,_,_,J,J,J,J⟩
theorem wX{a0}:PO Tryz.prog 263 [b8.Pv a0] (nm a0) λr=>b8.Pv r:=by
 refine pO Tryz.func263 λr h _ _=>?_;unfold nm at h;refine S4 2 J<|S4 2 J<|S4 2 J<|c5 ?_;cases h;exact⟨J,[_],⟨oL J J J gC w8 nl J,tr⟩,J,io⟩
theorem gm{a0 a1}:PO Tryz.prog 154 [a8.Pv a0,.I a1,.fn (.func 263) []] (R3 a0 a1) λr=>a8.Pv r:=by
 refine pO Tryz.func154 λr h _ _=>?_;refine S4 2 J<|S3 2 J<|cA h R7 J J λv1 _ h=>S2 1 J<|S3 2 J<|w7 h λv2 hv2 h=>KI J (ib J B1 J hv2) J J<|S2 2 J<|dr [] r9 (by kernel_rfl) (by kernel_rfl)<|S7 7 J<|w7 h λv3 hv3 h=>d0 J (aY (f:=b8.Pv) hv3 J J J J B7 w8 J) J<|d0 J (JT (f:=b8.Pv) (cs:=b8.Pc v3) hv3 J J J gC w8 nl J) J<|w7 h λv4 hv4 h=>cY J (u4 J wX J hv4) J<|d0 J (aY (f:=b8.Pv) hv3 J J J J B7 w8 J) J<|Jo (f:=b8.Pv) (v:=v4) hv3 J J (.inr J) w8<|I6<|S4 2 J<|c5 ?_;cases h;exact⟨J,[_],⟨oL J J J A1 u7 nl J,tr⟩,J,io⟩
theorem gK{a0 a1}:PO Tryz.prog 153 [a8.Pv a0,.I a1] (dX a0 a1) λr=>a8.Pv r:=by
 refine pO Tryz.func153 λr h _ _=>?_;refine S4 2 J<|k9<|S3 2 J<|cA h pn J J λv1 _ h=>S2 1 J ?_;refine cN h (λhc h=>?_) λhc h=>?_
 .refine S4 2 J ?_;refine c5 ?_;cases h;exact⟨J,[_],⟨oL J J J A1 u7 nl J,tr⟩,J,io⟩
 .refine c7 ?_;refine S3 2 J<|cF h gm J J λv2 _ h=>S2 1 J<|c5 ?_;cases h;exact⟨J,[_],⟨oL J J J A1 u7 nl J,tr⟩,J,io⟩
theorem rP{a0}:PO Tryz.prog 155 [b8.Pv a0] (iJ a0) λr=>b8.Pv r:=by
 refine pO Tryz.func155 λr h _ _=>?_;unfold iJ at h;refine S4 2 J<|S4 2 J<|S4 2 J<|c5 ?_;cases h;exact⟨J,[_],⟨oL J J J gC w8 nl J,tr⟩,J,io⟩
theorem eO{a0 a1}:PO Tryz.prog 154 [a8.Pv a0,.I a1,.fn (.func 155) []] (N6 a0 a1) λr=>a8.Pv r:=by
 refine pO Tryz.func154 λr h _ _=>?_;refine S4 2 J<|S3 2 J<|cA h R7 J J λv1 _ h=>S2 1 J<|S3 2 J<|w7 h λv2 hv2 h=>KI J (ib J B1 J hv2) J J<|S2 2 J<|dr [] r9 (by kernel_rfl) (by kernel_rfl)<|S7 7 J<|w7 h λv3 hv3 h=>d0 J (aY (f:=b8.Pv) hv3 J J J J B7 w8 J) J<|d0 J (JT (f:=b8.Pv) (cs:=b8.Pc v3) hv3 J J J gC w8 nl J) J<|w7 h λv4 hv4 h=>cY J (u4 J rP J hv4) J<|d0 J (aY (f:=b8.Pv) hv3 J J J J B7 w8 J) J<|Jo (f:=b8.Pv) (v:=v4) hv3 J J (.inr J) w8<|I6<|S4 2 J<|c5 ?_;cases h;exact⟨J,[_],⟨oL J J J A1 u7 nl J,tr⟩,J,io⟩
theorem dg{a0}:Qc Tryz.prog 156 [.L g6.Pv a0] (G9 a0) λr=>⟨List.map g6.Pv r,0,true,3,true⟩:=by
 refine Ul Tryz.func156 λr h _ _=>?_;unfold G9 at h;refine S4 1 J<|k9<|S3 1 J<|uP J I2 λb hb=>yN ?_;refine H3 b J (λhc=>?_) (λhc=>?_)
 .obtain rfl:a0 = []:=by simpa using hb hc
  refine S4 1 J<|bW (E7 (t:=2) (l:=920000) (z:=3) J J)<|c5 ?_;cases h;exact⟨J,_,_,J,J,J,J⟩
 .refine c7 ?_;refine sR<|y0 J (dB J I2 C8)<|S1 1 J<|y1 J (yW (f:=g6.Pv) h J J (.inl ⟨_,J,J⟩) I2 C8 mL aC J (λ_=>J)) J<|S2 1 J<|c5 ?_;exact⟨J,_,_,J,J,J,J⟩
theorem lW{a0 a1}:PO Tryz.prog 85 [a8.Pv a0,.I a1] (bf a0 a1) λr=>a8.Pv r:=by
 refine pO Tryz.func85 λr h _ _=>?_;refine S4 2 J<|S3 2 J<|cF h gK J J λv1 _ h=>S2 1 J<|dr [] r9 (by kernel_rfl) (by kernel_rfl)<|S7 4 J<|w7 h λv2 hv2 h=>d2 J (P4 J R7 J hv2) J<|w7 h λv3 hv3 h=>d0 J (J5 (f:=b8.Pv) (cs:=b8.Pc v3) hv3 J J B7 w8 J J) J<|S8 3 J<|S3 2 J<|cF h eO J J λv4 _ h=>S2 1 J<|S3 2 J<|w7 h λv5 hv5 h=>KI J (ib J dg J hv5) J J<|S1 2 J<|y0 J (p6 (cs:=[.I 1,.I a1,.I v3.Prog]) J sz aC J J J)<|y0 J (H6 (f:=g6.Pv) (l:=[(⟨1,a1,v3.Prog⟩:g6)]) J I2 C8 aC J J nl J J)<|w7 h λv6 hv6 h=>J2 J (H0 (f:=g6.Pv) hv6 J J J J J J (.inl ⟨_,J,J⟩) I2 C8 mL aC J (λ_=>J)) J J J<|S2 2 J<|S4 2 J<|c5 ?_;cases h;exact⟨J,[_],⟨oL J J J A1 u7 nl J,tr⟩,J,io⟩
theorem eM{a0 a1}:PO Tryz.prog 179 [.L iF a0,.I a1] (H8 a0 a1) λr=>.I r:=by
 refine pO Tryz.func179 λr h _ _=>?_;refine S4 1 J ?_;refine jq h (λ_=>St.of [] []) (λq6 h=>?_) λκ5 h=>?_
 .refine S4 1 J ?_;refine c5 ?_;cases h;exact f1
 .refine S3 1 J ?_;refine nL J l6<|S2 1 J<|g9<|lq h (λs8=>St.of [(0,.L iF a0),(1,.I a1),(7,.I (a0.length:Int)),(8,.I s8)] []) W λs8 x9 h hx8=>S4 1 J<|k9 ?_;refine cN h (λhc h=>?_) λhc h=>?_
  .refine c7 ?_;refine k9<|g9<|S4 2 J<|S3 3 J<|iL h J J l6 o6 λv10 _ h=>S2 2 J ?_;refine cN h (λhc h=>?_) λhc h=>?_
   .refine S4 2 J ?_;refine c5 ?_;have h:=xL hx8 h;cases h;exact f1
   .refine c7 ?_;refine S6 2 J ?_;exact eL h W
  .refine o5 ?_;refine e6<|e6<|l7 ?_;have h:=xL hx8 h;exact eJ h W
theorem M1{a0 a1}:PO Tryz.prog 165 [.L iF a0,.I a1] (E6 a0 a1) λr=>.bool r:=by
 refine pO Tryz.func165 λr h _ _=>?_;refine S4 1 J<|S3 2 J<|cA h eM J J λv1 _ h=>S2 2 J<|c5 ?_;cases h;exact f1
theorem xg{a0 a1}:PO Tryz.prog 265 [j5.Pv a0,.rptr [.L iF a1]] (cR a0 a1) λr=>.bool r:=by
 refine pO Tryz.func265 λr h _ _=>?_;unfold cR at h;refine S4 2 J<|S3 3 J<|m8 J (λhg=>oF J uT J)<|m8 J (λhg=>oS (ct hg) J J K1 J)<|m8 J (λhg=>B2 (ct hg) J J)<|y0 J (C7 J J J (λq=>jJ q))<|S1 1 J<|m8 J (λhg=>W2 J iu J)<|m8 J (λhg=>oF J uT J)<|m8 J (λhg=>oS (ct hg) J J K1 J)<|w7 h λv1 hv1 h=>m8 J (λhg=>P4 J M1 (T5 (ct hg) (T5 (ct hg) J)) (W3 hv1 hg))<|y0 J (C7 J J J (λq=>jJ q))<|S2 1 J<|c5 ?_;cases h;exact f1
theorem iQ{a0 a1}:PO Tryz.prog 264 [.L j5.Pv a0,.fn (.func 265) [.rptr [.L iF a1]]] (M9 a0 a1) λr=>.L iF r:=by
 refine pO Tryz.func264 λr h _ _=>?_;refine S4 1 J<|S4 1 J ?_;refine jq h (λj15=>St.of [(5,.sl 910005)] [(910005,⟨List.map iF j15,(List.map iF j15).length,true,1,true⟩)]) (λj15 h=>?_) λκ14 h=>?_
 .refine S4 2 J ?_;refine c5 ?_;cases h;exact f1
 .refine S3 1 J ?_;refine nL J Q4<|S2 1 J<|g9<|lq h (λq=>St.of [(1,.fn (.func 265) [.rptr [.L iF a1]]),(5,.sl 910005),(8,.L j5.Pv a0),(9,.I (a0.length:Int)),(10,.I q.1)] [(910005,⟨List.map iF q.2,(List.map iF q.2).length,true,1,true⟩)]) (Wk.trans (E7 (t:=5) (l:=920005) (z:=1) J J) (WP (λl=>if l=910005 then 920005 else l))) λq20 x19 h hx14=>?_;obtain⟨s17,s18⟩:=q20;refine S4 1 J<|k9 ?_;refine cN h (λhc h=>?_) λhc h=>?_
  .refine c7 ?_;refine jq h (λj25=>St.of [(1,.fn (.func 265) [.rptr [.L iF a1]]),(5,.sl 21),(8,.L j5.Pv a0),(9,.I (a0.length:Int)),(10,.I s17)] [(21,⟨List.map iF j25,(List.map iF j25).length,true,1,true⟩)]) (λj25 h=>?_) λκ24 h=>?_
   .refine S6 2 J ?_;exact eL h (Wk.trans (m9 _ [21]) (WP (λl=>if l=910005 then 21 else l)))
   .refine g9 ?_;refine S3 1 J<|iL h J J Q4 V4 λv26 _ h=>S2 4 J<|S3 2 J<|cA h xg J J λv27 _ h=>yN ?_;refine cN h (λhc h=>?_) λhc h=>?_
    .refine S5 2 J ?_;refine y0 J (H6 (f:=iF) (l:=[s17]) J l6 o6 B9 J J nl J J)<|w7 h λv28 hv21 h=>J2 J (H0 (f:=iF) hv21 J J J J J J (.inl ⟨_,J,J⟩) l6 o6 Q0 B9 J (λ_=>J)) J J J<|S2 1 J ?_;exact eJ h (Wk.trans (m9 _ [21]) W)
    .refine c7 ?_;exact eJ h (Wk.trans (m9 _ [910005]) (WP (λl=>if l=21 then 910005 else l)))
  .refine o5 ?_;refine e6<|e6<|l7 ?_;have h:=xL hx14 h;exact eJ h (Wk.trans (m9 _ [910005]) W)
theorem oi{a0}:Qc Tryz.prog 266 [.L j5.Pv a0] (ck a0) λr=>⟨List.map j5.Pv r,0,true,3,true⟩:=by
 refine Ul Tryz.func266 λr h _ _=>?_;unfold ck at h;refine S4 1 J<|S3 1 J<|nL J Q4<|w7 h λv1 hv1 h=>y1 J (Bg (f:=j5.Pv) hv1 J J J Q4 V4 CC IG J J J) J<|S2 1 J<|S3 2 J<|w7 h λv2 hv2 h=>YV (f:=j5.Pv) hv2 J J J (.inl ⟨_,J,J⟩) Q4 V4 (λ_=>J) (by decide)<|yN<|S4 2 J<|c5 ?_;cases h;exact⟨J,_,_,J,J,J,J⟩
theorem rm{a0 a1}:PO Tryz.prog 159 [.L j5.Pv a0,.L iF a1] (gB a0 a1) λr=>.tup [.L j5.Pv r.1,.L iF r.2]:=by
 refine pO Tryz.func159 λr h _ _=>?_;unfold gB at h;refine S4 3 J<|S3 2 J<|w7 h λv1 hv1 h=>KH J (u4 J iQ J hv1) J<|S2 1 J<|S3 1 J<|w7 h λv2 hv2 h=>KI J (ib J oi J hv2) J J<|S2 1 J<|S4 1 J ?_;refine jq h (λq=>St.of [(7,.sl 15),(8,.sl 910008)] [(910008,⟨List.map iF q.1,(List.map iF q.1).length,true,1,true⟩),(15,⟨List.map j5.Pv q.2,0,true,3,true⟩)]) (λq24 h=>?_) λκ21 h=>?_
 .obtain⟨j22,j23⟩:=q24;refine S4 4 J<|c5 ?_;cases h;exact f2
 .refine S3 1 J ?_;refine nL J l6<|S2 1 J<|g9<|lq h (λq=>St.of [(7,.sl 15),(8,.sl 910008),(16,.L iF v1),(17,.I (v1.length:Int)),(18,.I q.1)] [(15,⟨List.map j5.Pv q.2.1,0,true,3,true⟩),(910008,⟨List.map iF q.2.2,(List.map iF q.2.2).length,true,1,true⟩)]) (Wk.trans (E7 (t:=8) (l:=920008) (z:=1) J J) (WP (λl=>if l=910008 then 920008 else l))) λq30 x29 h hx18=>?_;obtain⟨s26,s27,s28⟩:=q30;refine S4 1 J<|k9 ?_;refine cN h (λhc h=>?_) λhc h=>?_
  .refine c7 ?_;refine jq h (λq=>St.of [(7,.sl 15),(8,.sl 35),(16,.L iF v1),(17,.I (v1.length:Int)),(18,.I s26)] [(35,⟨List.map iF q.1,(List.map iF q.1).length,true,1,true⟩),(15,⟨List.map j5.Pv q.2,0,true,3,true⟩)]) (λq38 h=>?_) λκ35 h=>?_
   .obtain⟨j36,j37⟩:=q38;refine S6 2 J ?_;exact eL h (Wk.trans (m9 _ [35]) (WP (λl=>if l=910008 then 35 else l)))
   .refine g9 ?_;refine sR<|iL h J J l6 o6 λv39 _ h=>S2 2 J<|S3 2 J<|w7 h λv40 hv25 h=>y0 J (aY (f:=j5.Pv) hv25 J J J J Q4 V4 J)<|S1 1 J<|ou (f:=j5.Pv) (v:=(⟨v40.Target,false,v40.Call⟩:j5)) hv25 J J (.inl J) XF<|yN<|S3 2 J<|w7 h λv41 hv26 h=>y0 J (aY (f:=j5.Pv) hv26 J J J J Q4 V4 J)<|S1 1 J<|y0 J (FQ (f:=j5.Pv) hv26 J J J K1 J)<|S2 1 J ?_;refine cN h (λhc h=>?_) λhc h=>?_
    .refine S5 2 J ?_;refine y0 J (H6 (f:=iF) (l:=[v39]) J l6 o6 B9 J J nl J J)<|w7 h λv42 hv27 h=>J2 J (H0 (f:=iF) hv27 J J J J J J (.inl ⟨_,J,J⟩) l6 o6 Q0 B9 J (λ_=>J)) J J J<|S2 1 J ?_;exact eJ h (Wk.trans (m9 _ [35]) W)
    .refine c7 ?_;exact eJ h (Wk.trans (m9 _ [910008]) (WP (λl=>if l=35 then 910008 else l)))
  .refine o5 ?_;refine e6<|e6<|l7 ?_;have h:=xL hx18 h;exact eJ h (Wk.trans (m9 _ [910008]) W)
theorem tO{a0 a1}:PO Tryz.prog 161 [.I a0,.rptr [.L j5.Pv a1]] (fq a0 a1) λr=>g6.Pv r:=by
 refine pO Tryz.func161 λr h _ _=>?_;refine S4 1 J<|S3 3 J<|iL h J J Q4 V4 λv1 _ h=>S1 2 J<|y0 J (p6 (cs:=[.I 2,.I a0,.I v1.Call]) J sz aC J J J)<|S2 1 J<|c5 ?_;cases h;exact⟨J,[_],⟨oL J J J cp C8 nl J,tr⟩,J,io⟩
theorem Y6{a0 a1}:PO Tryz.prog 160 [.L iF a0,.fn (.func 161) [.rptr [.L j5.Pv a1]]] (C2 a0 a1) λr=>.L g6.Pv r:=by
 refine pO Tryz.func160 λr h _ _=>?_;refine S4 1 J<|S4 1 J ?_;refine jq h (λj10=>St.of [(5,.sl 910005)] [(910005,⟨List.map g6.Pv j10,(List.map g6.Pv j10).length,true,3,true⟩)]) (λj10 h=>?_) λκ9 h=>?_
 .refine S4 2 J ?_;refine c5 ?_;cases h;exact f1
 .refine S3 1 J ?_;refine nL J l6<|S2 1 J<|g9<|lq h (λq=>St.of [(1,.fn (.func 161) [.rptr [.L j5.Pv a1]]),(5,.sl 910005),(8,.L iF a0),(9,.I (a0.length:Int)),(10,.I q.1)] [(910005,⟨List.map g6.Pv q.2,(List.map g6.Pv q.2).length,true,3,true⟩)]) (Wk.trans (E7 (t:=5) (l:=920005) (z:=3) J J) (WP (λl=>if l=910005 then 920005 else l))) λq15 x14 h hx10=>?_;obtain⟨s12,s13⟩:=q15;refine S4 1 J<|k9 ?_;refine cN h (λhc h=>?_) λhc h=>?_
  .refine c7 ?_;refine k9<|g9<|sR<|iL h J J l6 o6 λv16 _ h=>S2 2 J<|S5 3 J<|cA h tO J J λv17 _ h=>y0 J (H6 (f:=g6.Pv) (l:=[v17]) J I2 C8 aC J J nl J J)<|w7 h λv18 hv13 h=>J2 J (H0 (f:=g6.Pv) hv13 J J J J J J (.inl ⟨_,J,J⟩) I2 C8 mL aC J (λ_=>J)) J J J<|S2 1 J<|S6 2 J ?_;exact eL h (Wk.trans (m9 _ [19]) (WP (λl=>if l=910005 then 19 else l)))
  .refine o5 ?_;refine e6<|e6<|l7 ?_;have h:=xL hx10 h;exact eJ h (Wk.trans (m9 _ [910005]) W)
theorem dh{a0}:PO Tryz.prog 162 [.L (Ls g6.Pv) a0] (F9 a0) λr=>.L g6.Pv r:=by
 refine pO Tryz.func162 λr h _ _=>?_;refine S4 1 J<|S4 1 J ?_;refine jq h (λj11=>St.of [(0,.L (Ls g6.Pv) a0),(3,.I j11)] []) (λj11 h=>?_) λκ10 h=>?_
 .refine S3 1 J ?_;refine O8 (WE [(0,.L (Ls g6.Pv) a0),(23,.I j11)] []) ?_;refine uQ (fn:=Tryz.f267) (N1:=27) J J Tryz.func267 J QC J J nl (λe8 o9=>?_);refine S4 1 J ?_;refine jq h (λ_=>St.of [(1000000,.L (Ls g6.Pv) a0),(1000023,.I j11),(0,.nl),(1,.I j11)] []) (λq13 h=>?_) λκ12 h=>?_
  .refine k9 ?_;refine S3 2 J<|KG J J I2<|S1 1 J<|nL (f:=g6.Pv) (xs:=[]) J I2<|S2 3 J<|S4 2 J ?_;refine cN h (λhc h=>?_) λhc h=>?_
   .refine S5 2 J ?_;refine KG J J I2<|y0 J (xy (t':=true) (xs:=[]) (ys:=[]) J I2 C8 (λ_ q=>nomatch q) J ⟨_,J⟩ J (λq=>nomatch q) (zF _) (zX _) (zF _) J J)<|S1 1 J<|w7 h λv14 hv11 h=>Uu (f:=g6.Pv) J hv11 J nl J J I2 I5 C8 nl aC mL J J J<|S1 1 J<|nL (f:=g6.Pv) (xs:=[]) J I2<|PY [(1000000,.L (Ls g6.Pv) a0),(1000023,.I j11),(0,.nl),(1,.I (w9 (j11-(w9 (0-0))))),(8,.I j11),(9,.nl),(10,.I 0),(11,.nl),(12,.I 0),(13,.I (w9 (0-0))),(14,.I (w9 (j11-(w9 (0-0))))),(15,.I (w9 (j11-(w9 (0-0))))),(16,.bool (decide ((w9 (j11-(w9 (0-0)))) > 0))),(17,.nl),(18,.nl),(19,.I 0),(20,.nl),(21,.I (w9 (j11-(w9 (0-0))))),(23,.nl),(24,.I 0)] [] J ⟨J,J,J,J,J,J,J,J,J,J,J,J,J,J,J,J,J,J,J,J,J,J,J,J,J,J,J,J,J,J,J,J,J,J,J,J,J,J,J,J,J,J,J,J,J,J,J,J,J,J,J,J,J,J,J,J,J,J,J,J,tr⟩ tr J J nl J J J I2 C8<|S2 1 J<|S4 2 J<|c5 ?_;refine⟨J,[.sl 25],⟨J,tr⟩,?_⟩;refine O8 (sq (λl=>if l=2001 then 25 else l) [(0,.L (Ls g6.Pv) a0),(24,.sl 2001)] [(2001,⟨List.map g6.Pv [],0,true,3,true⟩)])<|S2 1 J ?_;refine jq h (λj23=>St.of [(6,.sl 2001)] [(2001,⟨List.map g6.Pv j23,(List.map g6.Pv j23).length,true,3,true⟩)]) (λj23 h=>?_) λκ22 h=>?_
    .refine S4 2 J ?_;refine c5 ?_;cases h;exact f1
    .refine S3 1 J ?_;refine nL J mN<|S2 1 J<|g9<|lq h (λq=>St.of [(6,.sl 2001),(25,.L (Ls g6.Pv) a0),(26,.I (a0.length:Int)),(27,.I q.1)] [(2001,⟨List.map g6.Pv q.2,(List.map g6.Pv q.2).length,true,3,true⟩)]) (Wk.trans (m9 _ [2001]) W) λq28 x27 h hx20=>?_;obtain⟨s25,s26⟩:=q28;refine S4 1 J<|k9 ?_;refine cN h (λhc h=>?_) λhc h=>?_
     .refine c7 ?_;refine k9<|g9<|sR<|iL h J J mN uU λv29 _ h=>S2 2 J<|S5 2 J<|w7 h λv30 hv22 h=>J2 J (H0 (f:=g6.Pv) hv22 J J J J J J (.inl ⟨_,J,J⟩) I2 C8 mL aC J (λ_=>J)) J J J<|S2 1 J<|S6 2 J ?_;exact eL h (Wk.trans (m9 _ [33]) (WP (λl=>if l=2001 then 33 else l)))
     .refine o5 ?_;refine e6<|e6<|l7 ?_;have h:=xL hx20 h;exact eJ h (Wk.trans (m9 _ [2001]) W)
   .refine c7 ?_;refine S4 2 J<|c5 ?_;refine⟨J,[.nl],⟨J,tr⟩,?_⟩;refine O8 (WE [(0,.L (Ls g6.Pv) a0),(24,.nl)] [])<|S2 1 J ?_;refine jq h (λj39=>St.of [(6,.sl 910006)] [(910006,⟨List.map g6.Pv j39,(List.map g6.Pv j39).length,true,3,true⟩)]) (λj39 h=>?_) λκ38 h=>?_
    .refine S4 2 J ?_;refine c5 ?_;cases h;exact f1
    .refine S3 1 J ?_;refine nL J mN<|S2 1 J<|g9<|lq h (λq=>St.of [(6,.sl 910006),(25,.L (Ls g6.Pv) a0),(26,.I (a0.length:Int)),(27,.I q.1)] [(910006,⟨List.map g6.Pv q.2,(List.map g6.Pv q.2).length,true,3,true⟩)]) (Wk.trans (E7 (t:=6) (l:=920006) (z:=3) J J) (WP (λl=>if l=910006 then 920006 else l))) λq44 x43 h hx31=>?_;obtain⟨s41,s42⟩:=q44;refine S4 1 J<|k9 ?_;refine cN h (λhc h=>?_) λhc h=>?_
     .refine c7 ?_;refine k9<|g9<|sR<|iL h J J mN uU λv45 _ h=>S2 2 J<|S5 2 J<|w7 h λv46 hv33 h=>J2 J (H0 (f:=g6.Pv) hv33 J J J J J J (.inl ⟨_,J,J⟩) I2 C8 mL aC J (λ_=>J)) J J J<|S2 1 J<|S6 2 J ?_;exact eL h (Wk.trans (m9 _ [33]) (WP (λl=>if l=910006 then 33 else l)))
     .refine o5 ?_;refine e6<|e6<|l7 ?_;have h:=xL hx31 h;exact eJ h (Wk.trans (m9 _ [910006]) W)
  .refine S4 2 J ?_;refine cN h (λhc h=>?_) λhc h=>?_;·cases h
   .refine c7 ?_;exact eJ h W
 .refine S3 1 J ?_;refine nL J mN<|S2 1 J<|g9<|lq h (λq=>St.of [(0,.L (Ls g6.Pv) a0),(3,.I q.1),(9,.L (Ls g6.Pv) a0),(10,.I (a0.length:Int)),(11,.I q.2)] []) W λq51 x50 h hx36=>?_;obtain⟨s48,s49⟩:=q51;refine S4 1 J<|k9 ?_;refine cN h (λhc h=>?_) λhc h=>?_
  .refine c7 ?_;refine jq h (λj54=>St.of [(0,.L (Ls g6.Pv) a0),(3,.I j54),(9,.L (Ls g6.Pv) a0),(10,.I (a0.length:Int)),(11,.I s49)] []) (λj54 h=>?_) λκ53 h=>?_
   .refine S6 2 J ?_;exact eL h W
   .refine g9 ?_;refine sR<|iL h J J mN uU λv55 _ h=>S2 2 J<|S3 2 J<|nL J I2<|S2 2 J<|S4 2 J ?_;refine cN h (λhc h=>?_) λhc h=>?_;·cases h
    .refine c7 ?_;exact eJ h W
  .refine o5 ?_;refine e6<|e6<|l7 ?_;have h:=xL hx36 h;exact eJ h W
theorem tP{a0 a1}:PO Tryz.prog 164 [k7.Pv a0,.rptr [.L iF a1]] (fu a0 a1) λr=>.bool r:=by
 refine pO Tryz.func164 λr h _ _=>?_;refine S4 2 J<|S3 3 J<|cA h M1 J J λv1 _ h=>S2 2 J<|c5 ?_;cases h;exact f1
theorem aK{a0 a1}:PO Tryz.prog 163 [.L k7.Pv a0,.fn (.func 164) [.rptr [.L iF a1]]] (D5 a0 a1) λr=>.L k7.Pv r:=by
 refine pO Tryz.func163 λr h _ _=>?_;refine S4 1 J<|S4 1 J ?_;refine jq h (λj15=>St.of [(5,.sl 910005)] [(910005,⟨List.map k7.Pv j15,(List.map k7.Pv j15).length,true,2,true⟩)]) (λj15 h=>?_) λκ14 h=>?_
 .refine S4 2 J ?_;refine c5 ?_;cases h;exact f1
 .refine S3 1 J ?_;refine nL J N3<|S2 1 J<|g9<|lq h (λq=>St.of [(1,.fn (.func 164) [.rptr [.L iF a1]]),(5,.sl 910005),(8,.L k7.Pv a0),(9,.I (a0.length:Int)),(10,.I q.1)] [(910005,⟨List.map k7.Pv q.2,(List.map k7.Pv q.2).length,true,2,true⟩)]) (Wk.trans (E7 (t:=5) (l:=920005) (z:=2) J J) (WP (λl=>if l=910005 then 920005 else l))) λq20 x19 h hx14=>?_;obtain⟨s17,s18⟩:=q20;refine S4 1 J<|k9 ?_;refine cN h (λhc h=>?_) λhc h=>?_
  .refine c7 ?_;refine jq h (λj25=>St.of [(1,.fn (.func 164) [.rptr [.L iF a1]]),(5,.sl 20),(8,.L k7.Pv a0),(9,.I (a0.length:Int)),(10,.I s17)] [(20,⟨List.map k7.Pv j25,(List.map k7.Pv j25).length,true,2,true⟩)]) (λj25 h=>?_) λκ24 h=>?_
   .refine S6 2 J ?_;exact eL h (Wk.trans (m9 _ [20]) (WP (λl=>if l=910005 then 20 else l)))
   .refine g9 ?_;refine sR<|iL h J J N3 U5 λv26 _ h=>S2 3 J<|S3 2 J<|cA h tP J J λv27 _ h=>yN ?_;refine cN h (λhc h=>?_) λhc h=>?_
    .refine S5 2 J ?_;refine y0 J (H6 (f:=k7.Pv) (l:=[v26]) J N3 U5 aD J J nl J J)<|w7 h λv28 hv21 h=>J2 J (H0 (f:=k7.Pv) hv21 J J J J J J (.inl ⟨_,J,J⟩) N3 U5 pT aD J (λ_=>J)) J J J<|S2 1 J ?_;exact eJ h (Wk.trans (m9 _ [20]) W)
    .refine c7 ?_;exact eJ h (Wk.trans (m9 _ [910005]) (WP (λl=>if l=20 then 910005 else l)))
  .refine o5 ?_;refine e6<|e6<|l7 ?_;have h:=xL hx14 h;exact eJ h (Wk.trans (m9 _ [910005]) W)
theorem tQ{a0}:PO Tryz.prog 166 [b8.Pv a0] (jT a0) λr=>b8.Pv r:=by
 refine pO Tryz.func166 λr h _ _=>?_;unfold jT at h;refine S4 2 J<|S3 3 J<|iX (x':=.agg [.I a0.Serial,.I a0.Slot,.I a0.Prog,.bool a0.Started,.bool false,.bool a0.Stuck,.nl]) (cl':=true) J J (.inl J) aA<|yN<|S3 1 J<|iX (x':=.agg [.I a0.Serial,.I a0.Slot,.I a0.Prog,.bool a0.Started,.bool false,.bool a0.Stuck,.nl]) (cl':=true) J J (.inl J) w8<|yN<|c5 ?_;cases h;exact⟨J,[_],⟨oL J J J gC w8 nl J,tr⟩,J,io⟩
theorem fv{a0 a1}:PO Tryz.prog 154 [a8.Pv a0,.I a1,.fn (.func 166) []] (D2 a0 a1) λr=>a8.Pv r:=by
 refine pO Tryz.func154 λr h _ _=>?_;refine S4 2 J<|S3 2 J<|cA h R7 J J λv1 _ h=>S2 1 J<|S3 2 J<|w7 h λv2 hv2 h=>KI J (ib J B1 J hv2) J J<|S2 2 J<|dr [] r9 (by kernel_rfl) (by kernel_rfl)<|S7 7 J<|w7 h λv3 hv3 h=>d0 J (aY (f:=b8.Pv) hv3 J J J J B7 w8 J) J<|d0 J (JT (f:=b8.Pv) (cs:=b8.Pc v3) hv3 J J J gC w8 nl J) J<|w7 h λv4 hv4 h=>cY J (u4 J tQ J hv4) J<|d0 J (aY (f:=b8.Pv) hv3 J J J J B7 w8 J) J<|Jo (f:=b8.Pv) (v:=v4) hv3 J J (.inr J) w8<|I6<|S4 2 J<|c5 ?_;cases h;exact⟨J,[_],⟨oL J J J A1 u7 nl J,tr⟩,J,io⟩
theorem vW{a0 a1}:PO Tryz.prog 315 [j5.Pv a0,.rptr [.I a1]] (gQ a0 a1) λr=>.bool r:=by
 refine pO Tryz.func315 λr h _ _=>?_;unfold gQ at h;refine S4 2 J<|S3 3 J<|m8 J (λhg=>oF J uT J)<|m8 J (λhg=>oS (ct hg) J J K1 J)<|m8 J (λhg=>W2 J K1 J)<|m8 J (λhg=>B2 (ct hg) (ct hg) J)<|y0 J (C7 J J J (λq=>jJ q))<|S2 1 J<|c5 ?_;cases h;exact f1
theorem ir{a0 a1}:PO Tryz.prog 264 [.L j5.Pv a0,.fn (.func 315) [.rptr [.I a1]]] (U4 a0 a1) λr=>.L iF r:=by
 refine pO Tryz.func264 λr h _ _=>?_;refine S4 1 J<|S4 1 J ?_;refine jq h (λj15=>St.of [(5,.sl 910005)] [(910005,⟨List.map iF j15,(List.map iF j15).length,true,1,true⟩)]) (λj15 h=>?_) λκ14 h=>?_
 .refine S4 2 J ?_;refine c5 ?_;cases h;exact f1
 .refine S3 1 J ?_;refine nL J Q4<|S2 1 J<|g9<|lq h (λq=>St.of [(1,.fn (.func 315) [.rptr [.I a1]]),(5,.sl 910005),(8,.L j5.Pv a0),(9,.I (a0.length:Int)),(10,.I q.1)] [(910005,⟨List.map iF q.2,(List.map iF q.2).length,true,1,true⟩)]) (Wk.trans (E7 (t:=5) (l:=920005) (z:=1) J J) (WP (λl=>if l=910005 then 920005 else l))) λq20 x19 h hx14=>?_;obtain⟨s17,s18⟩:=q20;refine S4 1 J<|k9 ?_;refine cN h (λhc h=>?_) λhc h=>?_
  .refine c7 ?_;refine jq h (λj25=>St.of [(1,.fn (.func 315) [.rptr [.I a1]]),(5,.sl 21),(8,.L j5.Pv a0),(9,.I (a0.length:Int)),(10,.I s17)] [(21,⟨List.map iF j25,(List.map iF j25).length,true,1,true⟩)]) (λj25 h=>?_) λκ24 h=>?_
   .refine S6 2 J ?_;exact eL h (Wk.trans (m9 _ [21]) (WP (λl=>if l=910005 then 21 else l)))
   .refine g9 ?_;refine S3 1 J<|iL h J J Q4 V4 λv26 _ h=>S2 4 J<|S3 2 J<|cA h vW J J λv27 _ h=>yN ?_;refine cN h (λhc h=>?_) λhc h=>?_
    .refine S5 2 J ?_;refine y0 J (H6 (f:=iF) (l:=[s17]) J l6 o6 B9 J J nl J J)<|w7 h λv28 hv21 h=>J2 J (H0 (f:=iF) hv21 J J J J J J (.inl ⟨_,J,J⟩) l6 o6 Q0 B9 J (λ_=>J)) J J J<|S2 1 J ?_;exact eJ h (Wk.trans (m9 _ [21]) W)
    .refine c7 ?_;exact eJ h (Wk.trans (m9 _ [910005]) (WP (λl=>if l=21 then 910005 else l)))
  .refine o5 ?_;refine e6<|e6<|l7 ?_;have h:=xL hx14 h;exact eJ h (Wk.trans (m9 _ [910005]) W)
theorem AL{a0 a1}:PO Tryz.prog 268 [.L j5.Pv a0,.I a1] (eN a0 a1) λr=>.I r:=by
 refine pO Tryz.func268 λr h _ _=>?_;unfold eN at h;refine S4 2 J<|S3 2 J<|w7 h λv1 hv1 h=>KH J (u4 J ir J hv1) J<|nL J l6<|S2 1 J<|c5 ?_;cases h;exact f1
theorem qF{a0 a1}:PO Tryz.prog 269 [b8.Pv a0,.rptr [.I a1]] (cH a0 a1) λr=>.bool r:=by
 refine pO Tryz.func269 λr h _ _=>?_;unfold cH at h;refine S4 2 J<|S4 5 J<|c5 ?_;cases h;exact f1
theorem ab{a0 a1}:PO Tryz.prog 60 [.L b8.Pv a0,.fn (.func 269) [.rptr [.I a1]]] (C6 a0 a1) λr=>.L b8.Pv r:=by
 refine pO Tryz.func60 λr h _ _=>?_;refine S4 1 J<|S4 1 J ?_;refine jq h (λj15=>St.of [(5,.sl 910005)] [(910005,⟨List.map b8.Pv j15,(List.map b8.Pv j15).length,true,7,true⟩)]) (λj15 h=>?_) λκ14 h=>?_
 .refine S4 2 J ?_;refine c5 ?_;cases h;exact f1
 .refine S3 1 J ?_;refine nL J B7<|S2 1 J<|g9<|lq h (λq=>St.of [(1,.fn (.func 269) [.rptr [.I a1]]),(5,.sl 910005),(8,.L b8.Pv a0),(9,.I (a0.length:Int)),(10,.I q.1)] [(910005,⟨List.map b8.Pv q.2,(List.map b8.Pv q.2).length,true,7,true⟩)]) (Wk.trans (E7 (t:=5) (l:=920005) (z:=7) J J) (WP (λl=>if l=910005 then 920005 else l))) λq20 x19 h hx14=>?_;obtain⟨s17,s18⟩:=q20;refine S4 1 J<|k9 ?_;refine cN h (λhc h=>?_) λhc h=>?_
  .refine c7 ?_;refine jq h (λj25=>St.of [(1,.fn (.func 269) [.rptr [.I a1]]),(5,.sl 20),(8,.L b8.Pv a0),(9,.I (a0.length:Int)),(10,.I s17)] [(20,⟨List.map b8.Pv j25,(List.map b8.Pv j25).length,true,7,true⟩)]) (λj25 h=>?_) λκ24 h=>?_
   .refine S6 2 J ?_;exact eL h (Wk.trans (m9 _ [20]) (WP (λl=>if l=910005 then 20 else l)))
   .refine g9 ?_;refine sR<|iL h J J B7 w8 λv26 _ h=>S2 3 J<|S3 2 J<|cA h qF J J λv27 _ h=>yN ?_;refine cN h (λhc h=>?_) λhc h=>?_
    .refine S5 2 J ?_;refine y0 J (H6 (f:=b8.Pv) (l:=[v26]) J B7 w8 aB J J nl J J)<|w7 h λv28 hv21 h=>J2 J (H0 (f:=b8.Pv) hv21 J J J J J J (.inl ⟨_,J,J⟩) B7 w8 mK aB J (λ_=>J)) J J J<|S2 1 J ?_;exact eJ h (Wk.trans (m9 _ [20]) W)
    .refine c7 ?_;exact eJ h (Wk.trans (m9 _ [910005]) (WP (λl=>if l=20 then 910005 else l)))
  .refine o5 ?_;refine e6<|e6<|l7 ?_;have h:=xL hx14 h;exact eJ h (Wk.trans (m9 _ [910005]) W)
theorem J6{a0}:Qc Tryz.prog 180 [.L iF a0] (y9 a0) λr=>⟨List.map iF r,0,true,1,true⟩:=by
 refine Ul Tryz.func180 λr h _ _=>?_;unfold y9 at h;refine S4 1 J<|k9<|S3 1 J<|uP J l6 λb hb=>yN ?_;refine H3 b J (λhc=>?_) (λhc=>?_)
 .obtain rfl:a0 = []:=by simpa using hb hc
  refine S4 1 J<|bW (E7 (t:=2) (l:=920000) (z:=1) J J)<|c5 ?_;cases h;exact⟨J,_,_,J,J,J,J⟩
 .refine c7 ?_;refine sR<|y0 J (dB J l6 o6)<|S1 1 J<|y1 J (yW (f:=iF) h J J (.inl ⟨_,J,J⟩) l6 o6 Q0 B9 J (λ_=>J)) J<|S2 1 J<|c5 ?_;exact⟨J,_,_,J,J,J,J⟩
theorem kW{a0 a1}:PO Tryz.prog 167 [a8.Pv a0,.I a1] (P2 a0 a1) λr=>a8.Pv r:=by
 refine pO Tryz.func167 λr h _ _=>?_;refine S4 3 J<|S3 2 J<|cA h R7 J J λv1 _ h=>S2 1 J<|k9<|S3 3 J<|m8 J (λhg=>oF J Mw J)<|m8 J (λhg=>oS (ct hg) J J Uy J)<|m8 J (λhg=>mI J)<|w7 h λv2 hv2 h=>m8 J (λhg=>J5 (f:=b8.Pv) (cs:=b8.Pc v2) (W3 hv2 hg) (ct hg) (ct hg) B7 w8 J J)<|m8 J (λhg=>aM (ct hg) KN J)<|m8 J (λhg=>W2 (ct hg) vZ J)<|y0 J (I7 J J J (λq=>kr q))<|S1 1 J<|m8 J (λhg=>oF J EG J)<|m8 J (λhg=>oS (ct hg) J J Cv J)<|m8 J (λhg=>oS J J J K1 J)<|w7 h λv3 hv3 h=>m8 J (λhg=>P4 J AL (T5 (ct hg) (T5 (ct hg) J)) (W3 hv3 hg))<|m8 J (λhg=>B2 (ct hg) J J)<|y0 J (I7 J J J (λq=>kr q))<|yN ?_;refine cN h (λhc h=>?_) λhc h=>?_
 .refine S4 2 J ?_;refine c5 ?_;cases h;exact⟨J,[_],⟨oL J J J A1 u7 nl J,tr⟩,J,io⟩
 .refine c7 ?_;refine S3 3 J<|iL h J J B7 w8 λv4 _ h=>S2 3 J<|S3 3 J<|w7 h λv5 hv5 h=>KH J (u4 J ab J hv5) J<|S2 2 J<|dr [] r9 (by kernel_rfl) (by kernel_rfl)<|S7 2 J<|w7 h λv6 hv6 h=>Zv J (ib J J6 J hv6) J J J<|S7 2 J<|w7 h λv7 hv7 h=>Zv J (ib J J6 J hv7) J J J<|S7 1 J<|C0 (x':=.agg [.L b8.Pv v5,.sl 41,.L iF a0.Gens,.I a0.Last,.I a0.Places,.I a0.Serial,.L iF a0.Roots,.L j5.Pv a0.b7,.L k7.Pv a0.Pairs,.L g6.Pv a0.Tasks,.L (Ls k8.Pv) a0.Progs]) (cl':=false) J J (.inl J) aA<|S7 1 J<|C0 (x':=.agg [.L b8.Pv v5,.sl 41,.sl 44,.I a0.Last,.I a0.Places,.I a0.Serial,.L iF a0.Roots,.L j5.Pv a0.b7,.L k7.Pv a0.Pairs,.L g6.Pv a0.Tasks,.L (Ls k8.Pv) a0.Progs]) (cl':=false) J J (.inl J) aA<|I6<|k9<|dr [] r9 (by kernel_rfl) (by kernel_rfl)<|S7 3 J<|w7 h λv8 hv8 h=>d0 J (aY (f:=iF) hv8 J J J J l6 o6 J) J<|d0 J (FQ (f:=iF) hv8 J J J K1 J) J<|S8 3 J ?_;refine cN h (λhc h=>?_) λhc h=>?_
  .refine S3 3 J ?_;obtain⟨v9,hv9,h⟩:=qM h;refine y0 J (aY (f:=iF) hv9 J J J J l6 o6 J)<|ou (f:=iF) (v:=(-1)) hv9 J J (.inl J) o6<|yN<|S4 2 J<|c5 ?_;cases h;exact⟨J,[_],⟨oL J J J A1 u7 nl J,tr⟩,J,io⟩
  .refine c7 ?_;refine S3 3 J<|w7 h λv10 hv10 h=>y0 J (aY (f:=iF) hv10 J J J J l6 o6 J)<|ou (f:=iF) (v:=0) hv10 J J (.inl J) o6<|yN<|S3 3 J<|y0 J (aY (f:=iF) hv8 J J J J l6 o6 J)<|y0 J (FQ (f:=iF) hv8 J J J K1 J)<|S1 1 J<|y0 J (aY (f:=iF) hv8 J J J J l6 o6 J)<|ou (f:=iF) (v:=w9 (v8+1)) hv8 J J (.inl J) o6<|yN<|S4 2 J<|c5 ?_;cases h;exact⟨J,[_],⟨oL J J J A1 u7 nl J,tr⟩,J,io⟩
theorem nZ{a0 a1}:PO Tryz.prog 87 [a8.Pv a0,.L iF a1] (fp a0 a1) λr=>a8.Pv r:=by
 refine pO Tryz.func87 λr h _ _=>?_;refine S4 3 J<|S3 3 J<|cF h rm J J λv1 _ h=>S2 6 J<|S4 3 J<|S3 2 J<|w7 h λv2 hv2 h=>KH J (u4 J Y6 J hv2) J<|S2 1 J<|S3 3 J<|y0 J (H6 (f:=(Ls g6.Pv)) (l:=[a0.Tasks,v2]) J mN uU UP J J nl J J)<|cF h dh J J λv3 _ h=>S2 2 J<|S3 3 J<|w7 h λv4 hv4 h=>KH J (u4 J aK J hv4) J<|S2 2 J ?_;refine jq h (λj14=>St.of [(2,.ptr 2 0 0),(4,.ptr 4 0 0)] [(4,vR (.agg [.nl,.nl,.nl,.I 0,.I 0,.I 0,.nl,.nl,.nl,.nl,.nl]) 11),(2,vR (a8.Pv j14) 11)]) (λj14 h=>?_) λκ13 h=>?_
 .refine S4 2 J ?_;refine c5 ?_;cases h;exact⟨J,[_],⟨oL J J J A1 u7 nl J,tr⟩,J,io⟩
 .refine S3 1 J ?_;refine nL J l6<|S2 1 J<|g9<|lq h (λq=>St.of [(2,.ptr 2 0 0),(4,.ptr 4 0 0),(33,.L iF a1),(34,.I (a1.length:Int)),(35,.I q.1)] [(4,vR (.agg [.nl,.nl,.nl,.I 0,.I 0,.I 0,.nl,.nl,.nl,.nl,.nl]) 11),(2,vR (a8.Pv q.2) 11)]) W λq19 x18 h hx14=>?_;obtain⟨s16,s17⟩:=q19;refine S4 1 J<|k9 ?_;refine cN h (λhc h=>?_) λhc h=>?_
  .refine c7 ?_;refine k9<|g9<|sR<|iL h J J l6 o6 λv20 _ h=>S2 2 J<|S3 2 J<|cF h fv J J λv21 _ h=>S2 1 J<|S5 2 J<|cF h kW J J λv22 _ h=>S2 1 J<|S6 2 J ?_;exact eL h W
  .refine o5 ?_;refine e6<|e6<|l7 ?_;have h:=xL hx14 h;exact eJ h W
theorem rO{a0 a1}:PO Tryz.prog 158 [b8.Pv a0,.rptr (a8.Pc a1)] (aX a0 a1) λr=>.bool r:=by
 refine pO Tryz.func158 λr h _ _=>?_;unfold aX at h;refine S4 2 J<|S3 3 J<|m8 J (λhg=>oF J KO J)<|m8 J (λhg=>oS (ct hg) J J vZ J)<|m8 J (λhg=>dA (ct hg) J)<|y0 J (C7 J J J (λq=>jJ q))<|S1 1 J<|m8 J (λhg=>FR J A1 u7 nl J)<|m8 J (λhg=>oF J Bt J)<|m8 J (λhg=>oS (ct hg) J J K1 J)<|w7 h λv1 hv1 h=>m8 J (λhg=>P4 J pn (T5 (ct hg) (T5 (ct hg) J)) (W3 hv1 hg))<|m8 J (λhg=>B2 (ct hg) J J)<|y0 J (C7 J J J (λq=>jJ q))<|S2 1 J<|c5 ?_;cases h;exact f1
theorem N9{a0 a1}:PO Tryz.prog 157 [.L b8.Pv a0,.fn (.func 158) [.rptr (a8.Pc a1)]] (y4 a0 a1) λr=>.I r:=by
 refine pO Tryz.func157 λr h _ _=>?_;refine S4 1 J ?_;refine jq h (λ_=>St.of [] []) (λq7 h=>?_) λκ6 h=>?_
 .refine S4 1 J ?_;refine c5 ?_;cases h;exact f1
 .refine S3 1 J ?_;refine nL J B7<|S2 1 J<|g9<|lq h (λs9=>St.of [(0,.L b8.Pv a0),(1,.fn (.func 158) [.rptr (a8.Pc a1)]),(7,.I (a0.length:Int)),(8,.I s9)] []) W λs9 x10 h hx9=>S4 1 J<|k9 ?_;refine cN h (λhc h=>?_) λhc h=>?_
  .refine c7 ?_;refine k9<|g9<|S4 2 J<|S3 3 J<|iL h J J B7 w8 λv11 _ h=>S1 1 J<|cA h rO J J λv12 _ h=>yN ?_;refine cN h (λhc h=>?_) λhc h=>?_
   .refine S4 2 J ?_;refine c5 ?_;have h:=xL hx9 h;cases h;exact f1
   .refine c7 ?_;refine S6 2 J ?_;exact eL h W
  .refine o5 ?_;refine e6<|e6<|l7 ?_;have h:=xL hx9 h;exact eJ h W
theorem N7{a0}:PO Tryz.prog 86 [a8.Pv a0] (I0 a0) λr=>a8.Pv r:=by
 refine pO Tryz.func86 λr h _ _=>?_;refine S4 2 J<|g9<|lq h (λs2=>St.of [(1,.ptr 1 0 0),(2,.ptr 2 0 0)] [(2,vR (.agg [.nl,.nl,.nl,.I 0,.I 0,.I 0,.nl,.nl,.nl,.nl,.nl]) 11),(1,vR (a8.Pv s2) 11)]) W λs2 x3 h hx3=>g9<|S3 3 J<|cA h N9 J J λv4 _ h=>S2 1 J<|k9<|S4 2 J ?_;refine cN h (λhc h=>?_) λhc h=>?_
 .refine S4 2 J ?_;refine c5 ?_;have h:=xL hx3 h;cases h;exact⟨J,[_],⟨oL J J J A1 u7 nl J,tr⟩,J,io⟩
 .refine c7 ?_;refine S3 3 J<|iL h J J B7 w8 λv5 _ h=>S2 3 J<|S3 1 J<|cA h lV J J λv6 _ h=>yN ?_;refine cN h (λhc h=>?_) λhc h=>?_
  .refine S5 3 J ?_;refine cF h lW J J λv7 _ h=>S2 1 J ?_;exact eL h W
  .refine S5 3 J ?_;refine y0 J (H6 (f:=iF) (l:=[v5.Serial]) J l6 o6 B9 J J nl J J)<|cF h nZ J J λv8 _ h=>S2 1 J ?_;exact eL h W
theorem fm{a0}:PO Tryz.prog 24 [a8.Pv a0] (az a0) λr=>.L iF r:=by
 refine pO Tryz.func24 λr h _ _=>?_;refine S4 2 J<|S3 2 J<|cF h M7 J J λv1 _ h=>cF h cI J J λv2 _ h=>S2 1 J<|c5 ?_;cases h;exact f1
theorem rJ{a0}:PO Tryz.prog 51 [a8.Pv a0] (dK a0) λr=>.tup [a8.Pv r.1,g8.Pv r.2]:=by
 refine pO Tryz.func51 λr h _ _=>?_;refine S4 3 J<|S3 1 J<|cF h vx J J λv1 _ h=>S2 2 J<|S3 3 J<|w7 h λv2 hv2 h=>KH J (u4 J Y7 J hv2) J<|S2 1 J<|S3 1 J<|cF h aW J J λv3 _ h=>cF h cI J J λv4 _ h=>S2 1 J ?_;refine jq h (λj13=>St.of [(1,.ptr 1 0 0),(2,.ptr 2 0 0),(3,.ptr 3 0 0),(5,.L b8.Pv v2),(6,.L iF v4)] [(3,vR (.agg [.I 0,.I 0]) 2),(2,vR (.agg [.nl,.nl,.nl,.I 0,.I 0,.I 0,.nl,.nl,.nl,.nl,.nl]) 11),(1,vR (a8.Pv j13) 11)]) (λj13 h=>?_) λκ12 h=>?_
 .refine k9 ?_;refine S3 1 J<|nL J l6<|S2 1 J ?_;refine cN h (λhc h=>?_) λhc h=>?_
  .refine S3 2 J ?_;refine nL J l6<|y0 J (.neg _ _ _ _ J)<|y0 J (p6 (cs:=[.I (w9 (0-(v4.length:Int))),.I 0]) J bp U9 J J J)<|S2 2 J<|c5 ?_;cases h;exact⟨J,[_,_],⟨oL J J J A1 u7 nl J,⟨oL J J J H4 A6 nl J,tr⟩⟩,J,io⟩
  .refine c7 ?_;refine dr [] r9 (by kernel_rfl) (by kernel_rfl)<|S7 2 J<|w7 h λv14 hv11 h=>cY J (u4 J cI J hv11) J<|w7 h λv15 hv12 h=>cY J (u4 J nZ J hv12) J<|w7 h λv16 hv13 h=>cY J (u4 J N7 J hv13) J<|S7 1 J<|C0 (x':=a8.Pv v16) (cl':=true) J J (.inr J) u7<|I6<|dr [3,6] r9 (by kernel_rfl) (by kernel_rfl)<|S7 2 J<|w7 h λv17 hv14 h=>cY J (u4 J fm J hv14) J<|d7 J (λ_ hN=>Y5 (f:=iF) J l6) J<|S7 1 J<|w7 h λv18 hv15 h=>cY J (u4 J fm J hv15) J<|d7 J (λ_ hN=>Y5 (f:=iF) J l6) J<|S7 1 J<|d7 J (λ_ hN=>p6 (cs:=[.I (w9 ((v17.length:Int)-(v18.length:Int))),.I 0]) J bp U9 J J J) J<|C0 (x':=a8.Pv v16) (cl':=true) J J (.inr J) u7<|C0 (x':=.agg [.I (w9 ((v17.length:Int)-(v18.length:Int))),.I 0]) (cl':=true) J J (.inl J) A6<|I6<|c5 ?_;cases h;exact⟨J,[_,_],⟨oL J J J A1 u7 nl J,⟨oL J J J H4 A6 nl J,tr⟩⟩,J,io⟩
 .refine S3 1 J ?_;refine nL J l6<|S2 1 J<|g9<|lq h (λq=>St.of [(1,.ptr 1 0 0),(2,.ptr 2 0 0),(3,.ptr 3 0 0),(5,.L b8.Pv v2),(6,.L iF v4),(19,.L iF v4),(20,.I (v4.length:Int)),(21,.I q.1)] [(3,vR (.agg [.I 0,.I 0]) 2),(2,vR (.agg [.nl,.nl,.nl,.I 0,.I 0,.I 0,.nl,.nl,.nl,.nl,.nl]) 11),(1,vR (a8.Pv q.2) 11)]) W λq23 x22 h hx18=>?_;obtain⟨s20,s21⟩:=q23;refine S4 1 J<|k9 ?_;refine cN h (λhc h=>?_) λhc h=>?_
  .refine c7 ?_;refine k9<|g9<|sR<|iL h J J l6 o6 λv24 _ h=>S2 2 J<|S5 2 J<|cF h lW J J λv25 _ h=>S2 1 J<|S6 2 J ?_;exact eL h W
  .refine o5 ?_;refine e6<|e6<|l7 ?_;have h:=xL hx18 h;exact eJ h W
theorem lx{a0 a1}:PO Tryz.prog 168 [.L (Ls k8.Pv) a0,.I a1] (dP a0 a1) λr=>.L k8.Pv r:=by
 refine pO Tryz.func168 λr h _ _=>?_;refine S4 1 J<|k9<|S3 3 J<|m8 J (λhg=>mI J)<|m8 J (λhg=>om (d:=.L (Ls k8.Pv) a0) J)<|m8 J (λhg=>Y5 (f:=(Ls k8.Pv)) (ct hg) mM)<|m8 J (λhg=>B2 (ct hg) (ct hg) J)<|y0 J (I7 J J J (λq=>kr q))<|yN ?_;refine cN h (λhc h=>?_) λhc h=>?_
 .refine S4 1 J ?_;refine c5 ?_;cases h;exact f1
 .refine c7 ?_;refine S3 2 J<|iL h J J mM xm λv1 _ h=>S2 2 J<|c5 ?_;cases h;exact f1
theorem qR{a0 a1}:PO Tryz.prog 88 [.L (Ls k8.Pv) a0,g6.Pv a1] (bP a0 a1) λr=>.I r:=by
 refine pO Tryz.func88 λr h _ _=>?_;refine S4 2 J<|S3 3 J<|cF h lx J J λv1 _ h=>nL J gD<|S2 2 J<|c5 ?_;cases h;exact f1
theorem iH{a0 a1 a2}:PO Tryz.prog 169 [a8.Pv a0,.I a1,.I a2] (W1 a0 a1 a2) λr=>a8.Pv r:=by
 refine pO Tryz.func169 λr h _ _=>?_;refine S4 2 J<|S3 2 J<|cF h gK J J λv1 _ h=>S2 1 J<|S3 2 J<|w7 h λv2 hv2 h=>KI J (ib J J6 J hv2) J J<|S2 2 J<|S3 4 J<|w7 h λv3 hv3 h=>y0 J (aY (f:=iF) hv3 J J J J l6 o6 J)<|ou (f:=iF) (v:=a2) hv3 J J (.inl J) o6<|yN<|S4 2 J<|c5 ?_;cases h;exact⟨J,[_],⟨oL J J J A1 u7 nl J,tr⟩,J,io⟩
theorem R4{a0}:PO Tryz.prog 328 [g7.Pv a0] (M3 a0) λr=>.I r:=by
 refine pO Tryz.func328 λr h _ _=>?_;unfold M3 at h;refine S4 2 J<|S3 2 J<|nL J I2<|S2 1 J<|c5 ?_;cases h;exact f1
theorem ah{a0 a1 a2}:PO Tryz.prog 329 [.L g6.Pv a0,.I a1,.I a2] (H7 a0 a1 a2) λr=>.lst true (List.map g6.Pv r):=by
 refine pO Tryz.func329 λr h _ _=>?_;unfold H7 at h;refine S4 1 J<|S3 4 J<|w7 h λv1 hv1 h=>y0 J (OA (f:=g6.Pv) hv1 J ⟨_,J⟩ ⟨_,J⟩ ⟨_,J⟩ J J I2 C8 (λ_=>J))<|S2 1 J<|c5 ?_;cases h;exact f1
theorem lC{a0 a1}:PO Tryz.prog 316 [g7.Pv a0,.I a1] (bw a0 a1) λr=>.tup [g7.Pv r.1,.L g6.Pv r.2]:=by
 refine pO Tryz.func316 λr h _ _=>?_;refine S4 3 J<|S3 2 J<|cA h R4 J J λv1 hv1 h=>y0 J (Uj J J J)<|y0 J (OB J J J)<|S2 1 J<|S3 3 J<|cF h ah J J λv2 _ h=>S2 1 J<|dr [] r9 (by kernel_rfl) (by kernel_rfl)<|S7 4 J<|d2 J (P4 J R4 J hv1) J<|w7 h λv3 hv3 h=>cY J (u4 J ah J hv3) J<|S7 1 J<|C0 (x':=.agg [.L g6.Pv v3,.I a0.Cap]) (cl':=true) J J (.inr J) uU<|I6<|S4 4 J<|c5 ?_;cases h;exact⟨J,[_,_],⟨oL J J J jE cW nl J,⟨J,tr⟩⟩,J,io⟩
theorem nv{a0}:PO Tryz.prog 270 [g7.Pv a0] (de a0) λr=>.tup [g7.Pv r.1,g6.Pv r.2.1,.I r.2.2]:=by
 refine pO Tryz.func270 λr h _ _=>?_;refine S4 4 J<|S3 1 J<|cF h lC J J λv1 _ h=>S2 6 J<|k9<|S3 1 J<|nL J I2<|S2 1 J ?_;refine cN h (λhc h=>?_) λhc h=>?_
 .refine S4 1 J ?_;refine dr [1,1007] r9 (by kernel_rfl) (by kernel_rfl)<|S7 1 J<|d7 J (λ_ hN=>nn (cs:=[.I 0,.I 0,.I 0]) hN J J J J cp C8 nl J) J<|C0 (x':=g7.Pv a0) (cl':=true) J J (.inr J) cW<|C0 (x':=.agg [.I 0,.I 0,.I 0]) (cl':=true) J J (.inl J) C8<|S8 1 J<|c5 ?_;cases h;exact⟨J,[_,_,_],⟨oL J J J jE cW nl J,⟨oL J J J cp C8 nl J,⟨J,tr⟩⟩⟩,J,io⟩
 .refine c7 ?_;refine dr [2,3] r9 (by kernel_rfl) (by kernel_rfl)<|S7 2 J<|w7 h λv2 hv2 h=>d7 J (λ_ hN=>J5 (f:=g6.Pv) (cs:=g6.Pc v2) hv2 J J I2 C8 J J) J<|d7 J (λ_ hN=>FR J cp C8 nl J) J<|C0 (x':=g7.Pv v1.1) (cl':=true) J J (.inr J) cW<|C0 (x':=g6.Pv v2) (cl':=true) J J (.inl J) C8<|S8 1 J<|c5 ?_;cases h;exact⟨J,[_,_,_],⟨oL J J J jE cW nl J,⟨oL J J J cp C8 nl J,⟨J,tr⟩⟩⟩,J,io⟩
theorem jm{a0}:PO Tryz.prog 170 [g7.Pv a0] (bj a0) λr=>.tup [g7.Pv r.1,g6.Pv r.2.1,.I r.2.2]:=by
 refine pO Tryz.func170 λr h _ _=>?_;refine S4 4 J<|S3 1 J<|cF h nv J J λv1 _ h=>S2 6 J<|c5 ?_;cases h;exact⟨J,[_,_,_],⟨oL J J J jE cW nl J,⟨oL J J J cp C8 nl J,⟨J,tr⟩⟩⟩,J,io⟩
theorem dy{a0 a1}:PO Tryz.prog 91 [a8.Pv a0,.I a1] (T8 a0 a1) λr=>.I r:=by
 refine pO Tryz.func91 λr h _ _=>?_;refine S4 2 J<|k9<|S4 2 J ?_;refine cN h (λhc h=>?_) λhc h=>?_
 .refine S4 1 J ?_;refine c5 ?_;cases h;exact f1
 .refine c7 ?_;refine S3 3 J<|iL h J J l6 o6 λv1 _ h=>S2 2 J<|c5 ?_;cases h;exact f1
theorem dL{a0 a1}:PO Tryz.prog 172 [a8.Pv a0,.I a1] (O6 a0 a1) λr=>.tup [b8.Pv r.1,.I r.2]:=by
 refine pO Tryz.func172 λr h _ _=>?_;refine S4 3 J<|k9<|S3 2 J<|cA h dy J J λv1 hv1 h=>S2 1 J ?_;refine cN h (λhc h=>?_) λhc h=>?_
 .refine sR ?_;refine y0 J (p6 (cs:=[.I 0,.I 0,.I 0,.bool false,.bool false,.bool false,.nl]) J IP aB J J J)<|iX (x':=.agg [.I 0,.I 0,.I 0,.bool false,.bool false,.bool false,.nl]) (cl':=true) J J (.inl J) w8<|S2 1 J<|c5 ?_;cases h;exact⟨J,[_,_],⟨oL J J J gC w8 nl J,⟨J,tr⟩⟩,J,io⟩
 .refine c7 ?_;refine dr [] r9 (by kernel_rfl) (by kernel_rfl)<|S7 5 J<|d2 J (P4 J dy J hv1) J<|w7 h λv2 hv2 h=>d2 J (P4 J R7 J hv2) J<|w7 h λv3 hv3 h=>d0 J (J5 (f:=b8.Pv) (cs:=b8.Pc v3) hv3 J J B7 w8 J J) J<|S7 1 J<|C0 (x':=b8.Pv v3) (cl':=true) J J (.inr J) w8<|S8 1 J<|c5 ?_;cases h;exact⟨J,[_,_],⟨oL J J J gC w8 nl J,⟨J,tr⟩⟩,J,io⟩
theorem AI{a0 a1}:PO Tryz.prog 271 [.L iF a0,.I a1] (gP a0 a1) λr=>.bool r:=by
 refine pO Tryz.func271 λr h _ _=>?_;unfold gP at h;refine S4 1 J<|S3 3 J<|m8 J (λhg=>mI J)<|m8 J (λhg=>om (d:=.L iF a0) J)<|m8 J (λhg=>Y5 (f:=iF) (ct hg) l6)<|m8 J (λhg=>B2 (ct hg) (ct hg) J)<|y0 J (C7 J J J (λq=>jJ q))<|S2 1 J<|c5 ?_;cases h;exact f1
theorem wz{a0 a1 a2}:PO Tryz.prog 173 [.L iF a0,.I a1,.I a2] (mC a0 a1 a2) λr=>.tup [.L iF r.1,.I r.2]:=by
 refine pO Tryz.func173 λr h _ _=>?_;refine S4 2 J<|k9<|S3 2 J<|cA h AI J J λv1 _ h=>S2 1 J ?_;refine cN h (λhc h=>?_) λhc h=>?_
 .refine S4 3 J ?_;refine c5 ?_;cases h;exact f2
 .refine c7 ?_;refine S3 1 J<|nL J l6<|w7 h λv2 hv2 h=>y1 J (Bg (f:=iF) hv2 J J J l6 o6 B9 Q0 J J J) J<|S2 1 J<|S3 2 J<|w7 h λv3 hv3 h=>YV (f:=iF) hv3 J J J (.inl ⟨_,J,J⟩) l6 o6 (λ_=>J) (by decide)<|yN<|S3 3 J<|w7 h λv4 hv4 h=>y0 J (aY (f:=iF) hv4 J J J J l6 o6 J)<|ou (f:=iF) (v:=a2) hv4 J J (.inl J) o6<|yN<|S4 3 J<|c5 ?_;cases h;exact f2
theorem tS{a0 a1}:PO Tryz.prog 174 [b8.Pv a0,.rptr [.L iF a1]] (fA a0 a1) λr=>b8.Pv r:=by
 refine pO Tryz.func174 λr h _ _=>?_;unfold fA at h;refine S4 2 J<|S4 3 J<|S4 2 J<|c5 ?_;cases h;exact⟨J,[_],⟨oL J J J gC w8 nl J,tr⟩,J,io⟩
theorem fw{a0 a1 a2}:PO Tryz.prog 154 [a8.Pv a0,.I a1,.fn (.func 174) [.rptr [.L iF a2]]] (P1 a0 a1 a2) λr=>a8.Pv r:=by
 refine pO Tryz.func154 λr h _ _=>?_;refine S4 2 J<|S3 2 J<|cA h R7 J J λv1 _ h=>S2 1 J<|S3 2 J<|w7 h λv2 hv2 h=>KI J (ib J B1 J hv2) J J<|S2 2 J<|dr [] r9 (by kernel_rfl) (by kernel_rfl)<|S7 7 J<|w7 h λv3 hv3 h=>d0 J (aY (f:=b8.Pv) hv3 J J J J B7 w8 J) J<|d0 J (JT (f:=b8.Pv) (cs:=b8.Pc v3) hv3 J J J gC w8 nl J) J<|w7 h λv4 hv4 h=>cY J (u4 J tS J hv4) J<|d0 J (aY (f:=b8.Pv) hv3 J J J J B7 w8 J) J<|Jo (f:=b8.Pv) (v:=v4) hv3 J J (.inr J) w8<|I6<|S4 2 J<|c5 ?_;cases h;exact⟨J,[_],⟨oL J J J A1 u7 nl J,tr⟩,J,io⟩
theorem xa{a0 a1 a2}:PO Tryz.prog 92 [a8.Pv a0,.I a1,k8.Pv a2] (jf a0 a1 a2) λr=>.tup [a8.Pv r.1,.I r.2]:=by
 refine pO Tryz.func92 λr h _ _=>?_;refine S4 4 J<|S3 3 J<|cF h dL J J λv1 _ h=>S2 6 J<|k9<|S4 2 J ?_;refine cN h (λhc h=>?_) λhc h=>?_
 .refine S4 4 J ?_;refine c5 ?_;cases h;exact⟨J,[_,_],⟨oL J J J A1 u7 nl J,⟨J,tr⟩⟩,J,io⟩
 .refine c7 ?_;refine S3 5 J<|cF h wz J J λv2 _ h=>S2 6 J<|k9<|S4 2 J ?_;refine cN h (λhc h=>?_) λhc h=>?_
  .refine S4 4 J ?_;refine c5 ?_;cases h;exact⟨J,[_,_],⟨oL J J J A1 u7 nl J,⟨J,tr⟩⟩,J,io⟩
  .refine c7 ?_;refine S3 2 J<|cF h gK J J λv3 _ h=>S2 1 J<|S3 4 J<|w7 h λv4 hv4 h=>KH J (u4 J fw J hv4) J<|S2 2 J<|c5 ?_;cases h;exact⟨J,[_,_],⟨oL J J J A1 u7 nl J,⟨J,tr⟩⟩,J,io⟩
theorem gq{a0 a1 a2}:PO Tryz.prog 90 [a8.Pv a0,.I a1,k8.Pv a2,.fn (.func 92) []] (K6 a0 a1 a2) λr=>.tup [a8.Pv r.1,g8.Pv r.2]:=by
 refine pO Tryz.func90 λr h _ _=>?_;refine S4 4 J<|S3 4 J<|cF h xa J J λv1 _ h=>S2 6 J<|k9<|S4 2 J ?_;refine cN h (λhc h=>?_) λhc h=>?_
 .refine S3 2 J ?_;refine y0 J (p6 (cs:=[.I 0,.I v1.2]) J bp U9 J J J)<|S2 2 J<|c5 ?_;cases h;exact⟨J,[_,_],⟨oL J J J A1 u7 nl J,⟨oL J J J H4 A6 nl J,tr⟩⟩,J,io⟩
 .refine c7 ?_;refine S3 1 J<|cF h N7 J J λv2 _ h=>S1 1 J<|y0 J (p6 (cs:=[.I a1,.I 0]) J bp U9 J J J)<|S2 2 J<|c5 ?_;cases h;exact⟨J,[_,_],⟨oL J J J A1 u7 nl J,⟨oL J J J H4 A6 nl J,tr⟩⟩,J,io⟩
end Go.Proofs.YtmgbbnfgfmfgaaaGreat.Ok
